import PyProof.Rows.All
import Wide.All
import OpenK.AllK
import Wide.FinOn
import Lean
import PyProof.EqAt
import PyProof.EqKinds
import PyProof.TupleCall
import KE.KItemsList
import KE.KRevIter
import PyProof.CollectIter
import PyProof.DictWalks
import PyProof.WalksMore
import PyProof.SumWalkG
import KE.KSortTup
import PyProof.Draws
import PySem.Challenge.RW_tranchefall_k57_ring_of_lenders
set_option Elab.async false
set_option linter.all false
set_option maxRecDepth 100000
section
open PySem PySem.Spec PyProof.Rows
abbrev L0:=@List.length_map
abbrev L1:=@wpAny_bind
abbrev L3:=@Option.bind_some
abbrev L4:=@List.map_cons
abbrev L5:=@List.mem_cons_of_mem
abbrev L6:=@List.mem_cons_self
abbrev L7:=@Heap.get?_push_of_some
abbrev L8:=@List.getElem?_eq_some_iff
abbrev L9:=@Bool.and_eq_true
abbrev M0:=@List.length_cons
abbrev M3:=@Bool.false_ne_true
abbrev M4:=@List.mem_cons
abbrev M5:=@List.mem_map
abbrev M6:=@wpAny_pure
abbrev M7:=@List.mem_singleton
abbrev M8:=@Nat.le_refl
abbrev M9:=@List.append_nil
abbrev N1:=@Heap.lt_size
abbrev N2:=@List.mem_append
abbrev N3:=@List.size_toArray
abbrev N4:=@List.length_append
abbrev N5:=@List.map_append
abbrev N6:=@Nat.ne_of_lt
abbrev N7:=@Nat.le_trans
abbrev N8:=@Int.toNat_natCast
abbrev N9:=@Int.emod_lt_of_pos
abbrev U0:=@Int.emod_nonneg
abbrev U1:=@List.map_map
abbrev U2:=@beq_eq_false_iff_ne
abbrev U3:=@List.mem_append_right
abbrev U4:=@Nat.lt_of_lt_of_le
abbrev U5:=@Nat.zero_le
abbrev U6:=@List.zip_cons_cons
abbrev U7:=@List.count_append
abbrev U8:=@List.nodup_append
abbrev U9:=@List.foldl_cons
abbrev X0:=@decide_eq_true
abbrev X1:=@decide_eq_false
abbrev X2:=@of_decide_eq_true
abbrev X3:=@Option.some.inj
abbrev X4:=@List.nil_append
abbrev X5:=@List.getElem?_eq_getElem
abbrev X6:=@List.length_take
abbrev X7:=@Heap.get?_push_size
abbrev X8:=@Nat.lt_of_le_of_lt
end
namespace L2
open PySem PySem.Spec PyProof.Rows
noncomputable abbrev Key:=Sum Int Str
noncomputable def Vz:Key->Value->Bool
 | .inl k,v=>Value.isInt k v
 | .inr x,v=>Value.isStrOf x v
noncomputable def je6(w:World):Key->Int
 | .inl k=>hashInt k
 | .inr x=>hashStr w x
theorem jA:∀{k:Key}{v:Value},Vz k v=true->(∃ i t,k=Sum.inl i/\v=Value.int i t) \/ (∃ x t,k=Sum.inr x/\v=Value.str x t)
 | .inl i,v,h=>by
  obtain⟨t,e⟩:=Value.isInt_shape (k:=i) (v:=v) h;exact .inl ⟨i,t,rfl,e⟩
 | .inr x,v,h=>by
  obtain⟨t,e⟩:=Value.isStrOf_shape (x:=x) (v:=v) h;exact .inr ⟨x,t,rfl,e⟩
theorem xw(i:Int)(t:Tok):Vz (.inl i) (.int i t)=true:=by simp[Vz,Value.isInt]
theorem Yw(x:Str)(t:Tok):Vz (.inr x) (.str x t)=true:=by simp[Vz,Value.isStrOf]
theorem jcu(a b:Int):decide ((Sum.inl a:Key)=Sum.inl b)=(a==b):=by
 by_cases e:a=b
 ·subst e;simp
 ·have h:¬ (Sum.inl a:Key)=Sum.inl b:=λq=>e (Sum.inl.inj q);rw[X1 h];exact(U2.mpr e).symm
theorem jbX(a b:Str):decide ((Sum.inr a:Key)=Sum.inr b)=decide (a=b):=by
 by_cases e:a=b
 ·subst e;simp
 ·have h:¬ (Sum.inr a:Key)=Sum.inr b:=λq=>e (Sum.inr.inj q);rw[X1 h,X1 e]
theorem jcH(a:Int)(b:Str):decide ((Sum.inl a:Key)=Sum.inr b)=false:=X1 (λq=>nomatch q)
theorem jbW(a:Str)(b:Int):decide ((Sum.inr a:Key)=Sum.inl b)=false:=X1 (λq=>nomatch q)
noncomputable def jw(prog:Program)(w:World):PySem.KeyKind prog w Key where
 is:=Vz
 hash:=je6 w
 inj:=λv a b ha hb=>by
  rcases jA ha with⟨i,t,rfl,rfl⟩ | ⟨x,t,rfl,rfl⟩
  ·rcases jA hb with⟨j,u,rfl,e⟩ | ⟨y,u,rfl,e⟩
   ·injection e with e1 _;rw[e1]
   ·exact nomatch e
  ·rcases jA hb with⟨j,u,rfl,e⟩ | ⟨y,u,rfl,e⟩
   ·exact nomatch e
   ·injection e with e1 _;rw[e1]
 byValue:=λk v h=>by
  rcases jA h with⟨i,t,rfl,rfl⟩ | ⟨x,t,rfl,rfl⟩<;>rfl
 pyHash:=λhv h=>by
  rcases jA hv with⟨i,t,rfl,rfl⟩ | ⟨x,t,rfl,rfl⟩
  ·exact wpAny_pyHash_int h
  ·exact wpAny_pyHash_str h
 eqBool:=λhu hv h=>by
  rcases jA hu with⟨i,t,rfl,rfl⟩ | ⟨x,t,rfl,rfl⟩
  ·rcases jA hv with⟨j,u,rfl,rfl⟩ | ⟨y,u,rfl,rfl⟩
   ·rw[jcu] at h;exact wpAny_eqBool_int h
   ·rw[jcH] at h;exact SeqAt.EqAt.int_str i t y u _ _ _ _ h
  ·rcases jA hv with⟨j,u,rfl,rfl⟩ | ⟨y,u,rfl,rfl⟩
   ·rw[jbW] at h;exact SeqAt.EqAt.str_int x t j u _ _ _ _ h
   ·rw[jbX] at h;exact wpAny_eqBool_str h
 «strs»:=λk x t v h=>by
  rcases jA h with⟨i,u,rfl,e⟩ | ⟨y,u,rfl,e⟩
  ·exact nomatch e
  ·injection e with e1 _;subst e1;cases v<;>rfl
theorem JC(prog:Program)(w:World)(k:Key)(v:Value):(jw prog w).is k v=Vz k v:=rfl
theorem Vv(prog:Program)(w:World)(i:Int)(t:Tok):(jw prog w).is (.inl i) (.int i t)=true:=xw i t
theorem Vp(prog:Program)(w:World)(x:Str)(t:Tok):(jw prog w).is (.inr x) (.str x t)=true:=Yw x t
inductive V where
 | non | bl (b:Bool) | int (i:Int) | str (x:Str) | byt (b:Array UInt8) | flt (b:UInt64) | ref (a:Addr) | ty (n:String)
 deriving DecidableEq
def RelV:V->Value->Prop
 | .non,u=>u=Value.none
 | .bl b,u=>u=Value.bool b
 | .int i,u=>∃ t,u=Value.int i t
 | .str x,u=>∃ t,u=Value.str x t
 | .byt b,u=>∃ t,u=Value.bytes b t
 | .flt b,u=>∃ t,u=Value.float b t
 | .ref a,u=>u=Value.ref a
 | .ty n,u=>u=Value.type n
abbrev Vals:List V->List Value->Prop:=Paired RelV
theorem Vals.length{xs:List V}{us:List Value}(r:Vals xs us):xs.length=us.length:=Paired.length r
theorem Vals.get:∀{xs:List V}{us:List Value}{i:Nat}{x:V},Vals xs us->xs[i]?=some x->∃ u,us[i]?=some u/\RelV x u
 | _,_,_,_,.nil,e=>by simp at e
 | _,_,0,_,.cons r _,e=>by simp at e;subst e;exact⟨_,rfl,r⟩
 | _,_,i+1,x,.cons _ t,e=>by
  obtain⟨u,a,b⟩:=Vals.get (i:=i) (x:=x) t (by simpa using e);exact⟨u,by simpa using a,b⟩
theorem Vals.append:∀{xs ys:List V}{us ws:List Value},Vals xs us->Vals ys ws->Vals (xs++ys) (us++ws)
 | _,_,_,_,.nil,s=>s
 | _,_,_,_,.cons r t,s=>.cons r (Vals.append t s)
theorem Vals.take:∀{xs:List V}{us:List Value}(n:Nat),Vals xs us->Vals (xs.take n) (us.take n)
 | _,_,0,_=>.nil
 | _,_,_+1,.nil=>.nil
 | _,_,n+1,.cons r t=>.cons r (Vals.take n t)
theorem Vals.drop:∀{xs:List V}{us:List Value}(n:Nat),Vals xs us->Vals (xs.drop n) (us.drop n)
 | _,_,0,r=>r
 | _,_,_+1,.nil=>.nil
 | _,_,n+1,.cons _ t=>Vals.drop n t
def RelO:Option V->Option Value->Prop
 | some v,some u=>RelV v u
 | none,none=>True
 | _,_=>False
def KV{κ:Type}:List (κ×V)->List (κ×Value)->Prop:=Paired λ(p:κ×V) (q:κ×Value)=>p.1=q.1/\RelV p.2 q.2
noncomputable def kV:Key->V
 | .inl i=>.int i
 | .inr x=>.str x
inductive HO where
  | lst (xs:List V)
  | tup (xs:List V)
  | dK (kvs:List (Key×V)) | dT (kvs:List (List Key×V))
  | set (S:Int->Bool) (n:Nat)
  | ins (C dx:Addr) (fs:List (Str×V))
  | own (x:Addr)
  | xd (fs:List (Str×V))
  | met (f x:Addr)
  | rng (lo hi:Int)
  | frz (o:Obj) (u:HO)
  | tbl (ps:Array Value)
  | ext (φ:Heap->Prop)
noncomputable abbrev Hp:=Addr->Option HO
noncomputable def upd(H:Hp)(a:Addr)(o:HO):Hp:=λb=>if b=a then some o else H b
theorem jo{H:Hp}{a:Addr}{o:HO}:upd H a o a=some o:=by unfold upd;rw[if_pos rfl]
theorem jd{H:Hp}{a b:Addr}{o:HO}(h:b≠a):upd H a o b=H b:=by unfold upd;rw[if_neg h]
theorem jen{H:Hp}{a b:Addr}{o u:HO}(h:H a=some o)(h':H b=some u)(d:o≠u):a≠b:=by
 intro e;subst e;rw[h] at h';exact d (X3 h')
theorem yQ{H:Hp}{a b:Addr}{o:HO}(h:H a=some o)(h':H b=none):a≠b:=by
 intro e;subst e;rw[h] at h';cases h'
def IsTupN(h:Heap)(a:Addr)(its:Array Value):Prop:=IsTup h a its/\∃ o,h.get? a=some o/\o.dict=none
theorem IsTupN.new(h:Heap)(its:Array Value):IsTupN (h.push { cls:=.type "tuple",data:=.seq its }) h.objs.size its:=⟨IsTup.new h its,_,X7 _ rfl,rfl⟩
theorem IsTupN.lt{h:Heap}{a:Addr}{its:Array Value}(x:IsTupN h a its):a < h.objs.size:=x.1.lt
section
variable (P:Program)(w:World)
def ObjOk(H:Hp)(h:Heap)(a:Addr):HO->Prop
 | .lst xs=>xs.length<=sizeLine/\∃(its:List Value) (n:Nat),Vals xs its/\h.get? a=some { cls:=.type "list",data:=.seq its.toArray n }
 | .tup xs=>xs.length<=sizeLine/\∃ its:List Value,Vals xs its/\IsTupN h a its.toArray
 | .dK kvs=>kvs.length<=sizeLine/\(a==sysModules)=false/\∃ vs,KV kvs vs/\h.DictOf (jw P w) a vs
 | .dT kvs=>kvs.length<=sizeLine/\(a==sysModules)=false/\∃ xs:List (List Key×Addr×Value),
   Paired (λ(p:List Key×V) (q:List Key×Addr×Value)=>p.1=q.1/\H q.2.1=some (.tup (p.1.map kV))/\RelV p.2 q.2.2) kvs xs /\
   ∃ o es ep,h.get? a=some o/\o.ExactDict/\o.data=.dict es ep/\es.toList=xs.map (entryOfKey (tupleKind (jw P w)))/\(xs.map (·.1)).Nodup
 | .set S n=>h.SetOf (intKind P w) a S n
 | .ins C dx fs=>H dx=some (.own a)/\fs.length<=1000/\dx≠a/\h.get? a=some (PySem.W.instObj C dx) /\
   ∃ mA,h.Ns1 dx mA/\(∀ f,RelO (fs.lookup f) (mA f))/\PySem.Within mA (fs.map (·.1))
 | .own _=>∃ o,h.get? a=some o
 | .xd fs=>∃ mA,h.Ns1 a mA/\∀ f,RelO (fs.lookup f) (mA f)
 | .rng lo hi=>∃ t u v,h.get? a=some { cls:=.type "range",data:=.fields #[.int lo t,.int hi u,.int 1 v] }
 | .frz o u=>h.get? a=some o/\ObjOk H h a u
 | .tbl ps=>h.get? a=some { cls:=.none,data:=.fields ps }
 | .met f x=>h.get? a=some (PySem.W.methodObj (.ref f) (.ref x))
 | .ext φ=>φ h/\(∃ o,h.get? a=some o)/\∀ h1 h2:Heap,φ h1->(∀ o,h1.get? a=some o->h2.get? a=some o)->φ h2
def HOk(H:Hp)(h:Heap):Prop:=∀ a o,H a=some o->ObjOk P w H h a o
end
section
variable {P:Program}{w:World}{H H':Hp}{h h':Heap}{a:Addr}{o:HO}
theorem ObjOk.lt(x:ObjOk P w H h a o):a < h.objs.size:=by
 cases o with
 | lst c=>obtain⟨_,_,_,_,e⟩:=x;exact N1 e
 | tup c=>obtain⟨_,_,_,p⟩:=x;exact p.lt
 | dK b=>obtain⟨_,_,_,_,o,_,_,e,_⟩:=x;exact N1 e
 | dT b=>obtain⟨_,_,_,_,o,_,_,e,_⟩:=x;exact N1 e
 | set S n=>obtain⟨o,_,_,_,e,_⟩:=x;exact N1 e
 | ins C d fs=>obtain⟨_,_,_,e,_⟩:=x;exact N1 e
 | own y=>obtain⟨_,e⟩:=x;exact N1 e
 | xd fs=>obtain⟨_,⟨_,_,_,e,_⟩,_⟩:=x;exact N1 e
 | rng g i=>obtain⟨_,_,_,e⟩:=x;exact N1 e
 | frz j u=>obtain⟨e,_⟩:=x;exact N1 e
 | tbl k=>exact N1 (show h.get? a=some _ from x)
 | met f y=>exact N1 (show h.get? a=some _ from x)
 | ext φ=>obtain⟨_,⟨_,e⟩,_⟩:=x;exact N1 e
theorem Paired.mapP{α β:Type}{F G:α->β->Prop}:∀{l₁:List α}{l₂:List β},Paired F l₁ l₂->(∀ a b,F a b->G a b)->Paired G l₁ l₂
 | _,_,.nil,_=>.nil
 | _,_,.cons r t,f=>.cons (f _ _ r) (Paired.mapP t f)
theorem ObjOk.stay(x:ObjOk P w H h a o)(k:∀ b u,(b=a \/ H b=some (.own a))->h.get? b=some u->h'.get? b=some u)
  (F:∀ b,H b=some (.own a)->H' b=some (.own a)) (G:∀ b xs,H b=some (.tup xs)->H' b=some (.tup xs)):ObjOk P w H' h' a o:=by
 induction o with
 | lst xs=>obtain⟨z,l,n,r,e⟩:=x;exact⟨z,l,n,r,k _ _ (.inl rfl) e⟩
 | tup xs=>obtain⟨z,l,r,⟨g,e,c⟩,m,s,I⟩:=x;exact⟨z,l,r,⟨g,k _ _ (.inl rfl) e,c⟩,m,k _ _ (.inl rfl) s,I⟩
 | dK A=>obtain⟨z,y,J,r,g,i,j,e,c⟩:=x;exact⟨z,y,J,r,g,i,j,k _ _ (.inl rfl) e,c⟩
 | dT A =>
  obtain⟨z,y,xs,r,g,i,j,e,c⟩:=x;exact⟨z,y,xs,Paired.mapP r λp q z=>⟨z.1,G _ _ z.2.1,z.2.2⟩,g,i,j,k _ _ (.inl rfl) e,c⟩
 | set S n=>obtain⟨g,i,j,t,e,c⟩:=x;exact⟨g,i,j,t,k _ _ (.inl rfl) e,c⟩
 | ins C L fs =>
  obtain⟨d,z,ne,e,B,⟨od,i,j,s,c⟩,r⟩:=x;exact⟨F _ d,z,ne,k _ _ (.inl rfl) e,B,⟨od,i,j,k _ _ (.inr d) s,c⟩,r⟩
 | own y=>obtain⟨g,e⟩:=x;exact⟨g,k _ _ (.inl rfl) e⟩
 | xd fs=>obtain⟨B,⟨od,i,j,e,c⟩,r⟩:=x;exact⟨B,⟨od,i,j,k _ _ (.inl rfl) e,c⟩,r⟩
 | rng M N=>obtain⟨t,u,v,e⟩:=x;exact⟨t,u,v,k _ _ (.inl rfl) e⟩
 | frz g u K=>obtain⟨e,q⟩:=x;exact⟨k _ _ (.inl rfl) e,K q⟩
 | tbl D =>
  have e:h.get? a=some { cls:=.none,data:=.fields D }:=x;show h'.get? a=some { cls:=.none,data:=.fields D };exact k a _ (.inl rfl) e
 | met f y =>
  have e:h.get? a=some (PySem.W.methodObj (.ref f) (.ref y)):=x;show h'.get? a=some (PySem.W.methodObj (.ref f) (.ref y));exact k a _ (.inl rfl) e
 | ext φ=>obtain⟨p,⟨o,e⟩,E⟩:=x;exact⟨E _ _ p λo q=>k _ _ (.inl rfl) q,⟨o,k _ _ (.inl rfl) e⟩,E⟩
theorem HOk.lt(x:HOk P w H h)(e:H a=some o):a < h.objs.size:=(x a o e).lt
theorem HOk.fresh(x:HOk P w H h)(e:h.objs.size<=a):H a=none:=by
 cases q:H a with
 | none=>rfl
 | some u=>exact absurd (U4 (x.lt q) e) (Nat.lt_irrefl _)
theorem HOk.kept(x:HOk P w H h)(k:∀ b u,h.get? b=some u->h'.get? b=some u):HOk P w H h':=λa o e =>
 (x a o e).stay (λb u _ q=>k b u q) (λ_ q=>q) λ_ _ q=>q
theorem HOk.laid(x:HOk P w H h)(k:∀ b u,h.get? b=some u->h'.get? b=some u)(g:h.objs.size<=a)(new:ObjOk P w (upd H a o) h' a o):HOk P w (upd H a o) h':=λb u e=>by
 have d:=x.fresh g;by_cases f:b=a
 ·subst f;rw[jo] at e;cases e;exact new
 ·rw[jd f] at e;exact(x b u e).stay (λc v _ q=>k c v q) (λc q=>by rw[jd (yQ q d)];exact q) λc i q=>by rw[jd (yQ q d)];exact q
end
def Rd(H:Hp)(a:Addr)(u:HO):Prop:=H a=some u \/ ∃ o,H a=some (.frz o u)
theorem Rd.ok{P:Program}{w:World}{H:Hp}{h:Heap}{a:Addr}{u:HO}(r:Rd H a u)(x:HOk P w H h):ObjOk P w H h a u:=by
 rcases r with r | ⟨o,r⟩
 ·exact x a u r
 ·obtain⟨_,q⟩:=x a _ r;exact q
def Mut:Option HO->Prop
 | some (.lst _)=>True
 | some (.dK _)=>True
 | some (.dT _)=>True
 | some (.set _ _)=>True
 | some (.ins _ _ _)=>True
 | some (.ext _)=>True
 | _=>False
section
variable {P:Program}{w:World}{H:Hp}{h h':Heap}{x e:Addr}{o':HO}
theorem HOk.write(ok:HOk P w H h)(g:Mut (H x))(n:e=x \/ H e=some (.own x))(k:∀ b u,b≠e->h.get? b=some u->h'.get? b=some u)(m:∃ u,h'.get? e=some u)
  (new:ObjOk P w (upd H x o') h' x o'):HOk P w (upd H x o') h':=λb u q=>by
 have d:∀ c y,H c=some (.own y)->c≠x:=λc y r z=>by subst z;rw[r] at g;exact g
 have f:∀ c i,H c=some (.tup i)->c≠x:=λc i r z=>by subst z;rw[r] at g;exact g
 by_cases j:b=x
 ·subst j;rw[jo] at q;cases q;exact new
 ·rw[jd j] at q;by_cases a:b=e
  ·have o:H b=some (.own x):=by
    rcases n with z | z
    ·exact absurd (a.trans z) j
    ·rw[a];exact z
   rw[q] at o;cases o;obtain⟨v,p⟩:=m;exact⟨v,by rw[a];exact p⟩
  ·refine(ok b u q).stay (λc v l r=>k c v ?_ r) (λc r=>by rw[jd (d c b r)];exact r) λc i r=>by rw[jd (f c i r)];exact r
   rcases l with rfl | l
   ·exact a
   ·rintro rfl;rcases n with z | z
    ·exact d c b l z
    ·rw[l] at z;cases z;exact j rfl
end
structure Un(fs ex:List Addr)(H H':Hp)(h h':Heap):Prop where
 keep:∀ b o,h.get? b=some o->H b=none->b∉fs->b∉ex->h'.get? b=some o
 slot:∀ b o,h.get? b=some o->H b=none->b∈fs->b∉ex->∃ sl,h'.get? b=some { o with slots:=sl }
 free:∀ b o,h.get? b=some o->H b=none->b∉ex->H' b=none
 there:∀ b o,h.get? b=some o->b∉ex->∃ o',h'.get? b=some o'
 tups:∀ b xs,H b=some (.tup xs)->H' b=some (.tup xs)
 frzs:∀ b o u,H b=some (.frz o u)->H' b=some (.frz o u)
 tbls:∀ b ps,H b=some (.tbl ps)->∃ more,H' b=some (.tbl (ps++more))
section
variable {fs fs' ex ex':List Addr}{H H1 H2:Hp}{h h1 h2 h':Heap}{a x e:Addr}{o:HO}
theorem Un.any(u:Un fs ex H H1 h h1){b:Addr}{ob:Obj}(q:h.get? b=some ob)(n:H b=none)(a:b∉ex):∃ sl,h1.get? b=some { ob with slots:=sl }:=by
 by_cases c:b∈fs
 ·exact u.slot b ob q n c a
 ·exact⟨ob.slots,u.keep b ob q n c a⟩
theorem Un.kept(k:∀ b u,h.get? b=some u->h'.get? b=some u):Un fs ex H H h h' :=
 ⟨λb a q _ _ _=>k b a q,λb a q _ _ _=>⟨a.slots,k b a q⟩,λ_ _ _ n _=>n,λb a q _=>⟨a,k b a q⟩,λ_ _ q=>q,λ_ _ _ q=>q,λ_ c q=>⟨#[],by rw[q];simp⟩⟩
theorem Un.refl:Un fs ex H H h h:=Un.kept λ_ _ q=>q
theorem Un.laid(k:∀ b u,h.get? b=some u->h'.get? b=some u)(c:h.objs.size<=a)(hn:H a=none):Un fs ex H (upd H a o) h h' where
 keep:=λb u q _ _ _=>k b u q
 slot:=λb u q _ _ _=>⟨u.slots,k b u q⟩
 free:=λb u q n _=>by rw[jd (N6 (U4 (N1 q) c))];exact n
 there:=λb u q _=>⟨u,k b u q⟩
 tups:=λb d q=>by rw[jd (yQ q hn)];exact q
 frzs:=λb u d q=>by rw[jd (yQ q hn)];exact q
 tbls:=λb e q=>⟨#[],by rw[jd (yQ q hn),q];simp⟩
theorem Un.write(c:Mut (H x))(j:e=x \/ H e=some (.own x))(k:∀ b u,b≠e->h.get? b=some u->h'.get? b=some u)(d:∃ u,h'.get? e=some u):Un fs ex H (upd H x o) h h':=by
 have g:∀ b,H b=none->b≠x:=λb n z=>by subst z;rw[n] at c;exact c
 have i:∀ b,H b=none->b≠e:=λb n z=>by
  subst z;rcases j with r | r
  ·exact g b n r
  ·rw[n] at r;cases r
 have f:∀ b u,H b=some u->¬ Mut (some u)->b≠x:=λb u q nm z=>by subst z;rw[q] at c;exact nm c
 refine⟨λb u q n _ _=>k b u (i b n) q,λb u q n _ _=>⟨u.slots,k b u (i b n) q⟩,λb u q n _=>by rw[jd (g b n)];exact n,λb u q _=>?_,
  λb l q=>by rw[jd (f b _ q λz=>z)];exact q,λb u l q=>by rw[jd (f b _ q λz=>z)];exact q,λb m q=>⟨#[],by rw[jd (f b _ q λz=>z),q];simp⟩⟩
 by_cases a:b=e
 ·subst a;exact d
 ·exact⟨u,k b u a q⟩
end
noncomputable def trk(h:Heap)(H:Hp):List Addr:=(List.range h.objs.size).filter λa=>(H a).isSome
noncomputable def wu(h:Heap)(H:Hp):Heap:=PySem.W.hideAll h (trk h H)
theorem zP(h:Heap)(H:Hp):(wu h H).objs.size=h.objs.size:=PySem.W.hideAll_size _ _
theorem wZ{h:Heap}{H:Hp}{b:Addr}{o:Obj}(e:h.get? b=some o)(n:H b=none):(wu h H).get? b=some o :=
 PySem.W.hideAll_get _ e λa=>by
  have q:(H b).isSome=true:=(List.mem_filter.mp a).2;rw[n] at q;simp at q
theorem uE{h:Heap}{H:Hp}{b:Addr}{o:Obj}(e:(wu h H).get? b=some o):h.get? b=some o/\H b=none:=by
 have a:h.get? b=some o:=PySem.W.of_hideAll (trk h H) e;refine⟨a,?_⟩;cases q:H b with
 | none=>rfl
 | some x =>
  have c:b∈trk h H:=List.mem_filter.mpr ⟨List.mem_range.mpr (N1 a),by simp[q]⟩;have z:(wu h H).get? b=none:=PySem.W.hideAll_none (trk h H) c;rw[z] at e;cases e
noncomputable def jaT(g h:Heap)(L:Addr):List (Addr×Obj):=(List.range h.objs.size).filterMap λa=>if a=L \/ (g.get? a).isSome=true then none else(h.get? a).map λo=>(a,o)
noncomputable def rest(g h:Heap)(L d:Addr):List (Addr×Obj):=(jaT g h L).filter λp=>decide (p.1≠d)
structure Mod(K:PySem.W.Frag)(mg:Str->Option Value)(base:Heap):Prop where
 kin:K.In base
 glob:base.Ns mainGlobals mg
 blt:∃ mb,base.Ns builtinsNs mb/\∀ x:Str,x≠"__name__"->mb x=bootBuiltins x
 nolimit:base.NoLimit
structure Cx where
 prog:Program
 w:World
 K:PySem.W.Frag
 mg:Str->Option Value
 base:Heap
 A:Around
 N:List Str
 s₀:Shared
 H₀:Hp
 env:Env
 outer:List Env
 stack:List Env
 ex:List Addr
 fn:Str->Bool
 calm:Bool
 pn:List (Addr×Obj)
 xe:Value->Shared->Prop
noncomputable def frs(l:List Env):List Addr:=l.filterMap (·.frame)
noncomputable abbrev Cx.fs(X:Cx):List Addr:=frs X.outer
def Vis(sc:Scope)(x:Str):Prop:=sc.names.lookup x=some .local \/ sc.names.lookup x=some .cell \/ sc.names.lookup x=some .free
def Loc(sc:Scope)(x:Str):Prop:=sc.names.lookup x=some .local \/ sc.names.lookup x=some .cell
def je4(env:Env)(h:Heap)(m:Str->Option Value)(x:Str)(u:Value):Prop :=
 (env.kindOf x=some .local/\m x=some u) \/ ((env.kindOf x=some .cell \/ env.kindOf x=some .free)/\∃ c,env.cells.lookup x=some c/\h.IsCell c (some u))
structure Cx.Ok(X:Cx):Prop where
 mod:Mod X.K X.mg X.base
 kind:X.env.scope.kind=.function
 glob:X.env.globals=mainGlobals
 blt:X.env.builtins=builtinsNs
 above:X.s₀.heap.objs.size<=X.env.locals
 inj:∀ x y c,X.env.cells.lookup x=some c->X.env.cells.lookup y=some c->x=y
 has:∀ x,(X.env.kindOf x=some .cell \/ X.env.kindOf x=some .free)->∃ c,X.env.cells.lookup x=some c
 cab:∀ x c,X.fn x=true->X.env.cells.lookup x=some c->X.s₀.heap.objs.size<=c
 hd:X.calm=true->X.A.handled=none
 frames:X.A.frames=some X.stack
 stk:X.stack=X.outer \/ (X.stack=X.env::X.outer/\X.env.frame=some X.env.locals)
 exf:∀ b∈X.ex,b≠X.env.locals/\∀ x c,X.env.cells.lookup x=some c->c≠b
 bs:∀ b o,X.base.get? b=some o->X.s₀.heap.get? b=some o/\X.H₀ b=none
 bsz:X.base.objs.size<=X.s₀.heap.objs.size
 noex:∀ b o,X.base.get? b=some o->b∉X.ex
 exfs:∀ b∈X.ex,b∉X.fs
 funs:X.s₀.heap.FunFrames X.base X.outer
 frf:∀ b∈X.fs,X.H₀ b=none
structure Inv(X:Cx)(pins:List (Addr×Obj))(σ:List (Option V))(H:Hp)(s:Shared):Prop where
 ok:X.Ok
 os:s.os=X.s₀.os
 bare:AllBare s.gens
 base:Un X.fs X.ex X.H₀ H X.s₀.heap s.heap
 loc:∃ m,s.heap.Ns X.env.locals m/\∀(i:Nat) (x:Str) (v:V),X.N[i]?=some x->σ[i]?=some (some v)->Vis X.env.scope x->∃ u,RelV v u/\je4 X.env s.heap m x u
 cell:∀ x c,X.env.cells.lookup x=some c->∃ v,s.heap.IsCell c v
 free:H X.env.locals=none
 freeC:∀ x c,X.env.cells.lookup x=some c->H c=none
 pin:∀ p∈X.pn++pins,s.heap.get? p.1=some p.2/\H p.1=none/\p.1≠X.env.locals/\p.1∉X.fs/\∀ v,p.2.data≠.cell v
 hok:HOk X.prog X.w H s.heap
 len:σ.length=X.N.length
section
variable {X:Cx}{pins:List (Addr×Obj)}{σ:List (Option V)}{H H':Hp}{s:Shared}{h':Heap}
theorem Cx.Ok.nofr(ok:X.Ok){b:Addr}{o:Obj}(e:X.base.get? b=some o):b∉X.fs:=λa=>by
 have:=(ok.funs.mem a).1;rw[e] at this;cases this
theorem Inv.bs(I:Inv X pins σ H s):∀ b o,X.base.get? b=some o->s.heap.get? b=some o/\H b=none:=λb o e =>
 ⟨I.base.keep b o (I.ok.bs b o e).1 (I.ok.bs b o e).2 (I.ok.nofr e) (I.ok.noex b o e),I.base.free b o (I.ok.bs b o e).1 (I.ok.bs b o e).2 (I.ok.noex b o e)⟩
theorem Inv.bk(I:Inv X pins σ H s):∀ b o,X.base.get? b=some o->s.heap.get? b=some o:=λb o e=>(I.bs b o e).1
theorem Inv.mod(I:Inv X pins σ H s):Mod X.K X.mg X.base:=I.ok.mod
theorem Inv.kIn(I:Inv X pins σ H s):X.K.In s.heap:=I.ok.mod.kin.keeps I.bk
theorem Inv.lt(I:Inv X pins σ H s):X.env.locals < s.heap.objs.size:=let ⟨_,hn,_⟩:=I.loc;hn.lt
theorem Inv.sz(I:Inv X pins σ H s):X.s₀.heap.objs.size<=s.heap.objs.size:=N7 I.ok.above (Nat.le_of_lt I.lt)
theorem Inv.nofs(I:Inv X pins σ H s){a:Addr}(h:s.heap.objs.size<=a):a∉X.fs:=λb=>by
 obtain⟨_,o,c,_⟩:=I.ok.funs.mem b;exact absurd (U4 (N1 c) (N7 I.sz h)) (Nat.lt_irrefl _)
theorem Inv.cne(I:Inv X pins σ H s):∀ x c,X.env.cells.lookup x=some c->c≠X.env.locals:=λx c e z=>by
 obtain⟨v,o,d,hd⟩:=I.cell x c e;obtain⟨m,⟨f,g,h,a,b,_⟩,_⟩:=I.loc;rw[z,a] at d;cases d;rw[b] at hd;cases hd
theorem Inv.funs(I:Inv X pins σ H s):s.heap.FunFrames X.base X.outer:=by
 have all:∀(l:List Env),(∀ b∈frs l,b∈X.fs)->X.s₀.heap.FunFrames X.base l->s.heap.FunFrames X.base l:=by
  intro l
  induction l with
  | nil=>intro _ _;trivial
  | cons env r g =>
   intro f h;obtain⟨i,⟨L,o,a,j,k,hd⟩,m⟩:=h;have c:L∈X.fs:=f L (by unfold frs;rw[List.filterMap_cons,a];exact L6);obtain⟨n,e⟩:=I.base.slot L o k (I.ok.frf L c) c λz=>I.ok.exfs L z c;exact⟨i,⟨L,_,a,j,e,hd⟩,g (λb d=>f b (by unfold frs;rw[List.filterMap_cons,a];exact L5 _ d)) m⟩
 exact all X.outer (λ_ d=>d) I.ok.funs
theorem Inv.stack(I:Inv X pins σ H s):s.heap.FunFrames X.base X.stack:=by
 rcases I.ok.stk with e | ⟨e,a⟩
 ·rw[e];exact I.funs
 ·rw[e];obtain⟨m,b,_⟩:=I.loc;refine .cons (by rw[I.ok.kind];decide) a b ?_ I.funs;exact Heap.get?_none_of_le (N7 I.ok.bsz I.ok.above)
theorem Inv.stkSub(I:Inv X pins σ H s):∀ b∈frs X.stack,b∈X.env.locals::X.fs:=λb a=>by
 rcases I.ok.stk with e | ⟨e,c⟩
 ·rw[e] at a;exact L5 _ a
 ·rw[e] at a;unfold frs at a;rw[List.filterMap_cons,c] at a;exact a
theorem Inv.stkFree(I:Inv X pins σ H s):∀ b∈frs X.stack,H b=none:=λb a=>by
 rcases M4.mp (I.stkSub b a) with e | a
 ·rw[e];exact I.free
 ·obtain⟨_,o,c,_⟩:=I.ok.funs.mem a;exact I.base.free b o c (I.ok.frf b a) λz=>I.ok.exfs b z a
theorem Inv.step{g':Array GenState}{t':Nat}{d':Drawn}{ch:List Addr}(I:Inv X pins σ H s)
  (f:∀ b∈ch,(b∈X.ex \/ X.s₀.heap.objs.size<=b)/\b≠X.env.locals/\(∀ x c,X.env.cells.lookup x=some c->c≠b)/\∀ p∈X.pn++pins,p.1≠b)
  (keep:∀ b o,b≠X.env.locals->b∉X.fs->b∉ch->s.heap.get? b=some o->H b=none->h'.get? b=some o)
  (slot:∀ b o,b≠X.env.locals->b∈X.fs->b∉ch->s.heap.get? b=some o->H b=none->∃ sl,h'.get? b=some { o with slots:=sl }) (free:∀ b o,b∉ch->s.heap.get? b=some o->H b=none->H' b=none)
  (there:∀ b o,b∉ch->s.heap.get? b=some o->∃ o',h'.get? b=some o')
  (tups:∀ b xs,H b=some (.tup xs)->H' b=some (.tup xs)) (frzs:∀ b o u,H b=some (.frz o u)->H' b=some (.frz o u)) (tbls:∀ b ps,H b=some (.tbl ps)->∃ more,H' b=some (.tbl (ps++more)))
  (ns:∀ m,s.heap.Ns X.env.locals m->h'.Ns X.env.locals m) (hok:HOk X.prog X.w H' h') (J:AllBare g') :
  Inv X pins σ H' { s with heap:=h',gens:=g',drawn:=d',toks:=t' }:=by
 have B:∀ b o,X.s₀.heap.get? b=some o->b≠X.env.locals:=λb o e=>N6 (U4 (N1 e) I.ok.above);have j:∀ b o,X.s₀.heap.get? b=some o->b∉X.ex->b∉ch:=λb o e a y=>by
  rcases(f b y).1 with z | z
  ·exact a z
  ·exact absurd (U4 (N1 e) z) (Nat.lt_irrefl _)
 have g:∀ x c,X.env.cells.lookup x=some c->∀ v,s.heap.IsCell c v->h'.IsCell c v:=λx c e v ⟨o,A,hd⟩=>by
  have h:c∉ch:=λz=>(f c z).2.2.1 x c e rfl;by_cases E:c∈X.fs
  ·obtain⟨sl,q⟩:=slot c o (I.cne x c e) E h A (I.freeC x c e);exact⟨_,q,hd⟩
  ·exact⟨o,keep c o (I.cne x c e) E h A (I.freeC x c e),hd⟩
 refine⟨I.ok,I.os,J,⟨λb o e n y a=>?_,λb o e n y a=>?_,λb o e n a=>?_,λb o e a=>?_,λb xs e=>tups b xs (I.base.tups b xs e),λb o xs e=>frzs b o xs (I.base.frzs b o xs e),λb ps e=>?_⟩,?_,λx c e=>?_,?_,λx c e=>?_,λp F=>?_,hok,I.len⟩
 ·exact keep b o (B b o e) y (j b o e a) (I.base.keep b o e n y a) (I.base.free b o e n a)
 ·obtain⟨sl,t⟩:=I.base.slot b o e n y a;obtain⟨D,C⟩:=slot b _ (B b o e) y (j b o e a) t (I.base.free b o e n a);exact⟨D,C⟩
 ·obtain⟨o',t⟩:=I.base.there b o e a;exact free b o' (j b o e a) t (I.base.free b o e n a)
 ·obtain⟨o',t⟩:=I.base.there b o e a;exact there b o' (j b o e a) t
 ·obtain⟨K,t⟩:=I.base.tbls b ps e;obtain⟨L,C⟩:=tbls b _ t;exact⟨K++L,by rw[C,Array.append_assoc]⟩
 ·obtain⟨m,M,N⟩:=I.loc;refine⟨m,ns m M,λi x v t C O=>?_⟩;obtain⟨u,r,l⟩:=N i x v t C O;refine⟨u,r,?_⟩;rcases l with l | ⟨k,c,e,z⟩
  ·exact .inl l
  ·exact .inr ⟨k,c,e,g x c e _ z⟩
 ·obtain⟨v,z⟩:=I.cell x c e;exact⟨v,g x c e v z⟩
 ·obtain⟨m,⟨o,_,_,A,_⟩,_⟩:=I.loc;exact free _ o (λz=>(f _ z).2.1 rfl) A I.free
 ·obtain⟨v,o,A,hd⟩:=I.cell x c e;exact free c o (λz=>(f c z).2.2.1 x c e rfl) A (I.freeC x c e)
 ·obtain⟨e,n,ne,G,d⟩:=I.pin p F;have h:p.1∉ch:=λz=>(f p.1 z).2.2.2 p F rfl;exact⟨keep p.1 p.2 ne G h e n,free p.1 p.2 h e n,ne,G,d⟩
theorem Inv.un{t':Nat}(I:Inv X pins σ H s)(u:Un X.fs [] H H' s.heap h')(hok:HOk X.prog X.w H' h'):Inv X pins σ H' { s with heap:=h',toks:=t' }:=by
 obtain⟨m,⟨o,k,l,g,r⟩,_⟩:=id I.loc;obtain⟨p,h⟩:=u.any g I.free (by simp);exact I.step (g':=s.gens) (d':=s.drawn) (ch:=[]) (λ_ z=>nomatch z) (λb o _ c _ e n=>u.keep b o e n c (by simp)) (λb o _ c _ e n=>u.slot b o e n c (by simp)) (λb o _ e n=>u.free b o e n (by simp)) (λb o _ e=>u.there b o e (by simp)) u.tups u.frzs u.tbls (λq i=>by
  obtain⟨t,d,f,a,j⟩:=i;rw[g] at a;cases a;exact⟨_,d,f,h,j⟩) hok I.bare
theorem Inv.call{g':Array GenState}{t':Nat}{d':Drawn}{ch:List Addr}(I:Inv X pins σ H s)(u:Un (frs X.stack) ch H H' s.heap h')(hok:HOk X.prog X.w H' h')(k:AllBare g')
  (d:∀ b∈ch,(b∈X.ex \/ X.s₀.heap.objs.size<=b)/\b≠X.env.locals/\(∀ x c,X.env.cells.lookup x=some c->c≠b)/\∀ p∈X.pn++pins,p.1≠b) :
  Inv X pins σ H' { s with heap:=h',gens:=g',drawn:=d',toks:=t' }:=by
 obtain⟨m,⟨o,v,y,j,r⟩,_⟩:=id I.loc;obtain⟨A,g⟩:=u.any j I.free λz=>(d _ z).2.1 rfl;exact I.step (ch:=ch) d (λb o g l a e n=>u.keep b o e n (λz=>(M4.mp (I.stkSub b z)).elim g l) a) (λb o _ _ a e n=>u.any e n a) (λb o a e n=>u.free b o e n a) (λb o a e=>u.there b o e a) u.tups u.frzs u.tbls (λB q=>by
  obtain⟨C,h,i,f,t⟩:=q;rw[j] at f;cases f;exact⟨_,h,i,g,t⟩) hok k
theorem Inv.turned{t':Nat}{it:Addr}(I:Inv X pins σ H s)(k:∀ b o,b≠it->s.heap.get? b=some o->h'.get? b=some o)(hn:H it=none)(f:it≠X.env.locals)
  (h1:it∈X.ex \/ X.s₀.heap.objs.size<=it) (h2:∀ x c,X.env.cells.lookup x=some c->c≠it) (g:∀ p∈X.pn++pins,p.1≠it):Inv X pins σ H { s with heap:=h',toks:=t' }:=by
 have d:∀ b u,H b=some u->b≠it:=λb u e z=>by rw[z,hn] at e;cases e
 refine I.step (g':=s.gens) (d':=s.drawn) (ch:=[it]) (λb h=>?_) (λb o _ _ a e _=>k b o (λz=>a (by simp[z])) e) (λb o _ _ a e _=>⟨o.slots,k b o (λz=>a (by simp[z])) e⟩) (λ_ _ _ _ n=>n)
  (λb o a e=>⟨o,k b o (λz=>a (by simp[z])) e⟩) (λ_ _ e=>e) (λ_ _ _ e=>e) (λb w e=>⟨#[],by rw[e];simp⟩) (λm i=>?_) (λb u e=>?_) I.bare
 ·have e:b=it:=by simpa using h
  subst e;exact⟨h1,f,h2,g⟩
 ·obtain⟨o,j,l,t,r⟩:=i;exact⟨o,j,l,k _ o (Ne.symm f) t,r⟩
 ·refine(I.hok b u e).stay (λc v a q=>k c v ?_ q) (λ_ q=>q) λ_ _ q=>q;rcases a with z | z
  ·rw[z];exact d b u e
  ·exact d c _ z
theorem Inv.tok(I:Inv X pins σ H s)(t:Nat):Inv X pins σ H { s with toks:=t }:=I.un (h':=s.heap) (t':=t) Un.refl I.hok
theorem Inv.kept{t':Nat}(I:Inv X pins σ H s)(k:∀ b u,s.heap.get? b=some u->h'.get? b=some u):Inv X pins σ H { s with heap:=h',toks:=t' }:=I.un (Un.kept k) (I.hok.kept k)
theorem Inv.laid{a:Addr}{o:HO}{t':Nat}(I:Inv X pins σ H s)(k:∀ b u,s.heap.get? b=some u->h'.get? b=some u)(c:s.heap.objs.size<=a)(new:ObjOk X.prog X.w (upd H a o) h' a o) :
  Inv X pins σ (upd H a o) { s with heap:=h',toks:=t' }:=I.un (Un.laid k c (I.hok.fresh c)) (I.hok.laid k c new)
theorem Inv.write{x e:Addr}{o:HO}{t':Nat}(I:Inv X pins σ H s)(c:Mut (H x))(d:e=x \/ H e=some (.own x))(k:∀ b u,b≠e->s.heap.get? b=some u->h'.get? b=some u)(a:∃ u,h'.get? e=some u)
  (new:ObjOk X.prog X.w (upd H x o) h' x o):Inv X pins σ (upd H x o) { s with heap:=h',toks:=t' }:=I.un (Un.write c d k a) (I.hok.write c d k a new)
theorem Inv.pins_of{a:List (Addr×Obj)}(I:Inv X pins σ H s)(h:∀ p∈a,s.heap.get? p.1=some p.2/\H p.1=none/\p.1≠X.env.locals/\p.1∉X.fs/\∀ v,p.2.data≠.cell v):Inv X a σ H s :=
 ⟨I.ok,I.os,I.bare,I.base,I.loc,I.cell,I.free,I.freeC,λp b=>(N2.mp b).elim (λz=>I.pin p (List.mem_append_left _ z)) (h p),I.hok,I.len⟩
theorem Kl{N:List Str}(c:N.Nodup){i j:Nat}{x:Str}(a:N[i]?=some x)(b:N[j]?=some x):i=j:=by
 obtain⟨f,d⟩:=L8.mp a;obtain⟨g,e⟩:=L8.mp b;exact(List.getElem_inj c).mp (d.trans e.symm)
theorem Ql{M:Model}{A:Around}{E:Value->Shared->Prop}{i:Nat}{x:Str}{v:V}{u:Value}{Q:Unit->Shared->Prop}(I:Inv X pins σ H s)(hN:X.N.Nodup)(hi:X.N[i]?=some x)(B:Loc X.env.scope x)(r:RelV v u)
  (h:∀ s',Inv X pins (σ.set i (some v)) H s'->(∃ a,Heap.SameBut a s.heap s'.heap/\(a=X.env.locals \/ X.env.cells.lookup x=some a))->Q () s') (hf:X.fn x=true \/ X.env.scope.names.lookup x=some .local:=by first | exact .inl rfl | exact .inr rfl | assumption):wpAny M A (storeName X.env x u) Q E s:=by
 obtain⟨m,Z,hl⟩:=id I.loc;have O:(X.env.scope.kind==.class||(X.env.scope.kind==.module&&X.env.locals != X.env.globals))=false:=by rw[I.ok.kind];rfl
 have P:i < σ.length:=by rw[I.len];exact(L8.mp hi).1
 have cne:=I.cne;have g:∀{a:Addr}{L:Heap},(∃ o,s.heap.get? a=some o/\H a=none)->Heap.SameBut a s.heap L->HOk X.prog X.w H L:=λ{a L} ha f b ob e=>by
  obtain⟨_,_,C⟩:=ha;refine(I.hok b ob e).stay (λc W t q=>(f.2 c ?_).trans q) (λ_ q=>q) λ_ _ q=>q;rintro rfl;rcases t with rfl | t
  ·rw[C] at e;cases e
  ·rw[C] at t;cases t
 rcases B with F | F
 ·refine wpAny_storeName_local F Z (λL hn' f=>?_) O;obtain⟨oL,_,_,hoL,_⟩:=id Z;refine h _ ⟨I.ok,I.os,I.bare,⟨λb o e n G B=>?_,λb o e n G B=>?_,I.base.free,λb o e B=>?_,I.base.tups,I.base.frzs,I.base.tbls⟩,⟨_,hn',λj y v' l D e3=>?_⟩,λy c e=>?_,I.free,I.freeC,λp hp=>?_,g ⟨oL,hoL,I.free⟩ f,by simpa using I.len⟩ ⟨_,f,.inl rfl⟩
  ·exact(f.2 b (N6 (U4 (N1 e) I.ok.above))).trans (I.base.keep b o e n G B)
  ·obtain⟨sl,l⟩:=I.base.slot b o e n G B;exact⟨sl,(f.2 b (N6 (U4 (N1 e) I.ok.above))).trans l⟩
  ·obtain⟨o',l⟩:=I.base.there b o e B;exact⟨o',(f.2 b (N6 (U4 (N1 e) I.ok.above))).trans l⟩
  ·by_cases J:j=i
   ·subst J;rw[hi] at l;cases l;rw[List.getElem?_set_self P] at D;cases D;exact⟨u,r,.inl ⟨F,by simp⟩⟩
   ·rw[List.getElem?_set_ne (Ne.symm J)] at D;obtain⟨u',r',q⟩:=hl j y v' l D e3;refine⟨u',r',?_⟩;rcases q with⟨k,e⟩ | ⟨k,c,e,z⟩
    ·refine .inl ⟨k,?_⟩;have:y≠x:=λe=>J (Kl hN l (e▸hi));simp[this,e]
    ·exact .inr ⟨k,c,e,z.sameBut f (cne y c e)⟩
  ·obtain⟨W,z⟩:=I.cell y c e;exact⟨W,z.sameBut f (cne y c e)⟩
  ·obtain⟨e,n,ne,nf,d⟩:=I.pin p hp;exact⟨(f.2 p.1 ne).trans e,n,ne,nf,d⟩
 ·have K:X.fn x=true:=by
   rcases hf with z | z
   ·exact z
   ·rw[z] at F;cases F
  obtain⟨c,t⟩:=I.ok.has x (.inl F);obtain⟨W,z⟩:=I.cell x c t;refine wpAny_storeName_cell I.ok.kind F t z (λL R f=>?_);obtain⟨oc,S,T⟩:=id z;refine h { s with heap:=L } ⟨I.ok,I.os,I.bare,⟨λb o e n G B=>?_,λb o e n G B=>?_,I.base.free,λb o e B=>?_,I.base.tups,I.base.frzs,I.base.tbls⟩,⟨m,Z.sameBut f (Ne.symm (cne x c t)),λj y v' l D e3=>?_⟩,λy Y e=>?_,I.free,I.freeC,λp hp=>?_,g ⟨oc,S,I.freeC x c t⟩ f,by simpa using I.len⟩ ⟨c,f,.inr t⟩
  ·exact(f.2 b (N6 (U4 (N1 e) (I.ok.cab x c K t)))).trans (I.base.keep b o e n G B)
  ·obtain⟨sl,l⟩:=I.base.slot b o e n G B;exact⟨sl,(f.2 b (N6 (U4 (N1 e) (I.ok.cab x c K t)))).trans l⟩
  ·obtain⟨o',l⟩:=I.base.there b o e B;exact⟨o',(f.2 b (N6 (U4 (N1 e) (I.ok.cab x c K t)))).trans l⟩
  ·by_cases J:j=i
   ·subst J;rw[hi] at l;cases l;rw[List.getElem?_set_self P] at D;cases D;exact⟨u,r,.inr ⟨.inl F,c,t,R⟩⟩
   ·rw[List.getElem?_set_ne (Ne.symm J)] at D;obtain⟨u',r',q⟩:=hl j y v' l D e3;refine⟨u',r',?_⟩;rcases q with q | ⟨k,Y,e,z'⟩
    ·exact .inl q
    ·refine .inr ⟨k,Y,e,z'.sameBut f ?_⟩;rintro rfl;exact J (Kl hN l (I.ok.inj _ _ _ e t▸hi))
  ·by_cases U:Y=c
   ·subst U;exact⟨_,R⟩
   ·obtain⟨w2,z2⟩:=I.cell y Y e;exact⟨w2,z2.sameBut f U⟩
  ·obtain⟨e,n,ne,nf,d⟩:=I.pin p hp;refine⟨(f.2 p.1 ?_).trans e,n,ne,nf,d⟩;intro q;rw[q,S] at e;have q':oc=p.2:=X3 e;exact d W (by rw[<- q'];exact T)
theorem qx{M:Model}{A:Around}{E:Value->Shared->Prop}{i:Nat}{x:Str}{v:V}{u:Value}{Q:Unit->Shared->Prop}(I:Inv X pins σ H s)(a:X.N.Nodup)(hi:X.N[i]?=some x)(b:Loc X.env.scope x)(r:RelV v u)
  (h:∀ s',Inv X pins (σ.set i (some v)) H s'->Q () s') (c:X.fn x=true \/ X.env.scope.names.lookup x=some .local:=by first | exact .inl rfl | exact .inr rfl | assumption):wpAny M A (storeName X.env x u) Q E s :=
 Ql I a hi b r (λs' d _=>h s' d) c
end
noncomputable abbrev XK:=Value->Option Addr->Hp->Prop
noncomputable abbrev St:=List (Option V)
noncomputable abbrev VK:=V->Hp->Prop
noncomputable abbrev TE:=St->Hp->VK->Prop
noncomputable abbrev TT:=St->Hp->(Bool->Hp->Prop)->Prop
noncomputable abbrev TA:=St->Hp->(List V->Hp->Prop)->Prop
structure Ends where
 nx:St->Hp->Prop
 rt:VK
 bk:St->Hp->Prop:=λ_ _=>False
 ct:St->Hp->Prop:=λ_ _=>False
noncomputable abbrev TS:=Ends->St->Hp->Prop
def EP(X:Cx)(pins:List (Addr×Obj))(σ:St)(Q:VK)(u:Value)(s':Shared):Prop:=∃ v H',Inv X pins σ H' s'/\RelV v u/\Q v H'
def TP(X:Cx)(pins:List (Addr×Obj))(σ:St)(Q:Bool->Hp->Prop)(b:Bool)(s':Shared):Prop:=∃ H',Inv X pins σ H' s'/\Q b H'
def AP(X:Cx)(pins:List (Addr×Obj))(σ:St)(Q:List V->Hp->Prop)(us:List Value)(s':Shared):Prop:=∃ vs H',Inv X pins σ H' s'/\Vals vs us/\Q vs H'
def SP(X:Cx)(pins:List (Addr×Obj))(D:Ends)(f:Flow)(s':Shared):Prop :=
 match f with
 | .next=>∃ σ' H',Inv X pins σ' H' s'/\D.nx σ' H'
 | .brk=>∃ σ' H',Inv X pins σ' H' s'/\D.bk σ' H'
 | .cont=>∃ σ' H',Inv X pins σ' H' s'/\D.ct σ' H'
 | .ret u=>∃ v σ' H',Inv X pins σ' H' s'/\RelV v u/\D.rt v H'
def PE(X:Cx)(e:Expr)(t:TE):Prop :=
 ∀(pins:List (Addr×Obj)) (s:Shared) (σ:St) (H:Hp) (Q:VK),Inv X pins σ H s->t σ H Q->wpAny (model X.prog X.w) X.A (eval e X.env) (EP X pins σ Q) X.xe s
def PT(X:Cx)(e:Expr)(t:TT):Prop :=
 ∀(pins:List (Addr×Obj)) (s:Shared) (σ:St) (H:Hp) (Q:Bool->Hp->Prop),Inv X pins σ H s->t σ H Q->wpAny (model X.prog X.w) X.A (isTrue e X.env (eval e X.env)) (TP X pins σ Q) X.xe s
def PW(X:Cx)(e:Expr)(t:TT):Prop :=
 ∀(whole:Sem Value) (pins:List (Addr×Obj)) (s:Shared) (σ:St) (H:Hp) (Q:Bool->Hp->Prop),Inv X pins σ H s->t σ H Q->wpAny (model X.prog X.w) X.A (isTrue e X.env whole) (TP X pins σ Q) X.xe s
theorem PW.pt{X:Cx}{e:Expr}{t:TT}(h:PW X e t):PT X e t:=h _
def PA(X:Cx)(es:List Expr)(t:TA):Prop :=
 ∀(pos:Pos) (pins:List (Addr×Obj)) (s:Shared) (σ:St) (H:Hp) (Q:List V->Hp->Prop),Inv X pins σ H s->t σ H Q->wpAny (model X.prog X.w) X.A (spliced (backTo pos (starEach es X.env))) (AP X pins σ Q) X.xe s
def PS(X:Cx)(st:Stmt)(t:TS):Prop :=
 ∀(pins:List (Addr×Obj)) (s:Shared) (σ:St) (H:Hp) (D:Ends),Inv X pins σ H s->t D σ H->wpAny (model X.prog X.w) X.A (exec st X.env) (SP X pins D) X.xe s
def PSs(X:Cx)(st:List Stmt)(t:TS):Prop :=
 ∀(pins:List (Addr×Obj)) (s:Shared) (σ:St) (H:Hp) (D:Ends),Inv X pins σ H s->t D σ H->wpAny (model X.prog X.w) X.A (execs st X.env) (SP X pins D) X.xe s
theorem thn{α:Type}{t:Sem α}{Q b:α->Shared->Prop}{M:Model}{A:Around}{E:Value->Shared->Prop}{s:Shared}(h:wpAny M A t Q E s)(c:∀ a s,Q a s->b a s):wpAny M A t b E s:=wpAny_mono h c λ_ _ x=>x
section
variable {X:Cx}
noncomputable def vB(i:Nat):TE:=λσ H Q=>∃ v,σ[i]?=some (some v)/\Q v H
noncomputable def tC(v:V):TE:=λ_ H Q=>Q v H
theorem ug{i:Nat}{x:Str}{pos:Pos}(k:X.N[i]?=some x)(n:Vis X.env.scope x)(hd:(x==("__debug__" : Str))=false:=by decide)(g:(x==("__classdict__" : Str))=false:=by decide):PE X (.Name x pos) (vB i):=by
 intro f s σ H Q I h;obtain⟨v,e,h⟩:=h;obtain⟨m,o,p⟩:=I.loc;obtain⟨u,r,l⟩:=p i x v k e n;have b:EP X f σ Q u s:=⟨v,H,I,r,h⟩;rcases l with⟨d,q⟩ | ⟨d,c,j,a⟩
 ·exact wpAny_Name (wpAny_loadName_local I.ok.kind d o q b) hd
 ·rcases d with d | d
  ·exact wpAny_Name (wpAny_loadName_cell I.ok.kind d j a b) hd
  ·exact wpAny_Name (wpAny_loadName_free I.ok.kind d j a b g) hd
theorem jcq{i j pos}:PE X (.Constant (.int i) j pos) (tC (.int i)):=λ_ _ _ H _ I h=>wpAny_Constant_int ⟨.int i,H,I.tok _,⟨_,rfl⟩,h⟩
theorem jeg{b j pos}:PE X (.Constant (.bool b) j pos) (tC (.bl b)):=λ_ _ _ H _ I h=>Constant_bool ⟨.bl b,H,I,rfl,h⟩
theorem jb2{j pos}:PE X (.Constant .none j pos) (tC .non):=λ_ _ _ H _ I h=>Constant_none ⟨.non,H,I,rfl,h⟩
theorem jc1{x j pos}:PE X (.Constant (.str x) j pos) (tC (.str x)):=λ_ _ _ H _ I h=>Calls.Constant_str ⟨.str x,H,I.tok _,⟨_,rfl⟩,h⟩
def Gl(X:Cx)(x:Str):Prop:=X.env.kindOf x=some .globalImplicit
theorem jan{E:Value->Shared->Prop}{pins:List (Addr×Obj)}{s:Shared}{σ:St}{H:Hp}{x:Str}{u:Value}{pos:Pos}{Q:Value->Shared->Prop}(I:Inv X pins σ H s)(a:Gl X x)(b:X.mg x=some u)(h:Q u s)
  (hd:(x==("__debug__" : Str))=false:=by decide):wpAny (model X.prog X.w) X.A (eval (.Name x pos) X.env) Q E s :=
 Calls.Name_function_global I.ok.kind a (Calls.loadGlobal_global (by rw[I.ok.glob];exact I.mod.glob.keeps I.bk) b h) hd
theorem kK{E:Value->Shared->Prop}{pins:List (Addr×Obj)}{s:Shared}{σ:St}{H:Hp}{x:Str}{u:Value}{pos:Pos}{Q:Value->Shared->Prop}(I:Inv X pins σ H s)(a:Gl X x)(b:X.mg x=none)(c:bootBuiltins x=some u)(h:Q u s)
  (hn:x≠"__name__":=by decide) (hd:(x==("__debug__" : Str))=false:=by decide):wpAny (model X.prog X.w) X.A (eval (.Name x pos) X.env) Q E s:=by
 obtain⟨f,d,e⟩:=I.mod.blt;exact Calls.Name_function_global I.ok.kind a (Calls.loadGlobal_builtin (by rw[I.ok.glob];exact I.mod.glob.keeps I.bk) b (by rw[I.ok.blt];exact d.keeps I.bk) ((e x hn).trans c) h) hd
theorem u8{x:Str}{v:V}{u:Value}{pos:Pos}(a:Gl X x)(b:X.mg x=none)(c:bootBuiltins x=some u)(r:RelV v u)(hn:x≠"__name__":=by decide)(hd:(x==("__debug__" : Str))=false:=by decide):PE X (.Name x pos) (tC v) :=
 λ_ _ _ H _ I h=>kK I a b c ⟨v,H,I,r,h⟩ hn hd
variable {a b:Expr}{ta tb:TE}{pos:Pos}
def PC(X:Cx)(op:CmpOp)(a b:Expr)(t:TE):Prop :=
 ∀(pins:List (Addr×Obj)) (s:Shared) (σ:St) (H:Hp) (Q:VK),Inv X pins σ H s->t σ H Q ->
  wpAny (model X.prog X.w) X.A (eval a X.env) (λv s₁=>wpAny (model X.prog X.w) X.A (eval b X.env) (λu s₂=>wpAny (model X.prog X.w) X.A (compareOp op v u) (EP X pins σ Q) X.xe s₂) X.xe s₁) X.xe s
theorem wV(b:Expr){a:CmpOp}(h:a≠.In)(h2:a≠.NotIn):behindInMarks a b=false:=by
 have c:(a==CmpOp.In)=false:=by cases a<;>first | rfl | exact absurd rfl h
 have d:(a==CmpOp.NotIn)=false:=by cases a<;>first | rfl | exact absurd rfl h2
 cases b<;>simp[behindInMarks,c,d]
noncomputable def tB(t:TE):TT:=λσ H Q=>t σ H λx H1=>∃ c,x=.bl c/\Q c H1
theorem jbL{f:CmpOp}{t:TE}(h:PC X f a b t)(h1:behindInMarks f b=false:=by first | exact wV _ (by decide) (by decide) | rfl):PT X (.Compare a [f] [b] pos) (tB t):=by
 intro e s σ H Q I g;refine wpAny_isTrue_Compare1 (thn (h e s σ H _ I g) λv n h1=>thn h1 λu o i=>thn i λc p ⟨x,j,k,l,m⟩=>?_) h1;obtain⟨d,rfl,q⟩:=m;cases l;exact wpAny_truthy_bool ⟨j,k,q⟩
theorem jcC{e:Expr}{t:TE}(h:PE X e t)(b:∀ whole,isTrue e X.env whole=(do let v <- whole;standAt e.pos;holding [v] (truthy v)):=by intro _;rfl):PT X e (tB t):=by
 intro a s σ H Q I c;refine isTrue_plain (thn (h a s σ H _ I c) λv k ⟨x,f,g,i,j⟩=>?_) (b _);obtain⟨d,rfl,q⟩:=j;cases i;exact wpAny_truthy_bool ⟨f,g,q⟩
variable {tA tB':TT}{rest:List Expr}
noncomputable def jeF(t u:TT):TT:=λσ H Q=>t σ H λc H1=>if c=true then u σ H1 Q else Q false H1
noncomputable def tOr(t u:TT):TT:=λσ H Q=>t σ H λc H1=>if c=true then Q true H1 else u σ H1 Q
noncomputable def jdR(t:TT):TT:=λσ H Q=>t σ H λc H1=>Q (!c) H1
theorem jah(d:PT X a tA):PW X (.BoolOp .And [a] pos) tA:=by
 intro f b s σ H Q I h;refine isTrue_and (thn (d b s σ H Q I h) λc g e=>?_);cases c with
 | true=>exact isTrue_and_nil e
 | false=>exact e
theorem jc3(d:PT X a tA):PW X (.BoolOp .Or [a] pos) tA:=by
 intro f b s σ H Q I h;refine isTrue_or (thn (d b s σ H Q I h) λc g e=>?_);cases c with
 | false=>exact isTrue_or_nil e
 | true=>exact e
theorem jdn(i:PT X a tA)(j:PW X (.BoolOp .And (b::rest) pos) tB'):PW X (.BoolOp .And (a::b::rest) pos) (jeF tA tB'):=by
 intro k d s σ H Q I h;refine isTrue_and (thn (i d s σ H _ I h) λc l ⟨e,f,g⟩=>?_);cases c with
 | true=>exact j k d l σ e Q f g
 | false=>exact⟨e,f,g⟩
theorem jeC(i:PT X a tA)(j:PW X (.BoolOp .Or (b::rest) pos) tB'):PW X (.BoolOp .Or (a::b::rest) pos) (tOr tA tB'):=by
 intro k d s σ H Q I h;refine isTrue_or (thn (i d s σ H _ I h) λc l ⟨e,f,g⟩=>?_);cases c with
 | true=>exact⟨e,f,g⟩
 | false=>exact j k d l σ e Q f g
theorem jcG(d:PT X a tA):PT X (.UnaryOp .Not a pos) (jdR tA):=by
 intro b s σ H Q I h;exact isTrue_not (d b s σ H (λc e=>Q (!c) e) I h)
end
def SqL(K:PySem.W.Frag)(H:Hp)(a:Addr)(xs:List V):Prop :=
 Rd H a (.lst xs) \/
  ∃(o:Obj) (its:Array Value) (n:Nat),K.lookup a=some o/\o.cls=.type "list"/\o.dict=none/\o.data=.seq its n/\its.size<=sizeLine/\Vals xs its.toList
def SqT(K:PySem.W.Frag)(H:Hp)(a:Addr)(xs:List V):Prop :=
 Rd H a (.tup xs) \/
  ∃(o:Obj) (its:Array Value) (n:Nat),K.lookup a=some o/\o.cls=.type "tuple"/\o.data=.seq its n/\its.size<=sizeLine/\Vals xs its.toList
noncomputable def jeZ:Value->Option V
 | .none=>some .non
 | .bool b=>some (.bl b)
 | .int i _=>some (.int i)
 | .str x _=>some (.str x)
 | .bytes b _=>some (.byt b)
 | .float b _=>some (.flt b)
 | .ref a=>some (.ref a)
 | .type n=>some (.ty n)
 | _=>none
theorem RelV.abs{x:V}{u:Value}(r:RelV x u):jeZ u=some x:=by
 cases x with
 | non=>cases r;rfl
 | bl _=>cases r;rfl
 | int _=>obtain⟨t,rfl⟩:=r;rfl
 | str _=>obtain⟨t,rfl⟩:=r;rfl
 | byt _=>obtain⟨t,rfl⟩:=r;rfl
 | flt _=>obtain⟨t,rfl⟩:=r;rfl
 | ref _=>cases r;rfl
 | ty _=>cases r;rfl
theorem RelV.inj{x y:V}{u:Value}(r:RelV x u)(q:RelV y u):x=y:=X3 (r.abs.symm.trans q.abs)
theorem Vals.inj:∀{xs ys:List V}{us:List Value},Vals xs us->Vals ys us->xs=ys
 | _,_,_,.nil,.nil=>rfl
 | _,_,_,.cons r t,.cons a b=>by rw[r.inj a,Vals.inj t b]
section
variable {X:Cx}{pins:List (Addr×Obj)}{σ:St}{H:Hp}{s:Shared}{a:Addr}{xs ys:List V}
theorem SqL.of{K:PySem.W.Frag}(h:H a=some (.lst xs)):SqL K H a xs:=.inl (.inl h)
theorem Inv.list(I:Inv X pins σ H s)(h:SqL X.K H a xs):∃ its:List Value,Vals xs its/\PlainL s.heap a its.toArray/\xs.length<=sizeLine:=by
 rcases h with h | ⟨o,its,n,b,c,hd,d,f,r⟩
 ·obtain⟨z,its,n,r,e⟩:=h.ok I.hok;exact⟨its,r,⟨_,n,e,rfl,rfl,rfl⟩,z⟩
 ·refine⟨its.toList,r,⟨o,n,I.kIn a o b,c,hd,by simpa using d⟩,?_⟩;have e:=r.length;simp only[Array.length_toList] at e;omega
theorem Inv.tuple(I:Inv X pins σ H s)(h:SqT X.K H a xs):∃ its:List Value,Vals xs its/\IsTup s.heap a its.toArray/\xs.length<=sizeLine:=by
 rcases h with h | ⟨o,its,n,b,c,d,f,r⟩
 ·obtain⟨z,its,r,p⟩:=h.ok I.hok;exact⟨its,r,p.1,z⟩
 ·refine⟨its.toList,r,⟨o,I.kIn a o b,c,n,by simpa using d⟩,?_⟩;have e:=r.length;simp only[Array.length_toList] at e;omega
theorem Inv.list_inj(I:Inv X pins σ H s)(h:SqL X.K H a xs)(h':SqL X.K H a ys):xs=ys:=by
 obtain⟨c,r,⟨o,n,e,_,_,d⟩,_⟩:=I.list h;obtain⟨b,i,⟨j,k,f,_,_,g⟩,_⟩:=I.list h';rw[e] at f;cases f;rw[d] at g;injection g with d1 _;have:c=b:=by simpa using congrArg Array.toList d1
 subst this;exact r.inj i
theorem Inv.tuple_inj(I:Inv X pins σ H s)(h:SqT X.K H a xs)(h':SqT X.K H a ys):xs=ys:=by
 obtain⟨c,r,⟨o,e,_,n,d⟩,_⟩:=I.tuple h;obtain⟨b,i,⟨j,f,_,k,g⟩,_⟩:=I.tuple h';rw[e] at f;cases f;rw[d] at g;injection g with d1 _;have:c=b:=by simpa using congrArg Array.toList d1
 subst this;exact r.inj i
end
noncomputable abbrev Cx.wish(X:Cx)(E:Value->Shared->Prop):Cx:={ X with xe:=E }
noncomputable abbrev Cx.nox(X:Cx):Cx:=X.wish λ_ _=>False
theorem Cx.Ok.wish{X:Cx}(ok:X.Ok)(E:Value->Shared->Prop):(X.wish E).Ok :=
 ⟨ok.mod,ok.kind,ok.glob,ok.blt,ok.above,ok.inj,ok.has,ok.cab,ok.hd,ok.frames,ok.stk,ok.exf,ok.bs,ok.bsz,ok.noex,ok.exfs,ok.funs,ok.frf⟩
theorem Cx.Ok.unwish{X:Cx}{E:Value->Shared->Prop}(ok:(X.wish E).Ok):X.Ok :=
 ⟨ok.mod,ok.kind,ok.glob,ok.blt,ok.above,ok.inj,ok.has,ok.cab,ok.hd,ok.frames,ok.stk,ok.exf,ok.bs,ok.bsz,ok.noex,ok.exfs,ok.funs,ok.frf⟩
section
variable {X:Cx}{pins:List (Addr×Obj)}{σ:St}{H:Hp}{s:Shared}{E:Value->Shared->Prop}
theorem Inv.wish(I:Inv X pins σ H s)(E:Value->Shared->Prop):Inv (X.wish E) pins σ H s:=⟨I.ok.wish E,I.os,I.bare,I.base,I.loc,I.cell,I.free,I.freeC,I.pin,I.hok,I.len⟩
theorem Inv.unwish(I:Inv (X.wish E) pins σ H s):Inv X pins σ H s:=⟨I.ok.unwish,I.os,I.bare,I.base,I.loc,I.cell,I.free,I.freeC,I.pin,I.hok,I.len⟩
theorem SP.unwish{D:Ends}{f:Flow}{s':Shared}(h:SP (X.wish E) pins D f s'):SP X pins D f s':=by
 cases f with
 | next=>obtain⟨a,b,I,q⟩:=h;exact⟨a,b,I.unwish,q⟩
 | brk=>obtain⟨a,b,I,q⟩:=h;exact⟨a,b,I.unwish,q⟩
 | cont=>obtain⟨a,b,I,q⟩:=h;exact⟨a,b,I.unwish,q⟩
 | ret u=>obtain⟨v,a,b,I,r,q⟩:=h;exact⟨v,a,b,I.unwish,r,q⟩
theorem PSs.nox{st:List Stmt}{t:TS}(h:PSs X.nox st t):PSs X st t:=λa s σ H D I b =>
 wpAny_mono (h a s σ H D (I.wish _) b) (λ_ _ q=>q.unwish) λ_ _ z=>False.elim z
end
section
variable {X:Cx}{st:Stmt}{rest:List Stmt}{t u:TS}{e:Expr}{te:TE}{pos:Pos}
noncomputable def jbh:TS:=λD σ H=>D.nx σ H
noncomputable def jcg(t u:TS):TS:=λD σ H=>t { D with nx:=u D } σ H
theorem jbc:PSs X [] jbh:=λ_ _ σ H _ I h=>wpAny_execs_nil ⟨σ,H,I,h⟩
theorem Kr(h1:PS X st t)(h2:PSs X rest u):PSs X (st::rest) (jcg t u):=by
 intro a s σ H D I h;refine wpAny_execs_cons (thn (h1 a s σ H { D with nx:=u D } I h) λf b q=>?_);cases f with
 | next =>
  obtain⟨c,d,e,q⟩:=q;exact h2 a b c d D e q
 | ret v=>exact q
 | brk=>exact q
 | cont=>exact q
theorem ja2(h1:PS X st t):PSs X [st] t:=by
 intro a s σ H D I h;refine wpAny_execs_cons (thn (h1 a s σ H D I h) λf b q=>?_);cases f with
 | next=>exact wpAny_execs_nil q
 | ret v=>exact q
 | brk=>exact q
 | cont=>exact q
theorem Inv.quiet{pins:List (Addr×Obj)}{σ:St}{H:Hp}{s:Shared}(I:Inv X pins σ H s):interactive X.env=false:=by simp[interactive,I.ok.kind]
noncomputable def qP(te:TE):TS:=λD σ H=>te σ H λ_ H1=>D.nx σ H1
theorem qR(b:PE X e te)(c:swapsWith e none pos.line X.env=pure false:=by rfl):PS X (.Expr e pos) (qP te):=by
 intro a s σ H D I h;exact wpAny_Expr_any (thn (b a s σ H _ I h) λv i ⟨x,d,f,j,g⟩=>⟨σ,d,f,g⟩) I.quiet c
noncomputable def jd5(te:TE):TS:=λD σ H=>te σ H D.rt
theorem jds(b:PE X e te):PS X (.Return (some e) pos) (jd5 te):=by
 intro a s σ H D I h;exact wpAny_Return_some (thn (b a s σ H _ I h) λv i ⟨x,c,d,f,g⟩=>⟨x,σ,c,d,f,g⟩)
noncomputable def jey(c:TT)(t u:TS):TS:=λD σ H=>c σ H λb H1=>if b=true then t D σ H1 else u D σ H1
theorem jee{c:Expr}{a b:List Stmt}{tc:TT}(k:PT X c tc)(l:PSs X a t)(m:PSs X b u):PS X (.If c a b pos) (jey tc t u):=by
 intro e s σ H D I h;refine wpAny_If (thn (k e s σ H _ I h) λd f ⟨g,i,j⟩=>?_);cases d with
 | true=>exact l e f σ g D i j
 | false=>exact m e f σ g D i j
end
noncomputable abbrev TG:=V->St->Hp->(St->Hp->Prop)->Prop
noncomputable abbrev TGs:=List V->St->Hp->(St->Hp->Prop)->Prop
def PG(X:Cx)(target:Expr)(t:TG):Prop :=
 ∀(pins:List (Addr×Obj)) (s:Shared) (σ:St) (H:Hp) (v:V) (u:Value) (Q:St->Hp->Prop),Inv X pins σ H s->RelV v u->t v σ H Q ->
  wpAny (model X.prog X.w) X.A (assign target X.env u) (λ_ s'=>∃ σ' H',Inv X pins σ' H' s'/\Q σ' H') X.xe s
def PGs(X:Cx)(ts:List Expr)(t:TGs):Prop :=
 ∀(pins:List (Addr×Obj)) (s:Shared) (σ:St) (H:Hp) (vs:List V) (us:List Value) (Q:St->Hp->Prop),Inv X pins σ H s->Vals vs us->t vs σ H Q ->
  wpAny (model X.prog X.w) X.A (assignInOrder ((assignEach ts X.env).map (·.2)) us) (λ_ s'=>∃ σ' H',Inv X pins σ' H' s'/\Q σ' H') X.xe s
noncomputable abbrev TIp:=V->V->Hp->VK->Prop
def PIp(X:Cx)(op:Operator)(t:TIp):Prop :=
 ∀(pins:List (Addr×Obj)) (s:Shared) (σ:St) (H:Hp) (x y:V) (v u:Value) (Q:VK),Inv X pins σ H s->RelV x v->RelV y u->t x y H Q ->
  wpAny (model X.prog X.w) X.A (inplaceOp op v u) (EP X pins σ Q) X.xe s
section
variable {X:Cx}{pos:Pos}
noncomputable def qC(i:Nat):TG:=λv σ H Q=>Q (σ.set i (some v)) H
theorem jaM{i:Nat}{x:Str}(b:X.N.Nodup)(hi:X.N[i]?=some x)(c:Loc X.env.scope x)(d:X.fn x=true \/ X.env.scope.names.lookup x=some .local:=by first | exact .inl rfl | exact .inr rfl | assumption):PG X (.Name x pos) (qC i):=by
 intro a s σ H v u Q I r h;exact wpAny_assign_Name (qx I b hi c r (λf e=>⟨_,H,e,h⟩) d)
noncomputable def jez:TGs:=λvs σ H Q=>vs=[]/\Q σ H
noncomputable def uY(t:TG)(u:TGs):TGs:=λvs σ H Q=>∃ v r,vs=v::r/\t v σ H λσ' H'=>u r σ' H' Q
theorem u3:PGs X [] jez:=by
 intro a s σ H b c Q I r h;obtain⟨e,h⟩:=h;subst e;cases r;exact assignInOrder_nil ⟨σ,H,I,h⟩
theorem w8{e:Expr}{es:List Expr}{t:TG}{u:TGs}(h1:PG X e t)(h2:PGs X es u)
  (b:(assignEach (e::es) X.env).map (·.2)=assign e X.env::(assignEach es X.env).map (·.2):=by rfl):PGs X (e::es) (uY t u):=by
 intro a s σ H l m Q I r h;obtain⟨v,n,c,h⟩:=h;subst c;cases r with
 | cons r d =>
  rw[b];refine assignInOrder_cons (thn (h1 a s σ H _ _ _ I r h) λ_ f ⟨g,i,j,k⟩=>?_);exact h2 a f g i _ _ Q j d k
noncomputable def jeq(K:PySem.W.Frag)(n:Nat)(t:TGs):TG:=λv σ H Q=>∃ a xs,v=.ref a/\SqT K H a xs/\xs.length=n/\t xs σ H Q
theorem jcB{es:List Expr}{k:Nat}{t:TGs}{n:Nat}(i:X.calm=true)(h:PGs X es t)
  (hn:(assignEach es X.env).length=n:=by rfl) (d:(assignEach es X.env).findIdx? (·.1)=none:=by rfl):PG X (.Tuple es k pos) (jeq X.K n t):=by
 intro c s σ H v u Q I r f;obtain⟨a,j,l,m,p,f⟩:=f;subst l;cases r;obtain⟨q,g,w,A⟩:=I.tuple m;refine assign_Tuple_tuple (I.ok.hd i) w (by simp[hn,<- p,g.length]) d λx y=>?_;have z:Inv X c σ H { s with heap:=x }:=I.kept (t':=s.toks) λb o e=>y b o (N6 (N1 e)) e;exact h c _ σ H j _ Q z (by simpa using g) f
noncomputable def uX(te:TE)(g:TG):TS:=λD σ H=>te σ H λx H1=>g x σ H1 D.nx
theorem uv{i:Nat}{x:Str}{e:Expr}{te:TE}{pos':Pos}(b:X.N.Nodup)(hi:X.N[i]?=some x)(c:Loc X.env.scope x)(d:PE X e te)(f:swapsWith e (some (.Name x pos')) pos.line X.env=pure false:=by rfl)(g:X.fn x=true \/ X.env.scope.names.lookup x=some .local:=by first | exact .inl rfl | exact .inr rfl | assumption) :
  PS X (.Assign [.Name x pos'] e pos) (uX te (qC i)):=by
 intro a s σ H D I h;refine wpAny_Assign_Name (thn (d a s σ H _ I h) λv o ⟨y,j,k,l,m⟩=>?_) f;exact qx k b hi c l (λp n=>⟨_,j,n,m⟩) g
noncomputable def jd4(i:Nat)(te:TE)(ti:TIp):TS:=λD σ H=>∃ x,σ[i]?=some (some x)/\te σ H λy H1=>ti x y H1 λz H2=>D.nx (σ.set i (some z)) H2
theorem jdf{i:Nat}{x:Str}{e:Expr}{te:TE}{f:Operator}{n:TIp}{pos':Pos}(o:X.N.Nodup)(hi:X.N[i]?=some x)(g:Loc X.env.scope x)(p:PE X e te)(q:PIp X f n)(t:X.fn x=true \/ X.env.scope.names.lookup x=some .local:=by first | exact .inl rfl | exact .inr rfl | assumption) :
  PS X (.AugAssign (.Name x pos') f e pos) (jd4 i te n):=by
 intro a s σ H D I h;obtain⟨v,B,h⟩:=h;obtain⟨m,C,E⟩:=I.loc;have j:Vis X.env.scope x:=by rcases g with k | k;exact .inl k;exact .inr (.inl k)
 obtain⟨u,r,l⟩:=E i x v hi B j;refine wpAny_AugAssign_Name ?_;have go:wpAny (model X.prog X.w) X.A (eval e X.env) (λw F=>wpAny (model X.prog X.w) X.A (inplaceOp f u w) (λr G=>wpAny (model X.prog X.w) X.A (storeName X.env x r) (λ_=>SP X a D .next) X.xe G) X.xe F) X.xe s:=by
  refine thn (p a s σ H _ I h) λw J ⟨y,K,L,M,O⟩=>?_;refine thn (q a J σ K v y u w _ L r M O) λz W ⟨Y,P,Q,R,S⟩=>?_;exact qx Q o hi g R (λZ T=>⟨_,P,T,S⟩) t
 rcases l with⟨b,U⟩ | ⟨b,c,V,d⟩
 ·exact wpAny_loadName_local I.ok.kind b C U go
 ·rcases b with b | b
  ·exact wpAny_loadName_cell I.ok.kind b V d go
  ·rcases g with k | k
   ·have:X.env.scope.names.lookup x=some .free:=b;rw[k] at this;cases this
   ·have:X.env.scope.names.lookup x=some .free:=b;rw[k] at this;cases this
noncomputable def ipI(f:Int->Int->Int):TIp:=λx y H Q=>∃ i j,x=.int i/\y=.int j/\Q (.int (f i j)) H
theorem jb7:PIp X .Add (ipI λi j=>i+j):=by
 intro a s σ H x y v u Q I b c h;obtain⟨i,j,d,e,q⟩:=h;subst d;subst e;obtain⟨t,rfl⟩:=b;obtain⟨f,rfl⟩:=c;exact iadd_int ⟨.int _,H,I.tok _,⟨_,rfl⟩,q⟩
end
section
variable {X:Cx}{pos:Pos}
noncomputable def zk(c:TT)(tb:TS):TS:=λD σ H=>∃ W:Nat->St->Hp->Prop,(∃ m,W m σ H)/\∀ m σ H,W m σ H ->
 c σ H λb H1=>if b=true then ∃ N:St->Hp->Prop,(∀ σ' H',N σ' H'->∃ m',m' < m/\W m' σ' H')/\tb { D with nx:=N,ct:=N,bk:=D.nx } σ H1 else D.nx σ H1
theorem wC{c:Expr}{body:List Stmt}{tc:TT}{tb:TS}(r:PassesOwn (model X.prog X.w) X.A X.env X.xe)(C:PT X c tc)(E:PSs X body tb):PS X (.While c body [] pos) (zk tc tb):=by
 intro a s σ H D I h;obtain⟨W,⟨F,G⟩,d⟩:=h;refine wpAny_While (codeAny_whileLoop (λn J=>∃ t u,Inv X a t u J/\W n t u) ?_ F ⟨σ,H,I,G⟩);rintro n K ⟨i,x,L,M⟩;refine wpAny_passesOwn r (thn (C a K i x _ L (d n i x M)) λb O ⟨y,z,j⟩=>?_);cases b with
 | true =>
  obtain⟨N,B,j⟩:=j;rw[if_pos rfl];refine wpAny_passesOwn r (thn (E a O i y _ z j) λf P k=>?_);cases f with
  | next =>
   obtain⟨e,g,l,m⟩:=k;obtain⟨o,p,q⟩:=B e g m;exact⟨o,p,e,g,l,q⟩
  | cont =>
   obtain⟨e,g,l,m⟩:=k;obtain⟨o,p,q⟩:=B e g m;exact⟨o,p,e,g,l,q⟩
  | brk=>exact k
  | ret v=>exact k
 | false =>
  rw[if_neg M3];exact wpAny_execs_nil ⟨i,y,z,j⟩
end
structure It where
 go:Nat->Hp->Prop
 yld:Nat->Hp->V->Hp->Prop
 stop:Nat->Hp->Prop
def Y8(X:Cx)(pins:List (Addr×Obj))(H:Hp)(b:Addr):Prop :=
 H b=none/\b≠X.env.locals/\b∉X.fs/\(b∈X.ex \/ X.s₀.heap.objs.size<=b)/\(∀ x c,X.env.cells.lookup x=some c->c≠b)/\∀ p∈X.pn++pins,p.1≠b
theorem Inv.fpOk{X:Cx}{pins:List (Addr×Obj)}{σ:St}{H H':Hp}{s:Shared}{b:Addr}(I:Inv X pins σ H s)(a:s.heap.objs.size<=b)(hn:H' b=none):Y8 X pins H' b:=by
 refine⟨hn,Nat.ne_of_gt (U4 I.lt a),I.nofs a,.inr (N7 I.sz a),λx c e z=>?_,λp d z=>?_⟩
 ·obtain⟨v,q⟩:=I.cell x c e;exact absurd (U4 q.lt (by rw[z];exact a)) (Nat.lt_irrefl _)
 ·exact absurd (U4 (N1 (I.pin p d).1) (by rw[z];exact a)) (Nat.lt_irrefl _)
structure Turn(P:Program)(w:World)(K:PySem.W.Frag)(tg:Expr)(J:It)(fp:List Addr)(it:Addr)(tn:Nat->Heap->Prop):Prop where
 mem:it∈fp
 obj:∀ i h,tn i h->∀ b∈fp,∃ o,h.get? b=some o/\∀ v,o.data≠.cell v
 keep:∀ i h h',tn i h->(∀ b∈fp,∀ o,h.get? b=some o->h'.get? b=some o)->tn i h'
 item:∀(X:Cx),X.prog=P->X.w=w->X.K=K->X.calm=true->∀(i:Nat) (pins:List (Addr×Obj)) (s:Shared) (σ:St) (H:Hp) (E:Value->Shared->Prop),Inv X pins σ H s->(∀ b∈fp,Y8 X pins H b)->tn i s.heap->J.go i H ->
  wpAny (model P w) X.A (pyNext (.ref it)) (λr s1=>∃ u,r=some u /\
   wpAny (model P w) X.A (letOwnedTupleGo tg (.ref it) u) (λ_ s2=>∃ x H',Inv X pins σ H' s2/\RelV x u/\J.yld i H x H'/\tn (i+1) s2.heap/\∀ b∈fp,H' b=none) E s1) E s
 done:∀(X:Cx),X.prog=P->X.w=w->X.K=K->X.calm=true->∀(i:Nat) (pins:List (Addr×Obj)) (s:Shared) (σ:St) (H:Hp) (E:Value->Shared->Prop),Inv X pins σ H s->(∀ b∈fp,Y8 X pins H b)->tn i s.heap->J.stop i H ->
  wpAny (model P w) X.A (pyNext (.ref it)) (λr s1=>r=none/\Inv X pins σ H s1) E s
 self:∀(A:Around) (i:Nat) (s:Shared) (Q:Value->Shared->Prop) (E:Value->Shared->Prop),tn i s.heap->Q (.ref it) s->wpAny (model P w) A (pyIter (.ref it)) Q E s
noncomputable abbrev TI:=St->Hp->(It->Hp->Prop)->Prop
def PIE(X:Cx)(pins:List (Addr×Obj))(σ:St)(tg:Expr)(R:It->Hp->Prop)(itv:Value)(s2:Shared):Prop :=
 ∃(it:Addr) (fp:List Addr) (tn:Nat->Heap->Prop) (J:It) (H':Hp),itv=.ref it/\Inv X pins σ H' s2/\Turn X.prog X.w X.K tg J fp it tn/\tn 0 s2.heap/\(∀ b∈fp,Y8 X pins H' b)/\R J H'
def PI(X:Cx)(tg iter:Expr)(wi:TI):Prop :=
 ∀(pins:List (Addr×Obj)) (s:Shared) (σ:St) (H:Hp) (R:It->Hp->Prop),Inv X pins σ H s->wi σ H R ->
  wpAny (model X.prog X.w) X.A (eval iter X.env) (λv s1=>wpAny (model X.prog X.w) X.A (pyIter v) (PIE X pins σ tg R) X.xe s1) X.xe s
theorem xt{M:Model}{A:Around}{E:Value->Shared->Prop}{s:Shared}{tg:Expr}{it:Addr}{u:Value}{o:Obj}{n:String}{b:Array Value}{Q:Unit->Shared->Prop}(c:s.heap.get? it=some o)(d:o.cls=.type n)(hd:o.data=.fields b)
  (hn:["enumerate","zip","dict_itemiterator","dict_reverseitemiterator","odict_iterator","itertools.zip_longest","itertools.pairwise"].contains n=false) (a:Q () s):wpAny M A (letOwnedTupleGo tg (.ref it) u) Q E s:=by
 unfold letOwnedTupleGo;cases tg<;>first
  | exact M6 a
  | (cases u<;>first
    | exact M6 a
    | (refine L1 (wpAny_load c ?_)
       rw[d,hd];show wpAny M A (if(["enumerate","zip","dict_itemiterator","dict_reverseitemiterator","odict_iterator","itertools.zip_longest","itertools.pairwise"].contains n&&b[0]?==some (rawInt _))=true then _ else _) Q E s;rw[if_neg (by intro h;rw[hn,Bool.false_and] at h;cases h)];exact M6 a))
noncomputable def Itl(K:PySem.W.Frag)(a:Addr):It :=
 ⟨λi H=>∃ xs x,SqL K H a xs/\xs[i]?=some x,λi H x H'=>H'=H/\∀ xs,SqL K H a xs->xs[i]?=some x,λi H=>∃ xs,SqL K H a xs/\xs.length<=i⟩
noncomputable def Itt(K:PySem.W.Frag)(a:Addr):It :=
 ⟨λi H=>∃ xs x,SqT K H a xs/\xs[i]?=some x,λi H x H'=>H'=H/\∀ xs,SqT K H a xs->xs[i]?=some x,λi H=>∃ xs,SqT K H a xs/\xs.length<=i⟩
noncomputable def Itr(lo:Int)(n:Nat):It:=⟨λi _=>i < n,λi H x H'=>H'=H/\x=.int (lo+i),λi _=>n<=i⟩
theorem xG{P:Program}{w:World}{K:PySem.W.Frag}{tg:Expr}(a it:Addr):Turn P w K tg (Itl K a) [it] it (λi h=>h.IsListIter it a i) where
 mem:=by simp
 obj:=λi h f b j=>by
  have e:b=it:=by simpa using j
  subst e;obtain⟨o,e,c,d⟩:=f;exact⟨o,e,λv z=>by rw[d] at z;cases z⟩
 keep:=λi h m f k=>f.at λo e=>k it (by simp) o e
 item:=by
  intro X r t y N i g s σ H E I n f A;subst r t y;obtain⟨O,x,q,B⟩:=A;obtain⟨C,D,p,Q⟩:=I.list q;obtain⟨u,R,S⟩:=D.get B;obtain⟨F,G,T,J,L,M⟩:=n it (by simp);refine wpAny_pyNext_list_item f p.isList (x:=u) (by simpa using R) λm l U=>?_;have V:Inv X g σ H { s with heap:=m }:=I.turned (t':=s.toks) (λb o j e=>(U.2 b j).trans e) F G J L M;obtain⟨o,e,c,d⟩:=id l;exact⟨u,rfl,xt (s:={ s with heap:=m }) e c d (by decide) ⟨x,H,V,S,⟨rfl,λys Y=>by rw[I.list_inj Y q];exact B⟩,l,λb j=>(n b j).1⟩⟩
 done:=by
  intro X r t y N i g s σ H E I n f A;subst r t y;obtain⟨O,q,B⟩:=A;obtain⟨C,D,p,Q⟩:=I.list q;obtain⟨F,G,T,J,L,M⟩:=n it (by simp);have hl:=D.length;exact wpAny_pyNext_list_end (I.ok.hd N) f p.isList (by simp;omega) λm Z=>⟨rfl,I.turned (t':=s.toks) (λb o j e=>Z b o j e) F G J L M⟩
 self:=λ_ _ _ _ _ f h=>wpAny_pyIter_listiter f h
theorem Kz{P:Program}{w:World}{K:PySem.W.Frag}{tg:Expr}(a it:Addr):Turn P w K tg (Itt K a) [it] it (λi h=>h.IsTupleIter it a i) where
 mem:=by simp
 obj:=λi h f b j=>by
  have e:b=it:=by simpa using j
  subst e;obtain⟨o,e,c,d⟩:=f;exact⟨o,e,λv z=>by rw[d] at z;cases z⟩
 keep:=λi h n f k=>f.at λo e=>k it (by simp) o e
 item:=by
  intro X t y A N i g s σ H E I q f B;subst t y A;obtain⟨O,x,r,C⟩:=B;obtain⟨l,D,p,Q⟩:=I.tuple r;obtain⟨u,R,S⟩:=D.get C;obtain⟨F,G,T,J,L,M⟩:=q it (by simp);refine wpAny_pyNext_tuple_item f (show s.heap.IsTuple a l.toArray from p) (x:=u) (by simpa using R) λn m U=>?_;have V:Inv X g σ H { s with heap:=n }:=I.turned (t':=s.toks) (λb o j e=>(U.2 b j).trans e) F G J L M;obtain⟨o,e,c,d⟩:=id m;exact⟨u,rfl,xt (s:={ s with heap:=n }) e c d (by decide) ⟨x,H,V,S,⟨rfl,λys Y=>by rw[I.tuple_inj Y r];exact C⟩,m,λb j=>(q b j).1⟩⟩
 done:=by
  intro X t y A N i g s σ H E I q f B;subst t y A;obtain⟨O,r,C⟩:=B;obtain⟨l,D,p,Q⟩:=I.tuple r;obtain⟨F,G,T,J,L,M⟩:=q it (by simp);have hl:=D.length;exact wpAny_pyNext_tuple_end (I.ok.hd N) f (show s.heap.IsTuple a l.toArray from p) (by simp;omega) λn Z=>⟨rfl,I.turned (t':=s.toks) (λb o j e=>Z b o j e) F G J L M⟩
 self:=λ_ _ _ _ _ f h=>wpAny_pyIter_tupleiter f h
theorem KM{P:Program}{w:World}{K:PySem.W.Frag}{tg:Expr}(it:Addr)(lo:Int)(n:Nat):Turn P w K tg (Itr lo n) [it] it (λi h=>IsRangeIter h it (lo+(i:Nat)*1) ((n:Int) - (i:Nat)) 1) where
 mem:=by simp
 obj:=λi h a b d=>by
  have e:b=it:=by simpa using d
  subst e;exact⟨_,a,λv z=>by
   have D:Data.fields _=Data.cell v:=z;cases D⟩
 keep:=λi h g a k=>k it (by simp) _ a
 item:=by
  intro X l m p q i c s σ H E I j a r;subst l m p;obtain⟨u,x,F,y,A,B⟩:=j it (by simp);have W:=Walks.range (prog:=X.prog) (w:=X.w) (I.ok.hd q) it lo 1 n;refine W.item i s _ _ r a λv g C G f J=>?_;obtain⟨t,rfl⟩:=G;have L:Inv X c σ H { s with heap:=g,toks:=C }:=I.turned (λb o d e=>J b o (by simpa using d) e) u x y A B;refine⟨_,rfl,xt (s:={ s with heap:=g,toks:=C }) (n:="range_iterator") f rfl rfl (by decide) ⟨.int (lo+i),H,L,⟨t,?_⟩,⟨rfl,rfl⟩,f,λb d=>(j b d).1⟩⟩;rw[Int.mul_one]
 done:=by
  intro X l m p q i c s σ H E I j a r;subst l m p;obtain⟨u,x,F,y,A,B⟩:=j it (by simp);exact wpAny_pyNext_range_end (I.ok.hd q) a (by have:n<=i:=r;omega) λg M=>⟨rfl,I.turned (t':=s.toks) (λb o d e=>M b o d e) u x y A B⟩
 self:=λ_ _ _ _ _ a h=>wpAny_pyIter_rangeiter a h
section
variable {X:Cx}{tg:Expr}
theorem wb{pins:List (Addr×Obj)}{σ:St}{H:Hp}{s:Shared}{R:It->Hp->Prop}{E:Value->Shared->Prop}{lo hi:Int}{t u v:Tok}{tk:Nat}(I:Inv X pins σ H s)(h1:-(2 ^ 62)<=lo)(h2:lo < 2 ^ 62)(c:-(2 ^ 62)<=hi)(d:hi < 2 ^ 62)
  (q:R (Itr lo (hi - lo).toNat) H):wpAny (model X.prog X.w) X.A (pyIter (.ref s.heap.objs.size)) (PIE X pins σ tg R) E { s with heap:=s.heap.push { cls:=.type "range",data:=.fields #[.int lo t,.int hi u,.int 1 v] },toks:=tk }:=by
 refine wpAny_pyIter_range (IsRange.new ..) (small_one h1 h2 c d) ?_;have a:Inv X pins σ H { s with heap:=s.heap.push { cls:=.type "range",data:=.fields #[.int lo t,.int hi u,.int 1 v] },toks:=tk }:=I.kept λb o e=>L7 _ e;refine⟨(s.heap.push { cls:=.type "range",data:=.fields #[.int lo t,.int hi u,.int 1 v] }).objs.size,[(s.heap.push { cls:=.type "range",data:=.fields #[.int lo t,.int hi u,.int 1 v] }).objs.size],_,_,H,rfl,
  a.kept (t':=tk) λb o e=>L7 _ e,KM _ lo (hi - lo).toNat,?_,λb f=>?_,q⟩
 ·have g:lo+((0:Nat):Int)*1=lo:=by simp
  have h:(((hi - lo).toNat:Nat):Int) - ((0:Nat):Int)=Builtin.Range.rangeSize lo hi 1:=by rw[rangeSize_one];split<;>omega
  show IsRangeIter _ _ (lo+((0:Nat):Int)*1) ((((hi - lo).toNat:Nat):Int) - ((0:Nat):Int)) 1;rw[g,h];exact X7 _ rfl
 ·have e:b=(s.heap.push { cls:=.type "range",data:=.fields #[.int lo t,.int hi u,.int 1 v] }).objs.size:=by simpa using f
  subst e;exact a.fpOk (M8 _) (a.hok.fresh (M8 _))
noncomputable def jbt(ta:TA):TI:=λσ H R=>ta σ H λvs H1=>∃ j:Int,vs=[.int j]/\-(2 ^ 62)<=j/\j < 2 ^ 62/\R (Itr 0 j.toNat) H1
theorem zC{a:Expr}{ta:TA}{p pos:Pos}(d:Gl X "range")(f:X.mg "range" = none)(g:PA X [a] ta)(i:starEach [a] X.env=[(false,eval a X.env)]:=by rfl):PI X tg (.Call (.Name "range" p) [a] [] pos) (jbt ta):=by
 intro b s σ H R I h;refine Call_ (kK I d f boot_range (PyProof.Rows.callWith_type1 (thn (g pos b s σ H _ I h) λo u ⟨v,w,k,l,c⟩=>?_) i rfl));obtain⟨j,e,c,m,q⟩:=c;subst e;cases l with
 | cons r n =>
  cases n;obtain⟨t,rfl⟩:=r;exact call_range_1 (wb k (by omega) (by omega) c m (by simpa using q))
noncomputable def jaY(wi:TI)(g:TG)(tb:TS):TS:=λD σ H=>wi σ H λJ H1=>∃ W:Nat->Nat->St->Hp->Prop,(∃ m,W 0 m σ H1)/\∀ i m σ H,W i m σ H ->
 (J.stop i H/\D.nx σ H) \/ (J.go i H/\∃ N:St->Hp->Prop,(∀ σ' H',N σ' H'->∃ m',m' < m/\W (i+1) m' σ' H')/\∀ x H',J.yld i H x H'->g x σ H' λσ2 H2=>tb { D with nx:=N,ct:=N,bk:=D.nx } σ2 H2)
noncomputable def qe(fp:List Addr)(h:Heap):List (Addr×Obj):=fp.filterMap λb=>(h.get? b).map λo=>(b,o)
theorem yz{fp:List Addr}{h:Heap}{b:Addr}{o:Obj}(a:b∈fp)(e:h.get? b=some o):(b,o)∈qe fp h:=List.mem_filterMap.mpr ⟨b,a,by rw[e];rfl⟩
theorem xg{fp:List Addr}{h:Heap}{p:Addr×Obj}(a:p∈qe fp h):p.1∈fp/\h.get? p.1=some p.2:=by
 obtain⟨b,c,e⟩:=List.mem_filterMap.mp a;cases q:h.get? b with
 | none=>rw[q] at e;cases e
 | some o =>
  rw[q] at e;have d:(b,o)=p:=X3 e;subst d;exact⟨c,q⟩
theorem Inv.pinned{pins:List (Addr×Obj)}{σ:St}{H:Hp}{s:Shared}{fp:List Addr}(I:Inv X pins σ H s)(f:∀ b∈fp,Y8 X pins H b)(g:∀ b∈fp,∃ o,s.heap.get? b=some o/\∀ v,o.data≠.cell v):Inv X (pins++qe fp s.heap) σ H s :=
 I.pins_of λp h=>(N2.mp h).elim (λz=>I.pin p (U3 _ z)) λz=>by
  obtain⟨a,e⟩:=xg z;obtain⟨i,j,k,_⟩:=f p.1 a;obtain⟨o,c,d⟩:=g p.1 a;rw[e] at c;cases c;exact⟨e,i,j,k,d⟩
theorem Inv.unpinned{pins a:List (Addr×Obj)}{σ:St}{H:Hp}{s:Shared}(I:Inv X (pins++a) σ H s):Inv X pins σ H s:=I.pins_of λp b=>I.pin p (U3 _ (List.mem_append_left _ b))
theorem xf{iter:Expr}{body:List Stmt}{wi:TI}{g:TG}{tb:TS}{pos:Pos}(z:PassesOwn (model X.prog X.w) X.A X.env X.xe)(U:X.calm=true)(hi:PI X tg iter wi)(hg:PG X tg g)(c:PSs X body tb)
  (hs:∀ x,foldedSetIterable iter X.env x=pure x:=by intro _;rfl):PS X (.For tg iter body [] pos) (jaY wi g tb):=by
 intro a s σ H D I h;refine wpAny_For (thn (hi a s σ H _ I h) λv s1 h1=>thn h1 λitv s2 h2=>?_) hs;obtain⟨it,B,V,J,H2,e,I2,T,O,Y,W,⟨m0,w0⟩,C⟩:=h2;subst e
 -- what stays true of the iterator's objects through the loop
 have j:∀{q:Hp},(∀ b∈B,q b=none)->∀ b∈B,Y8 X a q b:=λhn b c=>⟨hn b c,(Y b c).2⟩;refine codeAny_forLoop_any (λn Z=>∃ i E q,Inv X a E q Z/\V i Z.heap/\(∀ b∈B,q b=none)/\W i n E q) ?_ m0 ⟨0,σ,H2,I2,O,λb c=>(Y b c).1,w0⟩;rintro n s3 ⟨i,F,M,I3,G,K,w3⟩;rcases C i n F M w3 with⟨stop,qn⟩ | ⟨go,N,hN,step⟩
 ·refine wpAny_passesOwn z (thn (T.done X rfl rfl rfl U i a s3 F M X.xe I3 (j K) G stop) λr s4 ⟨P,I4⟩=>?_);subst P;exact wpAny_execs_nil ⟨F,M,I4,qn⟩
 ·refine wpAny_passesOwn z (thn (T.item X rfl rfl rfl U i a s3 F M X.xe I3 (j K) G go) λr s4 ⟨u,P,h4⟩=>?_);subst P;refine wpAny_passesOwn z (thn h4 λ_ s5 ⟨x,H5,I5,r5,y5,y,Q⟩=>?_);have R:=I5.pinned (j Q) (T.obj _ _ y);refine wpAny_passesOwn z (thn (hg _ s5 F H5 x u _ R r5 (step x H5 y5)) λ_ s6 ⟨σ6,H6,I6,q6⟩=>?_);refine wpAny_passesOwn z (thn (c _ s6 σ6 H6 _ I6 q6) λf S t=>?_);have again:∀{k:St}{l:Hp},Inv X (a++qe B s5.heap) k l S->N k l->∃ m,m < n/\∃ i E q,Inv X a E q S/\V i S.heap/\(∀ b∈B,q b=none)/\W i m E q:=λ{k l} p L=>by
   obtain⟨m',hm,w7⟩:=hN k l L;refine⟨m',hm,i+1,k,l,p.unpinned,T.keep _ _ _ y λb c o e=>(p.pin (b,o) (U3 _ (U3 _ (yz c e)))).1,λb c=>?_,w7⟩;obtain⟨o,e,d⟩:=T.obj _ _ y b c;exact(p.pin (b,o) (U3 _ (U3 _ (yz c e)))).2.1
  cases f with
  | next=>obtain⟨k,l,p,L⟩:=t;exact again p L
  | cont=>obtain⟨k,l,p,L⟩:=t;exact again p L
  | brk=>obtain⟨k,l,p,t⟩:=t;exact⟨k,l,p.unpinned,t⟩
  | ret v=>obtain⟨x7,k,l,p,r7,t⟩:=t;exact⟨x7,k,l,p.unpinned,r7,t⟩
end
noncomputable abbrev R2:=V->V->Hp->VK->Prop
def OpR(X:Cx)(f:Value->Value->Sem Value)(r:R2):Prop :=
 ∀(pins:List (Addr×Obj)) (s:Shared) (σ:St) (H:Hp) (x y:V) (v u:Value) (Q:VK),Inv X pins σ H s->RelV x v->RelV y u->r x y H Q ->
  wpAny (model X.prog X.w) X.A (f v u) (EP X pins σ Q) X.xe s
def UnR(X:Cx)(f:Value->Sem Value)(r:V->Hp->VK->Prop):Prop :=
 ∀(pins:List (Addr×Obj)) (s:Shared) (σ:St) (H:Hp) (x:V) (v:Value) (Q:VK),Inv X pins σ H s->RelV x v->r x H Q ->
  wpAny (model X.prog X.w) X.A (f v) (EP X pins σ Q) X.xe s
def Yl(X:Cx)(f:Value)(r:List V->Hp->VK->Prop):Prop :=
 ∀(pins:List (Addr×Obj)) (s:Shared) (σ:St) (H:Hp) (xs:List V) (us:List Value) (Q:VK),Inv X pins σ H s->Vals xs us->r xs H Q ->
  wpAny (model X.prog X.w) X.A (call f us) (EP X pins σ Q) X.xe s
noncomputable def tOp(r:R2)(ta tb:TE):TE:=λσ H Q=>ta σ H λx H1=>tb σ H1 λy H2=>r x y H2 Q
noncomputable def tUn(r:V->Hp->VK->Prop)(ta:TE):TE:=λσ H Q=>ta σ H λx H1=>r x H1 Q
noncomputable def rI(C:Int->Int->Prop)(g:Int->Int->V):R2:=λx y H Q=>∃ i j,x=.int i/\y=.int j/\C i j/\Q (g i j) H
noncomputable def rI0(g:Int->Int->V):R2:=λx y H Q=>∃ i j,x=.int i/\y=.int j/\Q (g i j) H
def rU(g:Int->V):V->Hp->VK->Prop:=λx H Q=>∃ i,x=.int i/\Q (g i) H
section
variable {X:Cx}{a b c:Expr}{ta tb tc:TE}{pos:Pos}
theorem jea(c:PE X a ta)(d:PE X b tb){pins:List (Addr×Obj)}{s:Shared}{σ:St}{H:Hp}{R:V->V->Hp->Prop}(I:Inv X pins σ H s)
  (h:ta σ H λx H1=>tb σ H1 λy H2=>R x y H2) {Q:Value->Shared->Prop}{f:Value->Value->Sem Value}
  (e:∀ v u s2 x y H2,Inv X pins σ H2 s2->RelV x v->RelV y u->R x y H2->wpAny (model X.prog X.w) X.A (f v u) Q X.xe s2) :
  wpAny (model X.prog X.w) X.A (eval a X.env) (λv s₁=>wpAny (model X.prog X.w) X.A (eval b X.env) (λu s₂=>wpAny (model X.prog X.w) X.A (f v u) Q X.xe s₂) X.xe s₁) X.xe s:=by
 refine thn (c pins s σ H _ I h) λv g ⟨x,H1,i,j,k⟩=>?_;refine thn (d pins g σ H1 _ i k) λu s2 ⟨y,H2,l,m,n⟩=>?_;exact e v u s2 x y H2 l j m n
theorem KQ{d:Operator}{r:R2}(e:OpR X (binaryOp d) r)(f:PE X a ta)(g:PE X b tb):PE X (.BinOp a d b pos) (tOp r ta tb):=by
 intro c s σ H Q I h;exact wpAny_BinOp (jea f g I h λv u i x y j k l m q=>e c i σ j x y v u Q k l m q)
theorem jd1{c:UnaryOp}{r:V->Hp->VK->Prop}(d:UnR X (unaryOp c) r)(e:PE X a ta):PE X (.UnaryOp c a pos) (tUn r ta):=by
 intro b s σ H Q I h;exact UnaryOp_ (thn (e b s σ H _ I h) λv f ⟨x,g,i,j,k⟩=>d b f σ g x v Q i j k)
theorem opI{f:Value->Value->Sem Value}{C:Int->Int->Prop}{g:Int->Int->Int}
  (a:∀(i j:Int) (t u:Tok) (s:Shared) (Q:Value->Shared->Prop) (E:Value->Shared->Prop),C i j->Q (.int (g i j) s.toks) { s with toks:=s.toks+1 }->wpAny (model X.prog X.w) X.A (f (.int i t) (.int j u)) Q E s) :
  OpR X f (rI C λi j=>.int (g i j)):=by
 intro b s σ H x y v u Q I c d h;obtain⟨i,j,rfl,rfl,e,q⟩:=h;obtain⟨t,rfl⟩:=c;obtain⟨k,rfl⟩:=d;exact a i j t k s _ _ e ⟨.int (g i j),H,I.tok _,⟨_,rfl⟩,q⟩
theorem jeL{f:Value->Value->Sem Value}{g:Int->Int->Int}
  (a:∀(i j:Int) (t u:Tok) (s:Shared) (Q:Value->Shared->Prop) (E:Value->Shared->Prop),Q (.int (g i j) s.toks) { s with toks:=s.toks+1 }->wpAny (model X.prog X.w) X.A (f (.int i t) (.int j u)) Q E s) :
  OpR X f (rI0 λi j=>.int (g i j)):=by
 intro b s σ H x y v u Q I c d h;obtain⟨i,j,rfl,rfl,q⟩:=h;obtain⟨t,rfl⟩:=c;obtain⟨e,rfl⟩:=d;exact a i j t e s _ _ ⟨.int (g i j),H,I.tok _,⟨_,rfl⟩,q⟩
theorem jeS{f:Value->Value->Sem Value}{g:Int->Int->Bool}
  (a:∀(i j:Int) (t u:Tok) (s:Shared) (Q:Value->Shared->Prop) (E:Value->Shared->Prop),Q (.bool (g i j)) s->wpAny (model X.prog X.w) X.A (f (.int i t) (.int j u)) Q E s) :
  OpR X f (rI0 λi j=>.bl (g i j)):=by
 intro b s σ H x y v u Q I c d h;obtain⟨i,j,rfl,rfl,q⟩:=h;obtain⟨t,rfl⟩:=c;obtain⟨e,rfl⟩:=d;exact a i j t e s _ _ ⟨.bl (g i j),H,I,rfl,q⟩
def jdU(i j:Int):Prop:=0<=j/\j<=1000000/\i.natAbs < 2 ^ 64
theorem jcm:OpR X (binaryOp .Add) (rI0 λi j=>.int (i+j)):=jeL λ_ _ _ _ _ _ _ q=>add_int q
theorem jcc:OpR X (binaryOp .Sub) (rI0 λi j=>.int (i - j)):=jeL λ_ _ _ _ _ _ _ q=>sub_int q
theorem jcA:OpR X (binaryOp .Mod) (rI (λ_ j=>0 < j) λi j=>.int (i % j)):=opI λi j _ _ _ _ _ a q=>by
 have b:(0:Int) < j:=a;exact mod_int' (by omega) (by rw[Int.fmod_eq_emod_of_nonneg i (by omega)];exact q)
theorem jdg:OpR X (binaryOp .Pow) (rI jdU λi j=>.int (i ^ j.toNat)):=opI λ_ _ _ _ _ _ _ a q=>pow_int_small a.1 a.2.1 a.2.2 q
theorem unI{f:Value->Sem Value}{g:Int->Int}
  (a:∀(i:Int) (t:Tok) (s:Shared) (Q:Value->Shared->Prop) (E:Value->Shared->Prop),Q (.int (g i) s.toks) { s with toks:=s.toks+1 }->wpAny (model X.prog X.w) X.A (f (.int i t)) Q E s) :
  UnR X f (rU λi=>.int (g i)):=by
 intro b s σ H x v Q I c h;obtain⟨i,rfl,q⟩:=h;obtain⟨t,rfl⟩:=c;exact a i t s _ _ ⟨.int (g i),H,I.tok _,⟨_,rfl⟩,q⟩
theorem jcw:UnR X (unaryOp .USub) (rU λi=>.int (-i)):=unI λ_ _ _ _ _ q=>neg_int q
end
noncomputable def jeH:V->V->Bool
 | .non,.non=>true | .non,.int _=>true | .int _,.non=>true | .non,.bl _=>true | .bl _,.non=>true | .non,.str _=>true | .str _,.non=>true
 | .int _,.int _=>true | .bl _,.bl _=>true | .str _,.str _=>true | .byt _,.byt _=>true
 | .int _,.str _=>true | .str _,.int _=>true | .bl _,.str _=>true | .str _,.bl _=>true
 | _,_=>false
noncomputable def rEq:R2:=λx y H Q=>jeH x y=true/\Q (.bl (decide (x=y))) H
noncomputable def rNe:R2:=λx y H Q=>jeH x y=true/\Q (.bl (!decide (x=y))) H
theorem Vr{i j:Int}:decide (V.int i=V.int j)=(i==j):=by
 rw[Bool.eq_iff_iff];simp
theorem zA{i j:Bool}:decide (V.bl i=V.bl j)=(i==j):=by
 rw[Bool.eq_iff_iff];simp
theorem QZ{i j:Str}:decide (V.str i=V.str j)=(i==j):=by
 rw[Bool.eq_iff_iff];simp
theorem xh{i j:Array UInt8}:decide (V.byt i=V.byt j)=(i.toList==j.toList):=by
 rw[Bool.eq_iff_iff];cases i;cases j;simp
section
variable {X:Cx}{a b c:Expr}{ta tb tc:TE}{pos:Pos}
theorem jv{pins:List (Addr×Obj)}{σ:St}{H:Hp}{s:Shared}{Q:VK}{k a:Bool}(I:Inv X pins σ H s)(q:Q (.bl k) H)(e:k=a):EP X pins σ Q (.bool a) s:=by
 subst e;exact⟨.bl k,H,I,rfl,q⟩
theorem jeo:OpR X (compareOp .Eq) rEq:=by
 intro e s σ H x y v u Q I d a h;obtain⟨c,q⟩:=h;cases x with
 | non =>
  cases d;cases y with
  | non=>cases a;exact PySem.EqNone.eq_none_none (jv I q (by simp))
  | bl j=>cases a;exact PySem.EqNone.eq_none_bool (jv I q (by simp))
  | int j=>obtain⟨b,rfl⟩:=a;exact PySem.EqNone.eq_none_int (jv I q (by simp))
  | str j=>obtain⟨b,rfl⟩:=a;exact PySem.EqNone.eq_none_str (jv I q (by simp))
  | _=>exact absurd (show false=true from c) M3
 | bl i =>
  cases d;cases y with
  | non=>cases a;exact PySem.EqNone.eq_bool_none (jv I q (by simp))
  | bl j=>cases a;exact eq_bool (jv I q zA)
  | str j=>obtain⟨b,rfl⟩:=a;exact PySem.EqMixed.eq_bool_str (jv I q (by simp))
  | _=>exact absurd (show false=true from c) M3
 | int i =>
  obtain⟨t,rfl⟩:=d;cases y with
  | non=>cases a;exact PySem.EqNone.eq_int_none (jv I q (by simp))
  | int j=>obtain⟨b,rfl⟩:=a;exact eq_int (jv I q Vr)
  | str j=>obtain⟨b,rfl⟩:=a;exact PySem.EqMixed.eq_int_str (jv I q (by simp))
  | _=>exact absurd (show false=true from c) M3
 | str i =>
  obtain⟨t,rfl⟩:=d;cases y with
  | non=>cases a;exact PySem.EqNone.eq_str_none (jv I q (by simp))
  | bl j=>cases a;exact PySem.EqMixed.eq_str_bool (jv I q (by simp))
  | int j=>obtain⟨b,rfl⟩:=a;exact PySem.EqMixed.eq_str_int (jv I q (by simp))
  | str j=>obtain⟨b,rfl⟩:=a;exact eq_str (jv I q QZ)
  | _=>exact absurd (show false=true from c) M3
 | byt i =>
  obtain⟨t,rfl⟩:=d;cases y with
  | byt j=>obtain⟨b,rfl⟩:=a;exact PySem.W.eq_bytes (jv I q xh)
  | _=>exact absurd (show false=true from c) M3
 | _=>cases y<;>exact absurd (show false=true from c) M3
theorem jd7:OpR X (compareOp .NotEq) rNe:=by
 intro e s σ H x y v u Q I d a h;obtain⟨c,q⟩:=h;cases x with
 | non =>
  cases d;cases y with
  | non=>cases a;exact PySem.EqNone.ne_none_none (jv I q (by simp))
  | bl j=>cases a;exact PySem.EqNone.ne_none_bool (jv I q (by simp))
  | int j=>obtain⟨b,rfl⟩:=a;exact PySem.EqNone.ne_none_int (jv I q (by simp))
  | str j=>obtain⟨b,rfl⟩:=a;exact PySem.EqNone.ne_none_str (jv I q (by simp))
  | _=>exact absurd (show false=true from c) M3
 | bl i =>
  cases d;cases y with
  | non=>cases a;exact PySem.EqNone.ne_bool_none (jv I q (by simp))
  | bl j=>cases a;exact ne_bool (jv I q (congrArg not zA))
  | str j=>obtain⟨b,rfl⟩:=a;exact PySem.EqMixed.ne_bool_str (jv I q (by simp))
  | _=>exact absurd (show false=true from c) M3
 | int i =>
  obtain⟨t,rfl⟩:=d;cases y with
  | non=>cases a;exact PySem.EqNone.ne_int_none (jv I q (by simp))
  | int j=>obtain⟨b,rfl⟩:=a;exact ne_int (jv I q (congrArg not Vr))
  | str j=>obtain⟨b,rfl⟩:=a;exact PySem.EqMixed.ne_int_str (jv I q (by simp))
  | _=>exact absurd (show false=true from c) M3
 | str i =>
  obtain⟨t,rfl⟩:=d;cases y with
  | non=>cases a;exact PySem.EqNone.ne_str_none (jv I q (by simp))
  | bl j=>cases a;exact PySem.EqMixed.ne_str_bool (jv I q (by simp))
  | int j=>obtain⟨b,rfl⟩:=a;exact PySem.EqMixed.ne_str_int (jv I q (by simp))
  | str j=>obtain⟨b,rfl⟩:=a;exact ne_str (jv I q (congrArg not QZ))
  | _=>exact absurd (show false=true from c) M3
 | byt i =>
  obtain⟨t,rfl⟩:=d;cases y with
  | byt j=>obtain⟨b,rfl⟩:=a;exact PySem.W.ne_bytes (jv I q (congrArg not xh))
  | _=>exact absurd (show false=true from c) M3
 | _=>cases y<;>exact absurd (show false=true from c) M3
theorem jdX:OpR X (compareOp .Lt) (rI0 λi j=>.bl (decide (i < j))):=jeS λ_ _ _ _ _ _ _ q=>lt_int q
theorem jd2:OpR X (compareOp .Gt) (rI0 λi j=>.bl (decide (j < i))):=jeS λ_ _ _ _ _ _ _ q=>gt_int q
theorem xF:OpR X (compareOp .In) (λx y H Q=>∃ i j,x=.str i/\y=.str j/\Q (.bl (!(Builtin.Str.occurrences j i 0 j.length 1).isEmpty)) H):=by
 intro a s σ H x y v u Q I b c h;obtain⟨i,j,rfl,rfl,q⟩:=h;obtain⟨t,rfl⟩:=b;obtain⟨d,rfl⟩:=c;exact in_str (jv I q rfl)
theorem jbC:OpR X (compareOp .Is) (λx y H Q=>y=.non/\Q (.bl (decide (x=.non))) H):=by
 intro a s σ H x y v u Q I b c h;obtain⟨rfl,q⟩:=h;cases c;refine is_none_gen (jv I q ?_);cases x<;>first
  | (cases b;rfl)
  | (obtain⟨t,rfl⟩:=b;rfl)
theorem jaL:OpR X (compareOp .IsNot) (λx y H Q=>y=.non/\Q (.bl (!decide (x=.non))) H):=by
 intro a s σ H x y v u Q I b c h;obtain⟨rfl,q⟩:=h;cases c;refine isnot_none_gen (jv I q ?_);cases x<;>first
  | (cases b;rfl)
  | (obtain⟨t,rfl⟩:=b;rfl)
theorem YH:OpR X (compareOp .NotIn) (λx y H Q=>∃ i j,x=.str i/\y=.str j/\Q (.bl (!(!(Builtin.Str.occurrences j i 0 j.length 1).isEmpty))) H):=by
 intro a s σ H x y v u Q I b c h;obtain⟨i,j,rfl,rfl,q⟩:=h;obtain⟨t,rfl⟩:=b;obtain⟨d,rfl⟩:=c;exact notIn_str (jv I q rfl)
theorem JF(b:Expr){a:CmpOp}(h:a≠.In:=by decide)(h2:a≠.NotIn:=by decide):behindInMarks a b=false:=by
 have c:(a==CmpOp.In)=false:=by cases a<;>first | rfl | exact absurd rfl h
 have d:(a==CmpOp.NotIn)=false:=by cases a<;>first | rfl | exact absurd rfl h2
 cases b<;>simp[behindInMarks,c,d]
theorem jat{d:CmpOp}{r:R2}(e:OpR X (compareOp d) r)(f:PE X a ta)(g:PE X b tb)(i:behindInMarks d b=false):PE X (.Compare a [d] [b] pos) (tOp r ta tb):=by
 intro c s σ H Q I h;exact wpAny_Compare1 (jea f g I h λv u j x y k l m n q=>e c j σ k x y v u Q l m n q) i
noncomputable def jaV(t:TE):TT:=λσ H Q=>t σ H λx H'=>∃ k,x=.bl k/\Q k H'
theorem jal{f:CmpOp}{r:R2}(g:OpR X (compareOp f) r)(i:PE X a ta)(j:PE X b tb)(l:behindInMarks f b=false):PT X (.Compare a [f] [b] pos) (jaV (tOp r ta tb)):=by
 intro d s σ H Q I h;refine wpAny_isTrue_Compare1 (thn (i d s σ H _ I h) λv m ⟨x,n,o,p,q⟩=>thn (j d m σ n _ o q) λu t ⟨y,w,A,B,C⟩ =>
  thn (g d t σ w x y v u _ A p B C) λc J ⟨z,D,E,F,k,e,G⟩=>?_) l
 subst e;cases F;exact wpAny_truthy_bool ⟨D,E,G⟩
theorem VX:(sizeLine:Nat) < 2 ^ 63:=by rw[sizeLine_eq];decide
theorem KR:OpR X (binaryOp .Add) (λx y H Q=>∃ i j,x=.str i/\y=.str j/\i.length+j.length<=sizeLine/\Q (.str (i++j)) H):=by
 intro a s σ H x y v u Q I b c h;obtain⟨i,j,rfl,rfl,d,q⟩:=h;obtain⟨t,rfl⟩:=b;obtain⟨e,rfl⟩:=c;exact add_str (λe f=>⟨.str (i++j),H,I.tok _,⟨_,rfl⟩,q⟩) d
theorem jdj{x:V}{us:List Value}(r:Vals [x] us):∃ u,us=[u]/\RelV x u:=by
 cases r with
 | cons a b=>cases b;exact⟨_,rfl,a⟩
def jdx(K:PySem.W.Frag)(x:V)(H:Hp)(n:Nat):Prop :=
 match x with
 | .str y=>y.length<=sizeLine/\n=y.length
 | .byt y=>y.size<=sizeLine/\n=y.size
 | .ref p=>(∃ xs,SqL K H p xs/\n=xs.length) \/ ∃ xs,SqT K H p xs/\n=xs.length
 | _=>False
theorem wn:Yl X (.builtin "len") (λxs H Q=>∃ x n,xs=[x]/\jdx X.K x H n/\Q (.int n) H):=by
 intro j s σ H xs m Q I r h;obtain⟨x,n,rfl,e,q⟩:=h;obtain⟨u,rfl,c⟩:=jdj r;have o:=VX;have v:sizeLine=16777216:=sizeLine_eq;cases x with
 | str y =>
  obtain⟨t,rfl⟩:=c;obtain⟨k,b⟩:y.length<=sizeLine/\n=y.length:=e;subst b;exact len_str (by omega) ⟨.int _,H,I.tok _,⟨_,rfl⟩,q⟩
 | byt y =>
  obtain⟨t,rfl⟩:=c;obtain⟨k,b⟩:y.size<=sizeLine/\n=y.size:=e;subst b;exact PySem.W.len_bytes (by omega) ⟨.int _,H,I.tok _,⟨_,rfl⟩,q⟩
 | ref p =>
  cases c;have b:(∃ xs,SqL X.K H p xs/\n=xs.length) \/ ∃ xs,SqT X.K H p xs/\n=xs.length:=e;rcases b with⟨xs,d,b⟩ | ⟨xs,d,b⟩
  ·subst b;obtain⟨f,g,i,l⟩:=I.list d;have a:=g.length;exact Calls.call_len_list i.isList (by simp only[N3];omega) ⟨.int xs.length,H,I.tok _,⟨_,by simp only[N3];rw[a]⟩,q⟩
  ·subst b;obtain⟨f,g,i,l⟩:=I.tuple d;have a:=g.length;exact len_tuple i (by simp only[N3];omega) ⟨.int xs.length,H,I.tok _,⟨_,by simp only[N3];rw[a]⟩,q⟩
 | _=>exact(show False from e).elim
end
structure ObjM(h:Heap)(x dx C:Addr)(mA:Str->Option Value):Prop where
 obj:h.get? x=some (PySem.W.instObj C dx)
 ns:h.Ns1 dx mA
 ne:dx≠x
theorem RelO.some_of{v:V}{o:Option Value}(r:RelO (some v) o):∃ u,o=some u/\RelV v u:=by
 cases o with
 | none=>exact(show False from r).elim
 | some u=>exact⟨u,rfl,r⟩
structure Cls(K:PySem.W.Frag)(C:Addr):Prop where
 pg:PySem.W.plainGet K C Str.empty=true
 hd:PySem.W.hasDictIn K C=true
 po:PySem.W.plainOver K C=true
 sa:PySem.W.findIn K (.ref C) "__setattr__" = some (some (.builtin "object.__setattr__"))
structure Con(K:PySem.W.Frag)(C:Addr)(f:Str)(v:V)(u:Value):Prop where
 at_:PySem.W.findIn K (.ref C) f=some (some u)
 rel:RelV v u
 get:PySem.W.specialIn K u "__get__" = some none
 cp:PySem.W.copiedNames.contains f=false
structure Meth(K:PySem.W.Frag)(C:Addr)(m:Str)(f:Addr):Prop where
 at_:PySem.W.findIn K (.ref C) m=some (some (.ref f))
 fn:PySem.W.isFn K (.ref f)=true
 kp:PySem.W.keepIn K (.ref f)=true
section
variable {X:Cx}{pins:List (Addr×Obj)}{σ:St}{H:Hp}{s:Shared}{A:Around}{E:Value->Shared->Prop}{Q:Value->Shared->Prop}{c:Value}{b:Bool}
inductive TyOf (K:PySem.W.Frag) (H:Hp):V->Value->Prop where
 | non:TyOf K H .non (.type "NoneType")
 | bl (x:Bool):TyOf K H (.bl x) (.type "bool")
 | int (i:Int):TyOf K H (.int i) (.type "int")
 | str (x:Str):TyOf K H (.str x) (.type "str")
 | flt (x:UInt64):TyOf K H (.flt x) (.type "float")
 | lst {a:Addr}{xs:List V}(e:H a=some (.lst xs)):TyOf K H (.ref a) (.type "list")
 | frz {a:Addr}{o:Obj}{xs:List V}(e:H a=some (.frz o (.lst xs))):TyOf K H (.ref a) (.type "list")
 | tup {a:Addr}{xs:List V}(e:H a=some (.tup xs)):TyOf K H (.ref a) (.type "tuple")
 | dK {a:Addr}{kvs:List (Key×V)}(e:H a=some (.dK kvs)):TyOf K H (.ref a) (.type "dict")
 | dT {a:Addr}{kvs:List (List Key×V)}(e:H a=some (.dT kvs)):TyOf K H (.ref a) (.type "dict")
 | ins {a C dx:Addr}{fs:List (Str×V)}(e:H a=some (.ins C dx fs)) (cl:Cls K C) (ha:PySem.W.findIn K (.ref C) "__class__" = some (some (.builtin "object.__class__")))
   (hn:PySem.W.specialIn K (.builtin "object.__class__") "__get__" = some (some (.builtin "getset_descriptor.__get__"))) (htk:PySem.W.takesIn K (.builtin "object.__class__")=some true)
   (hm:PySem.W.mroIn K C (.type "object")=some true):TyOf K H (.ref a) (.ref C)
end
structure Room(k:Nat)(A:Around):Prop where
 hd:A.handled=none
 dp:A.depth+3*k+5 < recursionLimit
 un:A.units+16*k+200 < cLine
theorem Room.mono{j k:Nat}{A:Around}(r:Room k A)(h:j<=k):Room j A:=⟨r.hd,by have:=r.dp;omega,by have:=r.un;omega⟩
theorem Room.deeper{k:Nat}{A:Around}(r:Room (k+1) A)(env:Env):Room k (A.deeper env) :=
 ⟨r.hd,by have:=r.dp;show A.depth+1+3*k+5 < _;omega,by have:=r.un;show A.units+3+16*k+200 < _;omega⟩
theorem Room.depth{k:Nat}{A:Around}(r:Room k A):A.depth < recursionLimit:=by have:=r.dp;omega
theorem Room.units{k:Nat}{A:Around}(r:Room k A):A.units+64 < cLine:=by have:=r.un;omega
noncomputable def Vn:TA:=λ_ H Q=>Q [] H
noncomputable def y9(ta:TE)(tr:TA):TA:=λσ H Q=>ta σ H λx H1=>tr σ H1 λxs H2=>Q (x::xs) H2
section
variable {X:Cx}{e:Expr}{es:List Expr}{te:TE}{t:TA}{pos:Pos}
theorem Jd:PA X [] Vn:=λ_ _ _ _ H Q I h=>Calls.spliced_nil ⟨[],H,I,.nil,h⟩
theorem vo(b:PE X e te)(c:PA X es t)(d:starEach (e::es) X.env=(false,eval e X.env)::starEach es X.env:=by rfl):PA X (e::es) (y9 te t):=by
 intro pos a s σ H Q I h;rw[d];show wpAny _ _ (spliced ((false,eval e X.env)::backTo pos (starEach es X.env))) _ _ s;refine Calls.spliced_cons (thn (b a s σ H _ I h) λu f ⟨x,g,i,j,k⟩=>?_);exact thn (c pos a f σ g _ i k) λq r ⟨l,m,n,o,p⟩=>⟨x::l,m,n,.cons j o,p⟩
noncomputable def jed(t:TA):TE:=λσ H Q=>t σ H λxs H1=>xs.length<=sizeLine/\∀ p,H1 p=none->Q (.ref p) (upd H1 p (.tup xs))
noncomputable def jdW(t:TA):TE:=λσ H Q=>t σ H λxs H1=>xs.length<=sizeLine/\∀ p,H1 p=none->Q (.ref p) (upd H1 p (.lst xs))
theorem jcx{x1}(h:PA X es t):PE X (.Tuple es x1 pos) (jed t):=by
 intro a s σ H Q I g;refine wpAny_Tuple_spliced (thn (h pos a s σ H _ I g) λi c ⟨j,d,f,r,z,q⟩=>⟨by rw[<- r.length];exact z,?_⟩);have k:d c.heap.objs.size=none:=f.hok.fresh (M8 _);refine⟨.ref c.heap.objs.size,upd d c.heap.objs.size (.tup j),f.laid (t':=c.toks) (λb u e=>L7 _ e) (M8 _) ?_,rfl,q _ k⟩;exact⟨z,i,r,⟨_,X7 _ rfl,rfl,_,rfl⟩,_,X7 _ rfl,rfl⟩
theorem jbD(h:PA X es t):PE X (.List es pos) (jdW t):=by
 intro a s σ H Q I g;refine wpAny_List_spliced (thn (h pos a s σ H _ I g) λi c ⟨j,d,f,r,z,q⟩=>⟨by rw[<- r.length];exact z,?_⟩);have k:d c.heap.objs.size=none:=f.hok.fresh (M8 _);refine⟨.ref c.heap.objs.size,upd d c.heap.objs.size (.lst j),f.laid (t':=c.toks) (λb u e=>L7 _ e) (M8 _) ?_,rfl,q _ k⟩;exact⟨z,i,0,r,X7 _ rfl⟩
end
noncomputable abbrev Sp:=List V->Hp->VK->XK->Prop
noncomputable abbrev CXT:=List Env->Hp->Shared->XK->Value->Shared->Prop
structure Env0(P:Program)(w:World)(K:PySem.W.Frag)(mg:Str->Option Value)(base:Heap)(A:Around)(outer:List Env)(s:Shared)(H:Hp):Prop where
 frames:A.frames=some outer
 mod:Mod K mg base
 bs:∀ b o,base.get? b=some o->s.heap.get? b=some o/\H b=none
 bsz:base.objs.size<=s.heap.objs.size
 funs:s.heap.FunFrames base outer
 frf:∀ b∈frs outer,H b=none
 hok:HOk P w H s.heap
 bare:AllBare s.gens
def CE(outer:List Env)(P:Program)(w:World)(H:Hp)(s:Shared)(Q:VK)(u:Value)(s':Shared):Prop :=
 ∃ v H',s'.os=s.os/\AllBare s'.gens/\Un (frs outer) [] H H' s.heap s'.heap/\HOk P w H' s'.heap/\RelV v u/\Q v H'
def CR(CX:CXT)(outer:List Env)(P:Program)(w:World)(H:Hp)(s:Shared)(Q:VK)(E:XK)(r:Result)(s':Shared):Prop :=
 match r with
 | .ok (.ret u)=>CE outer P w H s Q u s'
 | .ok _=>False
 | .error e=>CX outer H s E e s'
structure FnOk(P:Program)(w:World)(K:PySem.W.Frag)(mg:Str->Option Value)(base:Heap)(CX:CXT)(k:Nat)(f:Addr)(fd:FuncData)(ps:List Str)(sp:Sp):Prop where
 len:∀ vs H Q E,sp vs H Q E->vs.length=ps.length
 run:∀(A:Around) (outer:List Env) (s:Shared) (H:Hp) (args:Args) (us:List Value) (vs:List V) (Q:VK) (E:XK),Room k A->Env0 P w K mg base A outer s H->BindsTo s fd args (ps.zip us)->Vals vs us->sp vs H Q E ->
  codeAny (model P w) A (.call (.ref f) args) (CR CX outer P w H s Q E) s
section
variable {X:Cx}{pins:List (Addr×Obj)}{σ:St}{H:Hp}{s s':Shared}
theorem Inv.env0(I:Inv X pins σ H s):Env0 X.prog X.w X.K X.mg X.base X.A X.stack s H :=
 ⟨I.ok.frames,I.ok.mod,I.bs,N7 I.ok.bsz I.sz,I.stack,I.stkFree,I.hok,I.bare⟩
theorem Inv.after{Q:VK}{u:Value}(I:Inv X pins σ H s)(h:CE X.stack X.prog X.w H s Q u s'):EP X pins σ Q u s':=by
 obtain⟨v,c,os,bare,un,hok,r,q⟩:=h;obtain⟨e,g,d,t,a⟩:=s';obtain rfl:a=s.os:=os;exact⟨v,c,I.call (h':=e) (g':=g) (d':=d) (t':=t) (ch:=[]) un hok bare (λb z=>absurd z (by simp)),r,q⟩
end
noncomputable def xb(sp:Sp)(dvs:List V)(E:XK)(t:TA):TE:=λσ H Q=>t σ H λvs H1=>sp (vs++dvs) H1 Q E
def Binds(K:PySem.W.Frag)(fd:FuncData)(ps:List Str)(ds:List Value):Prop :=
 ∀(s:Shared) (us:List Value),K.In s.heap->(us++ds).length=ps.length->BindsTo s fd ⟨us,[]⟩ (ps.zip (us++ds))
theorem Binds.all{K:PySem.W.Frag}{fd:FuncData}{ps:List Str}(h:∀ us:List Value,us.length=ps.length->bindArgs fd ⟨us,[]⟩=pure (ps.zip us)):Binds K fd ps []:=λs us _ a=>by
 rw[M9] at a ⊢;exact .of_eq (h us a)
def Qq(CX:CXT)(X:Cx)(E:XK):Prop:=∀(pins:List (Addr×Obj)) (σ:St) (H:Hp) (s:Shared) (e:Value) (s':Shared),Inv X pins σ H s->CX X.stack H s E e s'->X.xe e s'
section
variable {X:Cx}{CX:CXT}{k:Nat}{f C:Addr}{fd:FuncData}{ps:List Str}{sp:Sp}{dvs:List V}{ds:List Value}{E:XK}{x m:Str}{p pos apos:Pos}{e o:Expr}{es:List Expr}{ta:TE}{t:TA}
theorem jde{pins:List (Addr×Obj)}{σ:St}{H:Hp}{s:Shared}{Q:VK}{us:List Value}{b:List V}(F:FnOk X.prog X.w X.K X.mg X.base CX k f fd ps sp)(d:Room k X.A)(g:Binds X.K fd ps ds)(hd:Vals dvs ds)(i:Qq CX X E)
  (I:Inv X pins σ H s) (r:Vals b us) (h:sp (b++dvs) H Q E):wpAny (model X.prog X.w) X.A (call (.ref f) us) (EP X pins σ Q) X.xe s:=by
 have c:Vals (b++dvs) (us++ds):=r.append hd;have j:(us++ds).length=ps.length:=by rw[<- c.length];exact F.len _ _ _ _ h
 refine wpAny_call (codeAny_mono (F.run X.A X.stack s H ⟨us,[]⟩ (us++ds) (b++dvs) Q E d I.env0 (g s us I.kIn j) c h) λr l a=>?_);cases r with
 | error e=>exact i pins σ H s e l I a
 | ok m =>
  cases m with
  | ret u=>exact I.after a
  | next=>exact False.elim a
  | brk=>exact False.elim a
  | cont=>exact False.elim a
theorem jaA(F:FnOk X.prog X.w X.K X.mg X.base CX k f fd ps sp)(g:Room k X.A)(i:Gl X x)(j:X.mg x=some (.ref f))(l:PySem.W.keepIn X.K (.ref f)=true)(m:Binds X.K fd ps ds)(hd:Vals dvs ds)(n:Qq CX X E)
  (o:PA X (e::es) t) (b:(x==("__debug__" : Str))=false:=by decide) (u:starEach (e::es) X.env=(false,eval e X.env)::starEach es X.env:=by rfl) (c:(backTo pos (starEach es X.env)).any (·.1)=false:=by rfl) :
  PE X (.Call (.Name x p) (e::es) [] pos) (xb sp dvs E t):=by
 intro a s σ H Q I h;refine wpAny_Call_Name_kw (jan I i j ?_ b);refine PySem.W.callWith_K (h₀:=X.base) I.ok.mod.kin l (thn (o pos a s σ H _ I h) λv y ⟨z,B,d,r,q⟩=>⟨d.kIn,?_⟩) u c;exact jde F g m hd n d r q
structure Mk(K:PySem.W.Frag)(C f:Addr):Prop where
 makes:PySem.W.makesIn K C=true
 init:PySem.W.findIn K (.ref C) "__init__" = some (some (.ref f))
 fn:PySem.W.isFn K (.ref f)=true
 kp:PySem.W.keepIn K (.ref C)=true
end
def PK(X:Cx)(kws:List Keyword)(t:TA):Prop :=
 ∀(pos:Pos) (pins:List (Addr×Obj)) (s:Shared) (σ:St) (H:Hp) (Q:List V->Hp->Prop),Inv X pins σ H s->t σ H Q->wpAny (model X.prog X.w) X.A (evalAll ((backToKw pos (keywordEach kws X.env)).map (·.2))) (AP X pins σ Q) X.xe s
section
variable {X:Cx}{CX:CXT}{k:Nat}{f C:Addr}{fd:FuncData}{ps ks:List Str}{sp:Sp}{E:XK}{x m:Str}{p pos apos kpos:Pos}{e o:Expr}{es:List Expr}{kws:List Keyword}{te ta:TE}{t tk:TA}{nm:Option Str}
structure KBinds(K:PySem.W.Frag)(fd:FuncData)(ps ks:List Str)(g:List Value->List Value->List Value)(gV:List V->List V->List V):Prop where
 to:∀(s:Shared) (us ws:List Value),K.In s.heap->(g us ws).length=ps.length->BindsTo s fd ⟨us,ks.zip ws⟩ (ps.zip (g us ws))
 rel:∀{vs:List V}{us:List Value}{zs:List V}{ws:List Value},Vals vs us->Vals zs ws->Vals (gV vs zs) (g us ws)
variable {g:List Value->List Value->List Value}{gV:List V->List V->List V}
end
structure FnScope(N P:List Str)(sc:Scope):Prop where
 kind:sc.kind=.function
 co:sc.isCoroutine=false
 gen:sc.isGenerator=false
 nd:N.Nodup
 pre:N.take P.length=P
 par:∀ x∈P,sc.names.lookup x=some .local \/ sc.names.lookup x=some .cell
 nofree:∀ y∈sc.names,y.2≠.free
theorem Yx{kindOf:Str->Option NameKind}{x:Str}:∀{binds:List (Str×Value)}{m:Str->Option Value},(∀ v,(x,v)∉binds)->bindL kindOf binds m x=m x
 | [],_,_=>rfl
 | (n,v)::r,m,h=>by
  unfold bindL;rw[Yx λw a=>h w (L5 _ a)];split
  ·have:x≠n:=by rintro rfl;exact h v L6
   simp[this]
  ·rfl
theorem Y0{kindOf:Str->Option NameKind}{x:Str}:∀{binds:List (Str×Value)}{m:Str->Option Value},(∀ v,(x,v)∉binds)->bindC kindOf binds m x=m x
 | [],_,_=>rfl
 | (n,v)::r,m,h=>by
  unfold bindC;rw[Y0 λw a=>h w (L5 _ a)];split
  ·rfl
  ·have:x≠n:=by rintro rfl;exact h v L6
   simp[this]
theorem Y7{kindOf:Str->Option NameKind}{x:Str}{v:Value}:∀{P:List Str}{vs:List Value}{i:Nat}{m:Str->Option Value},P.Nodup->P[i]?=some x->vs[i]?=some v->kindOf x=some .local ->
  bindL kindOf (P.zip vs) m x=some v
 | [],_,_,_,_,h,_,_=>by simp at h
 | _::_,[],_,_,_,_,h,_=>by simp at h
 | p::P,w::vs,0,m,nd,a,b,c=>by
  simp at a b;subst a;subst b;show bindL kindOf ((p,w)::P.zip vs) m p=_;unfold bindL;rw[Yx λv d=>(List.nodup_cons.mp nd).1 (List.of_mem_zip d).1,if_pos c];simp
 | p::P,w::vs,i+1,m,nd,a,b,c=>by
  show bindL kindOf ((p,w)::P.zip vs) m x=_;unfold bindL;exact Y7 (i:=i) (List.nodup_cons.mp nd).2 (by simpa using a) (by simpa using b) c
theorem Yp{kindOf:Str->Option NameKind}{x:Str}{v:Value}:∀{P:List Str}{vs:List Value}{i:Nat}{m:Str->Option Value},P.Nodup->P[i]?=some x->vs[i]?=some v->kindOf x≠some .local ->
  bindC kindOf (P.zip vs) m x=some v
 | [],_,_,_,_,h,_,_=>by simp at h
 | _::_,[],_,_,_,_,h,_=>by simp at h
 | p::P,w::vs,0,m,nd,a,b,c=>by
  simp at a b;subst a;subst b;show bindC kindOf ((p,w)::P.zip vs) m p=_;unfold bindC;rw[Y0 λv d=>(List.nodup_cons.mp nd).1 (List.of_mem_zip d).1,if_neg c];simp
 | p::P,w::vs,i+1,m,nd,a,b,c=>by
  show bindC kindOf ((p,w)::P.zip vs) m x=_;unfold bindC;exact Yp (i:=i) (List.nodup_cons.mp nd).2 (by simpa using a) (by simpa using b) c
noncomputable def start(N:List Str)(vs:List V):St:=vs.map some++List.replicate (N.length - vs.length) none
noncomputable def jbo(CX:CXT)(P:Program)(w:World)(K:PySem.W.Frag)(mg:Str->Option Value)(base:Heap)(N:List Str)(qual:Str)(scope:Scope)(f:Addr)(cd:Value)(A:Around)(outer:List Env)(s:Shared)(H:Hp)(E:XK):Cx where
 prog:=P
 w:=w
 K:=K
 mg:=mg
 base:=base
 A:=A.deeper (envOfC qual scope s.heap.objs.size f cd)
 N:=N
 s₀:=s
 H₀:=H
 env:=envOfC qual scope s.heap.objs.size f cd
 outer:=outer
 stack:=envOfC qual scope s.heap.objs.size f cd::outer
 ex:=[]
 calm:=true
 fn:=λ_=>true
 pn:=[]
 xe:=λe s'=>wpAny (model P w) (A.deeper (envOfC qual scope s.heap.objs.size f cd)) (leaving (envOfC qual scope s.heap.objs.size f cd) e) (λ_ s''=>CX outer H s E e s'') (λe' s''=>CX outer H s E e' s'') s'
theorem Kf{a:Scope}{n:Nat}{x:Str}(h:a.names.lookup x=some .cell):∃ c,(cellsFrom n a.names []).lookup x=some c:=by
 have q:=PySem.W.cellsFrom_some a.names n [] (.inl h);exact Option.isSome_iff_exists.mp q
theorem Qr{CX:CXT}{P:Program}{w:World}{K:PySem.W.Frag}{mg:Str->Option Value}{base:Heap}{N ps:List Str}{qual:Str}{scope:Scope}{f:Addr}{cd:Value}{A:Around}{outer:List Env}{s D:Shared}{H:Hp}{E:XK}{us:List Value}{j:List V}
  (S:FnScope N ps scope) (hd:A.handled=none) (g:Env0 P w K mg base A outer s H) (M:j.length=ps.length) (r:Vals j us)
  (x:InCallC s s.heap.objs.size (bindL (envOfC qual scope s.heap.objs.size f cd).kindOf (ps.zip us) λ_=>none) (cellsFrom (s.heap.objs.size+1) scope.names []) (bindC (envOfC qual scope s.heap.objs.size f cd).kindOf (ps.zip us) λ_=>none) D) :
  Inv (jbo CX P w K mg base N qual scope f cd A outer s H E) [] (start N j) H D:=by
 have I:ps.length<=N.length:=by have:=congrArg List.length S.pre;rw[X6] at this;omega
 obtain⟨B,O,rfl,F⟩:=x.done;have l:∀ b:Addr,b∉(jbo CX P w K mg base N qual scope f cd A outer s H E).ex:=λb z=>absurd (show b∈([]:List Addr) from z) (by simp);refine⟨⟨g.mod,S.kind,rfl,rfl,M8 _,λy z c B d=>?_,λy m=>?_,λy c _ h=>?_,λ_=>hd,Around.frames_deeper g.frames,.inr ⟨rfl,rfl⟩,λb z=>absurd z (l b),g.bs,g.bsz,λb _ _=>l b,λb z=>absurd z (l b),g.funs,g.frf⟩,
  rfl,g.bare,Un.kept F,⟨_,x.toInCall.ns,λi y v B d Q=>?_⟩,λy c h=>⟨_,x.cell y c h⟩,g.hok.fresh (M8 _),λy c h=>?_,λp o=>absurd (show p∈([]:List (Addr×Obj)) from o) (by simp),g.hok.kept F,?_⟩
 ·exact name_of_addr x.apart (PySem.mem_of_lookup B) (PySem.mem_of_lookup d)
 ·have m:scope.names.lookup y=some .cell \/ scope.names.lookup y=some .free:=m;rcases m with m | m
  ·exact Kf m
  ·exact absurd rfl (S.nofree _ (PySem.mem_of_lookup m))
 ·exact Nat.le_of_lt (x.above y c (PySem.mem_of_lookup h))
 ·have C:i < j.length:=by
   unfold start at d;by_cases C:i < j.length
   ·exact C
   ·rw[List.getElem?_append_right (by simpa using C)] at d;rw[List.getElem?_replicate] at d;split at d<;>cases d
  have J:j[i]?=some v:=by
   unfold start at d;rw[List.getElem?_append_left (by simpa using C),List.getElem?_map] at d;cases e:j[i]? with
   | none=>rw[e] at d;cases d
   | some a=>rw[e] at d;cases d;rfl
  obtain⟨u,G,L⟩:=r.get J;have o:ps[i]?=some y:=by
   rw[<- S.pre,List.getElem?_take_of_lt (by omega)];exact B
  have t:ps.Nodup:=by rw[<- S.pre];exact S.nd.sublist (List.take_sublist _ _)
  refine⟨u,L,?_⟩;rcases S.par y (List.mem_of_getElem? o) with k | k
  ·exact .inl ⟨k,Y7 t o G k⟩
  ·obtain⟨c,e⟩:=Kf (n:=s.heap.objs.size+1) k;refine .inr ⟨.inl k,c,e,?_⟩;have q:=x.cell y c e;rw[Yp t o G (by show scope.names.lookup y≠_;rw[k];decide)] at q;exact q
 ·exact g.hok.fresh (Nat.le_of_lt (x.above y c (PySem.mem_of_lookup h)))
 ·unfold start;show _=N.length;rw[N4,L0,List.length_replicate];omega
theorem jeG{CX:CXT}{P:Program}{w:World}{K:PySem.W.Frag}{mg:Str->Option Value}{base:Heap}{k:Nat}{f:Addr}{name qual:Str}{params:Arguments}{body:List Stmt}{scope:Scope}{F kV h pm a ct oc:Value}{an od:Option Addr}
  {p:Array (Option Value)}{N ps:List Str}{sp:Sp}(O:K.lookup f=some ⟨oc,od,.func (PySem.W.fnOf name qual params body scope F kV h pm an a ct),p⟩) (z:PySem.W.codeIn K a qual=true) (S:FnScope N ps scope)
  (len:∀ vs H Q E,sp vs H Q E->vs.length=ps.length)
  (c:∀(A:Around) (outer:List Env) (s:Shared) (H:Hp) (vs:List V) (Q:VK) (E:XK),Room k (A.deeper (envOfC qual scope s.heap.objs.size f a))->sp vs H Q E ->
   ∃ t,PSs (jbo CX P w K mg base N qual scope f a A outer s H E) body t/\t { nx:=λ_ H'=>Q .non H',rt:=Q } (start N vs) H) :
  FnOk P w K mg base CX (k+1) f (PySem.W.fnOf name qual params body scope F kV h pm an a ct) ps sp:=by
 refine⟨len,λA outer s H G R vs Q E B i T r j=>?_⟩;have U:=len _ _ _ _ j;have L:K.In s.heap:=i.mod.kin.keeps λb o e=>(i.bs b o e).1;have lim:s.heap.NoLimit:=i.mod.nolimit.keeps λb o e=>(i.bs b o e).1;have d:∀ y∈ps.zip R,scope.names.lookup y.1=some .local \/ (scope.names.lookup y.1=some .cell/\((cellsFrom (s.heap.objs.size+1) scope.names []).lookup y.1).isSome=true):=λ⟨n,v⟩ X=>by
  rcases S.par n (List.of_mem_zip X).1 with q | q
  ·exact .inl q
  ·exact .inr ⟨q,PySem.W.cellsFrom_some _ _ _ (.inl q)⟩
 refine codeAny_call_function B.depth (L _ _ O) rfl S.co S.gen rfl (PySem.W.codeRec_of L z) (T _ _ _ _ ?_);refine wpAny_newFunctionEnv_cells S.kind d λenv Y M x=>?_;subst Y;refine⟨lim.keeps x.toInCall.keep,codeAny_func ?_⟩;obtain⟨t,Z,hq⟩:=c A outer s H vs Q E (B.deeper _) j;have I:Inv (jbo CX P w K mg base N qual scope f a A outer s H E) [] (start N vs) H M:=Qr S B.hd i U r x;refine wpAny_mono (Z [] M (start N vs) H _ I hq) (λfl C g=>?_) λe C g=>g;have l:∀{m:St}{H':Hp}{v:V}{u:Value},Inv (jbo CX P w K mg base N qual scope f a A outer s H E) [] m H' C->RelV v u->Q v H'->CE outer P w H s Q u C :=
  λ{m H' v u} J D q=>⟨v,H',J.os,J.bare,J.base,J.hok,D,q⟩
 cases fl with
 | ret u =>
  obtain⟨v,m,H',J,D,q⟩:=g;exact l J D q
 | next =>
  obtain⟨m,H',J,q⟩:=g;exact l (v:=V.non) (u:=Value.none) J rfl q
 | brk =>
  obtain⟨_,_,_,q⟩:=g;exact False.elim q
 | cont =>
  obtain⟨_,_,_,q⟩:=g;exact False.elim q
section
variable {X:Cx}{x:Str}{p pos:Pos}{e:Expr}{es:List Expr}{t:TA}{id T:String}{r:List V->Hp->VK->Prop}
noncomputable def tCB(r:List V->Hp->VK->Prop)(t:TA):TE:=λσ H Q=>t σ H λvs H1=>r vs H1 Q
theorem V0(d:Yl X (.builtin id) r)(f:Gl X x)(g:X.mg x=none)(i:bootBuiltins x=some (.builtin id))(j:PA X (e::es) t)(hn:x≠"__name__":=by decide)(b:(x==("__debug__" : Str))=false:=by decide)
  (k:starEach (e::es) X.env=(false,eval e X.env)::starEach es X.env:=by rfl) (c:(backTo pos (starEach es X.env)).any (·.1)=false:=by rfl):PE X (.Call (.Name x p) (e::es) [] pos) (tCB r t):=by
 intro a s σ H Q I h;refine wpAny_Call_Name_kw (kK I f g i ?_ hn b);exact PyProof.Rows.callWith_builtin1 (thn (j pos a s σ H _ I h) λl m ⟨n,o,q,u,v⟩=>d a m σ o n l Q q u v) k c
theorem xp(d:Yl X (.type T) r)(f:Gl X x)(g:X.mg x=none)(i:bootBuiltins x=some (.type T))(j:PA X (e::es) t)(hn:x≠"__name__":=by decide)(b:(x==("__debug__" : Str))=false:=by decide)
  (k:starEach (e::es) X.env=(false,eval e X.env)::starEach es X.env:=by rfl) (c:(backTo pos (starEach es X.env)).any (·.1)=false:=by rfl):PE X (.Call (.Name x p) (e::es) [] pos) (tCB r t):=by
 intro a s σ H Q I h;refine wpAny_Call_Name_kw (kK I f g i ?_ hn b);exact PyProof.Rows.callWith_type1 (thn (j pos a s σ H _ I h) λl m ⟨n,o,q,u,v⟩=>d a m σ o n l Q q u v) k c
end
end L2
namespace HT
open PySem PyProof.Rows
section
open PySem.SeqAt
open PySem.AutoSeq1 (wpAny_loadPart')
open PySem.MeetsSeq PySem.MeetsSeq2 PySem.MeetsSeq3
end
section
variable {prog:Program}{w:World}{A:Around}{E:Value->Shared->Prop}{s:Shared}
theorem cat_tup{t b:Addr}{d a:List Value}{Q:Value->Shared->Prop}(u:IsTup s.heap t d.toArray)(v:IsTup s.heap b a.toArray)(m:d≠[])
  (h1:a=[]->Q (.ref t) s) (h2:a≠[]->Q (.ref s.heap.objs.size) { s with heap:=s.heap.push { cls:=.type "tuple",data:=.seq (d++a).toArray } })
  (hsz:d.length+a.length<=sizeLine):wpAny (model prog w) A (binaryOp .Add (.ref t) (.ref b)) Q E s:=by
 obtain⟨⟨cls,dd,data,o⟩,j,p,n,hd⟩:=id u;obtain⟨⟨q,f,l,g⟩,c,h,r,i⟩:=id v;simp only at p hd h i;subst p hd h i;have e:d.toArray++a.toArray=(d++a).toArray:=by simp
 by_cases k:a=[]
 ·exact concat_meets ⟨_,j,rfl⟩ ⟨_,c,rfl⟩ noFill_tuple_add seq_tuple_add PySem.F.slot_tuple_add PySem.F.entry_tuple_add (PySem.F.args_tuple_add_2 _ _)
   (tuple_addW1 t b d.toArray a.toArray n r dd f o g (by simpa using m) (by simp[k])) ⟨j,c,h1 k⟩
 ·refine concat_meets ⟨_,j,rfl⟩ ⟨_,c,rfl⟩ noFill_tuple_add seq_tuple_add PySem.F.slot_tuple_add PySem.F.entry_tuple_add (PySem.F.args_tuple_add_2 _ _)
   (tuple_addW2 t b d.toArray a.toArray n r dd f o g (by simpa using m) (by simpa using k) (by rw[N3,N3];exact hsz)) ⟨j,c,?_⟩
  rw[e];exact h2 k
noncomputable def sIx(n d:Nat):Option Int->Nat
 | none=>d
 | some v=>if v < 0 then(v+(n:Int)).toNat else min v.toNat n
theorem sIx_le(n d:Nat)(hd:d<=n)(o:Option Int):sIx n d o<=n:=by
 cases o with
 | none=>exact hd
 | some v =>
  show(if v < 0 then(v+(n:Int)).toNat else min v.toNat n)<=n;by_cases a:v < 0
  ·rw[if_pos a];omega
  ·rw[if_neg a];exact Nat.min_le_right _ _
theorem QU(v:Int)(n d:Nat):(if v < 0 then max (v+(n:Int)) 0 else min v (n:Int))=((sIx n d (some v):Nat):Int):=by
 show(if v < 0 then max (v+(n:Int)) 0 else min v (n:Int))=(((if v < 0 then(v+(n:Int)).toNat else min v.toNat n):Nat):Int);by_cases a:v < 0
 ·simp only[if_pos a];omega
 ·simp only[if_neg a];omega
theorem KL(lo hi:Option Int)(n:Nat):Builtin.Slice.sliceAdjust lo hi 1 (n:Int)=(((sIx n 0 lo:Nat):Int),((sIx n n hi:Nat):Int)):=by
 have a:¬ ((1:Int) < 0):=by omega
 unfold Builtin.Slice.sliceAdjust;simp only[a,if_false];refine Prod.ext ?_ ?_
 ·cases lo with
  | none=>rfl
  | some v=>exact QU v n 0
 ·cases hi with
  | none=>rfl
  | some v=>exact QU v n n
theorem KS(i j:Nat):Builtin.Slice.slicePlaces (i:Int) (j:Int) 1=j - i:=by
 unfold Builtin.Slice.slicePlaces;have a:(1:Int) > 0:=by omega
 simp only[a,if_true,Int.ediv_one];split<;>omega
theorem Jx{v:Value}{o:Option Int}{Q:Option Int->Shared->Prop}(p:IsPart v o)(h:Q o s):wpAny (model prog w) A (Builtin.Slice.slicePartIndex v) Q E s:=by
 cases p with
 | none=>exact slicePart_none h
 | int i t=>exact slicePart_int h
theorem qj{sl:Addr}{c d:Value}{lo hi:Option Int}{n:Nat}{Q:Int×Int×Nat->Shared->Prop}(e:s.heap.IsSliceOf sl c d .none)(f:IsPart c lo)(g:IsPart d hi)
  (h:Q (((sIx n 0 lo:Nat):Int),1,sIx n n hi - sIx n 0 lo) s):wpAny (model prog w) A (Builtin.Slice.sliceApplied (.ref sl) (pure (n:Int))) Q E s:=by
 obtain⟨os,a,i,b⟩:=id e;unfold Builtin.Slice.sliceApplied Builtin.Slice.sliceFields;refine L1 (L1 (wpAny_field a b (x:=c) rfl (L1 (wpAny_field a b (x:=d) rfl (L1 (wpAny_field a b (x:=.none) rfl (M6 ?_)))))));refine L1 (slicePart_none ?_);show wpAny _ _ (if((1:Int)==0)=true then _ else _) _ _ s;rw[if_neg (by decide)];refine L1 (Jx f (L1 (Jx g (L1 (M6 ?_)))));show wpAny _ _ (match Builtin.Slice.sliceAdjust lo hi 1 (n:Int) with | (lo,hi)=>pure (lo,(1:Int),Builtin.Slice.slicePlaces lo hi 1)) _ _ s;rw[KL lo hi n];show wpAny _ _ (pure (((sIx n 0 lo:Nat):Int),(1:Int),Builtin.Slice.slicePlaces ((sIx n 0 lo:Nat):Int) ((sIx n n hi:Nat):Int) 1)) _ _ s;rw[KS];exact M6 h
theorem wP(xs:Array Value)(i k:Nat):((List.range k).filterMap λ(m:Nat)=>xs[((i:Int)+(m:Int)*1).toNat]?).toArray=((xs.toList.drop i).take k).toArray:=by
 have e:(λ(m:Nat)=>xs[((i:Int)+(m:Int)*1).toNat]?)=λm=>xs[i+m]?:=by
  funext m
  have:((i:Int)+(m:Int)*1).toNat=i+m:=by omega
  rw[this]
 rw[e];have:=pick_run xs i k;rw[List.filterMap_map] at this;have a:((λx=>xs[x]?) ∘ λx=>i+x)=λm=>xs[i+m]?:=rfl;rw[a] at this;rw[this]
theorem getItem_tuple_cut{t sl:Addr}{items:Array Value}{g i:Value}{lo hi:Option Int}{Q:Value->Shared->Prop}(b:IsTup s.heap t items)(j:s.heap.IsSliceOf sl g i .none)(k:IsPart g lo)(l:IsPart i hi)
  (n:¬ (sIx items.size 0 lo=0/\sIx items.size items.size hi=items.size))
  (h:Q (.ref s.heap.objs.size) { s with heap:=s.heap.push { cls:=.type "tuple",data:=.seq ((items.toList.drop (sIx items.size 0 lo)).take (sIx items.size items.size hi - sIx items.size 0 lo)).toArray } })
  (hsz:items.size<=sizeLine):wpAny (model prog w) A (getItem (.ref t) (.ref sl)) Q E s:=by
 have a:sizeOk (.seq ((items.toList.drop (sIx items.size 0 lo)).take (sIx items.size items.size hi - sIx items.size 0 lo)).toArray):=by
  show((items.toList.drop (sIx items.size 0 lo)).take (sIx items.size items.size hi - sIx items.size 0 lo)).toArray.size<=sizeLine;rw[N3,X6,List.length_drop,Array.length_toList];omega
 have p:sIx items.size items.size hi<=items.size:=sIx_le _ _ (M8 _) hi;obtain⟨os,c,d,o⟩:=id j;have e:s.TypeIs (.ref sl) "slice":=⟨os,c,d⟩;unfold getItem
 try with_reducible refine wpAny_holding ?_
 first | refine L1 (M6 ?_) | skip
 refine L1 (wpAny_sequenceKey b.typeIs (by decide) ?_);refine L1 (wpAny_callSpecial?_slot (name:=Str.ofString "__getitem__") b.typeIs PyProof.Rows.slot_tuple_getitem
  (wpAny_call_entry PyProof.Rows.slot_tuple_getitem b.typeIs entry_tuple_getitem ?_ (args_tuple_getitem _ _)))
 show wpAny _ _ (Builtin.Tuple.tupleItemsOf (.ref t) >>= _) _ _ s;refine L1 (tupleItemsOf_ b ?_);refine L1 (wpAny_typeOf e ?_);rw[if_pos (by decide)];refine L1 (qj j k l ?_);have f:¬ ((((sIx items.size 0 lo:Nat):Int)==0&&(1:Int)==1&&(sIx items.size items.size hi - sIx items.size 0 lo)==items.size)=true):=by
  intro q;rw[L9,L9] at q;have r:((sIx items.size 0 lo:Nat):Int)=0:=eq_of_beq q.1.1;have u:sIx items.size items.size hi - sIx items.size 0 lo=items.size:=eq_of_beq q.2;exact n ⟨by omega,by omega⟩
 show wpAny _ _ (if(((sIx items.size 0 lo:Nat):Int)==0&&(1:Int)==1&&(sIx items.size items.size hi - sIx items.size 0 lo)==items.size)=true then _ else _) _ _ s;rw[if_neg f,wP]
 first
  | exact L1 (m:=Builtin.Tuple.tupleExact _) (wpAny_newObj_type (M6 ⟨_,rfl,M6 h⟩) a)
  | exact L1 (m:=Builtin.Tuple.tupleExact _) (wpAny_newObj_type (L1 (M6 (M6 ⟨_,rfl,M6 h⟩))) a)
  | exact L1 (L1 (m:=Builtin.Tuple.tupleExact _) (wpAny_newObj_type (M6 (M6 ⟨_,rfl,M6 h⟩)) a))
  | exact L1 (L1 (m:=Builtin.Tuple.tupleExact _) (wpAny_newObj_type (M6 ⟨_,rfl,M6 h⟩) a))
end
end HT
namespace L2
open PySem PySem.Spec PyProof.Rows
noncomputable abbrev TO:=St->Hp->(Option Int->Hp->Prop)->Prop
def PO(X:Cx)(e:Option Expr)(t:TO):Prop :=
 ∀(pins:List (Addr×Obj)) (s:Shared) (σ:St) (H:Hp) (Q:Option Int->Hp->Prop),Inv X pins σ H s->t σ H Q ->
  wpAny (model X.prog X.w) X.A (evalPart e X.env) (λu s'=>∃ o H',Inv X pins σ H' s'/\IsPart u o/\Q o H') X.xe s
noncomputable def Vk:TO:=λ_ H Q=>Q none H
noncomputable def jbw(t:TE):TO:=λσ H Q=>t σ H λx H1=>∃ i,x=.int i/\Q (some i) H1
section
variable {X:Cx}{e:Expr}{te:TE}{lo hi:Option Expr}{tl th:TO}{pos p2:Pos}
theorem u6:PO X none Vk:=by
 intro a s σ H Q I h;rw[evalPart_none];exact M6 ⟨none,H,I,.none,h⟩
theorem uW(h:PE X e te):PO X (some e) (jbw te):=by
 intro a s σ H Q I b;rw[evalPart_some];refine thn (h a s σ H _ I b) λu j ⟨x,c,d,f,g⟩=>?_;obtain⟨i,rfl,q⟩:=g;obtain⟨t,rfl⟩:=f;exact⟨some i,c,d,.int i t,q⟩
def SlR(X:Cx)(r:V->Option Int->Option Int->Hp->VK->Prop):Prop :=
 ∀(pins:List (Addr×Obj)) (s:Shared) (σ:St) (H:Hp) (x:V) (v vl vu:Value) (lo hi:Option Int) (sl:Addr) (Q:VK),Inv X pins σ H s->RelV x v->s.heap.IsSliceOf sl vl vu .none->IsPart vl lo->IsPart vu hi->r x lo hi H Q ->
  ∃ T id,typeLookup (.type T) "__getitem__" = pure (some (.builtin id))/\s.TypeIs v T/\wpAny (model X.prog X.w) X.A (getItem v (.ref sl)) (EP X pins σ Q) X.xe s
theorem SlR.or{r b:V->Option Int->Option Int->Hp->VK->Prop}(h:SlR X r)(h':SlR X b):SlR X (λx lo hi H Q=>r x lo hi H Q \/ b x lo hi H Q):=by
 intro a s σ H x v c d lo hi e Q I f g i j q;rcases q with q | q
 ·exact h a s σ H x v c d lo hi e Q I f g i j q
 ·exact h' a s σ H x v c d lo hi e Q I f g i j q
noncomputable def tSl(r:V->Option Int->Option Int->Hp->VK->Prop)(te:TE)(tl th:TO):TE:=λσ H Q=>te σ H λx H1=>tl σ H1 λl H2=>th σ H2 λu H3=>r x l u H3 Q
theorem wz{r:V->Option Int->Option Int->Hp->VK->Prop}(i:SlR X r)(j:PE X e te)(k:PO X lo tl)(m:PO X hi th):PE X (.Subscript e (.Slice lo hi none p2) pos) (tSl r te tl th):=by
 intro a s σ H Q I h;refine Subscript_ (thn (j a s σ H _ I h) λv n ⟨x,o,p,t,y⟩=>?_);refine wpAny_Slice (thn (k a n σ o _ p y) λd z ⟨l,B,C,D,E⟩=>thn (m a z σ B _ C E) λf c ⟨u,g,F,G,J⟩=>?_);rw[evalPart_none];refine M6 ?_;have K:Inv X a σ g { c with heap:=c.heap.push { cls:=.type "slice",data:=.fields #[d,f,.none] } }:=F.kept (t':=c.toks) λb O q=>L7 _ q;obtain⟨T,id,L,M,N⟩:=i a { c with heap:=c.heap.push { cls:=.type "slice",data:=.fields #[d,f,.none] } } σ g x v d f l u c.heap.objs.size Q K t (Heap.IsSliceOf.new ..) D G J;show wpAny (model X.prog X.w) X.A (subscriptTail e (.Slice lo hi none p2) v (.ref c.heap.objs.size)) (EP X a σ Q) X.xe { c with heap:=c.heap.push { cls:=.type "slice",data:=.fields #[d,f,.none] } };exact tail_any (ops:=[.ref c.heap.objs.size,v]) M L N (by with_unfolding_all rfl)
noncomputable def uB(xs:List V)(lo hi:Option Int):List V:=(xs.drop (HT.sIx xs.length 0 lo)).take (HT.sIx xs.length xs.length hi - HT.sIx xs.length 0 lo)
theorem Jc(xs:List V)(lo hi:Option Int):(uB xs lo hi).length<=xs.length:=by
 unfold uB;rw[X6,List.length_drop];omega
def jeT(K:PySem.W.Frag):V->Option Int->Option Int->Hp->VK->Prop:=λx lo hi H Q=>∃ a xs,x=.ref a/\SqT K H a xs /\
 ¬ (HT.sIx xs.length 0 lo=0/\HT.sIx xs.length xs.length hi=xs.length)/\∀ p,H p=none->Q (.ref p) (upd H p (.tup (uB xs lo hi)))
theorem jcD:SlR X (jeT X.K):=by
 intro i s σ H x v w y e f z Q I l m n p h;obtain⟨a,d,rfl,t,u,q⟩:=h;cases l;obtain⟨g,r,j,k⟩:=I.tuple t;have c:g.toArray.size=d.length:=by rw[N3];exact r.length.symm
 refine⟨"tuple",_,PyProof.Rows.slot_tuple_getitem.lookup,j.typeIs,?_⟩;refine HT.getItem_tuple_cut j m n p (by rw[c];exact u) ?_ (by rw[c];exact k);rw[c];refine⟨.ref s.heap.objs.size,_,I.laid (t':=s.toks) (o:=.tup (uB d e f)) (λb A q=>L7 _ q) (M8 _) ?_,rfl,q _ (I.hok.fresh (M8 _))⟩;exact⟨N7 (Jc d e f) k,_,(r.drop (HT.sIx d.length 0 e)).take (HT.sIx d.length d.length f - HT.sIx d.length 0 e),IsTupN.new _ _⟩
noncomputable def jbZ(K:PySem.W.Frag):R2:=λx y H Q=>∃ a b xs ys,x=.ref a/\y=.ref b/\SqT K H a xs/\SqT K H b ys/\xs≠[]/\xs.length+ys.length<=sizeLine /\
 (ys=[]->Q (.ref a) H)/\(ys≠[]->∀ p,H p=none->Q (.ref p) (upd H p (.tup (xs++ys))))
theorem Vals.nil_iff{xs:List V}{us:List Value}(r:Vals xs us):us=[]↔xs=[]:=by
 cases r with
 | nil=>simp
 | cons _ _=>simp
theorem jao:OpR X (binaryOp .Add) (jbZ X.K):=by
 intro e s σ H x y v u Q I i j h;obtain⟨a,b,k,l,rfl,rfl,m,n,p,f,r,t⟩:=h;cases i;cases j;obtain⟨A,d,p1,_⟩:=I.tuple m;obtain⟨g,c,p2,_⟩:=I.tuple n;refine HT.cat_tup p1 p2 (λz=>p (d.nil_iff.mp z)) (λz=>⟨.ref a,H,I,rfl,r (c.nil_iff.mp z)⟩) (λz=>?_) (by rw[<- d.length,<- c.length];exact f);refine⟨.ref s.heap.objs.size,_,I.laid (t':=s.toks) (o:=.tup (k++l)) (λb B q=>L7 _ q) (M8 _) ?_,rfl,t (λw=>z (c.nil_iff.mpr w)) _ (I.hok.fresh (M8 _))⟩;exact⟨by rw[N4];exact f,_,d.append c,IsTupN.new _ _⟩
end
noncomputable def ixN(n:Nat)(i:Int):Option Nat:=if 0<=i then(if i < n then some i.toNat else none) else if -(n:Int)<=i then some (i+n).toNat else none
noncomputable def atI{α:Type}(xs:List α)(i:Int):Option α:=(ixN xs.length i).bind λj=>xs[j]?
theorem ja1{n:Nat}{i:Int}{j:Nat}(h:ixN n i=some j):seqIndex? i n=some j/\j < n/\-(n:Int)<=i/\i < n:=by
 unfold ixN at h;by_cases b:0<=i
 ·rw[if_pos b] at h;by_cases a:i < n
  ·rw[if_pos a] at h;have e:i.toNat=j:=X3 h;exact⟨by rw[seqIndex_of b a,e],by omega,by omega,a⟩
  ·rw[if_neg a] at h;cases h
 ·rw[if_neg b] at h;by_cases a:-(n:Int)<=i
  ·rw[if_pos a] at h;have e:(i+n).toNat=j:=X3 h;exact⟨by rw[seqIndex_neg (by omega) a,e],by omega,a,by omega⟩
  ·rw[if_neg a] at h;cases h
theorem Vq{α:Type}{xs:List α}{i:Int}{v:α}(h:atI xs i=some v):∃ j,seqIndex? i xs.length=some j/\xs[j]?=some v/\j < xs.length/\-(xs.length:Int)<=i/\i < xs.length:=by
 unfold atI at h;cases e:ixN xs.length i with
 | none=>rw[e] at h;cases h
 | some j =>
  rw[e] at h;obtain⟨a,b,c,d⟩:=ja1 e;exact⟨j,a,h,b,c,d⟩
def qZ(b:Expr):Prop:=∀ o i,subscripted b false o i=operate [o,i] (getItem o i)
def IxR(X:Cx)(r:R2):Prop :=
 ∀(value slice:Expr) (pins:List (Addr×Obj)) (s:Shared) (σ:St) (H:Hp) (x y:V) (v u:Value) (Q:VK),Inv X pins σ H s->RelV x v->RelV y u->r x y H Q ->
  subscripted slice false v u=operate [v,u] (getItem v u)->wpAny (model X.prog X.w) X.A (subscriptTail value slice v u) (EP X pins σ Q) X.xe s
def MtR(X:Cx)(id:String)(r:V->List V->Hp->VK->Prop):Prop :=
 ∀(pins:List (Addr×Obj)) (s:Shared) (σ:St) (H:Hp) (x:V) (xs:List V) (v:Value) (us:List Value) (Q:VK),Inv X pins σ H s->RelV x v->Vals xs us->r x xs H Q ->
  wpAny (model X.prog X.w) X.A (call (.builtin id) (v::us)) (EP X pins σ Q) X.xe s
section
variable {X:Cx}{a b:Expr}{ta tb:TE}{pos:Pos}
theorem IxR.or{r b:R2}(h:IxR X r)(h':IxR X b):IxR X (λx y H Q=>r x y H Q \/ b x y H Q):=by
 intro value slice a s σ H x y v u Q I c d q e;rcases q with q | q
 ·exact h value slice a s σ H x y v u Q I c d q e
 ·exact h' value slice a s σ H x y v u Q I c d q e
theorem jau{r:R2}(d:IxR X r)(e:PE X a ta)(f:PE X b tb)(g:qZ b):PE X (.Subscript a b pos) (tOp r ta tb):=by
 intro c s σ H Q I h;exact Subscript_ (jea e f I h λv u i x y j k l m q=>d a b c i σ j x y v u Q k l m q (g _ _))
noncomputable def jeP(K:PySem.W.Frag):R2:=λx y H Q=>∃ p xs i v,x=.ref p/\y=.int i/\SqL K H p xs/\atI xs i=some v/\Q v H
noncomputable def jeO(K:PySem.W.Frag):R2:=λx y H Q=>∃ p xs i v,x=.ref p/\y=.int i/\SqT K H p xs/\atI xs i=some v/\Q v H
noncomputable def jeR:R2:=λx y H Q=>∃ z i c,x=.str z/\y=.int i/\z.length<=sizeLine/\atI z.cps.toList i=some c/\Q (.str ⟨#[c]⟩) H
theorem ix_list:IxR X (jeP X.K):=by
 intro value slice a s σ H x y v u Q I n o h k;obtain⟨p,J,i,z,rfl,rfl,A,B,q⟩:=h;cases n;obtain⟨t,rfl⟩:=o;obtain⟨d,r,e,L⟩:=I.list A;obtain⟨j,c,C,M,D,E⟩:=Vq B;obtain⟨w,l,f⟩:=r.get C;have F:=r.length;have N:=VX;have b:EP X a σ Q w s:=⟨z,H,I,f,q⟩;by_cases m:0<=i
 ·have g:i.toNat=j:=by
   rw[seqIndex_of m E] at c;exact X3 c
  exact item_listR e.isList m (by omega) (by rw[g];simpa using l) b k
 ·have g:(i+(d.toArray.size:Int)).toNat=j:=by
   rw[seqIndex_neg (by omega) D] at c;rw[N3,<- F];exact X3 c
  exact subscriptTail_builtinR (x:=w) e.isList.typeIs slot_list_getitem.lookup
   (wpAny_getItem_list_neg (Q:=λr G=>r=w/\EP X a σ Q r G) e.isList (by omega) (by rw[N3]<;>omega) (by omega) (by rw[g];simpa using l) ⟨rfl,b⟩) k
theorem ix_tup:IxR X (jeO X.K):=by
 intro value slice a s σ H x y v u Q I e f h g;obtain⟨p,D,i,z,rfl,rfl,k,l,q⟩:=h;cases e;obtain⟨t,rfl⟩:=f;obtain⟨m,r,d,E⟩:=I.tuple k;obtain⟨j,n,o,F,G,J⟩:=Vq l;obtain⟨w,A,b⟩:=r.get o;have B:=r.length;have L:=VX;have c:EP X a σ Q w s:=⟨z,H,I,b,q⟩;exact subscriptTail_builtinR (x:=w) d.typeIs slot_tuple_getitem.lookup
  (getItem_tuple (j:=j) (Q:=λr C=>r=w/\EP X a σ Q r C) d (by omega) (by omega) (by rw[N3,<- B];exact n) (by simpa using A) ⟨rfl,c⟩) g
theorem jcU:IxR X jeR:=by
 intro value slice a s σ H x y v u Q I d e h f;obtain⟨z,i,c,rfl,rfl,r,g,q⟩:=h;obtain⟨t,rfl⟩:=d;obtain⟨w,rfl⟩:=e;obtain⟨j,b,k,A,l,m⟩:=Vq g;have n:z.cps.toList.length=z.length:=by simp[Str.length]
 rw[n] at b l m;have B:=VX;exact tail_any (typeIs_str s z t) slot_str_getitem.lookup (getItem_str (c:=c) (by
  have o:decide (i < -(2 ^ 63:Int))=false:=X1 (by omega);have p:decide (i ≥ 2 ^ 63)=false:=X1 (by omega);rw[o,p,Bool.or_false]) (by rw[b];simpa using k) ⟨.str ⟨#[c]⟩,H,I.tok _,⟨_,rfl⟩,q⟩) f
noncomputable def rIx(K:PySem.W.Frag):R2:=λx y H Q=>jeP K x y H Q \/ jeO K x y H Q \/ jeR x y H Q
theorem xx:IxR X (rIx X.K):=ix_list.or (ix_tup.or jcU)
theorem Yn(lo hi:Option Int)(n:Nat):(sliceBounds lo hi none n).1=((HT.sIx n 0 lo:Nat):Int)/\(sliceBounds lo hi none n).2.1=((HT.sIx n n hi:Nat):Int)/\(sliceBounds lo hi none n).2.2=1:=by
 refine⟨?_,?_,rfl⟩
 ·cases lo with
  | none=>simp[sliceBounds,HT.sIx]
  | some i =>
   simp only[sliceBounds,HT.sIx,Option.getD_none,show(1:Int) > 0 by decide,if_true];by_cases h:i < 0
   ·simp only[h,if_true]<;>omega
   ·simp only[h,if_false]<;>omega
 ·cases hi with
  | none=>simp[sliceBounds,HT.sIx]
  | some i =>
   simp only[sliceBounds,HT.sIx,Option.getD_none,show(1:Int) > 0 by decide,if_true];by_cases h:i < 0
   ·simp only[h,if_true]<;>omega
   ·simp only[h,if_false]<;>omega
theorem Yj(its:List Value)(lo hi:Option Int):slicePick its.toArray lo hi none=((its.drop (HT.sIx its.length 0 lo)).take (HT.sIx its.length its.length hi - HT.sIx its.length 0 lo)).toArray:=by
 obtain⟨a,b,c⟩:=Yn lo hi its.toArray.size;unfold slicePick;rw[a,b,c];simp only[sliceRange_one,pick_run,N3]<;>rfl
def jeK(K:PySem.W.Frag):V->Option Int->Option Int->Hp->VK->Prop:=λx lo hi H Q=>∃ a xs,x=.ref a/\SqL K H a xs/\∀ p,H p=none->Q (.ref p) (upd H p (.lst (uB xs lo hi)))
theorem jbu:SlR X (jeK X.K):=by
 intro g s σ H x v u w e f y Q I j k l m h;obtain⟨a,c,rfl,n,q⟩:=h;cases j;obtain⟨p,r,i,t⟩:=I.list n;have d:=r.length;refine⟨"list",_,slot_list_getitem.lookup,i.isList.typeIs,?_⟩;refine wpAny_getItem_list_slice i.isList k l m .none (by simp) ?_ (by rw[N3]<;>omega);rw[Yj,<- d];refine⟨.ref s.heap.objs.size,_,I.laid (t':=s.toks) (o:=.lst (uB c e f)) (λb z q=>L7 _ q) (M8 _) ?_,rfl,q _ (I.hok.fresh (M8 _))⟩;exact⟨N7 (Jc c e f) t,_,0,(r.drop (HT.sIx c.length 0 e)).take (HT.sIx c.length c.length f - HT.sIx c.length 0 e),X7 _ rfl⟩
noncomputable def Jn:V->Bool
 | .non=>true
 | .bl _=>true
 | .int _=>true
 | .str _=>true
 | _=>false
noncomputable def eqV:V->V->Bool
 | .non,.non=>true
 | .bl a,.bl b=>a==b
 | .bl a,.int b=>(if a then 1 else 0)==b
 | .int a,.bl b=>a==(if b then 1 else 0)
 | .int a,.int b=>a==b
 | .str a,.str b=>a==b
 | _,_=>false
theorem jcY{A:Around}{s:Shared}{y x:V}{u v:Value}(e:RelV y u)(c:RelV x v)(g:Jn y=true)(f:Jn x=true):SeqAt.EqAt A s u v (eqV y x):=by
 cases y with
 | non =>
  cases e;cases x with
  | non=>cases c;exact SeqAt.EqAt.same _
  | bl b=>cases c;exact SeqAt.EqAt.none_bool b
  | int b=>obtain⟨t,rfl⟩:=c;exact SeqAt.EqAt.none_int b t
  | str b=>obtain⟨t,rfl⟩:=c;exact SeqAt.EqAt.none_str b t
  | _=>exact absurd (show false=true from f) M3
 | bl a =>
  cases e;cases x with
  | non=>cases c;exact SeqAt.EqAt.bool_none a
  | bl b=>cases c;exact SeqAt.EqAt.bool_bool a b
  | int b=>obtain⟨t,rfl⟩:=c;exact SeqAt.EqAt.bool_int a b t
  | str b=>obtain⟨t,rfl⟩:=c;exact SeqAt.EqAt.bool_str a b t
  | _=>exact absurd (show false=true from f) M3
 | int a =>
  obtain⟨d,rfl⟩:=e;cases x with
  | non=>cases c;exact SeqAt.EqAt.int_none a d
  | bl b=>cases c;exact SeqAt.EqAt.int_bool a d b
  | int b=>obtain⟨t,rfl⟩:=c;exact SeqAt.EqAt.int_int a d b t
  | str b=>obtain⟨t,rfl⟩:=c;exact SeqAt.EqAt.int_str a d b t
  | _=>exact absurd (show false=true from f) M3
 | str a =>
  obtain⟨d,rfl⟩:=e;cases x with
  | non=>cases c;exact SeqAt.EqAt.str_none a d
  | bl b=>cases c;exact SeqAt.EqAt.str_bool a d b
  | int b=>obtain⟨t,rfl⟩:=c;exact SeqAt.EqAt.str_int a d b t
  | str b=>obtain⟨t,rfl⟩:=c;exact SeqAt.EqAt.str_str a d b t
  | _=>exact absurd (show false=true from f) M3
 | _=>exact absurd (show false=true from g) M3
noncomputable def eqU(x:V)(u:Value):Bool:=match u with
 | .none=>eqV .non x
 | .bool b=>eqV (.bl b) x
 | .int i _=>eqV (.int i) x
 | .str z _=>eqV (.str z) x
 | _=>false
theorem uC{x y:V}{u:Value}(r:RelV y u)(f:Jn y=true):eqU x u=eqV y x:=by
 cases y with
 | non=>cases r;rfl
 | bl b=>cases r;rfl
 | int i=>obtain⟨t,rfl⟩:=r;rfl
 | str z=>obtain⟨t,rfl⟩:=r;rfl
 | _=>exact absurd (show false=true from f) M3
theorem qU{x:V}:∀{xs:List V}{us:List Value},Vals xs us->xs.all Jn=true->us.any (eqU x)=xs.any λy=>eqV y x
 | _,_,.nil,_=>rfl
 | y::xs,u::us,.cons r t,f=>by
  rw[List.all_cons,L9] at f;rw[List.any_cons,List.any_cons,uC r f.1,qU t f.2]
theorem kC{A:Around}{s:Shared}{x:V}{v:Value}(b:RelV x v)(c:Jn x=true):∀{xs:List V}{us:List Value},Vals xs us->xs.all Jn=true->∀ u∈us,SeqAt.EqAt A s u v (eqU x u)
 | _,_,.nil,_=>λu a=>by cases a
 | y::xs,u::us,.cons r t,f=>λd a=>by
  rw[List.all_cons,L9] at f;rcases M4.mp a with rfl | a
  ·rw[uC r f.1];exact jcY r b f.1 c
  ·exact kC b c t f.2 d a
noncomputable def inV(x:V)(xs:List V):Bool:=xs.any λy=>eqV y x
noncomputable def rIn(K:PySem.W.Frag)(neg:Bool):R2:=λx y H Q=>∃ p xs,y=.ref p/\(SqL K H p xs \/ SqT K H p xs)/\Jn x=true/\xs.all Jn=true/\Q (.bl (if neg then !inV x xs else inV x xs)) H
theorem xE:OpR X (compareOp .In) (rIn X.K false):=by
 intro e s σ H x y v u Q I f i h;obtain⟨p,k,rfl,b,g,fs,q⟩:=h;cases i;rcases b with b | b
 ·obtain⟨a,r,c,j⟩:=I.list b;refine SeqAt.in_listAt (eqU x) c.isList (λw d=>kC f g r fs w (by simpa using d)) ⟨.bl _,H,I,rfl,?_⟩;rw[show a.toArray.any (eqU x)=a.any (eqU x) by simp,qU r fs];exact q
 ·obtain⟨a,r,c,j⟩:=I.tuple b;refine SeqAt.in_tupleAt (eqU x) c (λw d=>kC f g r fs w (by simpa using d)) ⟨.bl _,H,I,rfl,?_⟩;rw[show a.toArray.any (eqU x)=a.any (eqU x) by simp,qU r fs];exact q
theorem YV:OpR X (compareOp .NotIn) (rIn X.K true):=by
 intro e s σ H x y v u Q I f i h;obtain⟨p,k,rfl,b,g,fs,q⟩:=h;cases i;rcases b with b | b
 ·obtain⟨a,r,c,j⟩:=I.list b;refine SeqAt.notIn_listAt (eqU x) c.isList (λw d=>kC f g r fs w (by simpa using d)) ⟨.bl _,H,I,rfl,?_⟩;rw[show a.toArray.any (eqU x)=a.any (eqU x) by simp,qU r fs];exact q
 ·obtain⟨a,r,c,j⟩:=I.tuple b;refine SeqAt.notIn_tupleAt (eqU x) c (λw d=>kC f g r fs w (by simpa using d)) ⟨.bl _,H,I,rfl,?_⟩;rw[show a.toArray.any (eqU x)=a.any (eqU x) by simp,qU r fs];exact q
theorem YL:Yl X (.type "list") (λxs H Q=>∃ p ys,xs=[.ref p]/\(SqL X.K H p ys \/ SqT X.K H p ys)/\∀ l,H l=none->Q (.ref l) (upd H l (.lst ys))):=by
 intro g s σ H xs A Q I r h;obtain⟨p,ys,rfl,i,q⟩:=h;obtain⟨u,rfl,z⟩:=jdj r;cases z;have j:∀(a:List Value),Vals ys a->ys.length<=sizeLine->∀(c:Heap) (d:Nat),(∀ b y,s.heap.get? b=some y->c.get? b=some y) ->
   c.get? s.heap.objs.size=some { cls:=.type "list",dict:=none,data:=.seq a.toArray d,slots:=#[] }->EP X g σ Q (.ref s.heap.objs.size) { s with heap:=c }:=λa f k c d kp e =>
  ⟨.ref s.heap.objs.size,_,I.laid (t':=s.toks) kp (M8 _) (show ObjOk X.prog X.w _ c _ (.lst ys) from⟨k,a,d,f,e⟩),rfl,q _ (I.hok.fresh (M8 _))⟩
 rcases i with i | i
 ·obtain⟨a,f,t,k⟩:=I.list i;have m:=f.length;obtain⟨o,v,x,n,hd⟩:=t.isList;exact call_list_seq p (.inl rfl) v x hd (λc d kp e=>j a f k c d kp e) (by simp only[N3]<;>omega)
 ·obtain⟨a,f,t,k⟩:=I.tuple i;have m:=f.length;obtain⟨o,v,x,n,hd⟩:=t;exact call_list_seq p (.inr rfl) v x hd (λc d kp e=>j a f k c d kp e) (by simp only[N3]<;>omega)
def tyV(K:PySem.W.Frag)(T:String)(x:V)(H:Hp):Prop:=match x with
 | .str _=>T = "str"
 | .int _=>T = "int"
 | .ref p=>(T = "list"/\∃ xs,SqL K H p xs) \/ (T = "tuple"/\∃ o,K.lookup p=some o/\o.cls=.type "tuple"/\o.dict=none) \/
   (T = "dict"/\((∃ kvs,H p=some (.dK kvs)) \/ ∃ kvs,H p=some (.dT kvs))) \/ (T = "set"/\∃ S n,H p=some (.set S n))
 | _=>False
theorem ub{pins:List (Addr×Obj)}{σ:St}{H:Hp}{s:Shared}{T:String}{x:V}{v:Value}(I:Inv X pins σ H s)(r:RelV x v)(ty:tyV X.K T x H) :
  s.TypeIs v T/\∀ a,v=.ref a->∃ ob,s.heap.get? a=some ob/\ob.dict=none:=by
 cases x with
 | str z =>
  obtain⟨t,rfl⟩:=r;cases(show T = "str" from ty);exact⟨typeIs_str s z t,λ_ e=>nomatch e⟩
 | int i =>
  obtain⟨t,rfl⟩:=r;cases(show T = "int" from ty);exact⟨typeIs_int s i t,λ_ e=>nomatch e⟩
 | ref p =>
  cases r;rcases ty with⟨rfl,l,h⟩ | ⟨rfl,o,b,j,hd⟩ | ⟨rfl,b⟩ | ⟨rfl,S,n,b⟩
  ·obtain⟨k,_,g,_⟩:=I.list h;refine⟨g.isList.typeIs,λa e=>?_⟩;cases e;obtain⟨o,n,e,c,hd,_⟩:=g;exact⟨o,e,hd⟩
  ·refine⟨⟨o,I.kIn p o b,j⟩,λa e=>?_⟩;cases e;exact⟨o,I.kIn _ o b,hd⟩
  ·have z:∃ o,s.heap.get? p=some o/\o.ExactDict:=by
    rcases b with⟨d,b⟩ | ⟨d,b⟩
    ·obtain⟨_,_,_,_,o,_,_,e,ex,_⟩:=I.hok p _ b;exact⟨o,e,ex⟩
    ·obtain⟨_,_,_,_,o,_,_,e,ex,_⟩:=I.hok p _ b;exact⟨o,e,ex⟩
   obtain⟨o,e,ex⟩:=z;refine⟨⟨o,e,ex.1⟩,λa f=>?_⟩;cases f;exact⟨o,e,ex.2.1⟩
  ·obtain⟨o,_,_,_,e,ex,_⟩:=I.hok p _ b;refine⟨⟨o,e,ex.1⟩,λa f=>?_⟩;cases f;exact⟨o,e,ex.2.1⟩
 | _=>exact False.elim ty
noncomputable def jel(K:PySem.W.Frag)(T:String)(r:V->List V->Hp->VK->Prop)(to:TE):TE:=λσ H Q=>to σ H λx H1=>tyV K T x H1/\r x [] H1 Q
noncomputable def tBM(K:PySem.W.Frag)(T:String)(r:V->List V->Hp->VK->Prop)(to:TE)(t:TA):TE:=λσ H Q=>to σ H λx H1=>tyV K T x H1/\t σ H1 λxs H2=>r x xs H2 Q
variable {o e:Expr}{es:List Expr}{to:TE}{t:TA}{name:Str}{apos cpos:Pos}{T id:String}{r:V->List V->Hp->VK->Prop}
theorem jcp(pa:PlainAttrs T)(slot:Slot T name id)(d:typeOf (.builtin id)=pure (.type "method_descriptor"))(g:MtR X id r)(i:PE X o to)
  (b:attributeBase o name X.env (eval o X.env)=eval o X.env:=by rfl) (c:(apos.endLine==cpos.line)=true:=by rfl):PE X (.Call (.Attribute o name apos) [] [] cpos) (jel X.K T r to):=by
 intro a s σ H Q I h;refine wpAny_Call_method0_late b c (thn (i a s σ H _ I h) λv j ⟨x,k,e,f,ty,l⟩=>?_);obtain⟨m,n⟩:=ub e f ty;exact⟨T,id,pa,slot,d,m,n,Calls.callWith_builtin rfl (PySem.evalArgs_none (g a j σ k x [] v [] Q e f .nil l))⟩
theorem QM(pa:PlainAttrs T)(slot:Slot T name id)(g:typeOf (.builtin id)=pure (.type "method_descriptor"))(l:MtR X id r)(m:PE X o to)(n:PA X (e::es) t)
  (c:attributeBase o name X.env (eval o X.env)=eval o X.env:=by rfl)
  (f:((backTo cpos (starEach (e::es) X.env)).all (λx=>!x.1)&&(backToKw cpos (keywordEach [] X.env)).all (λx=>x.1.isSome)
   && decide ((e::es).length+([]:List Keyword).length+(if([]:List Keyword).isEmpty then 0 else 1) < 30))=true:=by rfl)
  (d:(apos.endLine==cpos.line)=true:=by rfl) (p:starEach (e::es) X.env=(false,eval e X.env)::starEach es X.env:=by rfl) (b:(backTo cpos (starEach es X.env)).any (·.1)=false:=by rfl) :
  PE X (.Call (.Attribute o name apos) (e::es) [] cpos) (tBM X.K T r to t):=by
 intro a s σ H Q I h;refine wpAny_Call_method_late c f d rfl (thn (m a s σ H _ I h) λv q ⟨x,u,i,j,ty,w⟩=>?_);obtain⟨y,z⟩:=ub i j ty;refine⟨T,id,pa,slot,g,y,z,?_⟩;have k:=n cpos a q σ u _ i w;rw[p] at k ⊢;refine Calls.callWith_builtin (by show(false||(backTo cpos (starEach es X.env)).any (·.1))=false;rw[b]<;>rfl) (Calls.evalArgs_plain ?_);exact thn k λA B ⟨C,D,E,F,G⟩=>l a B σ D x C v A Q E j F G
end
def MtM(X:Cx)(id:String)(r:V->List V->Hp->VK->Prop):Prop :=
 ∀(pins:List (Addr×Obj)) (s:Shared) (σ:St) (H:Hp) (x:V) (xs:List V) (v:Value) (us:List Value) (Q:VK),Inv X pins σ H s->RelV x v->Vals xs us->r x xs H Q ->
  wpAny (model X.prog X.w) X.A (call (.builtin id) (v::us)) (EP X pins σ Q) X.xe s
theorem Vals.one:∀{x:V}{us:List Value},Vals [x] us->∃ u,us=[u]/\RelV x u
 | _,_,.cons r .nil=>⟨_,rfl,r⟩
theorem Vals.two:∀{x y:V}{us:List Value},Vals [x,y] us->∃ u v,us=[u,v]/\RelV x u/\RelV y v
 | _,_,_,.cons r (.cons q .nil)=>⟨_,_,rfl,r,q⟩
theorem Vals.zero:∀{us:List Value},Vals [] us->us=[]
 | _,.nil=>rfl
theorem Vals.reverse{xs:List V}{us:List Value}(h:Vals xs us):Vals xs.reverse us.reverse:=by
 induction h with
 | nil=>exact .nil
 | cons r t a=>rw[List.reverse_cons,List.reverse_cons];exact Vals.append a (.cons r .nil)
section
variable {X:Cx}{pins:List (Addr×Obj)}{σ:St}{H:Hp}{s:Shared}{l b:Addr}{xs ys zs:List V}
theorem Inv.lset{its its':List Value}{n:Nat}{f:Array Value->Array Value}{t':Nat}(I:Inv X pins σ H s)(a:H l=some (.lst xs))
  (e:s.heap.get? l=some { cls:=.type "list",data:=.seq its.toArray n }) (b:f its.toArray=its'.toArray) (c:Vals ys its') (hz:ys.length<=sizeLine) :
  Inv X pins σ (upd H l (.lst ys)) { s with heap:=s.heap.update l (Obj.mapSeq f),toks:=t' }:=by
 have q:=PySem.IsL.update e f;rw[b] at q;refine I.write (x:=l) (e:=l) (by rw[a];exact trivial) (.inl rfl) (λb' u d g=>(Heap.get?_update_other s.heap (Obj.mapSeq f) (Ne.symm d)).trans g) ⟨_,q⟩ ?_;exact⟨hz,its',_,c,q⟩
theorem Inv.lnew{its:List Value}{t':Nat}(I:Inv X pins σ H s)(a:Vals ys its)(hz:ys.length<=sizeLine) :
  Inv X pins σ (upd H s.heap.objs.size (.lst ys)) { s with heap:=s.heap.push { cls:=.type "list",data:=.seq its.toArray },toks:=t' } :=
 I.laid (λ_ _ q=>L7 _ q) (M8 _) ⟨hz,its,0,a,X7 _ rfl⟩
theorem Inv.fresh(I:Inv X pins σ H s):H s.heap.objs.size=none:=I.hok.fresh (M8 _)
theorem Inv.lstM(I:Inv X pins σ H s)(a:H l=some (.lst xs)):xs.length<=sizeLine/\∃(its:List Value) (n:Nat),Vals xs its/\xs.length=its.length/\s.heap.get? l=some { cls:=.type "list",data:=.seq its.toArray n }:=by
 obtain⟨z,its,n,r,e⟩:=I.hok l _ a;exact⟨z,its,n,r,r.length,e⟩
theorem Kn{n:Nat}(h:n<=sizeLine):Builtin.List.listTooLong n=false:=by
 unfold Builtin.List.listTooLong;exact X1 (by omega)
end
section
variable {X:Cx}
def Vo:V->List V->Hp->VK->Prop:=λx vs H Q=>∃ l xs y,x=.ref l/\vs=[y]/\H l=some (.lst xs)/\xs.length < sizeLine/\Q .non (upd H l (.lst (xs++[y])))
theorem Jb:MtM X "list.append" Vo:=by
 intro b s σ H x i v j Q I d f h;obtain⟨l,k,y,rfl,rfl,c,m,q⟩:=h;cases d;obtain⟨u,rfl,g⟩:=f.one;obtain⟨z,a,n,r,o,e⟩:=I.lstM c;refine call_meets F.slot_list_append ⟨_,e,rfl⟩ F.entry_list_append (F.args_list_append_2 _ _) (PySem.list_append l a.toArray n u (by rw[N3];omega)) ⟨e,?_⟩;refine⟨.non,_,I.lset (its':=a++[u]) c e (by simp) (r.append (.cons g .nil)) ?_,rfl,q⟩;rw[N4,List.length_singleton];omega
def JQ:V->List V->Hp->VK->Prop:=λx vs H Q=>∃ l xs,x=.ref l/\vs=[]/\H l=some (.lst xs)/\Q .non (upd H l (.lst xs.reverse))
theorem KZ:MtM X "list.reverse" JQ:=by
 intro c s σ H x i v j Q I f g h;obtain⟨l,k,rfl,rfl,d,q⟩:=h;cases f;have b:=g.zero;subst b;obtain⟨z,a,n,r,m,e⟩:=I.lstM d;refine call_meets F.slot_list_reverse ⟨_,e,rfl⟩ F.entry_list_reverse (F.args_list_reverse_1 _) (AutoSeq1.list_reverse_list_0 l a.toArray n (by rw[N3];omega)) ⟨e,?_⟩;refine⟨.non,_,I.lset (its':=a.reverse) d e (by simp) r.reverse ?_,rfl,q⟩;rw[List.length_reverse];omega
end
end L2
namespace Att
open PySem PySem.W PySem.Calls PyProof.Rows
theorem qK{P:Params}{h:Heap}:∀(ns:List Int) (vs:List Value),WellAll P h vs (ns.map WData.int)->IntsAre vs ns:=by
 intro ns
 induction ns with
 | nil =>
  intro vs w;rw[List.map_nil] at w;cases w;exact .nil
 | cons n ns c =>
  intro vs w;rw[L4] at w;cases w with
  | cons a b =>
   cases a;exact .cons _ _ (c _ b)
theorem script_of{l:OpenLaw}{n:Nat}(hn:l.most=some n){P:Params}{h:Heap}{b:List WData}{c:List Value}
  (e:l.row.toRowW.claim.pre b=true) (k:WellAll P h c b) :
  ∃ a vs ns,c=[Value.ref a]/\b=[WData.list (ns.map WData.int)]/\h.get? a=some { cls:=.type "list",data:=.seq vs.toArray }/\IntsAre vs ns/\ns.length<=n:=by
 have m:WShape.hasAll [] b [.list .int]=true:=(pre_splitW e).1;have o:l.pre.holds [] { args:=b }=true:=(pre_splitW e).2;obtain⟨d,r,rfl,p,s⟩:=hasAllW_cons m;obtain rfl:=hasAllW_nil s;obtain⟨y,rfl,t⟩:=hasW_list p;obtain⟨ns,rfl⟩:=items_int t;have f:ns.length<=n:=by
  unfold OpenLaw.pre at o;have i:(WTm.not (.lt (.lit (.int (n:Int))) (.len (.arg 0)))).holds [] { args:=[.list (ns.map .int)] }=true:=by
   have i:=(holds_andW o).1;rw[hn] at i;exact i
  have j:=condW_of i (w_not (w_lt w_lit (w_len_list (w_arg rfl))));rw[L0] at j;refine Nat.le_of_not_lt λq=>?_;have u:(n:Int) < ((ns.length:Nat):Int):=by omega
  first
   | (rw[X0 u] at j;exact absurd j (by decide))
   | (simp at j;omega)
 cases k with
 | cons v w =>
  cases w;cases v with
  | list x g=>exact⟨_,_,ns,rfl,rfl,x,qK ns _ g,f⟩
theorem post_true(l:OpenLaw)(a:List WData):l.row.toRowW.claim.post a (.bool true) a=true :=
 postW_of (r:=l.row.toRowW) (X:=(true==true))
  (show WShape.has [] (.bool true) .bool=true by first | rfl | decide | simp[WShape.has,WShape.arms,WShape.armsAll])
  (show(WTm.eq .res (.lit (.bool true))).value [] { args:=a,res:=some (.bool true),after:=a }=some (.bool (true==true)) from w_eq_bool (w_res rfl) w_lit) rfl
end Att
namespace L2
open PySem PySem.Spec PyProof.Rows
theorem YI:∀{vs:List Value}{ns:List Int},IntsAre vs ns->Vals (ns.map V.int) vs
 | _,_,.nil=>.nil
 | _,_,.cons n t h=>.cons ⟨t,rfl⟩ (YI h)
def jdK(H:Hp):Prop:=∀ b,H b=none \/ ∃ o xs,H b=some (.frz o (.lst xs))
theorem wH{P:Program}{w:World}{K:PySem.W.Frag}{mg J:Str->Option Value}{CX:CXT}{k:Nat}{fa a:Addr}{fd:FuncData}{x:Str}{sp:Sp}{c:Shared}{l:List Value}{ns:List Int}
  (R:K.In c.heap) (t:c.heap.Ns mainGlobals mg) (g:c.heap.Ns builtinsNs J) (L:∀ x:Str,x≠"__name__"->J x=bootBuiltins x) (y:c.heap.NoLimit) (Z:c.gens = #[])
  (I:c.heap.get? a=some { cls:=.type "list",data:=.seq l.toArray }) (hi:IntsAre l ns) (S:ns.length<=sizeLine) (hr:Room k callerA)
  (F:∀ base:Heap,K.In base->base.Ns mainGlobals mg->FnOk P w K mg base CX k fa fd [x] sp) (p:∀(s:Shared) (u:Value),BindsTo s fd ⟨[u],[]⟩ [(x,u)])
  (M:∀ H:Hp,jdK H->SqL K H a (ns.map V.int)->sp [.ref a] H (λv _=>v=.bl true) λ_ _ _=>False)
  (N:∀ H e s',CX [] H c (λ_ _ _=>False) e s'->False) :
  codeAny (model P w) callerA (.call (.ref fa) ⟨[.ref a],[]⟩) (λr s'=>r=.ok (.ret (.bool true))/\OldK c.heap s'.heap/\s'.os=c.os/\AllBare s'.gens) c:=by
 have T:=YI hi;have A:=hi.length
 -- from an abstract heap in which nothing but the script may be tracked
 have j:∀ H:Hp,jdK H->SqL K H a (ns.map V.int)->HOk P w H c.heap->(∀ b,H b≠none->b=a)->(H a≠none->K.lookup a=none) ->
   codeAny (model P w) callerA (.call (.ref fa) ⟨[.ref a],[]⟩) (λr s'=>r=.ok (.ret (.bool true))/\OldK c.heap s'.heap/\s'.os=c.os/\AllBare s'.gens) c:=by
  intro H U hS hok X hK;have f:∀{b:Addr}{o:Obj},c.heap.get? b=some o->H b=none->(wu c.heap H).get? b=some o:=λe n=>wZ e n;have O:∀{b:Addr}{o:Obj}{B:Array DictEntry}{C:Nat},c.heap.get? b=some o->o.data=.dict B C->H b=none:=λ{b o B C} e d=>by
   cases q:H b with
   | none=>rfl
   | some u =>
    have Q:b=a:=X b (by rw[q];simp);subst Q;rw[I] at e;cases e;have d':Data.seq l.toArray _=Data.dict B C:=d;cases d'
  have i:∀{b:Addr}{m:Str->Option Value},c.heap.Ns b m->(wu c.heap H).Ns b m:=λ{b m} ⟨o,B,C,e,d,r⟩=>⟨o,B,C,f e (O e d),d,r⟩;have D:K.In (wu c.heap H):=λb o e=>f (R b o e) (by
   cases q:H b with
   | none=>rfl
   | some u =>
    have Q:b=a:=X b (by rw[q];simp);subst Q;rw[hK (by rw[q];simp)] at e;cases e)
  have hM:Mod K mg (wu c.heap H):=⟨D,i t,⟨J,i g,L⟩,let ⟨mc,h1,h2⟩:=y;⟨mc,i h1,h2⟩⟩;have e0:Env0 P w K mg (wu c.heap H) callerA [] c H:=⟨rfl,hM,λb o e=>uE e,Nat.le_of_eq (zP _ _),trivial,λb g=>absurd (show b∈([]:List Addr) from g) (by simp),hok,.of_eq Z⟩;refine codeAny_mono ((F _ D (i t)).run callerA [] c H ⟨[.ref a],[]⟩ [.ref a] [.ref a] _ _ hr e0 (p c (.ref a)) (.cons rfl .nil) (M H U hS)) λr s' h=>?_;cases r with
  | error e=>exact(N H e s' h).elim
  | ok fl =>
   cases fl with
   | next=>exact False.elim h
   | brk=>exact False.elim h
   | cont=>exact False.elim h
   | ret u =>
    obtain⟨v,H',os,bare,un,E,r',q⟩:=h;have q':v=.bl true:=q;subst q';obtain rfl:u=Value.bool true:=r';refine⟨rfl,OldK.of_keep λb o e=>?_,os,bare⟩;cases q:H b with
    | none=>exact un.keep b o e q (by intro z;exact absurd (show b∈([]:List Addr) from z) (by simp)) (by simp)
    | some u =>
     rcases U b with z | ⟨ob,xs,z⟩
     ·rw[q] at z;cases z
     ·have z2:=un.frzs b ob _ z;obtain⟨Y,_⟩:=hok b _ z;obtain⟨e2,_⟩:=E b _ z2;rw[e] at Y;cases Y;exact e2
 cases hk:K.lookup a with
 | some o =>
  -- the script is one of the module's own objects
  have e:=R a o hk;rw[I] at e;cases e;refine j (λ_=>none) (λ_=>.inl rfl) (.inr ⟨_,l.toArray,_,hk,rfl,rfl,rfl,by rw[N3,A];exact S,by simpa using T⟩) (λb u z=>by have G:(none:Option HO)=some u:=z;cases G) (λb z=>absurd rfl z) λz=>absurd rfl z
 | none =>
  refine j (λb=>if b=a then some (.frz { cls:=.type "list",data:=.seq l.toArray } (.lst (ns.map V.int))) else none) (λb=>?_) (.inl (.inr ⟨{ cls:=.type "list",data:=.seq l.toArray },if_pos rfl⟩)) (λb u z=>?_) (λb z=>?_) λ_=>hk
  ·by_cases g:b=a
   ·exact .inr ⟨_,_,if_pos g⟩
   ·exact .inl (if_neg g)
  ·by_cases g:b=a
   ·have G:=(if_pos g).symm.trans z;cases G;subst g;exact⟨I,by rw[L0];exact S,l,_,T,I⟩
   ·have G:=(if_neg g).symm.trans z;cases G
  ·by_cases g:b=a
   ·exact g
   ·exact absurd (if_neg g) z
noncomputable def ko(s:Stmt):Arguments:=match s with
 | .FunctionDef _ a _ _ _ _ _ _ _ _=>a
 | _=>{ posonlyargs:=[],args:=[],vararg:=none,kwonlyargs:=[],kw_defaults:=[],kwarg:=none,defaults:=[] }
noncomputable def yS(s:Stmt):List Stmt:=match s with
 | .FunctionDef _ _ b _ _ _ _ _ _ _=>b
 | _=>[]
noncomputable def jk(s:Stmt):Scope:=match s with
 | .FunctionDef _ _ _ _ _ _ sc _ _ _=>sc
 | _=>{ kind:=.function,names:=[],isGenerator:=false,isCoroutine:=false }
noncomputable abbrev CX0:CXT:=λ_ _ _ _ _ _=>False
noncomputable abbrev E0:XK:=λ_ _ _=>False
theorem jd8{X:Cx}:Qq CX0 X E0:=λ_ _ _ _ _ _ _ h=>h.elim
structure Fun(K:PySem.W.Frag)(x qual:Str)(st:Stmt)(f:Addr)(fd:FuncData):Prop where
 ex:∃(oc:Value) (od:Option Addr) (kV doc pm:Value) (an:Option Addr) (cdv ct:Value) (osl:Array (Option Value)),
  fd=PySem.W.fnOf x qual (ko st) (yS st) (jk st) .none kV doc pm an cdv ct/\K.lookup f=some ⟨oc,od,.func fd,osl⟩/\PySem.W.codeIn K cdv qual=true
 kp:PySem.W.keepIn K (.ref f)=true
section
variable {P:Program}{w:World}{K:PySem.W.Frag}{mg:Str->Option Value}{base:Heap}
theorem Fun.ok{x qual:Str}{st:Stmt}{f:Addr}{fd:FuncData}{N ps:List Str}{k:Nat}{sp:Sp}(F:Fun K x qual st f fd)(S:FnScope N ps (jk st))(len:∀ vs H Q E,sp vs H Q E->vs.length=ps.length)
  (a:∀(cdv:Value) (A:Around) (outer:List Env) (s:Shared) (H:Hp) (vs:List V) (Q:VK) (E:XK),Room k (A.deeper (envOfC qual (jk st) s.heap.objs.size f cdv))->sp vs H Q E ->
   ∃ t,PSs (jbo CX0 P w K mg base N qual (jk st) f cdv A outer s H E).nox (yS st) t/\t { nx:=λ_ H'=>Q .non H',rt:=Q } (start N vs) H):FnOk P w K mg base CX0 (k+1) f fd ps sp:=by
 obtain⟨j,od,kV,d,l,m,cdv,ct,e,rfl,g,b⟩:=F.ex;refine jeG g b S len λA outer s H vs Q E i c=>?_;obtain⟨t,h,q⟩:=a cdv A outer s H vs Q E i c;exact⟨t,h.nox,q⟩
theorem Fun.binds{x qual:Str}{st:Stmt}{f:Addr}{fd:FuncData}{ps:List Str}(F:Fun K x qual st f fd)
  (h:∀(kV doc pm:Value) (an:Option Addr) (cdv ct:Value) (us:List Value),us.length=ps.length->bindArgs (PySem.W.fnOf x qual (ko st) (yS st) (jk st) .none kV doc pm an cdv ct) ⟨us,[]⟩=pure (ps.zip us)):Binds K fd ps []:=by
 obtain⟨c,od,kV,doc,pm,an,cdv,ct,a,rfl,d,b⟩:=F.ex;exact .all (h kV doc pm an cdv ct)
theorem Qy{x qual:Str}{st:Stmt}{f:Addr}{oc:Value}{od an:Option Addr}{d:Array (Option Value)}{kV b pm a ct:Value}(l:K.lookup f=some ⟨oc,od,.func (PySem.W.fnOf x qual (ko st) (yS st) (jk st) .none kV b pm an a ct),d⟩)
  (c:PySem.W.codeIn K a qual=true) (k:PySem.W.keepIn K (.ref f)=true):Fun K x qual st f (PySem.W.fnOf x qual (ko st) (yS st) (jk st) .none kV b pm an a ct):=⟨⟨oc,od,kV,b,pm,an,a,ct,d,rfl,l,c⟩,k⟩
end
theorem Qe{A:Around}{k:Nat}(a:Room k A):A.units+1 < cLine:=X8 (Nat.add_le_add_left (by decide:1<=64) _) a.units
theorem jcr{A B:Prop}(h:B):if false=true then A else B:=by
 rw[if_neg M3];exact h
theorem jcy{A B:Prop}(h:A):if true=true then A else B:=by
 rw[if_pos rfl];exact h
theorem qd(I:Nat->Shared->Prop)
  (a:∀ n s,I n s->wpAny (model prog w) A (pyNext it) (λr s₁=>match r with
   | none=>R (.ok .next) s₁
   | some v=>wpAny (model prog w) A (letOwnedTupleGo target it v) (λ_ s₁'=>wpAny (model prog w) A (assign target env v) (λ_ s₂ =>
     wpAny (model prog w) A (forIn ifs true λc r=>if r=true then do let ok <- isTrue c env (eval c env);pure (ForInStep.yield ok) else pure (ForInStep.yield r)) (λok s₃ =>
      if ok=true then wpAny (model prog w) A (eval elt env) (λx s₄ =>
       wpAny (model prog w) A (call (.builtin "list.append") [acc,x]) (λ_ s₅=>∃ m,m < n/\I m s₅) (λ_ _=>False) s₄) (λ_ _=>False) s₃
      else ∃ m,m < n/\I m s₃) (λ_ _=>False) s₂) (λ_ _=>False) s₁') (λ_ _=>False) s₁) (λ_ _=>False) s)
  (n:Nat) (h:I n s) :
  codeAny (model prog w) A (.compLoop (.ListComp elt [⟨target,iter,ifs,0⟩] scope pos) 0 it acc env) R s:=by
 have up:∀{α:Type}{t:Sem α}{Q:α->Shared->Prop}{E:Value->Shared->Prop}{s:Shared},wpAny (model prog w) A t Q (λ_ _=>False) s->wpAny (model prog w) A t Q E s :=
  λh=>wpAny_mono h (λ_ _ x=>x) λ_ _ z=>z.elim
 refine codeAny_loop rfl I (λn s f=>?_) n h;show wpAny _ A ((compTurn (.ListComp elt [⟨target,iter,ifs,0⟩] scope pos) 0 it acc env).onRaise (λx=>do noteFrame x env;theTreesLotGoes x)) _ _ s;refine wpAny_noted ?_;rw[compTurn_list];refine L1 (wpAny_standAt (L1 (thn (up (a n s f)) λr s₁ d=>?_)));cases r with
 | none=>exact M6 d
 | some v =>
  refine L1 (thn (up d) λ_ s₁' b=>L1 (thn (up b) λ_ s₂ g=>L1 (thn (up g) λok s₃ e=>?_)));cases ok with
  | false=>exact M6 ⟨rfl,e⟩
  | true =>
   exact L1 (L1 (thn (up e) λx s₄ i=>L1 (thn (up i) λ_ s₅ j=>M6 (M6 ⟨rfl,j⟩))))
noncomputable def KO(env:Env):List (Str×NameKind)->List (Str×Addr)->List (Str×Addr)
 | [],cs=>cs
 | (n,k)::r,cs=>KO env r (if k==NameKind.free then(match env.cells.lookup n with | some a=>(n,a)::cs | none=>cs) else cs)
noncomputable def JB(scope:Scope)(env:Env):List (Str×Addr):=KO env scope.names []
theorem ja3:∀(l:List (Str×NameKind)) (cs:List (Str×Addr)),(∀ n k,(n,k)∈l->k=NameKind.free->∃ c,env.cells.lookup n=some c) ->
  (forIn (m:=Sem) l cs λx r=>match x with | (n,k)=>if k==NameKind.free then do let a <- cellOf env n;pure (ForInStep.yield ((n,a)::r)) else pure (ForInStep.yield r))=pure (KO env l cs)
 | [],cs,_=>rfl
 | (n,k)::r,cs,h=>by
  rw[List.forIn_cons];by_cases b:(k==NameKind.free)=true
  ·obtain⟨c,j⟩:=h n k L6 (by simpa using b);have o:cellOf env n=pure c:=by unfold cellOf;rw[j]
   have d:=ja3 (env:=env) r ((n,c)::cs) λe f g i=>h e f (L5 _ g) i;simp only[b,if_true,o,pure_bind];rw[d]
   conv=>rhs;unfold KO
   simp only[b,if_true,j]
  ·have d:=ja3 (env:=env) r cs λe f g i=>h e f (L5 _ g) i;simp only[b,if_false,pure_bind,Bool.false_eq_true];rw[d]
   conv=>rhs;unfold KO
   simp only[b,if_false,Bool.false_eq_true]
theorem JO(h:∀ n k,(n,k)∈scope.names->k=NameKind.free->∃ c,env.cells.lookup n=some c):closureFor scope env=pure (JB scope env):=by
 have e:=ja3 (env:=env) scope.names [] h;unfold closureFor JB;show(forIn (m:=Sem) scope.names [] λx r=>match x with | (n,k)=>if k==NameKind.free then do let a <- cellOf env n;pure (ForInStep.yield ((n,a)::r)) else pure (ForInStep.yield r)) >>= (λb=>pure b)=_;rw[e,pure_bind]
theorem uj:∀(l:List (Str×NameKind)) (cs:List (Str×Addr)),(x,c)∈KO env l cs->(x,c)∈cs \/ env.cells.lookup x=some c
 | [],_,h=>.inl h
 | (n,k)::r,cs,h=>by
  unfold KO at h;rcases uj r _ h with z | z
  ·split at z
   ·split at z
    ·rename_i a b;rcases M4.mp z with e | e
     ·cases e;exact .inr b
     ·exact .inl e
    ·exact .inl z
   ·exact .inl z
  ·exact .inr z
theorem xH:∀(l:List (Str×NameKind)) (cs:List (Str×Addr)),(x,c)∈cs->(x,c)∈KO env l cs
 | [],_,h=>h
 | (n,k)::r,cs,h=>by
  unfold KO;refine xH r _ ?_;split
  ·split
   ·exact L5 _ h
   ·exact h
  ·exact h
theorem uz(a:env.cells.lookup x=some c):∀(l:List (Str×NameKind)) (cs:List (Str×Addr)),(x,NameKind.free)∈l->(x,c)∈KO env l cs
 | [],_,h=>nomatch h
 | (n,k)::r,cs,h=>by
  unfold KO;rcases M4.mp h with e | e
  ·cases e;refine xH r _ ?_;simp only[beq_self_eq_true,if_true,a];exact L6
  ·exact uz a r _ e
theorem kQ:∀{l:List (Str×β)}{c:β},(x,c)∈l->∃ d,l.lookup x=some d
 | (n,a)::r,c,h=>by
  rw[List.lookup_cons];cases e:x==n with
  | true=>exact⟨a,rfl⟩
  | false =>
   rcases M4.mp h with z | z
   ·cases z;simp at e
   ·exact kQ z
theorem vv(h:(JB scope env).lookup x=some c):env.cells.lookup x=some c:=by
 rcases uj scope.names [] (PySem.mem_of_lookup h) with z | z
 ·exact nomatch z
 ·exact z
theorem JV(a:env.cells.lookup x=some c)(f:(x,NameKind.free)∈scope.names):(JB scope env).lookup x=some c:=by
 obtain⟨d,e⟩:=kQ (uz a scope.names [] f);have b:(JB scope env).lookup x=some d:=e;rw[b,<- vv b,a]
theorem yd(h:(n,k)∈(relabel scope env).names):(n,k)∈scope.names \/ (k=.cell/\(n,NameKind.free)∈scope.names):=by
 unfold relabel at h;obtain⟨⟨a,b⟩,c,e⟩:=M5.mp h;dsimp only at e;split at e
 ·rename_i d;cases e;have:b=NameKind.free:=by
   simp only[L9,beq_iff_eq] at d;exact d.1.1
  subst this;exact .inr ⟨rfl,c⟩
 ·cases e;exact .inl c
noncomputable def jP(X:Cx)(scope:Scope)(N':List Str)(C:Addr)(s₃:Shared)(H₃:Hp)(fp:List Addr):Cx :=
 { X with N:=N',s₀:=s₃,H₀:=H₃,env:=compEnvC scope (JB scope X.env) C X.env,outer:=X.stack,stack:=X.stack,ex:=fp,fn:=λ_=>false,pn:=[],xe:=λ_ _=>False }
noncomputable def jI(ix:List (Option Nat))(σ:St):St:=ix.map λo=>o.bind λj=>(σ[j]?).join
structure BlockOk(X:Cx)(scope:Scope)(N':List Str)(ix:List (Option Nat)):Prop where
 kind:scope.kind=.function
 nocell:∀ y∈scope.names,y.2≠.cell
 names:∀ y∈scope.names,y.2=.local->scope.names.lookup y.1=some .local
 uniq:∀ y∈scope.names,y.2=.free->scope.names.lookup y.1=some .free
 outer:∀ y∈scope.names,y.2=.free->X.env.kindOf y.1=some .cell \/ X.env.kindOf y.1=some .free
 nd:N'.Nodup
 len:ix.length=N'.length
 at_:∀(i j:Nat) (x:Str),ix[i]?=some (some j)->N'[i]?=some x->X.N[j]?=some x/\(x,NameKind.free)∈scope.names
 func:X.env.scope.kind=.function
noncomputable abbrev BW:=Nat->Nat->St->Hp->Prop
def zG(tc:TT)(te:TE)(g:TG)(J:It)(p:Addr)(σ':St)(H1:Hp)(Q:Hp->Prop):Prop :=
 ∃ W:BW,(∃ m,W 0 m σ' H1)/\∀ i m σ2 H2,W i m σ2 H2->(J.stop i H2/\Q H2) \/
  (J.go i H2/\∀ x H3,J.yld i H2 x H3->g x σ2 H3 λσ4 H4=>tc σ4 H4 λb H5=>if b=true then
   te σ4 H5 λy H6=>∃ ys,H6 p=some (.lst ys)/\ys.length < sizeLine/\∃ m',m' < m/\W (i+1) m' σ4 (upd H6 p (.lst (ys++[y])))
   else ∃ m',m' < m/\W (i+1) m' σ4 H5)
noncomputable def Vj(wi:TI)(g:TG)(tc:TT)(te:TE)(ix:List (Option Nat)):TE:=λσ H Q=>wi σ H λJ H1=>∀ p,H1 p=none->zG tc te g J p (jI ix σ) (upd H1 p (.lst [])) λH2=>Q (.ref p) H2
def PIf(X:Cx)(ifs:List Expr)(tc:TT):Prop:=(ifs=[]/\tc=λ_ H Q=>Q true H) \/ ∃ c,ifs=[c]/\PT X c tc
theorem zU(B:BlockOk X scope N' ix)(I:Inv X pins σ H s)(A:∀ b∈fp,Y8 X pins H b)(D:∀ b∈fp,b < s.heap.objs.size)
  (E:h₁.Ns s.heap.objs.size (λ_=>none)) (C:∀ b o,s.heap.get? b=some o->h₁.get? b=some o) :
  Inv (jP X scope N' s.heap.objs.size s H fp) [] (jI ix σ) H { s with heap:=h₁,toks:=t }:=by
 have fresh:H s.heap.objs.size=none:=I.hok.fresh (M8 _);have f:∀ x c,(JB scope X.env).lookup x=some c->X.env.cells.lookup x=some c:=λx c e=>vv e;refine⟨⟨I.ok.mod,B.kind,I.ok.glob,I.ok.blt,M8 _,λx y c F G=>I.ok.inj x y c (f x c F) (f y c G),λx O=>?_,(λx c h=>nomatch h),I.ok.hd,I.ok.frames,.inl rfl,λb g=>⟨N6 (D b g),λx c e=>(A b g).2.2.2.2.1 x c (f x c e)⟩,
  λb o e=>I.bs b o e,N7 I.ok.bsz I.sz,λb o e g=>?_,λb g z=>?_,I.stack,I.stkFree⟩,rfl,I.bare,Un.kept C,⟨_,E,λi x v F G P=>?_⟩,λx c e=>?_,fresh,λx c e=>I.freeC x c (f x c e),(λp Q=>nomatch (show p∈([]:List (Addr×Obj)) from Q)),I.hok.kept C,?_⟩
 ·have J:(relabel scope X.env).names.lookup x=some .cell \/ (relabel scope X.env).names.lookup x=some .free:=O;have n:(x,NameKind.free)∈scope.names:=by
   rcases J with q | q
   ·rcases yd (PySem.mem_of_lookup q) with z | z
    ·exact absurd rfl (B.nocell _ z)
    ·exact z.2
   ·rcases yd (PySem.mem_of_lookup q) with z | z
    ·exact z
    ·exact absurd z.1 (by decide)
  obtain⟨c,K⟩:=I.ok.has x (B.outer _ n rfl);exact⟨c,JV K n⟩
 ·rcases(A b g).2.2.2.1 with z | z
  ·exact I.ok.noex b o e z
  ·exact absurd (U4 (N1 e) (N7 I.ok.bsz z)) (Nat.lt_irrefl _)
 ·rcases M4.mp (I.stkSub b z) with q | q
  ·exact(A b g).2.1 q
  ·exact(A b g).2.2.1 q
 ·have a:(jI ix σ)[i]?=some (some v):=G;unfold jI at a;rw[List.getElem?_map] at a;cases e:ix[i]? with
  | none=>rw[e] at a;cases a
  | some o =>
   rw[e] at a;cases o with
   | none=>cases a
   | some j =>
    have d:(σ[j]?).join=some v:=X3 a;have R:σ[j]?=some (some v):=by
     cases q:σ[j]? with
     | none=>rw[q] at d;cases d
     | some u=>rw[q] at d;rw[show u=some v from d]
    obtain⟨S,n⟩:=B.at_ i j x e F;have w:=B.outer _ n rfl;obtain⟨m,U,T⟩:=I.loc;obtain⟨u,r,l⟩:=T j x v S R (w.elim (λz=>.inr (.inl z)) λz=>.inr (.inr z));refine⟨u,r,.inr ?_⟩;rcases l with⟨k,_⟩ | ⟨_,c,K,z⟩
    ·rcases w with y | y<;>rw[k] at y<;>cases y
    ·refine⟨?_,c,JV K n,?_⟩
     ·rcases P with y | y | y
      ·have:(x,NameKind.local)∈(relabel scope X.env).names:=PySem.mem_of_lookup y;rcases yd this with L | L
       ·have N:=B.names _ L rfl;rw[B.uniq _ n rfl] at N;cases N
       ·exact absurd L.1 (by decide)
      ·exact .inl y
      ·exact .inr y
     ·obtain⟨o,M,hd⟩:=z;exact⟨o,C c o M,hd⟩
 ·obtain⟨v,o,M,hd⟩:=I.cell x c (f x c e);exact⟨v,o,C c o M,hd⟩
 ·show(jI ix σ).length=N'.length;unfold jI;rw[L0,B.len]
theorem Inv.other(I:Inv X pins σ H s)(f:Y8 X pins H C)(a:Heap.SameBut C s.heap h'):Inv X pins σ H { s with heap:=h' } :=
 I.turned (t':=s.toks) (λb o c e=>a.extBut b o c e) f.1 f.2.1 f.2.2.2.1 f.2.2.2.2.1 f.2.2.2.2.2
theorem Vd{X:Cx}{ifs:List Expr}{N':List Str}{ix:List (Option Nat)}{pins:List (Addr×Obj)}{s:Shared}{Q:Addr->Hp->Prop}{use:Option (Value->Sem Unit)}{QQ:Value->Shared->Prop}(B:BlockOk X scope N' ix)(hc:X.calm=true)(hi:PI X tg iter wi)
  (hg:∀ C s H fp,PG (jP X scope N' C s H fp) tg g) (hif:∀ C s H fp,PIf (jP X scope N' C s H fp) ifs tc) (he:∀ C s H fp,PE (jP X scope N' C s H fp) elt te)
  (hs:∀ x,foldedSetIterable iter X.env x=pure x) (I:Inv X pins σ H s)
  (h:wi σ H λJ H1=>∀ p,H1 p=none->zG tc te g J p (jI ix σ) (upd H1 p (.lst [])) (Q p))
  (hend:∀ p C s' H',Q p H'->Inv X pins σ H' s'->Y8 X pins H' C->(∃ m,s'.heap.Ns C m)->compPost (model X.prog X.w) X.A X.xe use QQ (.ref p) C (.ok .next) s') :
  wpAny (model X.prog X.w) X.A (comprehension (.ListComp elt [⟨tg,iter,ifs,0⟩] scope pos) scope X.env pos' (newList []) false (eval iter X.env) use) QQ X.xe s:=by
 have U:closureFor scope X.env=pure (JB scope X.env):=JO λn k hm hk=>I.ok.has n (B.outer _ hm hk);refine wpAny_comprehension_free rfl hs U B.kind B.names (thn (hi pins s σ H _ I h) λv s1 h1=>thn h1 λitv a h2=>?_);obtain⟨it,fp,tn,J,L,rfl,I2,T,V,f2,h2⟩:=h2;refine wpAny_newObj_type (wpAny_newFunctionEnv B.nocell (by intro y hy;simp at hy) (λh₁ N O=>?_) B.kind);dsimp only at N O ⊢;have fr2:L a.heap.objs.size=none:=I2.fresh
 -- the new list
 have I3:Inv X pins σ (upd L a.heap.objs.size (.lst [])) { a with heap:=a.heap.push { cls:=.type "list",data:=.seq ([]:List Value).toArray } }:=I2.lnew (t':=a.toks) .nil (U5 _);generalize hs3:({ a with heap:=a.heap.push { cls:=.type "list",data:=.seq ([]:List Value).toArray } }:Shared)=s3 at I3;have e3:s3.heap=a.heap.push { cls:=.type "list",data:=.seq ([]:List Value).toArray }:=by rw[<- hs3]
 have hk3:∀ b o,a.heap.get? b=some o->s3.heap.get? b=some o:=λb o e=>by rw[e3];exact L7 _ e
 have lt3:∀ b∈fp,b < s3.heap.objs.size:=λb f=>by
  obtain⟨o,e,_⟩:=T.obj _ _ V b f;exact N1 (hk3 b o e)
 have nep:∀ b∈fp,b≠a.heap.objs.size:=λb f z=>by
  obtain⟨o,e,_⟩:=T.obj _ _ V b f;exact absurd (N1 e) (by rw[z];exact Nat.lt_irrefl _)
 have M:∀ b∈fp,Y8 X pins (upd L a.heap.objs.size (.lst [])) b:=λb f=>⟨by rw[jd (nep b f)];exact(f2 b f).1,(f2 b f).2⟩;have sz3:s3.heap.objs.size=(a.heap.push { cls:=.type "list",data:=.seq ([]:List Value).toArray }).objs.size:=by rw[e3]
 have hk4:∀ b o,s3.heap.get? b=some o->h₁.get? b=some o:=λb o e=>by
  refine O.extBut b o ?_ (L7 _ (by rw[e3] at e;exact e));intro z;exact absurd (N1 e) (by rw[z,sz3];exact Nat.lt_irrefl _)
 have hns4:h₁.Ns s3.heap.objs.size (λ_=>none):=by
  rw[sz3];exact N
 have I4:Inv (jP X scope N' s3.heap.objs.size s3 (upd L a.heap.objs.size (.lst [])) fp) [] (jI ix σ) (upd L a.heap.objs.size (.lst [])) { s3 with heap:=h₁,toks:=a.toks }:=zU B I3 M lt3 hns4 hk4;have st4:tn 0 h₁:=T.keep _ _ _ V λb f o e=>hk4 b o (hk3 b o e);obtain⟨W,⟨m0,w0⟩,turn⟩:=h2 _ fr2;have hg':=hg s3.heap.objs.size s3 (upd L a.heap.objs.size (.lst [])) fp;have P:=hif s3.heap.objs.size s3 (upd L a.heap.objs.size (.lst [])) fp;have he':=he s3.heap.objs.size s3 (upd L a.heap.objs.size (.lst [])) fp;generalize j:jP X scope N' s3.heap.objs.size s3 (upd L a.heap.objs.size (.lst [])) fp=X' at I4 hg' P he';have Y:X'.prog=X.prog:=by rw[<- j];rfl
 have Z:X'.w=X.w:=by rw[<- j];rfl
 have eK:X'.K=X.K:=by rw[<- j];rfl
 have eA:X'.A=X.A:=by rw[<- j];rfl
 have eC:X'.calm=true:=by rw[<- j];exact hc
 have eE:X'.env=compEnvC scope (JB scope X.env) s3.heap.objs.size X.env:=by rw[<- j];rfl
 have eX:X'.xe=λ_ _=>False:=by rw[<- j];rfl
 have F:∀{H':Hp},(∀ b∈fp,H' b=none)->∀ b∈fp,Y8 X' [] H' b:=λhn b f=>by
  refine⟨hn b f,?_,?_,?_,?_,?_⟩
  ·rw[eE];exact N6 (lt3 b f)
  ·rw[<- j];intro z;rcases M4.mp (I3.stkSub b z) with q | q
   ·exact(M b f).2.1 q
   ·exact(M b f).2.2.1 q
  ·rw[<- j];exact .inl f
  ·rw[eE];exact λx c e=>(M b f).2.2.2.2.1 x c (vv e)
  ·rw[<- j];exact(λp hp=>nomatch (show p∈([]:List (Addr×Obj)) from hp))
 -- the end of the block
 have fin:∀{l:St}{H':Hp}{s':Shared},Inv X' [] l H' s'->Q a.heap.objs.size H'->compPost (model X.prog X.w) X.A X.xe use QQ (.ref a.heap.objs.size) s3.heap.objs.size (.ok .next) s':=λ{l H' s'} J q=>by
  have hL:X'.env.locals=s3.heap.objs.size:=by rw[eE];rfl
  have un:Un (frs X.stack) fp (upd L a.heap.objs.size (.lst [])) H' s3.heap s'.heap:=by
   have z:=J.base;rw[<- j] at z;exact z
  have hos:s'.os=s3.os:=by
   have z:=J.os;rw[<- j] at z;exact z
  have hok:HOk X.prog X.w H' s'.heap:=by
   have z:=J.hok;rw[Y,Z] at z;exact z
  have fc:H' s3.heap.objs.size=none:=by
   have z:=J.free;rw[hL] at z;exact z
  have I5:Inv X pins σ H' s':=by
   obtain⟨hh,gg,dd,tt,oo⟩:=s';obtain rfl:oo=s3.os:=hos;exact I3.call (h':=hh) (g':=gg) (d':=dd) (t':=tt) (ch:=fp) un hok J.bare λb f=>⟨(M b f).2.2.2.1,(M b f).2.1,(M b f).2.2.2.2.1,(M b f).2.2.2.2.2⟩
  obtain⟨m,hn,_⟩:=J.loc;rw[hL] at hn;exact hend _ _ s' H' q I5 (I3.fpOk (M8 _) fc) ⟨m,hn⟩
 have loop:∀ s',s'=({ s3 with heap:=h₁,toks:=a.toks }:Shared)->codeAny (model X.prog X.w) X.A (.compLoop (.ListComp elt [⟨tg,iter,ifs,0⟩] scope pos) 0 (.ref it) (.ref a.heap.objs.size) X'.env) (compPost (model X.prog X.w) X.A X.xe use QQ (.ref a.heap.objs.size) s3.heap.objs.size) s':=by
  rintro s' rfl;refine qd (λn s'=>∃ i l H',Inv X' [] l H' s'/\tn i s'.heap/\(∀ b∈fp,H' b=none)/\W i n l H') ?_ m0 ⟨0,_,_,I4,st4,λb f=>(M b f).1,w0⟩;rintro n s5 ⟨i,σ5,H5,I5,st5,fr5,w5⟩;have it5:=T.item X' Y Z eK eC i [] s5 σ5 H5 (λ_ _=>False) I5 (F fr5) st5;have dn5:=T.done X' Y Z eK eC i [] s5 σ5 H5 (λ_ _=>False) I5 (F fr5) st5;rw[eA] at it5 dn5;rcases turn i n σ5 H5 w5 with⟨stop,qn⟩ | ⟨go,step⟩
  ·refine thn (dn5 stop) λr s6 ⟨hr,I6⟩=>?_;subst hr;exact fin I6 qn
  ·refine thn (it5 go) λr s6 ⟨u,hr,h6⟩=>?_;subst hr;refine thn h6 λ_ s7 ⟨x,H7,I7,r7,y7,st7,fr7⟩=>?_;have I7':=I7.pinned (F fr7) (T.obj _ _ st7);have a7:=hg' _ s7 σ5 H7 x u _ I7' r7 (step x H7 y7);rw[Y,Z,eA,eX] at a7;refine thn a7 λ_ s8 ⟨G,H8,I8,q8⟩=>?_;have again:∀{t:Shared}{E:Hp},Inv X' ([]++qe fp s7.heap) G E t->(∃ D,D < n/\W (i+1) D G E)->∃ m,m < n/\∃ i l H',Inv X' [] l H' t/\tn i t.heap/\(∀ b∈fp,H' b=none)/\W i m l H':=λ{t E} R ⟨D,hm,w9⟩=>by
    refine⟨D,hm,i+1,G,E,R.unpinned,T.keep _ _ _ st7 λb f o e=>(R.pin (b,o) (U3 _ (U3 _ (yz f e)))).1,λb f=>?_,w9⟩;obtain⟨o,e,d⟩:=T.obj _ _ st7 b f;exact(R.pin (b,o) (U3 _ (U3 _ (yz f e)))).2.1
   have rest:∀(b:Bool) (t:Shared) (E:Hp),Inv X' ([]++qe fp s7.heap) G E t->(if b=true then te G E λy H6=>∃ ys,H6 a.heap.objs.size=some (.lst ys)/\ys.length < sizeLine/\∃ D,D < n/\W (i+1) D G (upd H6 a.heap.objs.size (.lst (ys++[y])))
     else ∃ D,D < n/\W (i+1) D G E) ->
     if b=true then wpAny (model X.prog X.w) X.A (eval elt X'.env) (λx s₄=>wpAny (model X.prog X.w) X.A (call (.builtin "list.append") [.ref a.heap.objs.size,x]) (λ_ s₅=>∃ m,m < n/\∃ i l H',Inv X' [] l H' s₅/\tn i s₅.heap/\(∀ b∈fp,H' b=none)/\W i m l H') (λ_ _=>False) s₄) (λ_ _=>False) t
     else ∃ m,m < n/\∃ i l H',Inv X' [] l H' t/\tn i t.heap/\(∀ b∈fp,H' b=none)/\W i m l H':=λb t E R q9=>by
    cases b with
    | false =>
     rw[if_neg M3] at q9 ⊢;exact again R q9
    | true =>
     rw[if_pos rfl] at q9 ⊢;have a9:=he' _ t G E _ R q9;rw[Y,Z,eA,eX] at a9;refine thn a9 λyv s10 ⟨y,H10,I10,r10,ys,e10,l10,q10⟩=>?_;have a10:=Jb _ s10 G H10 (.ref a.heap.objs.size) [y] (.ref a.heap.objs.size) [yv] (λ_ H'=>∃ D,D < n/\W (i+1) D G H') I10 rfl (.cons r10 .nil) ⟨_,ys,y,rfl,rfl,e10,l10,q10⟩;rw[Y,Z,eA,eX] at a10;exact thn a10 λ_ s11 ⟨_,H11,I11,_,q11⟩=>again I11 q11
   rcases P with⟨e1,e2⟩ | ⟨c,e1,e2⟩
   ·subst e1;rw[e2] at q8;exact wpAny_tests_nil (rest true s8 H8 I8 q8)
   ·subst e1;have a8:=e2 _ s8 G H8 _ I8 q8;rw[Y,Z,eA,eX] at a8;exact wpAny_tests_one (thn a8 λb t ⟨E,R,q9⟩=>rest b t E R q9)
 have S:codeAny (model X.prog X.w) X.A (.compStart (.ListComp elt [⟨tg,iter,ifs,0⟩] scope pos) 0 (.ref it) (.ref a.heap.objs.size) X'.env) (compPost (model X.prog X.w) X.A X.xe use QQ (.ref a.heap.objs.size) s3.heap.objs.size) { s3 with heap:=h₁,toks:=a.toks } :=
  codeAny_compStart_list (loop _ rfl) (T.self _ 0 _ _ _ st4 (loop _ rfl))
 rw[eE] at S;subst hs3;exact S
theorem jbm(B:BlockOk X scope N' ix)(d:X.calm=true)(hi:PI X tg iter wi)
  (e:∀ C s H fp,PG (jP X scope N' C s H fp) tg g) (a:∀ C s H fp,PIf (jP X scope N' C s H fp) ifs tc) (i:∀ C s H fp,PE (jP X scope N' C s H fp) elt te)
  (j:∀ x,foldedSetIterable iter X.env x=pure x:=by intro _;rfl):PE X (.ListComp elt [⟨tg,iter,ifs,0⟩] scope pos) (Vj wi g tc te ix):=by
 intro c s σ H Q I h;rw[eval_ListComp];exact Vd (use:=none) (Q:=λp b=>Q (.ref p) b) B d hi e a i j I h λp C o b q k f ⟨m,l⟩=>⟨m,l,λr n=>⟨.ref p,b,k.other f n,rfl,q⟩⟩
theorem Ky(B:BlockOk X scope N' ix)(E:X.calm=true)(hi:PI X tg iter wi)
  (F:∀ C s H fp,PG (jP X scope N' C s H fp) tg g) (d:∀ C s H fp,PIf (jP X scope N' C s H fp) ifs tc) (G:∀ C s H fp,PE (jP X scope N' C s H fp) elt te)
  (J:X.N.Nodup) (j:X.N[i]?=some x) (K:Loc X.env.scope x)
  (k:swapsWith (.ListComp elt [⟨tg,iter,ifs,0⟩] scope pos) (some (.Name x pos')) spos.line X.env=pure true)
  (L:∀ x,foldedSetIterable iter X.env x=pure x:=by intro _;rfl)
  (M:X.fn x=true \/ X.env.scope.names.lookup x=some .local:=by first | exact .inl rfl | exact .inr rfl | assumption) :
  PS X (.Assign [.Name x pos'] (.ListComp elt [⟨tg,iter,ifs,0⟩] scope pos) spos) (uX (Vj wi g tc te ix) (qC i)):=by
 intro a s σ H D I h;rw[exec_Assign_Name_used _ _ _ _ k];refine L1 (wpAny_standAt (L1 ?_));show wpAny _ X.A (do let _ <- comprehension (.ListComp elt [⟨tg,iter,ifs,0⟩] scope pos) scope X.env _ (newList []) false (eval iter X.env) (some (assign (.Name x pos') X.env))) _ _ s;refine L1 (thn (Vd (use:=some (assign (.Name x pos') X.env)) (QQ:=λ_ b=>SP X a D .next b) (Q:=λp c=>D.nx (σ.set i (some (.ref p))) c) B E hi F d G L I h λp C b c q r f ⟨m,O⟩=>?_) λ_ b P=>M6 (M6 P));obtain⟨o,R,S,T,t⟩:=id O;have hd:∀ v,o.data≠.cell v:=λv z=>by
  obtain⟨l,_⟩:=t;rw[l] at z;cases z
 have U:Inv X (a++[(C,o)]) σ c b:=r.pins_of λu n=>by
  rcases N2.mp n with z | z
  ·exact r.pin u (U3 _ z)
  ·have e:u=(C,o):=by simpa using z
   subst e;exact⟨T,f.1,f.2.1,f.2.2.1,hd⟩
 refine wpAny_assign_Name (qx U J j K (v:=.ref p) rfl (λW w=>?_) M);have y:=w.pin (C,o) (U3 _ (U3 _ (M7.mpr rfl)));refine⟨m,⟨o,R,S,y.1,t⟩,λY V=>⟨_,c,(w.unpinned).other ⟨y.2.1,f.2⟩ V,q⟩⟩
noncomputable def S(l:List Nat):Str:=⟨l.toArray⟩
theorem vQ(l:List Nat):(S l).cps.toList=l:=by simp[S]
theorem qY(l:List Nat):(S l).length=l.length:=by simp[S,Str.length]
theorem jaU(h:S a=S b):a=b:=by
 rw[<- vQ a,<- vQ b,h]
theorem jdF(a b:List Nat):(S a=S b)=(a=b):=propext ⟨jaU,λh=>by rw[h]⟩
theorem jeB(a b:List Nat):S a++S b=S (a++b):=by
 apply PyProof.Rows.ext_toList;rw[PySem.W.KT.app_list,vQ,vQ,vQ]
theorem u4(c:Nat):(⟨#[c]⟩:Str)=S [c]:=rfl
noncomputable def yB{α:Type}(xs:List α)(lo hi:Option Int):List α:=(xs.drop (HT.sIx xs.length 0 lo)).take (HT.sIx xs.length xs.length hi - HT.sIx xs.length 0 lo)
theorem xz(lo hi:Option Int)(n:Nat):Builtin.Str.strSliceIndices lo hi 1 n=(List.range (HT.sIx n n hi - HT.sIx n 0 lo)).map (HT.sIx n 0 lo+·):=by
 have a:∀(o:Option Int) (d:Nat),(match o with | none=>(d:Int) | some i=>(let i:=if i < 0 then i+(n:Int) else i;if(1:Int) > 0 then max 0 (min i n) else max (-1) (min i (n - 1))))=((HT.sIx n d o:Nat):Int):=by
  intro o d;cases o with
  | none=>rfl
  | some v =>
   show(if(1:Int) > 0 then max 0 (min (if v < 0 then v+(n:Int) else v) n) else _)=(((if v < 0 then(v+(n:Int)).toNat else min v.toNat n):Nat):Int);rw[if_pos (by decide)];by_cases b:v < 0
   ·rw[if_pos b,if_pos b];omega
   ·rw[if_neg b,if_neg b];omega
 rw[<- sliceRange_one,<- a lo 0,<- a hi n];rfl
theorem jaa(l:List Nat)(lo hi:Option Int):Txt.slice (S l) lo hi=S (yB l lo hi):=by
 have i:HT.sIx l.length l.length hi<=l.length:=HT.sIx_le _ _ (M8 _) _;have j:HT.sIx l.length 0 lo<=l.length:=HT.sIx_le _ _ (U5 _) _;have e:(Builtin.Str.strSliceIndices lo hi 1 (S l).length).filterMap ((S l).cps[·]?)=yB l lo hi:=by
  rw[qY,xz];have h:=StrLaws.picks l (HT.sIx l.length l.length hi - HT.sIx l.length 0 lo) (HT.sIx l.length 0 lo);by_cases c:HT.sIx l.length 0 lo<=HT.sIx l.length l.length hi
  ·have d:=h (by omega);unfold yB;rw[<- d];simp[S]
  ·have z:HT.sIx l.length l.length hi - HT.sIx l.length 0 lo=0:=by omega
   unfold yB;rw[z];simp
 unfold Txt.slice;split
 ·rename_i b;have f:(Builtin.Str.strSliceIndices lo hi 1 (S l).length).length=(S l).length:=by
   simp only[beq_self_eq_true,Bool.true_and] at b;exact beq_iff_eq.mp b
  rw[qY,xz,L0,List.length_range] at f;unfold yB;by_cases a:l.length=0
  ·have:l=[]:=List.length_eq_zero_iff.mp a;subst this;simp
  ·have g:HT.sIx l.length 0 lo=0:=by omega
   rw[g,List.drop_zero,List.take_of_length_le (by omega)]
 ·rw[e];rfl
def jeQ:V->Option Int->Option Int->Hp->VK->Prop:=λx lo hi H Q=>∃ l,x=.str (S l)/\l.length<=sizeLine/\Q (.str (S (yB l lo hi))) H
theorem uq(p:IsPart v o):∃ q:Option (Int×Tok),v=partValue q/\q.map (·.1)=o:=by
 cases p with
 | none=>exact⟨none,rfl,rfl⟩
 | int i t=>exact⟨some (i,t),rfl,rfl⟩
theorem jb8:SlR X jeQ:=by
 intro c s σ H x v z A a b B Q I i j m n h;obtain⟨l,rfl,o,q⟩:=h;obtain⟨t,rfl⟩:=i;obtain⟨d,rfl,p⟩:=uq m;obtain⟨e,rfl,r⟩:=uq n;refine⟨"str",_,F.slot_str_getitem.lookup,typeIs_str _ _ _,wpAny_getItem_str_slice (l:=d) (u:=e) (st:=none) j rfl ?_⟩;have w:Txt.slice (S l) a b=S (yB l a b):=jaa l a b;have g:∀ f k,EP X c σ Q (.str (Txt.slice (S l) a b) f) { s with toks:=k }:=λf k=>by
  rw[w];exact⟨.str (S (yB l a b)),H,I.tok k,⟨f,rfl⟩,q⟩
 have y:sliceMade (S l) t d e none=(if((1:Int)==1&&(Builtin.Str.strSliceIndices a b 1 (S l).length).length==(S l).length)=true then Made.val (.str (S l) t) else Made.str ⟨((Builtin.Str.strSliceIndices a b 1 (S l).length).filterMap ((S l).cps[·]?)).toArray⟩):=by
  unfold sliceMade slicePicked;rw[p,r];rfl
 rw[y];refine post_val_or_str ⟨?_,λf k=>g f k⟩;exact N7 (Txt.slice_le (S l) a b) (by rw[qY];exact o)
noncomputable def Its(l:List Nat):It:=⟨λi _=>i < l.length,λi H x H'=>H'=H/\∃ c,l[i]?=some c/\x=.str (S [c]),λi _=>l.length<=i⟩
theorem wN{tg:Expr}{P:Program}{w:World}{K:PySem.W.Frag}(it:Addr)(l:List Nat)(t:Tok)(ty:String)(j:ty = "str_ascii_iterator" \/ ty = "str_iterator")
  (W:∀ A:Around,A.handled=none->Walks P w A it [it] [it] (S l).cps.size (SignAt (S l)) (λi h=>h.IsStrIter it ty (S l) t i)):Turn P w K tg (Its l) [it] it (λi h=>h.IsStrIter it ty (S l) t i) where
 mem:=by simp
 obj:=λi h a b f=>by
  have e:b=it:=by simpa using f
  subst e;obtain⟨o,e,c,d⟩:=a;exact⟨o,e,λv z=>by rw[d] at z;cases z⟩
 keep:=λi h m a k=>by
  obtain⟨o,e,r⟩:=a;exact⟨o,k it (by simp) o e,r⟩
 item:=by
  intro X F G J p i g s σ H E I q a L;subst F G J;obtain⟨x,y,T,B,C,D⟩:=q it (by simp);have U:=W X.A (I.ok.hd p);have M:(S l).cps.size=l.length:=by simp[S]
  refine U.item i s _ _ (by rw[M];exact L) a λv m Q V n Y=>?_;obtain⟨c,u,N,rfl⟩:=V;have Z:Inv X g σ H { s with heap:=m,toks:=Q }:=I.turned (λb o f e=>Y b o (by simpa using f) e) x y B C D;obtain⟨o,e,ct,d⟩:=id n;refine⟨_,rfl,xt (s:={ s with heap:=m,toks:=Q }) e ct d (by rcases j with z | z<;>subst z<;>decide) ⟨.str (S [c]),H,Z,⟨u,rfl⟩,⟨rfl,c,by simpa [S] using N,rfl⟩,n,λb f=>(q b f).1⟩⟩
 done:=by
  intro X F G J p i g s σ H E I q a L;subst F G J;obtain⟨x,y,T,B,C,D⟩:=q it (by simp);have R:(S l).cps[i]?=none:=by
   have:l.length<=i:=L;simp[S,this]
  rcases j with z | z
  ·subst z;exact wpAny_pyNext_ascii_end (I.ok.hd p) a R λm O=>⟨rfl,I.turned (t':=s.toks) (λb o f e=>O b o f e) x y B C D⟩
  ·subst z;exact wpAny_pyNext_wide_end (I.ok.hd p) a R λm O=>⟨rfl,I.turned (t':=s.toks) (λb o f e=>O b o f e) x y B C D⟩
 self:=λ_ _ _ _ _ a h=>by
  rcases j with z | z
  ·subst z;exact wpAny_pyIter_striter_ascii a h
  ·subst z;exact wpAny_pyIter_striter_wide a h
theorem jbE:OpR X (compareOp .In) (λx y H Q=>∃ c l,x=.str (S [c])/\y=.str (S l)/\Q (.bl (decide (c∈l))) H):=by
 intro a s σ H x y v u Q I b d h;obtain⟨c,l,rfl,rfl,q⟩:=h;refine xF a s σ H _ _ v u Q I b d ⟨_,_,rfl,rfl,?_⟩;rw[<- u4,StrLaws.found_one,vQ];exact q
theorem Q0:OpR X (compareOp .NotIn) (λx y H Q=>∃ c l,x=.str (S [c])/\y=.str (S l)/\Q (.bl (!decide (c∈l))) H):=by
 intro a s σ H x y v u Q I b d h;obtain⟨c,l,rfl,rfl,q⟩:=h;refine YH a s σ H _ _ v u Q I b d ⟨_,_,rfl,rfl,?_⟩;rw[<- u4,StrLaws.found_one,vQ];exact q
theorem uI:OpR X (binaryOp .Add) (λx y H Q=>∃ a b,x=.str (S a)/\y=.str (S b)/\a.length+b.length<=sizeLine/\Q (.str (S (a++b))) H):=by
 intro c s σ H x y v u Q I d e h;obtain⟨a,b,rfl,rfl,f,q⟩:=h;refine KR c s σ H _ _ v u Q I d e ⟨_,_,rfl,rfl,by rw[qY,qY];exact f,?_⟩;rw[jeB];exact q
theorem jar:OpR X (binaryOp .Mult) (rI (λi j=>Builtin.Int.intBits i<=2 ^ 20/\Builtin.Int.intBits j<=2 ^ 20) λi j=>.int (i*j)):=opI λ_ _ _ _ _ _ _ a q=>mul_int q (IntMulOk.of_bits a.1 a.2)
theorem Kv(h:i.natAbs < 2 ^ m)(a:m<=2 ^ 20):Builtin.Int.intBits i<=2 ^ 20:=N7 (PySem.intBits_le_iff.mpr h) a
def SqX(K:PySem.W.Frag)(H:Hp)(a:Addr)(xs:List V):Prop :=
 Rd H a (.lst xs) \/ ∃(its:Array Value) (n:Nat),K.lookup a=some { cls:=.type "list",data:=.seq its n }/\its.size<=sizeLine/\Vals xs its.toList
theorem SqX.sq{K:PySem.W.Frag}{H:Hp}{a:Addr}{xs:List V}(h:SqX K H a xs):SqL K H a xs:=by
 rcases h with h | ⟨b,n,c,d,r⟩
 ·exact .inl h
 ·exact .inr ⟨_,b,n,c,rfl,rfl,rfl,d,r⟩
theorem SqX.of{K:PySem.W.Frag}{H:Hp}{a:Addr}{xs:List V}(h:H a=some (.lst xs)):SqX K H a xs:=.inl (.inl h)
theorem Inv.listX(I:Inv X pins σ H s)(h:SqX X.K H a xs):∃(its:List Value) (n:Nat),Vals xs its/\s.heap.get? a=some { cls:=.type "list",data:=.seq its.toArray n }/\xs.length<=sizeLine:=by
 rcases h with h | ⟨its,n,b,c,r⟩
 ·obtain⟨z,its,n,r,e⟩:=h.ok I.hok;exact⟨its,n,r,e,z⟩
 ·refine⟨its.toList,n,r,by simpa using I.kIn a _ b,?_⟩;have e:=r.length;simp only[Array.length_toList] at e;omega
noncomputable def jdh(K:PySem.W.Frag):R2:=λx y H Q=>∃ l b xs zs,x=.ref l/\y=.ref b/\SqX K H l xs/\SqX K H b zs/\xs.length+zs.length<=sizeLine/\∀ p,H p=none->Q (.ref p) (upd H p (.lst (xs++zs)))
theorem u9:OpR X (binaryOp .Add) (jdh X.K):=by
 intro d s σ H x y v u Q I g i h;obtain⟨l,b,t,w,rfl,rfl,j,k,z,q⟩:=h;cases g;cases i;obtain⟨c,n,r,e,_⟩:=I.listX j;obtain⟨a,A,f,m,_⟩:=I.listX k;have B:=r.length;have o:=f.length;refine PySem.P.add_list e m ?_ (by rw[N3,N3];omega);have p:c.toArray++a.toArray=(c++a).toArray:=by simp
 rw[p];exact⟨.ref _,_,I.lnew (t':=s.toks) (r.append f) (by rw[N4];omega),rfl,q _ I.fresh⟩
theorem VL{ns:List Int}(h:PySem.W.WData.layableAll [PySem.W.WData.list (ns.map PySem.W.WData.int)]=true):∀ x∈ns,Builtin.Int.intBits x<=2 ^ 20:=by
 intro x c;have f:(PySem.W.WData.list (ns.map PySem.W.WData.int)).layable=true:=(PySem.W.layW_cons h).1;have e:PySem.W.ofPy (.list (ns.map .int))=PySem.W.WData.list (ns.map PySem.W.WData.int):=by
  have g:∀ a:List Int,PySem.W.ofPys (a.map PyData.int)=a.map PySem.W.WData.int:=by
   intro a
   induction a with
   | nil=>rfl
   | cons m a i=>simp[PySem.W.ofPys,PySem.W.ofPy,i]
  simp[PySem.W.ofPy,g]
 have b:=PySem.W.lay0_ofPy (s:=.list .int) (d:=.list (ns.map .int)) rfl (by simp[Shape.has]) (by rw[e];exact f);have j:PyData.layable0 (.list (ns.map .int))=true:=by
  simp[PyData.layableAll0] at b;exact b
 exact PyData.bits_item_of_ints j c
theorem walk_ofB{l:PySem.W.OpenLaw}{n k:Nat}{j:List Str}{R:(Str->Option Value)->Heap->Prop}{M:World->Heap->Prop}{d:DefRec}{K:Params->PySem.W.Frag}{CX:World->CXT}{sp:World->Sp} 
  (hn:l.most=some n) (A:n<=sizeLine) (B:d.params.defaults=[]) (S:Room k callerA)
  (U:∀(w:World) (h:Heap),M w h->(K w.params).In h)
  (F:∀(w:World) (mg:Str->Option Value) (fa:Addr) (h:Heap),(K w.params).In h->h.Ns mainGlobals mg->mg d.name=some (.ref fa) ->
   ∃ fd:FuncData,(∀(s:Shared) (u:Value),BindsTo s fd ⟨[u],[]⟩ [(x,u)]) /\
    ∀ base:Heap,(K w.params).In base->base.Ns mainGlobals mg->FnOk l.prog w (K w.params) mg base (CX w) k fa fd [x] (sp w))
  (C:∀(w:World) (H:Hp) (a:Addr) (ns:List Int),ns.length<=n->(∀ x∈ns,Builtin.Int.intBits x<=2 ^ 20)->jdK H->SqX (K w.params) H a (ns.map V.int)->sp w [.ref a] H (λv _=>v=.bl true) λ_ _ _=>False)
  (D:∀(w:World) (H:Hp) (s:Shared) (e:Value) (s':Shared),CX w [] H s (λ_ _ _=>False) e s'->False) :
  PySem.W.WalkO q j R M l.row.toRowW d [] (λf vs=>PySem.call f vs):=by
 intro w s₀ X mg mb G Y fa o pm cd Z dV kV ho hd hcd N E hg O P as y z hrd I hlo;obtain rfl:dV=.none:=PySem.W.Dflts.none N B;obtain rfl:kV=.none:=PySem.W.Dflts.noKw N;obtain⟨a,vs,ns,rfl,rfl,c,p,i⟩:=Att.script_of hn y I;have t:=VL z;have J:=U w _ Y;obtain⟨fd,hb,hF⟩:=F w mg fa _ J G.T.g E;refine PySem.W.enter_call (codeAny_mono (wH J G.T.g G.T.b G.T.builtins G.T.nolimit hg c p (N7 i A) S hF hb (λH hO hS=>C w H a ns i t hO ?_) λH e s'=>D w H X e s') λr s' hq=>?_)
 ·rcases hS with h | ⟨o,its,m,Q,_,_,L,hz,r⟩
  ·exact .inl h
  ·have e:=J a o Q;rw[c] at e;cases e;cases L;exact .inr ⟨_,_,Q,hz,r⟩
 ·obtain⟨rfl,h2,h3,h4⟩:=hq;exact⟨.inl ⟨.bool true,.bool true,[],rfl,λ_=>rfl,.bool true,Att.post_true l _,λ_=>⟨List.Pairwise.nil,λ_ hm=>(nomatch hm)⟩⟩,h2,h3,h4⟩
noncomputable def qv(sc:Scope)(N:List Str)(scope:Scope)(N':List Str)(ix:List (Option Nat)):Bool :=
 decide (scope.kind=.function)&&decide (sc.kind=.function)&&scope.names.all (λy=>decide (y.2≠.cell))&&scope.names.all (λy=>!decide (y.2=.local)||decide (scope.names.lookup y.1=some .local)) &&
 scope.names.all (λy=>!decide (y.2=.free)||(decide (scope.names.lookup y.1=some .free)&&(decide (sc.names.lookup y.1=some .cell)||decide (sc.names.lookup y.1=some .free))))&&decide N'.Nodup&&decide (ix.length=N'.length) &&
 (List.range ix.length).all (λi=>match ix[i]? with | some (some j)=>(match N'[i]? with | some x=>decide (N[j]?=some x)&&decide ((x,NameKind.free)∈scope.names) | none=>true) | _=>true)
theorem xo{X:Cx}{scope:Scope}{N':List Str}{ix:List (Option Nat)}(b:Scope)(N:List Str)(h1:X.env.scope=b)(h2:X.N=N)(h:qv b N scope N' ix=true):BlockOk X scope N' ix:=by
 subst h1;subst h2;unfold qv at h;simp only[L9,decide_eq_true_eq,List.all_eq_true,Bool.or_eq_true,Bool.not_eq_true',decide_eq_false_iff_not] at h;obtain⟨⟨⟨⟨⟨⟨⟨d,f⟩,g⟩,k⟩,c⟩,l⟩,m⟩,n⟩:=h;refine⟨d,g,λy a e=>?_,λy a e=>?_,λy a e=>?_,l,m,λi j x h1 h2=>?_,f⟩
 ·exact(k y a).elim (λz=>absurd e z) id
 ·exact(c y a).elim (λz=>absurd e z) λz=>z.1
 ·exact(c y a).elim (λz=>absurd e z) λz=>z.2
 ·have o:i < ix.length:=(L8.mp h1).1;have z:=n i (List.mem_range.mpr o);rw[h1] at z;dsimp only at z;rw[h2] at z;dsimp only at z;simp only[L9,decide_eq_true_eq] at z;exact z
structure FnFact(K:PySem.W.Frag)(mg:Str->Option Value)(x qual:Str)(st:Stmt)(f:Addr)(fd:FuncData)(ps:List Str):Prop where
 fn:Fun K x qual st f fd
 mgf:mg x=some (.ref f)
 bd:Binds K fd ps []
section
variable {X:Cx}{k:Nat}{f:Addr}{fd:FuncData}{ps:List Str}{sp:Sp}{x qual:Str}{st:Stmt}{p pos:Pos}{e:Expr}{es:List Expr}{t:TA}
theorem jef(F:FnFact X.K X.mg x qual st f fd ps)(G:FnOk X.prog X.w X.K X.mg X.base CX0 k f fd ps sp)(c:Room k X.A)(d:PA X (e::es) t)(g:Gl X x:=by rfl)(a:(x==("__debug__" : Str))=false:=by decide)
  (h:starEach (e::es) X.env=(false,eval e X.env)::starEach es X.env:=by rfl) (b:(backTo pos (starEach es X.env)).any (·.1)=false:=by rfl):PE X (.Call (.Name x p) (e::es) [] pos) (xb sp [] E0 t) :=
 jaA G c g F.mgf F.fn.kp F.bd .nil jd8 d a h b
end
theorem jak:OpR X (binaryOp .Mult) (λx y H Q=>∃(a:List Nat) (n:Int),x=.str (S a)/\y=.int n/\a.length<=1000/\0<=n/\n<=1000/\Q (.str (S (List.replicate n.toNat a).flatten)) H):=by
 intro f s σ H x y v u Q I g i h;obtain⟨a,n,rfl,rfl,j,B,l,q⟩:=h;obtain⟨k,rfl⟩:∃ k:Nat,n=(k:Int):=⟨n.toNat,by omega⟩;have m:k<=1000:=by omega
 rw[N8] at q;obtain⟨t,rfl⟩:=g;obtain⟨o,rfl⟩:=i;have p:a.length*k<=1000*1000:=Nat.mul_le_mul j m;have hok:MulOk (S a) (k:Int):=by
  refine⟨by simp;omega,λd c=>?_,λd c=>?_⟩
  ·rw[qY];have r:(1:Int)<=k:=by omega
   have C:(1000:Int)<=(2 ^ 63 - 1) / (k:Int):=by
    rw[Int.le_ediv_iff_mul_le (by omega)];have:(1000:Int)*k<=1000*1000:=by omega
    omega
   omega
  ·rw[qY,N8];unfold Builtin.Str.tooLong;have r:a.length*k<=sizeLine:=N7 p (by decide);exact X1 (by omega)
 have e:Txt.mul (S a) (k:Int)=S (List.replicate k a).flatten:=by
  have w:∀(n:Nat) (b:Array Nat),((List.replicate n a.toArray).foldl (·++·) b).toList=b.toList++(List.replicate n a).flatten:=by
   intro n
   induction n with
   | zero=>intro b;simp
   | succ n A=>intro b;rw[List.replicate_succ,U9,A];simp[List.replicate_succ]
  unfold Txt.mul;apply PyProof.Rows.ext_toList;rw[vQ];by_cases d:(k:Int) < 1
  ·have:k=0:=by omega
   subst this;simp[Str.empty]
  ·rw[if_neg d];by_cases c:((k:Int)==1||(S a).length==0)=true
   ·rw[if_pos c,vQ];rw[qY] at c;simp at c;rcases c with z | z
    ·have:k=1:=by omega
     subst this;simp
    ·subst z;simp
   ·rw[if_neg c,N8];have z:=w k #[];simp only[X4] at z;exact z
 refine SB.mul hok λo D=>?_;rw[e];exact⟨.str _,H,I.tok _,⟨_,rfl⟩,q⟩
end L2
namespace QD
open PySem L2
inductive KA where
 | int (i:Int) | str (s:List Nat)
 deriving DecidableEq
inductive D where
 | non | bl (b:Bool) | int (i:Int) | str (s:List Nat)
 | tup (l:List D) | lst (o:Bool) (l:List D)
 | dK (o:Bool) (ks:List KA) (l:List D)
 | dT (o:Bool) (ks:List (List KA)) (l:List D)
 | ins (o:Bool) (c:Nat) (ns:List Str) (l:List D)
 | dead
mutual
noncomputable def fz:D->D
 | .tup l=>.tup (fzs l)
 | .lst _ l=>.lst false (fzs l)
 | .dK _ ks l=>.dK false ks (fzs l)
 | .dT _ ks l=>.dT false ks (fzs l)
 | .ins _ c ns l=>.ins false c ns (fzs l)
 | .non=>.non | .bl b=>.bl b | .int i=>.int i | .str s=>.str s | .dead=>.dead
noncomputable def fzs:List D->List D
 | []=>[]
 | d::l=>fz d::fzs l
end
mutual
noncomputable def frz:D->Bool
 | .tup l=>frzs l
 | .lst o l=>!o&&frzs l
 | .dK o _ l=>!o&&frzs l
 | .dT o _ l=>!o&&frzs l
 | .ins o _ _ l=>!o&&frzs l
 | .non=>true | .bl _=>true | .int _=>true | .str _=>true | .dead=>true
noncomputable def frzs:List D->Bool
 | []=>true
 | d::l=>frz d&&frzs l
end
mutual
theorem Y3:∀ d:D,frz d=true->fz d=d
 | .tup l,h=>by rw[frz] at h;rw[fz,jx l h]
 | .lst o l,h=>by rw[frz,L9] at h;rw[fz,jx l h.2];cases o<;>simp_all
 | .dK o ks l,h=>by rw[frz,L9] at h;rw[fz,jx l h.2];cases o<;>simp_all
 | .dT o ks l,h=>by rw[frz,L9] at h;rw[fz,jx l h.2];cases o<;>simp_all
 | .ins o c ns l,h=>by rw[frz,L9] at h;rw[fz,jx l h.2];cases o<;>simp_all
 | .non,_=>rfl | .bl _,_=>rfl | .int _,_=>rfl | .str _,_=>rfl | .dead,_=>rfl
theorem jx:∀ l:List D,frzs l=true->fzs l=l
 | [],_=>rfl
 | d::l,h=>by rw[frzs,L9] at h;rw[fzs,Y3 d h.1,jx l h.2]
end
mutual
theorem jb9:∀ d:D,frz (fz d)=true
 | .tup l=>by rw[fz,frz];exact vG l
 | .lst o l=>by rw[fz,frz,vG l];rfl
 | .dK o ks l=>by rw[fz,frz,vG l];rfl
 | .dT o ks l=>by rw[fz,frz,vG l];rfl
 | .ins o c ns l=>by rw[fz,frz,vG l];rfl
 | .non=>rfl | .bl _=>rfl | .int _=>rfl | .str _=>rfl | .dead=>rfl
theorem vG:∀ l:List D,frzs (fzs l)=true
 | []=>rfl
 | d::l=>by rw[fzs,frzs,jb9 d,vG l];rfl
end
theorem yE:∀ l:List D,fzs l=l.map fz
 | []=>rfl
 | d::l=>by rw[fzs,yE l];rfl
theorem J6:∀ l:List D,frzs l=l.all frz
 | []=>rfl
 | d::l=>by rw[frzs,J6 l];rfl
structure RC where
 K:PySem.W.Frag
 cls:Nat->Addr
noncomputable def kaV:KA->Key
 | .int i=>.inl i
 | .str s=>.inr (S s)
noncomputable abbrev Zn:=Addr->Prop
def FT(R:RC)(Z:Zn)(H:Hp)(a:Addr)(vs:List V):Prop :=
 (Z a/\Rd H a (.tup vs)) \/ ∃(o:Obj) (its:Array Value) (n:Nat),R.K.lookup a=some o/\o.cls=.type "tuple"/\o.data=.seq its n/\its.size<=sizeLine/\Vals vs its.toList/\o.dict=none
def FL(R:RC)(Z:Zn)(H:Hp)(a:Addr)(vs:List V):Prop :=
 (Z a/\Rd H a (.lst vs)) \/ ∃(its:Array Value) (n:Nat),R.K.lookup a=some { cls:=.type "list",data:=.seq its n }/\its.size<=sizeLine/\Vals vs its.toList
def DkA(o:Bool)(H:Hp)(a:Addr)(kvs:List (Key×V)):Prop:=bif o then H a=some (.dK kvs) else Rd H a (.dK kvs)
mutual
def Rep(R:RC)(Z:Zn)(H:Hp):D->V->List Addr->Prop
 | .non,v,O=>v=.non/\O=[]
 | .bl b,v,O=>v=.bl b/\O=[]
 | .int i,v,O=>v=.int i/\O=[]
 | .str s,v,O=>v=.str (S s)/\O=[]
 | .dead,_,O=>O=[]
 | .tup l,v,O=>∃ a vs,v=.ref a/\FT R Z H a vs/\Reps R Z H l vs O
 | .lst o l,v,O=>∃ a vs O',v=.ref a/\Reps R Z H l vs O'/\bif o then H a=some (.lst vs)/\O=a::O' else FL R Z H a vs/\O'=[]/\O=[]
 | .dK o ks l,v,O=>∃ a vs O',v=.ref a/\Reps R Z H l vs O'/\ks.length=l.length/\DkA o H a ((ks.map kaV).zip vs)/\bif o then O=a::O' else Z a/\O'=[]/\O=[]
 | .dT o ks l,v,O=>∃ a vs O',v=.ref a/\Reps R Z H l vs O'/\ks.length=l.length/\H a=some (.dT ((ks.map (List.map kaV)).zip vs))/\bif o then O=a::O' else Z a/\O'=[]/\O=[]
 | .ins o c ns l,v,O=>∃ a dx vs O',v=.ref a/\Reps R Z H l vs O'/\ns.length=l.length/\H a=some (.ins (R.cls c) dx (ns.zip vs))/\bif o then O=a::O' else Z a/\O'=[]/\O=[]
def Reps(R:RC)(Z:Zn)(H:Hp):List D->List V->List Addr->Prop
 | [],vs,O=>vs=[]/\O=[]
 | d::ds,vs,O=>∃ v vs' O1 O2,vs=v::vs'/\O=O1++O2/\Rep R Z H d v O1/\Reps R Z H ds vs' O2
end
theorem FT.sq(h:FT R Z H a vs):SqT R.K H a vs:=by
 rcases h with⟨_,h⟩ | ⟨o,b,n,c,d,e,f,g,_⟩
 ·exact .inl h
 ·exact .inr ⟨o,b,n,c,d,e,f,g⟩
theorem FL.sqx(h:FL R Z H a vs):SqX R.K H a vs:=by
 rcases h with⟨_,h⟩ | h
 ·exact .inl h
 ·exact .inr h
theorem FL.sq(h:FL R Z H a vs):SqL R.K H a vs:=h.sqx.sq
theorem Rd.agree(e:H' a=H a)(h:Rd H a u):Rd H' a u:=by
 unfold Rd at h ⊢;rw[e];exact h
theorem FT.frame(hz:∀ a,Z a->Z' a)(b:∀ a,Z a->H' a=H a)(h:FT R Z H a vs):FT R Z' H' a vs:=by
 rcases h with⟨z,h⟩ | h
 ·exact .inl ⟨hz a z,Rd.agree (b a z) h⟩
 ·exact .inr h
theorem FL.frame(hz:∀ a,Z a->Z' a)(b:∀ a,Z a->H' a=H a)(h:FL R Z H a vs):FL R Z' H' a vs:=by
 rcases h with⟨z,h⟩ | h
 ·exact .inl ⟨hz a z,Rd.agree (b a z) h⟩
 ·exact .inr h
mutual
theorem Rep.frame(hz:∀ a,Z a->Z' a)(hH:∀ a,Z a->H' a=H a):∀{d:D}{v:V}{O:List Addr},Rep R Z H d v O->(∀ a∈O,H' a=H a)->Rep R Z' H' d v O
 | .non,_,_,h,_=>by rw[Rep] at h ⊢;exact h
 | .bl _,_,_,h,_=>by rw[Rep] at h ⊢;exact h
 | .int _,_,_,h,_=>by rw[Rep] at h ⊢;exact h
 | .str _,_,_,h,_=>by rw[Rep] at h ⊢;exact h
 | .dead,_,_,h,_=>by rw[Rep] at h ⊢;exact h
 | .tup l,_,_,h,hO=>by
  rw[Rep] at h ⊢;obtain⟨a,vs,e,t,r⟩:=h;exact⟨a,vs,e,t.frame hz hH,Reps.frame hz hH r hO⟩
 | .lst o l,_,_,h,hO=>by
  rw[Rep] at h ⊢;obtain⟨a,vs,O',e,r,h⟩:=h;cases o with
  | true =>
   obtain⟨h1,rfl⟩:=h;exact⟨a,vs,O',e,Reps.frame hz hH r λb hb=>hO b (L5 _ hb),by rw[cond_true,hO a L6];exact⟨h1,rfl⟩⟩
  | false =>
   obtain⟨h1,rfl,rfl⟩:=h;exact⟨a,vs,[],e,Reps.frame hz hH r (λb hb=>nomatch hb),h1.frame hz hH,rfl,rfl⟩
 | .dK o ks l,_,_,h,hO=>by
  rw[Rep] at h ⊢;obtain⟨a,vs,O',e,r,hl,hd,h⟩:=h;cases o with
  | true =>
   have h:=(show _=_ from h);subst h;exact⟨a,vs,O',e,Reps.frame hz hH r λb hb=>hO b (L5 _ hb),hl,by show H' a=some _;rw[hO a L6];exact hd,rfl⟩
  | false =>
   obtain⟨h1,rfl,rfl⟩:=h;exact⟨a,vs,[],e,Reps.frame hz hH r (λb hb=>nomatch hb),hl,Rd.agree (hH a h1) hd,hz a h1,rfl,rfl⟩
 | .dT o ks l,_,_,h,hO=>by
  rw[Rep] at h ⊢;obtain⟨a,vs,O',e,r,hl,hd,h⟩:=h;cases o with
  | true =>
   have h:=(show _=_ from h);subst h;exact⟨a,vs,O',e,Reps.frame hz hH r λb hb=>hO b (L5 _ hb),hl,by rw[hO a L6];exact hd,rfl⟩
  | false =>
   obtain⟨h1,rfl,rfl⟩:=h;exact⟨a,vs,[],e,Reps.frame hz hH r (λb hb=>nomatch hb),hl,by rw[hH a h1];exact hd,hz a h1,rfl,rfl⟩
 | .ins o c ns l,_,_,h,hO=>by
  rw[Rep] at h ⊢;obtain⟨a,dx,vs,O',e,r,hl,hd,h⟩:=h;cases o with
  | true =>
   have h:=(show _=_ from h);subst h;exact⟨a,dx,vs,O',e,Reps.frame hz hH r λb hb=>hO b (L5 _ hb),hl,by rw[hO a L6];exact hd,rfl⟩
  | false =>
   obtain⟨h1,rfl,rfl⟩:=h;exact⟨a,dx,vs,[],e,Reps.frame hz hH r (λb hb=>nomatch hb),hl,by rw[hH a h1];exact hd,hz a h1,rfl,rfl⟩
theorem Reps.frame(hz:∀ a,Z a->Z' a)(hH:∀ a,Z a->H' a=H a):∀{l:List D}{vs:List V}{O:List Addr},Reps R Z H l vs O->(∀ a∈O,H' a=H a)->Reps R Z' H' l vs O
 | [],_,_,h,_=>by rw[Reps] at h ⊢;exact h
 | d::l,_,_,h,hO=>by
  rw[Reps] at h ⊢;obtain⟨v,vs,O1,O2,e,rfl,r1,r2⟩:=h;exact⟨v,vs,O1,O2,e,rfl,Rep.frame hz hH r1 λa ha=>hO a (List.mem_append_left _ ha),Reps.frame hz hH r2 λa ha=>hO a (U3 _ ha)⟩
end
mutual
theorem Rep.nil:∀{d:D}{v:V}{O:List Addr},Rep R Z H d v O->frz d=true->O=[]
 | .non,_,_,h,_=>by rw[Rep] at h;exact h.2
 | .bl _,_,_,h,_=>by rw[Rep] at h;exact h.2
 | .int _,_,_,h,_=>by rw[Rep] at h;exact h.2
 | .str _,_,_,h,_=>by rw[Rep] at h;exact h.2
 | .dead,_,_,h,_=>by rw[Rep] at h;exact h
 | .tup l,_,_,h,f=>by
  rw[Rep] at h;rw[frz] at f;obtain⟨a,vs,e,t,r⟩:=h;exact Reps.nil r f
 | .lst o l,_,_,h,f=>by
  rw[Rep] at h;rw[frz] at f;obtain⟨a,vs,O',e,r,h⟩:=h;cases o with
  | true=>exact absurd f (by simp)
  | false=>exact h.2.2
 | .dK o ks l,_,_,h,f=>by
  rw[Rep] at h;rw[frz] at f;obtain⟨a,vs,O',e,r,hl,hd,h⟩:=h;cases o with
  | true=>exact absurd f (by simp)
  | false=>exact h.2.2
 | .dT o ks l,_,_,h,f=>by
  rw[Rep] at h;rw[frz] at f;obtain⟨a,vs,O',e,r,hl,hd,h⟩:=h;cases o with
  | true=>exact absurd f (by simp)
  | false=>exact h.2.2
 | .ins o c ns l,_,_,h,f=>by
  rw[Rep] at h;rw[frz] at f;obtain⟨a,dx,vs,O',e,r,hl,hd,h⟩:=h;cases o with
  | true=>exact absurd f (by simp)
  | false=>exact h.2.2
theorem Reps.nil:∀{l:List D}{vs:List V}{O:List Addr},Reps R Z H l vs O->frzs l=true->O=[]
 | [],_,_,h,_=>by rw[Reps] at h;exact h.2
 | d::l,_,_,h,f=>by
  rw[Reps] at h;rw[frzs,L9] at f;obtain⟨v,vs,O1,O2,e,rfl,r1,r2⟩:=h;rw[Rep.nil r1 f.1,Reps.nil r2 f.2];rfl
end
mutual
theorem Rep.freeze:∀{d:D}{v:V}{O:List Addr},Rep R Z H d v O->(∀ a,Z a->Z' a)->(∀ a∈O,Z' a)->Rep R Z' H (fz d) v []
 | .non,_,_,h,_,_=>by rw[Rep] at h;rw[fz,Rep];exact⟨h.1,rfl⟩
 | .bl _,_,_,h,_,_=>by rw[Rep] at h;rw[fz,Rep];exact⟨h.1,rfl⟩
 | .int _,_,_,h,_,_=>by rw[Rep] at h;rw[fz,Rep];exact⟨h.1,rfl⟩
 | .str _,_,_,h,_,_=>by rw[Rep] at h;rw[fz,Rep];exact⟨h.1,rfl⟩
 | .dead,_,_,h,_,_=>by rw[fz,Rep]
 | .tup l,_,_,h,hz,hO=>by
  rw[Rep] at h;rw[fz,Rep];obtain⟨a,vs,e,t,r⟩:=h;exact⟨a,vs,e,t.frame hz λ_ _=>rfl,Reps.freeze r hz hO⟩
 | .lst o l,_,_,h,hz,hO=>by
  rw[Rep] at h;rw[fz,Rep];obtain⟨a,vs,O',e,r,h⟩:=h;cases o with
  | true =>
   obtain⟨h1,rfl⟩:=h;exact⟨a,vs,[],e,Reps.freeze r hz λb hb=>hO b (L5 _ hb),.inl ⟨hO a L6,.inl h1⟩,rfl,rfl⟩
  | false =>
   obtain⟨h1,rfl,rfl⟩:=h;exact⟨a,vs,[],e,Reps.freeze r hz (λb hb=>nomatch hb),h1.frame hz (λ_ _=>rfl),rfl,rfl⟩
 | .dK o ks l,_,_,h,hz,hO=>by
  rw[Rep] at h;rw[fz,Rep];obtain⟨a,vs,O',e,r,hl,hd,h⟩:=h;have hl':ks.length=(fzs l).length:=by rw[yE,L0];exact hl
  cases o with
  | true =>
   have h:=(show _=_ from h);subst h;exact⟨a,vs,[],e,Reps.freeze r hz λb hb=>hO b (L5 _ hb),hl',.inl hd,hO a L6,rfl,rfl⟩
  | false =>
   obtain⟨h1,rfl,rfl⟩:=h;exact⟨a,vs,[],e,Reps.freeze r hz (λb hb=>nomatch hb),hl',hd,hz a h1,rfl,rfl⟩
 | .dT o ks l,_,_,h,hz,hO=>by
  rw[Rep] at h;rw[fz,Rep];obtain⟨a,vs,O',e,r,hl,hd,h⟩:=h;have hl':ks.length=(fzs l).length:=by rw[yE,L0];exact hl
  cases o with
  | true =>
   have h:=(show _=_ from h);subst h;exact⟨a,vs,[],e,Reps.freeze r hz λb hb=>hO b (L5 _ hb),hl',hd,hO a L6,rfl,rfl⟩
  | false =>
   obtain⟨h1,rfl,rfl⟩:=h;exact⟨a,vs,[],e,Reps.freeze r hz (λb hb=>nomatch hb),hl',hd,hz a h1,rfl,rfl⟩
 | .ins o c ns l,_,_,h,hz,hO=>by
  rw[Rep] at h;rw[fz,Rep];obtain⟨a,dx,vs,O',e,r,hl,hd,h⟩:=h;have hl':ns.length=(fzs l).length:=by rw[yE,L0];exact hl
  cases o with
  | true =>
   have h:=(show _=_ from h);subst h;exact⟨a,dx,vs,[],e,Reps.freeze r hz λb hb=>hO b (L5 _ hb),hl',hd,hO a L6,rfl,rfl⟩
  | false =>
   obtain⟨h1,rfl,rfl⟩:=h;exact⟨a,dx,vs,[],e,Reps.freeze r hz (λb hb=>nomatch hb),hl',hd,hz a h1,rfl,rfl⟩
theorem Reps.freeze:∀{l:List D}{vs:List V}{O:List Addr},Reps R Z H l vs O->(∀ a,Z a->Z' a)->(∀ a∈O,Z' a)->Reps R Z' H (fzs l) vs []
 | [],_,_,h,_,_=>by rw[Reps] at h;rw[fzs,Reps];exact⟨h.1,rfl⟩
 | d::l,_,_,h,hz,hO=>by
  rw[Reps] at h;rw[fzs,Reps];obtain⟨v,vs,O1,O2,e,rfl,r1,r2⟩:=h;exact⟨v,vs,[],[],e,rfl,Rep.freeze r1 hz λa ha=>hO a (List.mem_append_left _ ha),Reps.freeze r2 hz λa ha=>hO a (U3 _ ha)⟩
end
theorem Reps.length:∀{l:List D}{vs:List V}{O:List Addr},Reps R Z H l vs O->vs.length=l.length
 | [],_,_,h=>by rw[Reps] at h;rw[h.1];rfl
 | d::l,_,_,h=>by
  rw[Reps] at h;obtain⟨v,vs,b,c,rfl,rfl,e,a⟩:=h;rw[M0,M0,Reps.length a]
theorem Reps.append:∀{l m:List D}{vs ws:List V}{O P:List Addr},Reps R Z H l vs O->Reps R Z H m ws P->Reps R Z H (l++m) (vs++ws) (O++P)
 | [],m,_,_,_,_,h,k=>by rw[Reps] at h;obtain⟨rfl,rfl⟩:=h;exact k
 | d::l,m,_,_,_,_,h,k=>by
  rw[Reps] at h;obtain⟨v,vs,a,e,rfl,rfl,b,c⟩:=h;rw[List.cons_append,Reps];exact⟨v,_,a,_,rfl,List.append_assoc ..,b,Reps.append c k⟩
theorem Reps.one(h:Rep R Z H d v O):Reps R Z H [d] [v] O:=by
 rw[Reps];exact⟨v,[],O,[],rfl,(M9 O).symm,h,by rw[Reps];exact⟨rfl,rfl⟩⟩
theorem Reps.cons(h:Rep R Z H d v O)(k:Reps R Z H l vs P):Reps R Z H (d::l) (v::vs) (O++P):=by
 rw[Reps];exact⟨v,vs,O,P,rfl,rfl,h,k⟩
theorem Reps.empty:Reps R Z H [] [] []:=by rw[Reps];exact⟨rfl,rfl⟩
theorem Reps.at:∀{l:List D}{vs:List V}{O:List Addr}{i:Nat}{d:D},Reps R Z H l vs O->l[i]?=some d ->
  ∃ v A P B,vs[i]?=some v/\O=A++P++B/\Rep R Z H d v P/\∀{Z':Zn}{H':Hp}{d':D}{v':V}{P':List Addr},Rep R Z' H' d' v' P'->(∀ a,Z a->Z' a)->(∀ a,Z a->H' a=H a)->(∀ a∈A,H' a=H a)->(∀ a∈B,H' a=H a)->Reps R Z' H' (l.set i d') (vs.set i v') (A++P'++B)
 | [],_,_,_,_,_,e=>by simp at e
 | c::l,_,_,0,d,h,e=>by
  rw[Reps] at h;obtain⟨v,vs,b,j,rfl,rfl,m,n⟩:=h;have e:c=d:=by simpa using e
  subst e;refine⟨v,[],b,j,rfl,rfl,m,λr f g o p=>?_⟩;rw[List.set_cons_zero,List.set_cons_zero,Reps];exact⟨_,vs,_,j,rfl,rfl,r,Reps.frame f g n p⟩
 | c::l,_,_,i+1,d,h,e=>by
  rw[Reps] at h;obtain⟨v,vs,b,j,rfl,rfl,m,n⟩:=h;obtain⟨w,A,P,B,s,rfl,t,k⟩:=Reps.at (i:=i) (d:=d) n (by simpa using e);refine⟨w,b++A,P,B,by simpa using s,by simp,t,λ{Z' H' d' v' P'} r f g o p=>?_⟩;rw[List.set_cons_succ,List.set_cons_succ,Reps];exact⟨v,_,b,A++P'++B,rfl,by simp,Rep.frame f g m λa q=>o a (List.mem_append_left _ q),k r f g (λa q=>o a (U3 _ q)) p⟩
theorem Reps.item{l:List D}{a:List V}{i:Nat}(h:Reps R Z H l a [])(e:l[i]?=some d):∃ v,a[i]?=some v/\Rep R Z H d v []:=by
 obtain⟨v,A,P,B,b,c,r,_⟩:=h.at e;have:P=[]:=by
  have:=congrArg List.length c;simp at this;exact List.eq_nil_of_length_eq_zero (by omega)
 subst this;exact⟨v,b,r⟩
theorem Reps.take:∀{l:List D}{vs:List V}(n:Nat),Reps R Z H l vs []->Reps R Z H (l.take n) (vs.take n) []
 | _,_,0,_=>by simp;exact .empty
 | [],_,n+1,h=>by rw[Reps] at h;rw[h.1];exact .empty
 | d::l,_,n+1,h=>by
  rw[Reps] at h;obtain⟨v,vs,c,f,rfl,e,a,b⟩:=h;obtain⟨rfl,rfl⟩:=List.append_eq_nil_iff.mp e.symm;rw[List.take_succ_cons,List.take_succ_cons];exact .cons a (Reps.take n b)
theorem Reps.drop:∀{l:List D}{vs:List V}(n:Nat),Reps R Z H l vs []->Reps R Z H (l.drop n) (vs.drop n) []
 | _,_,0,h=>h
 | [],_,n+1,h=>by rw[Reps] at h;rw[h.1];exact .empty
 | d::l,_,n+1,h=>by
  rw[Reps] at h;obtain⟨v,vs,b,c,rfl,e,f,a⟩:=h;obtain⟨rfl,rfl⟩:=List.append_eq_nil_iff.mp e.symm;rw[List.drop_succ_cons,List.drop_succ_cons];exact Reps.drop n a
structure WF(Z:Zn)(H:Hp)(O:List Addr):Prop where
 nd:O.Nodup
 nz:∀ a∈O,¬ Z a
 od:∀ a∈O,H a≠none
 zd:∀ a,Z a->H a≠none
structure Go(Z:Zn)(H:Hp)(O:List Addr)(Z':Zn)(H':Hp)(O':List Addr):Prop where
 wf:WF Z' H' O'
 zz:∀ a,Z a->Z' a
 fr:∀ a,H a≠none->a∉O->H' a=H a
 zn:∀ a,Z' a->Z a \/ a∈O \/ H a=none
 sub:∀ a∈O',a∈O \/ H a=none
 dm:∀ a,H a≠none->H' a≠none
theorem Go.refl(w:WF Z H O):Go Z H O Z H O:=⟨w,λ_ z=>z,λ_ _ _=>rfl,λ_ z=>.inl z,λ_ h=>.inl h,λ_ h=>h⟩
theorem Go.trans(g:Go Z H O Z' H' O')(k:Go Z' H' O' Z'' H'' O''):Go Z H O Z'' H'' O'':=by
 refine⟨k.wf,λa z=>k.zz a (g.zz a z),λa h n=>?_,λa z=>?_,λa h=>?_,λa h=>k.dm a (g.dm a h)⟩
 ·rw[k.fr a (g.dm a h) λb=>(g.sub a b).elim n λe=>h e,g.fr a h n]
 ·rcases k.zn a z with z | z | z
  ·exact g.zn a z
  ·rcases g.sub a z with q | q
   ·exact .inr (.inl q)
   ·exact .inr (.inr q)
  ·by_cases h:H a=none
   ·exact .inr (.inr h)
   ·exact absurd z (g.dm a h)
 ·rcases k.sub a h with q | q
  ·exact g.sub a q
  ·by_cases h:H a=none
   ·exact .inr h
   ·exact absurd q (g.dm a h)
theorem Go.zH(w:WF Z H O)(g:Go Z H O Z' H' O'):∀ a,Z a->H' a=H a:=λa z=>g.fr a (w.zd a z) λh=>w.nz a h z
theorem WF.sub(w:WF Z H O)(h:∀ a∈O',a∈O)(n:O'.Nodup):WF Z H O':=⟨n,λa z=>w.nz a (h a z),λa z=>w.od a (h a z),w.zd⟩
theorem WF.mid(w:WF Z H (A++O++B)):WF Z H O:=w.sub (λa h=>by simp[h]) (by have:=w.nd;simp[U8] at this;exact this.2.1.1)
theorem Go.frame(w:WF Z H (A++O++B))(g:Go Z H O Z' H' O'):Go Z H (A++O++B) Z' H' (A++O'++B):=by
 have nd:=w.nd;simp only[U8,N2] at nd;have new:∀ a∈O',a∉A/\a∉B:=λa h=>by
  rcases g.sub a h with q | q
  ·exact⟨λz=>nd.1.2.2 a z a q rfl,λz=>nd.2.2 a (.inr q) a z rfl⟩
  ·exact⟨λz=>w.od a (by simp[z]) q,λz=>w.od a (by simp[z]) q⟩
 have keep:∀ a,a∈A \/ a∈B->a∉O:=λa h z=>by
  rcases h with h | h
  ·exact nd.1.2.2 a h a z rfl
  ·exact nd.2.2 a (.inr z) a h rfl
 refine⟨⟨?_,λa h z=>?_,λa h=>?_,g.wf.zd⟩,g.zz,λa h n=>?_,λa z=>?_,λa h=>?_,g.dm⟩
 ·simp only[U8,N2];exact⟨⟨nd.1.1,g.wf.nd,λa h b k e=>(new b k).1 (e▸h)⟩,nd.2.1,λa h b k e=>by
   rcases h with h | h
   ·exact nd.2.2 a (.inl h) b k e
   ·exact(new a h).2 (e▸k)⟩
 ·simp only[N2] at h;rcases h with(h | h) | h
  ·rcases g.zn a z with q | q | q
   ·exact w.nz a (by simp[h]) q
   ·exact keep a (.inl h) q
   ·exact w.od a (by simp[h]) q
  ·exact g.wf.nz a h z
  ·rcases g.zn a z with q | q | q
   ·exact w.nz a (by simp[h]) q
   ·exact keep a (.inr h) q
   ·exact w.od a (by simp[h]) q
 ·simp only[N2] at h;rcases h with(h | h) | h
  ·exact g.dm a (w.od a (by simp[h]))
  ·exact g.wf.od a h
  ·exact g.dm a (w.od a (by simp[h]))
 ·simp only[N2,not_or] at n;exact g.fr a h n.1.2
 ·rcases g.zn a z with q | q | q
  ·exact .inl q
  ·exact .inr (.inl (by simp[q]))
  ·exact .inr (.inr q)
 ·simp only[N2] at h ⊢;rcases h with(h | h) | h
  ·exact .inl (.inl (.inl h))
  ·rcases g.sub a h with q | q
   ·exact .inl (.inl (.inr q))
   ·exact .inr q
  ·exact .inl (.inr h)
theorem Go.keepA(w:WF Z H (A++O++B))(g:Go Z H O Z' H' O'):(∀ a∈A,H' a=H a)/\∀ a∈B,H' a=H a:=by
 have nd:=w.nd;simp only[U8,N2] at nd;exact⟨λa h=>g.fr a (w.od a (by simp[h])) λz=>nd.1.2.2 a h a z rfl,λa h=>g.fr a (w.od a (by simp[h])) λz=>nd.2.2 a (.inr z) a h rfl⟩
theorem Go.drop(g:Go Z H O Z' H' O')(h:∀ a∈O'',a∈O')(n:O''.Nodup):Go Z H O Z' H' O'':=⟨g.wf.sub h n,g.zz,g.fr,g.zn,λa q=>g.sub a (h a q),g.dm⟩
theorem Go.dropR(g:Go Z H O Z' H' (A++B)):Go Z H O Z' H' A:=g.drop (λa h=>by simp[h]) (U8.mp g.wf.nd).1
theorem Go.freeze(w:WF Z H O):Go Z H O (λa=>Z a \/ a∈O) H [] :=
 ⟨⟨List.nodup_nil,λa h=>(nomatch h),λa h=>(nomatch h),λa h=>h.elim (w.zd a) (w.od a)⟩,λa z=>.inl z,λ_ _ _=>rfl,λa z=>z.elim .inl λq=>.inr (.inl q),λa h=>(nomatch h),λ_ h=>h⟩
theorem Go.newF(w:WF Z H O)(b:H p=none):Go Z H O (λa=>Z a \/ a=p) (upd H p o) O:=by
 have ne:∀ a,H a≠none->a≠p:=λa h e=>h (e▸b);refine⟨⟨w.nd,λa h z=>z.elim (w.nz a h) (ne a (w.od a h)),λa h=>?_,λa z=>?_⟩,λa z=>.inl z,λa h _=>jd (ne a h),λa z=>z.elim .inl λe=>.inr (.inr (e▸b)),λa h=>.inl h,λa h=>?_⟩
 ·rw[jd (ne a (w.od a h))];exact w.od a h
 ·by_cases e:a=p
  ·rw[e,jo];exact λh=>nomatch h
  ·rw[jd e];exact w.zd a (z.resolve_right e)
 ·rw[jd (ne a h)];exact h
theorem Go.newO(w:WF Z H O)(b:H p=none):Go Z H O Z (upd H p o) (p::O):=by
 have ne:∀ a,H a≠none->a≠p:=λa h e=>h (e▸b);refine⟨⟨List.nodup_cons.mpr ⟨λh=>w.od p h b,w.nd⟩,λa h z=>?_,λa h=>?_,λa z=>?_⟩,λa z=>z,λa h _=>jd (ne a h),λa z=>.inl z,λa h=>?_,λa h=>?_⟩
 ·rcases M4.mp h with e | e
  ·exact w.zd a z (e▸b)
  ·exact w.nz a e z
 ·rcases M4.mp h with e | e
  ·rw[e,jo];exact λh=>nomatch h
  ·rw[jd (ne a (w.od a e))];exact w.od a e
 ·rw[jd (ne a (w.zd a z))];exact w.zd a z
 ·rcases M4.mp h with e | e
  ·exact .inr (e▸b)
  ·exact .inl e
 ·rw[jd (ne a h)];exact h
theorem Go.put(w:WF Z H O)(c:p∈O):Go Z H O Z (upd H p o) O:=by
 have b:∀ a,upd H p o a=none->a≠p/\H a=none:=λa h=>by
  by_cases e:a=p
  ·rw[e,jo] at h;cases h
  ·rw[jd e] at h;exact⟨e,h⟩
 exact⟨⟨w.nd,w.nz,λa h z=>w.od a h (b a z).2,λa z e=>w.zd a z (b a e).2⟩,λa z=>z,λa h n=>jd λe=>n (e▸c),λa z=>.inl z,λa h=>.inl h,λa h z=>h (b a z).2⟩
noncomputable abbrev Rh:=List (Option D)
def Slots(R:RC)(Z:Zn)(H:Hp):Rh->St->List Addr->Prop
 | [],σ,O=>σ=[]/\O=[]
 | none::ρ,σ,O=>∃ s σ',σ=s::σ'/\Slots R Z H ρ σ' O
 | some d::ρ,σ,O=>∃ v σ' O1 O2,σ=some v::σ'/\O=O1++O2/\Rep R Z H d v O1/\Slots R Z H ρ σ' O2
theorem Slots.frame(hz:∀ a,Z a->Z' a)(c:∀ a,Z a->H' a=H a):∀{ρ:Rh}{σ:St}{O:List Addr},Slots R Z H ρ σ O->(∀ a∈O,H' a=H a)->Slots R Z' H' ρ σ O
 | [],_,_,h,_=>h
 | none::ρ,_,_,h,b=>by
  obtain⟨s,f,e,r⟩:=h;exact⟨s,f,e,Slots.frame hz c r b⟩
 | some d::ρ,_,_,h,b=>by
  obtain⟨v,f,i,j,e,rfl,k,l⟩:=h;exact⟨v,f,i,j,e,rfl,k.frame hz c λa g=>b a (List.mem_append_left _ g),Slots.frame hz c l λa g=>b a (U3 _ g)⟩
theorem Slots.length:∀{ρ:Rh}{σ:St}{O:List Addr},Slots R Z H ρ σ O->σ.length=ρ.length
 | [],_,_,h=>by rw[h.1];rfl
 | none::ρ,_,_,h=>by obtain⟨s,a,rfl,r⟩:=h;rw[M0,M0,Slots.length r]
 | some d::ρ,_,_,h=>by obtain⟨v,a,c,e,rfl,rfl,f,b⟩:=h;rw[M0,M0,Slots.length b]
theorem Slots.put:∀{ρ:Rh}{σ:St}{O:List Addr}{i:Nat},Slots R Z H ρ σ O->i < ρ.length->∃ A P B,O=A++P++B /\
  (∀ d,ρ[i]?=some (some d)->∃ v,σ[i]?=some (some v)/\Rep R Z H d v P) /\
  (∀{Z':Zn}{H':Hp}{d':D}{v':V}{P':List Addr},Rep R Z' H' d' v' P'->(∀ a,Z a->Z' a)->(∀ a,Z a->H' a=H a)->(∀ a∈A,H' a=H a)->(∀ a∈B,H' a=H a)->Slots R Z' H' (ρ.set i (some d')) (σ.set i (some v')) (A++P'++B)) /\
  Slots R Z H (ρ.set i none) σ (A++B)
 | [],_,_,_,_,j=>absurd j (Nat.not_lt_zero _)
 | none::ρ,_,_,0,h,j=>by
  obtain⟨s,b,rfl,r⟩:=h;refine⟨[],[],_,rfl,λd e=>by simp at e,λq f g l k=>?_,?_⟩
  ·exact⟨_,b,_,_,rfl,rfl,q,Slots.frame f g r k⟩
  ·exact⟨s,b,rfl,r⟩
 | some c::ρ,_,_,0,h,j=>by
  obtain⟨v,b,m,x,rfl,rfl,n,o⟩:=h;refine⟨[],m,x,rfl,λd e=>?_,λq f g l k=>?_,?_⟩
  ·have e:c=d:=by simpa using e
   subst e;exact⟨v,rfl,n⟩
  ·exact⟨_,b,_,_,rfl,rfl,q,Slots.frame f g o k⟩
  ·exact⟨_,b,rfl,o⟩
 | none::ρ,_,_,i+1,h,j=>by
  obtain⟨s,b,rfl,r⟩:=h;obtain⟨A,P,B,rfl,p,t,u⟩:=Slots.put (i:=i) r (by simpa using j);refine⟨A,P,B,rfl,λd e=>p d (by simpa using e),λq f g l k=>?_,?_⟩
  ·exact⟨s,_,rfl,t q f g l k⟩
  ·exact⟨s,b,rfl,u⟩
 | some c::ρ,_,_,i+1,h,j=>by
  obtain⟨v,b,m,x,rfl,rfl,n,o⟩:=h;obtain⟨A,P,B,rfl,p,t,u⟩:=Slots.put (i:=i) o (by simpa using j);refine⟨m++A,P,B,by simp,λd e=>p d (by simpa using e),λ{Z' H' d' v' P'} q f g l k=>?_,?_⟩
  ·exact⟨v,_,m,A++P'++B,rfl,by simp,n.frame f g λa w=>l a (List.mem_append_left _ w),t q f g (λa w=>l a (U3 _ w)) k⟩
  ·exact⟨v,b,m,A++B,rfl,by simp,n,u⟩
theorem jH:∀{l:List α}{i:Nat}{x:α},l[i]?=some x->l.set i x=l
 | [],_,_,h=>by simp at h
 | y::l,0,x,h=>by simp at h;subst h;rfl
 | y::l,i+1,x,h=>by rw[List.set_cons_succ,jH (by simpa using h)]
noncomputable abbrev FE:=Rh->Option (D×Rh)
noncomputable abbrev FT':=Rh->Option (Bool×Rh)
noncomputable abbrev FA:=Rh->Option (List D×Rh)
def DE(R:RC)(te:TE)(f:FE):Prop:=∀{σ:St}{ρ ρ':Rh}{Z:Zn}{H:Hp}{O:List Addr}{d:D},WF Z H O->Slots R Z H ρ σ O->f ρ=some (d,ρ') ->
 ∀{Q:VK},(∀{v:V}{Z':Zn}{H':Hp}{P O':List Addr},Go Z H O Z' H' (P++O')->Rep R Z' H' d v P->Slots R Z' H' ρ' σ O'->Q v H')->te σ H Q
def DT(R:RC)(tt:TT)(f:FT'):Prop:=∀{σ:St}{ρ ρ':Rh}{Z:Zn}{H:Hp}{O:List Addr}{b:Bool},WF Z H O->Slots R Z H ρ σ O->f ρ=some (b,ρ') ->
 ∀{Q:Bool->Hp->Prop},(∀{Z':Zn}{H':Hp}{O':List Addr},Go Z H O Z' H' O'->Slots R Z' H' ρ' σ O'->Q b H')->tt σ H Q
def DA(R:RC)(ta:TA)(f:FA):Prop:=∀{σ:St}{ρ ρ':Rh}{Z:Zn}{H:Hp}{O:List Addr}{ds:List D},WF Z H O->Slots R Z H ρ σ O->f ρ=some (ds,ρ') ->
 ∀{Q:List V->Hp->Prop},(∀{vs:List V}{Z':Zn}{H':Hp}{P O':List Addr},Go Z H O Z' H' (P++O')->Reps R Z' H' ds vs P->Slots R Z' H' ρ' σ O'->Q vs H')->ta σ H Q
inductive Out where
 | nx (ρ:Rh) | rt (d:D) (ρ:Rh) | bk (ρ:Rh) | ct (ρ:Rh)
noncomputable abbrev FS:=Rh->Option Out
def Keep(pm:List Nat)(σ σ':St):Prop:=∀ i∈pm,σ'[i]?=σ[i]?
def OutOk(R:RC)(pm:List Nat)(Z:Zn)(H:Hp)(O:List Addr)(σ:St)(D':Ends):Out->Prop
 | .nx ρ'=>∀{σ':St}{Z':Zn}{H':Hp}{O':List Addr},Go Z H O Z' H' O'->Slots R Z' H' ρ' σ' O'->Keep pm σ σ'->D'.nx σ' H'
 | .bk ρ'=>∀{σ':St}{Z':Zn}{H':Hp}{O':List Addr},Go Z H O Z' H' O'->Slots R Z' H' ρ' σ' O'->Keep pm σ σ'->D'.bk σ' H'
 | .ct ρ'=>∀{σ':St}{Z':Zn}{H':Hp}{O':List Addr},Go Z H O Z' H' O'->Slots R Z' H' ρ' σ' O'->Keep pm σ σ'->D'.ct σ' H'
 | .rt d ρ'=>∀{v:V}{σ':St}{Z':Zn}{H':Hp}{P O':List Addr},Go Z H O Z' H' (P++O')->Rep R Z' H' d v P->Slots R Z' H' ρ' σ' O'->Keep pm σ σ'->D'.rt v H'
def DS(R:RC)(pm:List Nat)(ts:TS)(f:FS):Prop:=∀{σ:St}{ρ:Rh}{Z:Zn}{H:Hp}{O:List Addr}{o:Out},WF Z H O->Slots R Z H ρ σ O->f ρ=some o->∀{D':Ends},OutOk R pm Z H O σ D' o->ts D' σ H
def DG(R:RC)(pm:List Nat)(tg:TG)(f:D->Rh->Option Rh):Prop:=∀{σ:St}{ρ ρ':Rh}{Z:Zn}{H:Hp}{O P:List Addr}{d:D}{v:V},WF Z H (P++O)->Rep R Z H d v P->Slots R Z H ρ σ O->f d ρ=some ρ' ->
 ∀{Q:St->Hp->Prop},(∀{σ':St}{Z':Zn}{H':Hp}{O':List Addr},Go Z H (P++O) Z' H' O'->Slots R Z' H' ρ' σ' O'->Keep pm σ σ'->Q σ' H')->tg v σ H Q
theorem Keep.refl(pm:List Nat)(σ:St):Keep pm σ σ:=λ_ _=>rfl
theorem Keep.trans(h:Keep pm σ σ')(k:Keep pm σ' σ''):Keep pm σ σ'':=λi a=>(k i a).trans (h i a)
theorem Keep.set(h:i∉pm):Keep pm σ (σ.set i x):=λj a=>by
 have ne:i≠j:=λe=>h (by rw[e];exact a);rw[List.getElem?_set,if_neg ne]
noncomputable def dMv(i:Nat):FE:=λρ=>match ρ[i]? with
 | some (some d)=>some (d,ρ.set i none)
 | _=>none
theorem jei:DE R (vB i) (dMv i):=by
 intro σ ρ p Z H O d w h e Q k;unfold dMv at e;split at e
 ·rename_i c j;have l:i < ρ.length:=(L8.mp j).1;obtain⟨A,P,B,rfl,m,s,n⟩:=h.put l;obtain⟨v,o,r⟩:=m c j;cases e;refine⟨v,o,k (P:=P) ((Go.refl w).drop (λa q=>?_) ?_) r n⟩
  ·simp at q ⊢;rcases q with q | q | q<;>simp[q]
  ·have nd:=w.nd;simp only[U8,N2] at nd ⊢;exact⟨nd.1.2.1,⟨nd.1.1,nd.2.1,λa f b g=>nd.2.2 a (.inl f) b g⟩,λa f b g e=>g.elim (λq=>nd.1.2.2 b q a f e.symm) λq=>nd.2.2 a (.inr f) b q e⟩
 ·cases e
theorem Rep.tupNew(w:WF Z H O)(b:H p=none)(r:Reps R Z H l vs O):Rep R (λa=>Z a \/ a=p) (upd H p (.tup vs)) (.tup l) (.ref p) O:=by
 have ne:∀ a,H a≠none->a≠p:=λa h e=>h (e▸b);rw[Rep];exact⟨p,vs,rfl,.inl ⟨.inr rfl,.inl jo⟩,r.frame (λa z=>.inl z) (λa z=>jd (ne a (w.zd a z))) λa h=>jd (ne a (w.od a h))⟩
theorem Rep.lstNew(w:WF Z H O)(b:H p=none)(r:Reps R Z H l vs O):Rep R Z (upd H p (.lst vs)) (.lst true l) (.ref p) (p::O):=by
 have ne:∀ a,H a≠none->a≠p:=λa h e=>h (e▸b);rw[Rep];exact⟨p,vs,O,rfl,r.frame (λa z=>z) (λa z=>jd (ne a (w.zd a z))) λa h=>jd (ne a (w.od a h)),jo,rfl⟩
theorem Rep.bl_of(r:Rep R Z H (.bl b) v O):v=.bl b/\O=[]:=by rw[Rep] at r;exact r
theorem Rep.bl_mk:Rep R Z H (.bl b) (.bl b) []:=by rw[Rep];exact⟨rfl,rfl⟩
theorem OutOk.pre(g:Go Z H O Z1 H1 O1)(kp:Keep pm σ σ1)(k:OutOk R pm Z H O σ D' o):OutOk R pm Z1 H1 O1 σ1 D' o:=by
 cases o with
 | nx ρ=>exact λa b c=>k (g.trans a) b (kp.trans c)
 | bk ρ=>exact λa b c=>k (g.trans a) b (kp.trans c)
 | ct ρ=>exact λa b c=>k (g.trans a) b (kp.trans c)
 | rt d ρ=>exact λa e b c=>k (g.trans a) e b (kp.trans c)
noncomputable def yX:FS:=λρ=>some (.nx ρ)
noncomputable def jL(f g:FS):FS:=λρ=>match f ρ with
 | some (.nx ρ1)=>g ρ1
 | o=>o
theorem jav:DS R pm jbh yX:=by
 intro σ ρ Z H O o w h e a k;cases e;exact k (Go.refl w) h (Keep.refl _ _)
theorem jcj(i:DS R pm t f)(j:DS R pm u g):DS R pm (jcg t u) (jL f g):=by
 intro σ ρ Z H O o w h e a k;unfold jL at e;cases e1:f ρ with
 | none=>rw[e1] at e;cases e
 | some l =>
  rw[e1] at e;refine i w h e1 (D':={ a with nx:=u a }) ?_;cases l with
  | nx b=>exact λ{p q r s} c m n=>j c.wf m e (k.pre c n)
  | bk b=>cases e;exact k
  | ct b=>cases e;exact k
  | rt d b=>cases e;exact k
noncomputable def kB(fa:FE):FS:=λρ=>match fa ρ with
 | none=>none
 | some (x,ρ1)=>some (.rt x ρ1)
theorem jct(a:DE R ta fa):DS R pm (jd5 ta) (kB fa):=by
 intro σ ρ Z H O o w h e f k;unfold kB at e;cases e1:fa ρ with
 | none=>rw[e1] at e;cases e
 | some p =>
  obtain⟨x,g⟩:=p;rw[e1] at e;cases e;exact a w h e1 λb c d=>k b c d (Keep.refl _ _)
noncomputable def sIf(ft:FT')(f g:FS):FS:=λρ=>match ft ρ with
 | none=>none
 | some (b,ρ1)=>bif b then f ρ1 else g ρ1
theorem jdT(d:DT R tt ft)(i:DS R pm t f)(j:DS R pm u g):DS R pm (jey tt t u) (sIf ft f g):=by
 intro σ ρ Z H O o w h e l k;unfold sIf at e;cases e1:ft ρ with
 | none=>rw[e1] at e;cases e
 | some p =>
  obtain⟨c,m⟩:=p;rw[e1] at e;dsimp only at e;refine d w h e1 λ{n q r} a b=>?_;cases c with
  | true=>exact jcy (i a.wf b e (k.pre a (Keep.refl _ _)))
  | false=>exact jcr (j a.wf b e (k.pre a (Keep.refl _ _)))
noncomputable def jl(pm:List Nat)(i:Nat):D->Rh->Option Rh:=λd ρ=>bif decide (i < ρ.length)&&!decide (i∈pm) then some (ρ.set i (some d)) else none
theorem VC:DG R pm (qC i) (jl pm i):=by
 intro σ ρ m Z H O P d v w r h e Q k;unfold jl at e;by_cases f:i < ρ.length
 ·by_cases g:i∈pm
  ·rw[X0 g] at e;simp at e
  ·rw[X0 f,X1 g] at e;cases e;obtain⟨A,n,B,rfl,o,l,p⟩:=h.put f;refine k (O':=A++P++B) ((Go.refl w).drop (λa q=>?_) ?_) (l r (λ_ z=>z) (λ_ _=>rfl) (λ_ _=>rfl) (λ_ _=>rfl)) (Keep.set g)
   ·simp at q ⊢;rcases q with q | q | q<;>simp[q]
   ·have nd:=w.nd;simp only[U8,N2] at nd ⊢;exact⟨⟨nd.2.1.1.1,nd.1,λa j b c e=>nd.2.2 b c a (.inl (.inl j)) e.symm⟩,nd.2.1.2.1,λa j b c e=>j.elim (λq=>nd.2.1.2.2 a (.inl q) b c e) λq=>nd.2.2 a q b (.inr c) e⟩
 ·rw[X1 f] at e;simp at e
noncomputable def j7(fa:FE)(g:D->Rh->Option Rh):FS:=λρ=>match fa ρ with
 | none=>none
 | some (x,ρ1)=>match g x ρ1 with
  | none=>none
  | some ρ2=>some (.nx ρ2)
theorem ue(b:DE R ta fa)(c:DG R pm tg g):DS R pm (uX ta tg) (j7 fa g):=by
 intro σ ρ Z H O o w h e n k;unfold j7 at e;cases e1:fa ρ with
 | none=>rw[e1] at e;cases e
 | some p =>
  obtain⟨x,d⟩:=p;rw[e1] at e;dsimp only at e;cases e2:g x d with
  | none=>rw[e2] at e;cases e
  | some q =>
   rw[e2] at e;cases e;exact b w h e1 λa f i=>c a.wf f i e2 λj l m=>k (Go.trans a j) l m
def DGs(R:RC)(pm:List Nat)(tg:TGs)(f:List D->Rh->Option Rh):Prop:=∀{σ:St}{ρ ρ':Rh}{Z:Zn}{H:Hp}{O P:List Addr}{ds:List D}{vs:List V},WF Z H (P++O)->Reps R Z H ds vs P->Slots R Z H ρ σ O->f ds ρ=some ρ' ->
 ∀{Q:St->Hp->Prop},(∀{σ':St}{Z':Zn}{H':Hp}{O':List Addr},Go Z H (P++O) Z' H' O'->Slots R Z' H' ρ' σ' O'->Keep pm σ σ'->Q σ' H')->tg vs σ H Q
noncomputable def gN:List D->Rh->Option Rh:=λds ρ=>match ds with
 | []=>some ρ
 | _=>none
noncomputable def gC(g:D->Rh->Option Rh)(gs:List D->Rh->Option Rh):List D->Rh->Option Rh:=λds ρ=>match ds with
 | []=>none
 | d::r=>match g d ρ with
  | none=>none
  | some ρ1=>gs r ρ1
noncomputable def gT(n:Nat)(gs:List D->Rh->Option Rh):D->Rh->Option Rh:=λd ρ=>match d with
 | .tup l=>bif decide (l.length=n) then gs l ρ else none
 | _=>none
noncomputable abbrev PF:=Rh->Option D
noncomputable abbrev PTf:=Rh->Option Bool
noncomputable abbrev PAf:=Rh->Option (List D)
mutual
theorem Rep.dom:∀{d:D}{v:V}{O:List Addr},Rep R Z H d v O->∀ a∈O,H a≠none
 | .non,_,_,h,a,ha=>by rw[Rep] at h;rw[h.2] at ha;cases ha
 | .bl _,_,_,h,a,ha=>by rw[Rep] at h;rw[h.2] at ha;cases ha
 | .int _,_,_,h,a,ha=>by rw[Rep] at h;rw[h.2] at ha;cases ha
 | .str _,_,_,h,a,ha=>by rw[Rep] at h;rw[h.2] at ha;cases ha
 | .dead,_,_,h,a,ha=>by rw[Rep] at h;rw[h] at ha;cases ha
 | .tup l,_,_,h,a,ha=>by
  rw[Rep] at h;obtain⟨b,vs,e,t,r⟩:=h;exact Reps.dom r a ha
 | .lst o l,_,_,h,a,ha=>by
  rw[Rep] at h;obtain⟨b,vs,O',e,r,h⟩:=h;cases o with
  | true =>
   obtain⟨h1,rfl⟩:=h;rcases M4.mp ha with e | e
   ·rw[e,h1];exact λz=>(nomatch z)
   ·exact Reps.dom r a e
  | false=>rw[h.2.2] at ha;cases ha
 | .dK o ks l,_,_,h,a,ha=>by
  rw[Rep] at h;obtain⟨b,vs,O',e,r,hl,hd,h⟩:=h;cases o with
  | true =>
   have h:=(show _=_ from h);subst h;rcases M4.mp ha with e | e
   ·rw[e,hd];exact λz=>(nomatch z)
   ·exact Reps.dom r a e
  | false=>rw[h.2.2] at ha;cases ha
 | .dT o ks l,_,_,h,a,ha=>by
  rw[Rep] at h;obtain⟨b,vs,O',e,r,hl,hd,h⟩:=h;cases o with
  | true =>
   have h:=(show _=_ from h);subst h;rcases M4.mp ha with e | e
   ·rw[e,hd];exact λz=>(nomatch z)
   ·exact Reps.dom r a e
  | false=>rw[h.2.2] at ha;cases ha
 | .ins o c ns l,_,_,h,a,ha=>by
  rw[Rep] at h;obtain⟨b,dx,vs,O',e,r,hl,hd,h⟩:=h;cases o with
  | true =>
   have h:=(show _=_ from h);subst h;rcases M4.mp ha with e | e
   ·rw[e,hd];exact λz=>(nomatch z)
   ·exact Reps.dom r a e
  | false=>rw[h.2.2] at ha;cases ha
theorem Reps.dom:∀{l:List D}{vs:List V}{O:List Addr},Reps R Z H l vs O->∀ a∈O,H a≠none
 | [],_,_,h,a,ha=>by rw[Reps] at h;rw[h.2] at ha;cases ha
 | d::l,_,_,h,a,ha=>by
  rw[Reps] at h;obtain⟨v,vs,O1,O2,e,rfl,r1,r2⟩:=h;rcases N2.mp ha with q | q
  ·exact Rep.dom r1 a q
  ·exact Reps.dom r2 a q
end
theorem Slots.dom:∀{ρ:Rh}{σ:St}{O:List Addr},Slots R Z H ρ σ O->∀ a∈O,H a≠none
 | [],_,_,h,a,b=>by rw[h.2] at b;cases b
 | none::ρ,_,_,h,a,b=>by obtain⟨s,c,rfl,r⟩:=h;exact Slots.dom r a b
 | some d::ρ,_,_,h,a,b=>by
  obtain⟨v,c,g,i,rfl,rfl,e,f⟩:=h;rcases N2.mp b with q | q
  ·exact e.dom a q
  ·exact Slots.dom f a q
abbrev Zd(Z:Zn)(H:Hp):Prop:=∀ a,Z a->H a≠none
theorem wf0(z:Zd Z H):WF Z H []:=⟨List.nodup_nil,λa h=>(nomatch h),λa h=>(nomatch h),z⟩
theorem Go.id(z:Zd Z H):Go Z H [] Z H []:=Go.refl (wf0 z)
theorem Go.same(g:Go Z H [] Z' H' P):∀ a,H a≠none->H' a=H a:=λa h=>g.fr a h (λz=>(nomatch z))
theorem Go.rep(z:Zd Z H)(g:Go Z H [] Z' H' P)(r:Rep R Z H d v O):Rep R Z' H' d v O:=r.frame g.zz (λa h=>g.same a (z a h)) λa h=>g.same a (r.dom a h)
theorem Go.reps(z:Zd Z H)(g:Go Z H [] Z' H' P)(r:Reps R Z H l vs O):Reps R Z' H' l vs O:=r.frame g.zz (λa h=>g.same a (z a h)) λa h=>g.same a (r.dom a h)
theorem Go.slots(z:Zd Z H)(g:Go Z H [] Z' H' P)(r:Slots R Z H ρ σ O):Slots R Z' H' ρ σ O:=r.frame g.zz (λa h=>g.same a (z a h)) λa h=>g.same a (r.dom a h)
theorem Go.pair(g:Go Z H [] Z' H' P)(k:Go Z' H' [] Z'' H'' P2):Go Z H [] Z'' H'' (P++P2):=by
 have w:WF Z' H' (P++[]++[]):=by simpa using g.wf
 have f:=k.frame w;exact g.trans (by simpa using f)
theorem Go.to0(g:Go Z H O Z' H' P):Go Z H O Z' H' []:=g.drop (λa h=>(nomatch h)) List.nodup_nil
theorem Go.widen(w:WF Z H O)(g:Go Z H [] Z' H' P):Go Z H O Z' H' (P++O):=by
 have f:=g.frame (A:=[]) (B:=O) (by simpa using w);simpa using f
def PP(R:RC)(te:TE)(p:PF):Prop:=∀{σ:St}{ρ:Rh}{Z:Zn}{H:Hp}{O:List Addr}{d:D},Zd Z H->Slots R Z H ρ σ O->p ρ=some d ->
 ∀{Q:VK},(∀{v:V}{Z':Zn}{H':Hp}{P:List Addr},Go Z H [] Z' H' P->Rep R Z' H' d v P->Q v H')->te σ H Q
def PB(R:RC)(te:TE)(p:PF):Prop:=∀{σ:St}{ρ:Rh}{Z:Zn}{H:Hp}{O:List Addr}{d:D},Zd Z H->Slots R Z H ρ σ O->p ρ=some d ->
 ∀{Q:VK},(∀{v:V}{Z':Zn}{H':Hp}{P:List Addr},Go Z H [] Z' H' []->Rep R Z' H' d v P->Q v H')->te σ H Q
def PPs(R:RC)(ta:TA)(p:PAf):Prop:=∀{σ:St}{ρ:Rh}{Z:Zn}{H:Hp}{O:List Addr}{ds:List D},Zd Z H->Slots R Z H ρ σ O->p ρ=some ds ->
 ∀{Q:List V->Hp->Prop},(∀{vs:List V}{Z':Zn}{H':Hp}{P:List Addr},Go Z H [] Z' H' P->Reps R Z' H' ds vs P->Q vs H')->ta σ H Q
def PBs(R:RC)(ta:TA)(p:PAf):Prop:=∀{σ:St}{ρ:Rh}{Z:Zn}{H:Hp}{O:List Addr}{ds:List D},Zd Z H->Slots R Z H ρ σ O->p ρ=some ds ->
 ∀{Q:List V->Hp->Prop},(∀{vs:List V}{Z':Zn}{H':Hp}{P:List Addr},Go Z H [] Z' H' []->Reps R Z' H' ds vs P->Q vs H')->ta σ H Q
def PTt(R:RC)(tt:TT)(p:PTf):Prop:=∀{σ:St}{ρ:Rh}{Z:Zn}{H:Hp}{O:List Addr}{b:Bool},Zd Z H->Slots R Z H ρ σ O->p ρ=some b ->
 ∀{Q:Bool->Hp->Prop},(∀{Z':Zn}{H':Hp},Go Z H [] Z' H' []->Q b H')->tt σ H Q
theorem PP.b(h:PP R te p):PB R te p:=λz s e _ k=>h z s e λg r=>k g.to0 r
theorem PPs.b(h:PPs R te p):PBs R te p:=λz s e _ k=>h z s e λg r=>k g.to0 r
noncomputable def pF(p:PF):PF:=λρ=>match p ρ with
 | some d=>bif frz d then some d else none
 | none=>none
theorem PB.f(h:PB R te p):PP R te (pF p):=by
 intro σ ρ Z H O d z s e Q k;unfold pF at e;cases e1:p ρ with
 | none=>rw[e1] at e;cases e
 | some c =>
  rw[e1] at e;dsimp only at e;cases hf:frz c with
  | false=>rw[hf] at e;cases e
  | true =>
   rw[hf] at e;cases e;exact h z s e1 λg r=>by
    cases r.nil hf;exact k g r
noncomputable def dP(p:PF):FE:=λρ=>match p ρ with
 | some d=>some (d,ρ)
 | none=>none
noncomputable def dPT(p:PTf):FT':=λρ=>match p ρ with
 | some d=>some (d,ρ)
 | none=>none
theorem PP.d(h:PP R te p):DE R te (dP p):=by
 intro σ ρ a Z H O d w s e Q k;unfold dP at e;cases e1:p ρ with
 | none=>rw[e1] at e;cases e
 | some c =>
  rw[e1] at e;cases e;exact h w.zd s e1 λg r=>k (g.widen w) r (g.slots w.zd s)
theorem PTt.d(h:PTt R te p):DT R te (dPT p):=by
 intro σ ρ a Z H O d w s e Q k;unfold dPT at e;cases e1:p ρ with
 | none=>rw[e1] at e;cases e
 | some c =>
  rw[e1] at e;cases e;exact h w.zd s e1 λg=>k (by simpa using g.widen w) (g.slots w.zd s)
noncomputable def pV(i:Nat):PF:=λρ=>match ρ[i]? with
 | some (some d)=>some d
 | _=>none
noncomputable def pC(d:D):PF:=λ_=>some d
theorem jdk:PB R (vB i) (pV i):=by
 intro σ ρ Z H O d z s e Q k;unfold pV at e;split at e
 ·rename_i c a;cases e;obtain⟨A,P,B,rfl,b,_⟩:=s.put (L8.mp a).1;obtain⟨v,f,r⟩:=b d a;exact⟨v,f,k (Go.id z) r⟩
 ·cases e
theorem jdA(a:∀(Z:Zn) (H:Hp),Rep R Z H d v []):PP R (tC v) (pC d):=by
 intro σ ρ Z H O b z s e Q k;cases e;exact k (Go.id z) (a Z H)
theorem Rep.int_mk:Rep R Z H (.int i) (.int i) []:=by rw[Rep];exact⟨rfl,rfl⟩
theorem Rep.str_mk:Rep R Z H (.str s) (.str (S s)) []:=by rw[Rep];exact⟨rfl,rfl⟩
theorem Rep.non_mk:Rep R Z H .non .non []:=by rw[Rep];exact⟨rfl,rfl⟩
theorem Rep.int_of(r:Rep R Z H (.int i) v O):v=.int i/\O=[]:=by rw[Rep] at r;exact r
theorem Rep.str_of(r:Rep R Z H (.str s) v O):v=.str (S s)/\O=[]:=by rw[Rep] at r;exact r
theorem Rep.non_of(r:Rep R Z H .non v O):v=.non/\O=[]:=by rw[Rep] at r;exact r
def BO(R:RC)(r:R2)(g:D->D->Option D):Prop:=∀{Z:Zn}{H:Hp}{x y d:D}{v u:V}{O1 O2:List Addr},Zd Z H->Rep R Z H x v O1->Rep R Z H y u O2->g x y=some d ->
 ∀{Q:VK},(∀{w:V}{Z':Zn}{H':Hp}{P:List Addr},Go Z H [] Z' H' P->Rep R Z' H' d w P->Q w H')->r v u H Q
def BO'(R:RC)(r:R2)(g:D->D->Option D):Prop:=∀{Z:Zn}{H:Hp}{x y d:D}{v u:V}{O1 O2:List Addr},Zd Z H->Rep R Z H x v O1->Rep R Z H y u O2->g x y=some d ->
 ∀{Q:VK},(∀{w:V}{P:List Addr},Rep R Z H d w P->Q w H)->r v u H Q
def BU(R:RC)(r:V->Hp->VK->Prop)(g:D->Option D):Prop:=∀{Z:Zn}{H:Hp}{x d:D}{v:V}{O:List Addr},Zd Z H->Rep R Z H x v O->g x=some d ->
 ∀{Q:VK},(∀{w:V}{Z':Zn}{H':Hp}{P:List Addr},Go Z H [] Z' H' P->Rep R Z' H' d w P->Q w H')->r v H Q
def BC(R:RC)(r:List V->Hp->VK->Prop)(g:List D->Option D):Prop:=∀{Z:Zn}{H:Hp}{xs:List D}{d:D}{vs:List V}{O:List Addr},Zd Z H->Reps R Z H xs vs O->g xs=some d ->
 ∀{Q:VK},(∀{w:V}{Z':Zn}{H':Hp}{P:List Addr},Go Z H [] Z' H' P->Rep R Z' H' d w P->Q w H')->r vs H Q
noncomputable def p2(g:D->D->Option D)(pa pb:PF):PF:=λρ=>match pa ρ with
 | none=>none
 | some x=>match pb ρ with
  | none=>none
  | some y=>g x y
noncomputable def p1(g:D->Option D)(pa:PF):PF:=λρ=>match pa ρ with
 | none=>none
 | some x=>g x
theorem YS(c:BO R r g)(f:PB R ta pa)(h:PB R tb pb):PP R (tOp r ta tb) (p2 g pa pb):=by
 intro σ ρ Z H O d z s e Q k;unfold p2 at e;cases e1:pa ρ with
 | none=>rw[e1] at e;cases e
 | some x =>
  rw[e1] at e;dsimp only at e;cases e2:pb ρ with
  | none=>rw[e2] at e;cases e
  | some y =>
   rw[e2] at e;refine f z s e1 λ{v n o p} a i=>?_;refine h a.wf.zd (a.slots z s) e2 λ{u q t w} b j=>?_;exact c b.wf.zd (b.rep a.wf.zd i) j e λl m=>k ((a.pair b).pair l) m
theorem jdH(c:BO' R r g)(f:PB R ta pa)(h:PB R tb pb):PB R (tOp r ta tb) (p2 g pa pb):=by
 intro σ ρ Z H O d z s e Q k;unfold p2 at e;cases e1:pa ρ with
 | none=>rw[e1] at e;cases e
 | some x =>
  rw[e1] at e;dsimp only at e;cases e2:pb ρ with
  | none=>rw[e2] at e;cases e
  | some y =>
   rw[e2] at e;refine f z s e1 λ{v m n o} a i=>?_;refine h a.wf.zd (a.slots z s) e2 λ{u p q t} b j=>?_;exact c b.wf.zd (b.rep a.wf.zd i) j e λl=>k (a.pair b) l
theorem jdQ(b:BU R r g)(c:PB R ta pa):PP R (tUn r ta) (p1 g pa):=by
 intro σ ρ Z H O d z s e Q k;unfold p1 at e;cases e1:pa ρ with
 | none=>rw[e1] at e;cases e
 | some x =>
  rw[e1] at e;exact c z s e1 λ{v j l m} a f=>b a.wf.zd f e λh i=>k (by simpa using a.pair h) i
noncomputable def pN:PAf:=λ_=>some []
noncomputable def jc(pa:PF)(pr:PAf):PAf:=λρ=>match pa ρ with
 | none=>none
 | some x=>match pr ρ with
  | none=>none
  | some xs=>some (x::xs)
theorem pps_nil:PPs R Vn pN:=by
 intro σ ρ Z H O d z s e Q k;cases e;exact k (Go.id z) Reps.empty
theorem pps_cons(c:PP R ta pa)(f:PPs R tr pr):PPs R (y9 ta tr) (jc pa pr):=by
 intro σ ρ Z H O d z s e Q k;unfold jc at e;cases e1:pa ρ with
 | none=>rw[e1] at e;cases e
 | some x =>
  rw[e1] at e;dsimp only at e;cases e2:pr ρ with
  | none=>rw[e2] at e;cases e
  | some i =>
   rw[e2] at e;cases e;refine c z s e1 λ{v j l m} a g=>?_;refine f a.wf.zd (a.slots z s) e2 λ{u n o p} b h=>?_;exact k (a.pair b) (.cons (b.rep a.wf.zd g) h)
theorem uR:PBs R Vn pN:=pps_nil.b
theorem xS(c:PB R ta pa)(f:PBs R tr pr):PBs R (y9 ta tr) (jc pa pr):=by
 intro σ ρ Z H O d z s e Q k;unfold jc at e;cases e1:pa ρ with
 | none=>rw[e1] at e;cases e
 | some x =>
  rw[e1] at e;dsimp only at e;cases e2:pr ρ with
  | none=>rw[e2] at e;cases e
  | some i =>
   rw[e2] at e;cases e;refine c z s e1 λ{v j l m} a g=>?_;refine f a.wf.zd (a.slots z s) e2 λ{u n o p} b h=>?_;exact k (a.pair b) (.cons (b.rep a.wf.zd g) h)
noncomputable def pCB(g:List D->Option D)(pa:PAf):PF:=λρ=>match pa ρ with
 | none=>none
 | some xs=>g xs
theorem jcn(b:BC R r g)(c:PBs R ta pa):PP R (tCB r ta) (pCB g pa):=by
 intro σ ρ Z H O d z s e Q k;unfold pCB at e;cases e1:pa ρ with
 | none=>rw[e1] at e;cases e
 | some x =>
  rw[e1] at e;exact c z s e1 λ{v j l m} a f=>b a.wf.zd f e λh i=>k (by simpa using a.pair h) i
noncomputable def lim(n:Nat):Bool:=decide (n<=100000)
theorem vS(h:lim n=true):n<=sizeLine:=N7 (X2 h) (by decide)
theorem Yk(h:lim n=true):n < sizeLine:=X8 (X2 h) (by decide)
noncomputable def qB(pa:PAf):PF:=pCB (λxs=>bif lim xs.length then some (.tup xs) else none) pa
noncomputable def kU(pa:PAf):PF:=pCB (λxs=>bif lim xs.length then some (.lst true xs) else none) pa
theorem jca(f:PPs R ta pa):PP R (jed ta) (qB pa):=by
 intro σ ρ Z H O d z s e Q k;unfold qB pCB at e;cases e1:pa ρ with
 | none=>rw[e1] at e;cases e
 | some g =>
  rw[e1] at e;dsimp only at e;cases hl:lim g.length with
  | false=>rw[hl] at e;cases e
  | true =>
   rw[hl] at e;cases e;exact f z s e1 λ{v h i j} a b=>⟨by rw[b.length];exact vS hl,λp c=>k (a.trans (Go.newF a.wf c)) (Rep.tupNew a.wf c b)⟩
theorem jcl(f:PPs R ta pa):PP R (jdW ta) (kU pa):=by
 intro σ ρ Z H O d z s e Q k;unfold kU pCB at e;cases e1:pa ρ with
 | none=>rw[e1] at e;cases e
 | some g =>
  rw[e1] at e;dsimp only at e;cases hl:lim g.length with
  | false=>rw[hl] at e;cases e
  | true =>
   rw[hl] at e;cases e;exact f z s e1 λ{v h i j} a b=>⟨by rw[b.length];exact vS hl,λp c=>k (a.trans (Go.newO a.wf c)) (Rep.lstNew a.wf c b)⟩
noncomputable def jr(pa:PF):PTf:=λρ=>match pa ρ with
 | some (.bl b)=>some b
 | _=>none
noncomputable def ud(pa pb:PTf):PTf:=λρ=>match pa ρ with
 | none=>none
 | some b=>bif b then pb ρ else some false
noncomputable def qOr(pa pb:PTf):PTf:=λρ=>match pa ρ with
 | none=>none
 | some b=>bif b then some true else pb ρ
noncomputable def jaW(pa:PTf):PTf:=λρ=>match pa ρ with
 | none=>none
 | some b=>some (!b)
theorem VO(a:PB R ta pa):PTt R (jaV ta) (jr pa):=by
 intro σ ρ Z H O b z s e Q k;unfold jr at e;split at e
 ·rename_i c d;cases e;refine a z s d λ{v h i j} f g=>?_;obtain⟨rfl,rfl⟩:=g.bl_of;exact⟨b,rfl,k f⟩
 ·cases e
theorem jbU(d:PTt R ta pa)(f:PTt R tb pb):PTt R (jeF ta tb) (ud pa pb):=by
 intro σ ρ Z H O b z s e Q k;unfold ud at e;cases e1:pa ρ with
 | none=>rw[e1] at e;cases e
 | some c =>
  rw[e1] at e;dsimp only at e;refine d z s e1 λ{h i} a=>?_;cases c with
  | true=>exact jcy (f a.wf.zd (a.slots z s) e λg=>k (a.pair g))
  | false=>cases e;exact jcr (k a)
theorem jdO(d:PTt R ta pa)(f:PTt R tb pb):PTt R (tOr ta tb) (qOr pa pb):=by
 intro σ ρ Z H O b z s e Q k;unfold qOr at e;cases e1:pa ρ with
 | none=>rw[e1] at e;cases e
 | some c =>
  rw[e1] at e;dsimp only at e;refine d z s e1 λ{h i} a=>?_;cases c with
  | true=>cases e;exact jcy (k a)
  | false=>exact jcr (f a.wf.zd (a.slots z s) e λg=>k (a.pair g))
theorem jax(a:PTt R ta pa):PTt R (jdR ta) (jaW pa):=by
 intro σ ρ Z H O b z s e Q k;unfold jaW at e;cases e1:pa ρ with
 | none=>rw[e1] at e;cases e
 | some c =>
  rw[e1] at e;cases e;exact a z s e1 λ{f g} d=>k d
def uT(R:RC)(J:It)(Z:Zn)(H:Hp)(xs:List D):Prop:=∀{Z1:Zn}{H1:Hp},(∀ a,Z a->Z1 a)->(∀ a,Z a->H1 a=H a)->Zd Z1 H1->∀ i:Nat,
 (xs.length<=i->J.stop i H1)/\∀ x,xs[i]?=some x->J.go i H1/\∀ u H2,J.yld i H1 u H2->∃ Z2,Go Z1 H1 [] Z2 H2 []/\Rep R Z2 H2 x u []
def PIt(R:RC)(wi:TI)(p:PAf):Prop:=∀{σ:St}{ρ:Rh}{Z:Zn}{H:Hp}{O:List Addr}{xs:List D},Zd Z H->Slots R Z H ρ σ O->p ρ=some xs ->
 ∀{Q:It->Hp->Prop},(∀{J:It}{Z':Zn}{H':Hp},Go Z H [] Z' H' []->uT R J Z' H' xs->Q J H')->wi σ H Q
noncomputable def uy(K:PySem.W.Frag)(tl:TE):TI:=λσ H Q=>tl σ H λx H1 =>
 (∃ a,x=.ref a/\(∃ xs,SqL K H1 a xs)/\Q (Itl K a) H1) \/ (∃ a,x=.ref a/\(∃ xs,SqT K H1 a xs)/\Q (Itt K a) H1) \/ ∃ l,x=.str (S l)/\Q (Its l) H1
theorem QR(C:PE X l tl):PI X tg l (uy X.K tl):=by
 intro d s σ H Q I h;have r:∀ v c,EP X d σ (λx g=>(∃ a,x=.ref a/\(∃ j,SqL X.K g a j)/\Q (Itl X.K a) g) \/ (∃ a,x=.ref a/\(∃ j,SqT X.K g a j)/\Q (Itt X.K a) g) \/ ∃ l,x=.str (S l)/\Q (Its l) g) v c->wpAny (model X.prog X.w) X.A (pyIter v) (PIE X d σ tg Q) X.xe c:=by
  rintro v c ⟨x,g,f,u,D⟩
  -- each by the layer's own rule,at a name that holds the value
  rcases D with⟨a,rfl,⟨j,y⟩,q⟩ | ⟨a,rfl,⟨j,y⟩,q⟩ | ⟨l,rfl,q⟩
  ·cases u;obtain⟨k,E,p,F⟩:=f.list y;refine wpAny_pyIter_list p.isList ?_;refine⟨c.heap.objs.size,[c.heap.objs.size],_,_,g,rfl,f.kept (t':=c.toks) λb o e=>L7 _ e,xG a _,⟨_,X7 _ rfl,rfl,rfl⟩,λb m=>?_,q⟩;have e:b=c.heap.objs.size:=by simpa using m
   subst e;exact f.fpOk (M8 _) (f.hok.fresh (M8 _))
  ·cases u;obtain⟨k,E,p,F⟩:=f.tuple y;refine wpAny_pyIter_tuple (show c.heap.IsTuple a k.toArray from p) ?_;refine⟨c.heap.objs.size,[c.heap.objs.size],_,_,g,rfl,f.kept (t':=c.toks) λb o e=>L7 _ e,Kz a _,⟨_,X7 _ rfl,rfl,rfl⟩,λb m=>?_,q⟩;have e:b=c.heap.objs.size:=by simpa using m
   subst e;exact f.fpOk (M8 _) (f.hok.fresh (M8 _))
  ·obtain⟨t,rfl⟩:=u;have n:∀(ty:String),(ty = "str_ascii_iterator" \/ ty = "str_iterator")->(∀ A:Around,A.handled=none->Walks X.prog X.w A c.heap.objs.size [c.heap.objs.size] [c.heap.objs.size] (S l).cps.size (SignAt (S l)) (λi h=>h.IsStrIter c.heap.objs.size ty (S l) t i)) ->
     PIE X d σ tg Q (.ref c.heap.objs.size) { c with heap:=c.heap.push { cls:=.type ty,data:=.fields #[.str (S l) t,.int 0 0] } }:=λty z W=>by
    refine⟨c.heap.objs.size,[c.heap.objs.size],_,_,g,rfl,f.kept (t':=c.toks) λb o e=>L7 _ e,wN _ l t ty z W,⟨_,X7 _ rfl,rfl,rfl⟩,λb m=>?_,q⟩;have e:b=c.heap.objs.size:=by simpa using m
    subst e;exact f.fpOk (M8 _) (f.hok.fresh (M8 _))
   cases ha:(S l).cps.all (· < 128)
   ·exact wpAny_pyIter_wide ha (n _ (.inr rfl) λG B=>Walks.strWide B _ (S l) t)
   ·exact wpAny_pyIter_ascii ha (n _ (.inl rfl) λG B=>Walks.strAscii B _ (S l) t)
 exact thn (C d s σ H _ I h) r
noncomputable def qE:D->Option (List D)
 | .lst _ l=>some (fzs l)
 | .tup l=>some (fzs l)
 | .str s=>some (s.map λc=>.str [c])
 | _=>none
noncomputable def pIt(p:PF):PAf:=λρ=>match p ρ with
 | none=>none
 | some d=>qE d
theorem jdr(h:FL R Z H a vs)(r:Reps R Z H l vs []):uT R (Itl R.K a) Z H l:=by
 intro d k f g zd i;have b:=(h.frame f g).sq;have m:Reps R d k l vs []:=r.frame f g λa n=>(nomatch n);refine⟨λo=>⟨vs,b,by rw[r.length];exact o⟩,λx p=>?_⟩;obtain⟨v,j,q⟩:=m.item p;refine⟨⟨vs,v,b,j⟩,λu s c=>?_⟩;obtain⟨rfl,c⟩:=c;have e:=c vs b;rw[j] at e;cases e;exact⟨d,Go.id zd,q⟩
theorem jdp(h:FT R Z H a vs)(r:Reps R Z H l vs []):uT R (Itt R.K a) Z H l:=by
 intro d k f g zd i;have b:=(h.frame f g).sq;have m:Reps R d k l vs []:=r.frame f g λa n=>(nomatch n);refine⟨λo=>⟨vs,b,by rw[r.length];exact o⟩,λx p=>?_⟩;obtain⟨v,j,q⟩:=m.item p;refine⟨⟨vs,v,b,j⟩,λu s c=>?_⟩;obtain⟨rfl,c⟩:=c;have e:=c vs b;rw[j] at e;cases e;exact⟨d,Go.id zd,q⟩
theorem ux:uT R (Its s) Z H (s.map λc=>.str [c]):=by
 intro d h j k zd i;refine⟨λf=>by show s.length<=i;simpa using f,λx a=>?_⟩;rw[List.getElem?_map] at a;cases e:s[i]? with
 | none=>rw[e] at a;cases a
 | some c =>
  rw[e] at a;cases a;refine⟨(L8.mp e).1,λu l g=>?_⟩;obtain⟨rfl,m,b,rfl⟩:=g;rw[e] at b;cases b;exact⟨d,Go.id zd,.str_mk⟩
theorem Go.fz(g:Go Z H [] Z' H' P):Go Z H [] (λa=>Z' a \/ a∈P) H' []:=g.trans (Go.freeze g.wf)
theorem jec(h:PP R te p):PIt R (uy R.K te) (pIt p):=by
 intro σ ρ Z H O q z s e Q k;unfold pIt at e;cases e1:p ρ with
 | none=>rw[e1] at e;cases e
 | some d =>
  rw[e1] at e;refine h z s e1 λ{v m r n} f j=>?_;have c:=j.freeze (Z':=λa=>m a \/ a∈n) (λa z=>.inl z) λa z=>.inr z;cases d with
  | lst o l =>
   cases e;rw[fz,Rep] at c;obtain⟨a,g,u,rfl,i,b,rfl,_⟩:=c;exact .inl ⟨a,rfl,⟨g,FL.sq b⟩,k f.fz (jdr b i)⟩
  | tup l =>
   cases e;rw[fz,Rep] at c;obtain⟨a,g,rfl,b,i⟩:=c;exact .inr (.inl ⟨a,rfl,⟨g,FT.sq b⟩,k f.fz (jdp b i)⟩)
  | str t =>
   cases e;obtain⟨rfl,rfl⟩:=j.str_of;exact .inr (.inr ⟨t,rfl,k f ux⟩)
  | _=>cases e
noncomputable def ql(lo:Int)(n:Nat):List D:=(List.range n).map λ(i:Nat)=>D.int (lo+(i:Int))
theorem jbY:uT R (Itr lo n) Z H (ql lo n):=by
 intro c e f g zd i;refine⟨λb=>by show n<=i;simpa [ql] using b,λx a=>?_⟩;unfold ql at a;rw[List.getElem?_map] at a;by_cases b:i < n
 ·rw[List.getElem?_range b] at a;cases a;refine⟨b,λu h d=>?_⟩;obtain⟨rfl,rfl⟩:=d;exact⟨c,Go.id zd,.int_mk⟩
 ·rw[List.getElem?_eq_none (by simpa using b)] at a;cases a
noncomputable def JL(i:Int):Bool:=Nat.ble i.natAbs 4611686018427387903
theorem Y1(h:JL i=true):-(2 ^ 62)<=i/\i < 2 ^ 62:=by
 have h:=Nat.le_of_ble_eq_true h;constructor<;>omega
noncomputable def k9(p:PAf):PAf:=λρ=>match p ρ with
 | some [.int j]=>bif JL j then some (ql 0 j.toNat) else none
 | _=>none
theorem Reps.one_of(r:Reps R Z H [d] vs O):∃ v,vs=[v]/\Rep R Z H d v O:=by
 rw[Reps] at r;obtain⟨v,b,e,f,rfl,rfl,c,a⟩:=r;rw[Reps] at a;obtain⟨rfl,rfl⟩:=a;exact⟨v,rfl,by simpa using c⟩
theorem Reps.two_of(r:Reps R Z H [d,e] vs O):∃ v u O1 O2,vs=[v,u]/\O=O1++O2/\Rep R Z H d v O1/\Rep R Z H e u O2:=by
 rw[Reps] at r;obtain⟨v,a,O1,O2,rfl,rfl,b,c⟩:=r;obtain⟨u,rfl,f⟩:=c.one_of;exact⟨v,u,O1,O2,rfl,rfl,b,f⟩
theorem jbr(h:PBs R ta p):PIt R (jbt ta) (k9 p):=by
 intro σ ρ Z H O f z s e Q k;unfold k9 at e;split at e
 ·rename_i j a;cases hs:JL j with
  | false=>rw[hs] at e;cases e
  | true =>
   rw[hs] at e;cases e;refine h z s a λ{v g i l} b c=>?_;obtain⟨u,rfl,d⟩:=c.one_of;obtain⟨rfl,_⟩:=d.int_of;exact⟨j,rfl,(Y1 hs).1,(Y1 hs).2,k b jbY⟩
 ·cases e
def PGt(R:RC)(pm:List Nat)(tg:TG)(f:D->Rh->Option Rh):Prop:=∀{σ:St}{ρ ρ':Rh}{Z:Zn}{H:Hp}{O:List Addr}{d:D}{v:V},Rep R Z H d v []->Slots R Z H ρ σ O->f d ρ=some ρ' ->
 ∀{Q:St->Hp->Prop},(∀{σ':St}{O':List Addr},(∀ a∈O',a∈O)->(O.Nodup->O'.Nodup)->Slots R Z H ρ' σ' O'->Keep pm σ σ'->Q σ' H)->tg v σ H Q
def jc9(R:RC)(pm:List Nat)(tg:TGs)(f:List D->Rh->Option Rh):Prop:=∀{σ:St}{ρ ρ':Rh}{Z:Zn}{H:Hp}{O:List Addr}{ds:List D}{vs:List V},Reps R Z H ds vs []->Slots R Z H ρ σ O->f ds ρ=some ρ' ->
 ∀{Q:St->Hp->Prop},(∀{σ':St}{O':List Addr},(∀ a∈O',a∈O)->(O.Nodup->O'.Nodup)->Slots R Z H ρ' σ' O'->Keep pm σ σ'->Q σ' H)->tg vs σ H Q
theorem x5:PGt R pm (qC i) (jl pm i):=by
 intro σ ρ m Z H O d v r h e Q k;unfold jl at e;by_cases c:i < ρ.length
 ·by_cases f:i∈pm
  ·rw[X0 f] at e;simp at e
  ·rw[X0 c,X1 f] at e;cases e;obtain⟨A,n,B,rfl,o,g,p⟩:=h.put c;refine k (O':=A++[]++B) (λa q=>?_) (λnd=>?_) (g r (λ_ z=>z) (λ_ _=>rfl) (λ_ _=>rfl) (λ_ _=>rfl)) (Keep.set f)
   ·simp at q ⊢;rcases q with q | q<;>simp[q]
   ·simp only[U8,N2] at nd;simp only[M9,U8];exact⟨nd.1.1,nd.2.1,λa j b l e=>nd.2.2 a (.inl j) b l e⟩
 ·rw[X1 c] at e;simp at e
theorem xU:jc9 R pm jez gN:=by
 intro σ ρ c Z H O b d r h e Q k;unfold gN at e;cases b with
 | cons _ _=>cases e
 | nil =>
  cases e;rw[Reps] at r;obtain⟨rfl,_⟩:=r;exact⟨rfl,k (λa h=>h) (λh=>h) h (Keep.refl _ _)⟩
theorem xy(f:PGt R pm t g)(i:jc9 R pm u gs):jc9 R pm (uY t u) (gC g gs):=by
 intro σ ρ A Z H O c B r h e Q k;unfold gC at e;cases c with
 | nil=>cases e
 | cons d c =>
  dsimp only at e;cases e1:g d ρ with
  | none=>rw[e1] at e;cases e
  | some C =>
   rw[e1] at e;dsimp only at e;rw[Reps] at r;obtain⟨v,b,D,E,rfl,j,l,m⟩:=r;obtain⟨rfl,rfl⟩:=List.append_eq_nil_iff.mp j.symm;exact⟨v,b,rfl,f l h e1 λn o p s=>i m p e λw x y z=>k (λa q=>n a (w a q)) (λq=>x (o q)) y (s.trans z)⟩
theorem ja6(f:jc9 R pm u gs):PGt R pm (jeq R.K n u) (gT n gs):=by
 intro σ ρ j Z H O d v r h e Q k;cases d with
 | tup l =>
  unfold gT at e;dsimp only at e;by_cases b:l.length=n
  ·rw[X0 b,cond_true] at e;rw[Rep] at r;obtain⟨a,g,rfl,i,c⟩:=r;exact⟨a,g,rfl,i.sq,by rw[c.length];exact b,f c h e k⟩
  ·rw[X1 b,cond_false] at e;cases e
 | _=>cases e
noncomputable def yf(g:D->Rh->Option Rh)(f:FS):List D->FS
 | [],ρ=>some (.nx ρ)
 | x::xs,ρ=>match g x ρ with
  | none=>none
  | some ρ1=>match f ρ1 with
   | none=>none
   | some (.nx ρ2)=>yf g f xs ρ2
   | some (.ct ρ2)=>yf g f xs ρ2
   | some (.bk ρ2)=>some (.nx ρ2)
   | some (.rt d ρ2)=>some (.rt d ρ2)
noncomputable def Vf(p:PAf)(g:D->Rh->Option Rh)(f:FS):FS:=λρ=>match p ρ with
 | none=>none
 | some xs=>yf g f xs ρ
theorem kz{l:List α}{i:Nat}(h:l[i]?=some x):l.drop i=x::l.drop (i+1):=by
 obtain⟨a,rfl⟩:=L8.mp h;exact List.drop_eq_getElem_cons a
theorem jco(hi:PIt R wi p)(hg:PGt R pm tg g)(hf:DS R pm tb f):DS R pm (jaY wi tg tb) (Vf p g f):=by
 intro σ ρ Z H O o w s e D' k;unfold Vf at e;cases e1:p ρ with
 | none=>rw[e1] at e;cases e
 | some c =>
  rw[e1] at e;dsimp only at e;refine hi w.zd s e1 λ{J x K} V it=>?_;have h:Go Z H O x K O:=by simpa using V.widen w
  refine⟨λi m P y=>m=c.length - i/\i<=c.length/\∃ L A B,Go x K O A y B/\Slots R A y L P B/\Keep pm σ P/\yf g f (c.drop i) L=some o,
   ⟨c.length,rfl,U5 _,ρ,x,O,Go.refl h.wf,V.slots w.zd s,Keep.refl _ _,e⟩,?_⟩
  rintro i m P y ⟨rfl,hi',L,A,B,l,W,kp,b⟩;have C:=it (Z1:=A) (H1:=y) l.zz (λa z=>l.zH h.wf a z) l.wf.zd i;by_cases D:i < c.length
  ·right
   have X:c[i]?=some c[i]:=by simp[D]
   obtain⟨go,yl⟩:=C.2 _ X;rw[kz X] at b;unfold yf at b;cases e3:g c[i] L with
   | none=>rw[e3] at b;cases b
   | some ρ1 =>
    rw[e3] at b;dsimp only at b;cases e4:f ρ1 with
    | none=>rw[e4] at b;cases b
    | some o1 =>
     rw[e4] at b;refine⟨go,λQ n=>∃ j q M,Go x K O q n M/\Slots R q n j Q M/\Keep pm σ Q/\yf g f (c.drop (i+1)) j=some o,λQ n ⟨j,q,M,a1,a2,a3,a4⟩=>⟨c.length - (i+1),by omega,rfl,D,j,q,M,a1,a2,a3,a4⟩,λu n hy=>?_⟩;obtain⟨q,Y,r2⟩:=yl u n hy;have E:Go A y B q n B:=by simpa using Y.widen l.wf
     refine hg r2 (Y.slots l.wf.zd W) e3 λ{σ3 O3} sub nd s3 N=>?_;have F:Go x K O q n O3:=(l.trans E).drop sub (nd E.wf.nd);refine hf F.wf s3 e4 ?_;cases o1 with
     | nx j=>exact λ{S G T I} r t v=>⟨j,G,I,F.trans r,t,kp.trans (N.trans v),b⟩
     | ct j=>exact λ{S G T I} r t v=>⟨j,G,I,F.trans r,t,kp.trans (N.trans v),b⟩
     | bk j=>cases b;exact λ{S G T I} r t v=>k (h.trans (F.trans r)) t (kp.trans (N.trans v))
     | rt d j=>cases b;exact λ{v4 S G T P4 I} r r4 t v=>k (h.trans (F.trans r)) r4 t (kp.trans (N.trans v))
  ·left
   have U:i=c.length:=by omega
   refine⟨C.1 (by omega),?_⟩;rw[U,List.drop_length] at b;cases b;exact k (h.trans l) W kp
noncomputable def j4(ix:List (Option Nat))(ρ:Rh):Rh:=ix.map λo=>o.bind λj=>(ρ[j]?).join
theorem qX(s:Slots R Z H ρ σ O):∀ ix:List (Option Nat),∃ O',Slots R Z H (j4 ix ρ) (jI ix σ) O'
 | []=>⟨[],rfl,rfl⟩
 | o::ix=>by
  obtain⟨O',b⟩:=qX s ix;show ∃ O',Slots R Z H ((o.bind λj=>(ρ[j]?).join)::j4 ix ρ) ((o.bind λj=>(σ[j]?).join)::jI ix σ) O';cases e:o.bind λj=>(ρ[j]?).join with
  | none=>exact⟨O',_,_,rfl,b⟩
  | some d =>
   cases o with
   | none=>cases e
   | some j =>
    have a:(ρ[j]?).join=some d:=e;have c:ρ[j]?=some (some d):=by
     cases q:ρ[j]? with
     | none=>rw[q] at a;cases a
     | some u=>rw[q] at a;rw[show u=some d from a]
    obtain⟨A,P,B,_,f,_⟩:=s.put (L8.mp c).1;obtain⟨v,g,r⟩:=f d c;refine⟨P++O',v,_,P,O',?_,rfl,r,b⟩;show((σ[j]?).join::jI ix σ)=some v::jI ix σ;rw[g];rfl
noncomputable def qT:PTf:=λ_=>some true
theorem jbg:PTt R (λ_ H Q=>Q true H) qT:=by
 intro σ ρ Z H O b z s e Q k;cases e;exact k (Go.id z)
noncomputable def jX(g:D->Rh->Option Rh)(q:PTf)(p:PF):List D->Rh->Option (List D)
 | [],_=>some []
 | x::xs,ρ=>match g x ρ with
  | none=>none
  | some ρ1=>match q ρ1 with
   | none=>none
   | some b=>bif b then(match p ρ1 with
    | none=>none
    | some y=>match jX g q p xs ρ1 with
     | none=>none
     | some ys=>some (y::ys)) else jX g q p xs ρ1
noncomputable def yH(pi:PAf)(g:D->Rh->Option Rh)(q:PTf)(p:PF)(ix:List (Option Nat)):PF:=λρ=>match pi ρ with
 | none=>none
 | some xs=>bif lim xs.length then(match jX g q p xs (j4 ix ρ) with
  | none=>none
  | some ys=>some (.lst true ys)) else none
noncomputable def spP(R:RC)(m:List D->Option D)(n:Nat):Sp:=λvs H Q _=>∃ Z ds d,Zd Z H/\ds.length=n/\Reps R Z H ds vs []/\m ds=some d/\∀{v:V}{Z':Zn}{H':Hp}{P:List Addr},Go Z H [] Z' H' P->Rep R Z' H' d v P->Q v H'
noncomputable def fnP(n:Nat)(f:FS):List D->Option D:=λds=>match f (ds.map some++List.replicate (n - ds.length) none) with
 | some (.rt d _)=>some d
 | some (.nx _)=>some .non
 | _=>none
theorem JN:∀ n:Nat,Slots R Z H (List.replicate n none) (List.replicate n none) []
 | 0=>⟨rfl,rfl⟩
 | n+1=>⟨none,_,rfl,JN n⟩
theorem JD:∀{ds:List D}{vs:List V}{O:List Addr}{ρ:Rh}{σ:St}{P:List Addr},Reps R Z H ds vs O->Slots R Z H ρ σ P->Slots R Z H (ds.map some++ρ) (vs.map some++σ) (O++P)
 | [],_,_,_,_,_,r,s=>by rw[Reps] at r;obtain⟨rfl,rfl⟩:=r;exact s
 | d::ds,_,_,_,_,_,r,s=>by
  rw[Reps] at r;obtain⟨v,a,b,f,rfl,rfl,c,e⟩:=r;exact⟨v,_,b,_,rfl,List.append_assoc ..,c,JD e s⟩
theorem jaS(c:DS R [] ts f)(h:spP R (fnP N.length f) n vs H Q E):ts { nx:=λ_ H'=>Q .non H',rt:=Q } (L2.start N vs) H:=by
 obtain⟨Z,a,d,z,l,r,e,k⟩:=h;unfold fnP at e;have s:Slots R Z H (a.map some++List.replicate (N.length - a.length) none) (L2.start N vs) []:=by
  have q:=JD r (JN (R:=R) (Z:=Z) (H:=H) (N.length - a.length));unfold L2.start;rw[r.length];exact q
 split at e
 ·rename_i m i b;cases e;exact c (wf0 z) s b λg j _ _=>k g.dropR j
 ·rename_i i b;cases e;exact c (wf0 z) s b λg _ _=>k (P:=[]) g.to0 .non_mk
 ·cases e
theorem jap(h:spP R m n vs H Q E):vs.length=n:=by
 obtain⟨Z,b,d,z,a,r,_⟩:=h;rw[r.length,a]
mutual
noncomputable def yZ:D->Bool
 | .tup l=>jN l
 | .lst o l=>o&&jN l
 | .dK o _ l=>o&&jN l
 | .dT o _ l=>o&&jN l
 | .ins o _ _ l=>o&&jN l
 | .non=>true | .bl _=>true | .int _=>true | .str _=>true | .dead=>true
noncomputable def jN:List D->Bool
 | []=>true
 | d::l=>yZ d&&jN l
end
mutual
theorem Rep.thaw(ht:∀ a vs,Z a->Rd H a (.tup vs)->Z' a):∀{d:D}{v:V}{O:List Addr},Rep R Z H d v O->yZ d=true->Rep R Z' H d v O
 | .non,_,_,h,_=>by rw[Rep] at h ⊢;exact h
 | .bl _,_,_,h,_=>by rw[Rep] at h ⊢;exact h
 | .int _,_,_,h,_=>by rw[Rep] at h ⊢;exact h
 | .str _,_,_,h,_=>by rw[Rep] at h ⊢;exact h
 | .dead,_,_,h,_=>by rw[Rep] at h ⊢;exact h
 | .tup l,_,_,h,f=>by
  rw[Rep] at h ⊢;rw[yZ] at f;obtain⟨a,vs,e,t,r⟩:=h;refine⟨a,vs,e,?_,Reps.thaw ht r f⟩;rcases t with⟨z,q⟩ | q
  ·exact .inl ⟨ht a vs z q,q⟩
  ·exact .inr q
 | .lst o l,_,_,h,f=>by
  rw[Rep] at h ⊢;rw[yZ,L9] at f;obtain⟨a,vs,O',e,r,h⟩:=h;cases f.1;exact⟨a,vs,O',e,Reps.thaw ht r f.2,h⟩
 | .dK o ks l,_,_,h,f=>by
  rw[Rep] at h ⊢;rw[yZ,L9] at f;obtain⟨a,vs,O',e,r,h⟩:=h;cases f.1;exact⟨a,vs,O',e,Reps.thaw ht r f.2,h⟩
 | .dT o ks l,_,_,h,f=>by
  rw[Rep] at h ⊢;rw[yZ,L9] at f;obtain⟨a,vs,O',e,r,h⟩:=h;cases f.1;exact⟨a,vs,O',e,Reps.thaw ht r f.2,h⟩
 | .ins o c ns l,_,_,h,f=>by
  rw[Rep] at h ⊢;rw[yZ,L9] at f;obtain⟨a,dx,vs,O',e,r,h⟩:=h;cases f.1;exact⟨a,dx,vs,O',e,Reps.thaw ht r f.2,h⟩
theorem Reps.thaw(ht:∀ a vs,Z a->Rd H a (.tup vs)->Z' a):∀{l:List D}{vs:List V}{O:List Addr},Reps R Z H l vs O->jN l=true->Reps R Z' H l vs O
 | [],_,_,h,_=>by rw[Reps] at h ⊢;exact h
 | d::l,_,_,h,f=>by
  rw[Reps] at h ⊢;rw[jN,L9] at f;obtain⟨v,vs,O1,O2,e,rfl,r1,r2⟩:=h;exact⟨v,vs,O1,O2,e,rfl,Rep.thaw ht r1 f.1,Reps.thaw ht r2 f.2⟩
end
mutual
theorem Rep.notTup:∀{d:D}{v:V}{O:List Addr},Rep R Z H d v O->∀ a∈O,∀ vs,¬ Rd H a (.tup vs)
 | .non,_,_,h,a,ha=>by rw[Rep] at h;rw[h.2] at ha;cases ha
 | .bl _,_,_,h,a,ha=>by rw[Rep] at h;rw[h.2] at ha;cases ha
 | .int _,_,_,h,a,ha=>by rw[Rep] at h;rw[h.2] at ha;cases ha
 | .str _,_,_,h,a,ha=>by rw[Rep] at h;rw[h.2] at ha;cases ha
 | .dead,_,_,h,a,ha=>by rw[Rep] at h;rw[h] at ha;cases ha
 | .tup l,_,_,h,a,ha=>by
  rw[Rep] at h;obtain⟨b,vs,e,t,r⟩:=h;exact Reps.notTup r a ha
 | .lst o l,_,_,h,a,ha=>by
  rw[Rep] at h;obtain⟨b,vs,O',e,r,h⟩:=h;cases o with
  | true =>
   obtain⟨h1,rfl⟩:=h;rcases M4.mp ha with e | e
   ·subst e;rintro ws (q | ⟨_,q⟩)<;>rw[h1] at q<;>cases q
   ·exact Reps.notTup r a e
  | false=>rw[h.2.2] at ha;cases ha
 | .dK o ks l,_,_,h,a,ha=>by
  rw[Rep] at h;obtain⟨b,vs,O',e,r,hl,hd,h⟩:=h;cases o with
  | true =>
   have h:=(show _=_ from h);subst h;rcases M4.mp ha with e | e
   ·subst e;rintro ws (q | ⟨_,q⟩)<;>rw[hd] at q<;>cases q
   ·exact Reps.notTup r a e
  | false=>rw[h.2.2] at ha;cases ha
 | .dT o ks l,_,_,h,a,ha=>by
  rw[Rep] at h;obtain⟨b,vs,O',e,r,hl,hd,h⟩:=h;cases o with
  | true =>
   have h:=(show _=_ from h);subst h;rcases M4.mp ha with e | e
   ·subst e;rintro ws (q | ⟨_,q⟩)<;>rw[hd] at q<;>cases q
   ·exact Reps.notTup r a e
  | false=>rw[h.2.2] at ha;cases ha
 | .ins o c ns l,_,_,h,a,ha=>by
  rw[Rep] at h;obtain⟨b,dx,vs,O',e,r,hl,hd,h⟩:=h;cases o with
  | true =>
   have h:=(show _=_ from h);subst h;rcases M4.mp ha with e | e
   ·subst e;rintro ws (q | ⟨_,q⟩)<;>rw[hd] at q<;>cases q
   ·exact Reps.notTup r a e
  | false=>rw[h.2.2] at ha;cases ha
theorem Reps.notTup:∀{l:List D}{vs:List V}{O:List Addr},Reps R Z H l vs O->∀ a∈O,∀ vs,¬ Rd H a (.tup vs)
 | [],_,_,h,a,ha=>by rw[Reps] at h;rw[h.2] at ha;cases ha
 | d::l,_,_,h,a,ha=>by
  rw[Reps] at h;obtain⟨v,vs,O1,O2,e,rfl,r1,r2⟩:=h;rcases N2.mp ha with q | q
  ·exact Rep.notTup r1 a q
  ·exact Reps.notTup r2 a q
end
noncomputable def yh(m:List D->Option D)(p:PAf):PF:=λρ=>match p ρ with
 | none=>none
 | some ds=>match m (fzs ds) with
  | none=>none
  | some d=>bif frzs ds||yZ d then some d else none
theorem ja9(l:List D):(fzs l).length=l.length:=by rw[yE,L0]
theorem jaH(y:PBs R ta p)(hn:∀ ρ ds,p ρ=some ds->ds.length=n):PP R (xb (spP R m n) [] E0 ta) (yh m p):=by
 intro σ ρ Z H O d z s e Q k;unfold yh at e;cases e1:p ρ with
 | none=>rw[e1] at e;cases e
 | some ds =>
  rw[e1] at e;dsimp only at e;cases e2:m (fzs ds) with
  | none=>rw[e2] at e;cases e
  | some c =>
   rw[e2] at e;dsimp only at e;cases f:frzs ds||yZ c with
   | false=>rw[f] at e;cases e
   | true =>
    rw[f] at e;cases e;refine y z s e1 λ{F i o j} r l=>?_;have A:=r.wf.zd;have B:Zd (λa=>i a \/ a∈j) o:=λa h=>h.elim (A a) (l.dom a);refine⟨λa=>i a \/ a∈j,fzs ds,d,B,by rw[ja9];exact hn ρ ds e1,by rw[M9];exact l.freeze (λa z=>.inl z) λa z=>.inr z,e2,λ{v t u P} b x=>?_⟩;rw[Bool.or_eq_true] at f;rcases f with f | f
    ·cases l.nil f;have g:Go i o [] t u P:=⟨b.wf,λa z=>b.zz a (.inl z),b.fr,λa z=>(b.zn a z).imp (λq=>q.resolve_right (λq=>(nomatch q))) id,b.sub,b.dm⟩;exact k (by simpa using r.pair g) x
    ·have g:Go i o [] (λa=>t a/\(a∉j \/ i a)) u P:=by
      refine⟨⟨b.wf.nd,λa h q=>b.wf.nz a h q.1,b.wf.od,λa q=>b.wf.zd a q.1⟩,λa z=>⟨b.zz a (.inl z),.inr z⟩,b.fr,λa z=>?_,b.sub,b.dm⟩;rcases b.zn a z.1 with(q | q) | q
      ·exact .inl q
      ·exact .inl (z.2.resolve_left λn=>n q)
      ·exact .inr q
     have C:Rep R (λa=>t a/\(a∉j \/ i a)) u d v P:=by
      refine x.thaw (λa D E ta=>⟨E,?_⟩) f;by_cases w:a∈j
      ·exact absurd (Rd.agree (b.same a (l.dom a w)).symm ta) (l.notTup a w D)
      ·exact .inl w
     exact k (by simpa using r.pair g) C
noncomputable def sFz(i:Nat)(f:FS):FS:=λρ=>match ρ[i]? with
 | some (some d)=>f (ρ.set i (some (fz d)))
 | _=>f ρ
theorem jes(h:DS R pm t f):DS R pm t (sFz i f):=by
 intro σ ρ Z H O o w s e m k;unfold sFz at e;split at e
 ·rename_i d hd;obtain⟨A,P,B,rfl,c,j,_⟩:=s.put (L8.mp hd).1;obtain⟨v,l,r⟩:=c d hd;have g:Go Z H (A++P++B) (λa=>Z a \/ a∈P) H (A++[]++B):=(Go.freeze w.mid).frame w;have b:=j (r.freeze (Z':=λa=>Z a \/ a∈P) (λa z=>.inl z) λa z=>.inr z) (λa z=>.inl z) (λ_ _=>rfl) (λ_ _=>rfl) (λ_ _=>rfl);rw[jH l] at b;exact h g.wf b e (k.pre g (Keep.refl _ _))
 ·exact h w s e k
noncomputable def x4(i:Nat)(p:PF):FS:=λρ=>match p ρ with
 | none=>none
 | some d=>match ρ[i]? with
  | some (some (.lst true l))=>bif lim l.length then some (.nx (ρ.set i (some (.lst true (l++[d]))))) else none
  | _=>none
theorem jb0(h:PP R te p):DS R pm (qP (tBM R.K "list" Vo (vB i) (y9 te Vn))) (x4 i p):=by
 intro σ ρ Z H O o w s e D' k;unfold x4 at e;cases e1:p ρ with
 | none=>rw[e1] at e;cases e
 | some d =>
  rw[e1] at e;dsimp only at e;split at e
  ·rename_i l V;cases hlim:lim l.length with
   | false=>rw[hlim] at e;cases e
   | true =>
    rw[hlim] at e;cases e;obtain⟨A,P,B,rfl,k1,k2,_⟩:=s.put (L8.mp V).1;obtain⟨v,W,r⟩:=k1 _ V;rw[Rep] at r;obtain⟨a,j,t,rfl,X,L,rfl⟩:=r;refine⟨.ref a,W,.inl ⟨rfl,j,SqL.of L⟩,?_⟩;refine h w.zd s e1 λ{u C m D} n r1=>?_;have M:m a=some (.lst j):=by rw[n.same a (by rw[L];exact λz=>(nomatch z))];exact L
    refine⟨a,j,u,rfl,rfl,M,by rw[X.length];exact Yk hlim,?_⟩;have G:Go Z H (A++(a::t)++B) C m (A++(a::(t++D))++B):=by
     have q:=n.widen w;refine q.drop (λb c=>by simp at c ⊢;rcases c with c | c | c | c | c<;>simp[c]) ?_;have nd:=q.wf.nd;simp only[U8,N2,List.nodup_cons,M4,not_or] at nd ⊢;obtain⟨Y,⟨⟨N,⟨Q,n4⟩,I⟩,n6,E⟩,J⟩:=nd;refine⟨⟨N,⟨⟨Q,λq=>J a q a (.inl (.inr (.inl rfl))) rfl⟩,n4,Y,λx f y g e=>J y g x (.inl (.inr (.inr f))) e.symm⟩,λx f y g e=>?_⟩,n6,λx f y g e=>?_⟩
     ·rcases g with g | g | g
      ·exact I x f y (.inl g) e
      ·exact I x f y (.inr g) e
      ·exact J y g x (.inl (.inl f)) e.symm
     ·rcases f with f | f | f | f
      ·exact E x (.inl f) y g e
      ·exact E x (.inr (.inl f)) y g e
      ·exact E x (.inr (.inr f)) y g e
      ·exact J x f y (.inr g) e
    have gB:Go C m (A++(a::(t++D))++B) C (upd m a (.lst (j++[u]))) (A++(a::(t++D))++B):=Go.put G.wf (by simp);have nd:=G.wf.nd;simp only[U8,N2,List.nodup_cons,M4,not_or] at nd;obtain⟨⟨Y,⟨⟨N,Q⟩,n4⟩,I⟩,n6,E⟩:=nd;have F:∀ b,C b->upd m a (.lst (j++[u])) b=m b:=λb c=>jd λz=>G.wf.nz a (by simp) (z▸c);have hr:Rep R C (upd m a (.lst (j++[u]))) (.lst true (l++[d])) (.ref a) (a::(t++D)):=by
     rw[Rep];refine⟨a,j++[u],t++D,rfl,?_,jo,rfl⟩;refine((n.reps w.zd X).append (.one r1)).frame (λb z=>z) F λb c=>jd λz=>?_;subst z;rcases N2.mp c with q | q
     ·exact N q
     ·exact Q q
    have S:∀ b,Z b->upd m a (.lst (j++[u])) b=H b:=λb c=>by rw[F b (n.zz b c)];exact n.same b (w.zd b c)
    have T:∀ b∈A,upd m a (.lst (j++[u])) b=H b:=λb c=>by
     rw[jd λz=>I b c b (.inl z) rfl];exact n.same b (w.od b (by simp[c]))
    have U:∀ b∈B,upd m a (.lst (j++[u])) b=H b:=λb c=>by
     rw[jd λz=>E b (.inr (.inl z)) b c rfl];exact n.same b (w.od b (by simp[c]))
    have sl:=k2 hr (λb z=>n.zz b z) S T U;rw[jH W] at sl;exact k (G.trans gB) sl (Keep.refl _ _)
  ·cases e
end QD
namespace L2
open PySem PySem.Spec PyProof.Rows
section
variable {X:Cx}{pins:List (Addr×Obj)}{σ:St}{H:Hp}{s:Shared}{h':Heap}
theorem Inv.turnedNew{t':Nat}{wr:List Addr}{T:Addr}{xs:List V}{its:Array Value}(I:Inv X pins σ H s)(k:∀ b o,b∉wr->s.heap.get? b=some o->h'.get? b=some o)(g:∀ b∈wr,Y8 X pins H b)
  (h:s.heap.objs.size<=T) (j:IsTupN h' T its) (l:Vals xs its.toList) (hz:xs.length<=sizeLine):Inv X pins σ (upd H T (.tup xs)) { s with heap:=h',toks:=t' }:=by
 have p:=I.hok.fresh h;have i:∀ b u,H b=some u->b∉wr:=λb u e z=>by rw[(g b z).1] at e;cases e
 have d:∀ b u,H b=some u->b≠T:=λb u e z=>by rw[z,p] at e;cases e
 refine I.step (g':=s.gens) (d':=s.drawn) (ch:=wr) (λb f=>?_) (λb o _ _ a e _=>k b o a e) (λb o _ _ a e _=>⟨o.slots,k b o a e⟩) (λb o _ e n=>?_)
  (λb o a e=>⟨o,k b o a e⟩) (λb t e=>by rw[jd (d b _ e)];exact e) (λb o u e=>by rw[jd (d b _ e)];exact e) (λb F e=>⟨#[],by rw[jd (d b _ e),e];simp⟩) (λm w=>?_) (λb u e=>?_) I.bare
 ·obtain⟨_,x,_,y,A,B⟩:=g b f;exact⟨y,x,A,B⟩
 ·rw[jd (λz=>absurd (N1 e) (by rw[z];exact Nat.not_lt.mpr h))];exact n
 ·obtain⟨o,C,D,E,r⟩:=w;refine⟨o,C,D,k _ o (λz=>(g _ z).2.1 rfl) E,r⟩
 ·by_cases f:b=T
  ·subst f;rw[jo] at e;cases e;exact⟨hz,its.toList,l,by simpa using j⟩
  ·rw[jd f] at e;refine(I.hok b u e).stay (λc v a q=>k c v ?_ q) (λc q=>by rw[jd (d c _ q)];exact q) λc t q=>by rw[jd (d c _ q)];exact q
   rcases a with z | z
   ·rw[z];exact i b u e
   ·exact i c _ z
theorem Inv.turnedL{t':Nat}{wr:List Addr}(I:Inv X pins σ H s)(k:∀ b o,b∉wr->s.heap.get? b=some o->h'.get? b=some o)(d:∀ b∈wr,Y8 X pins H b):Inv X pins σ H { s with heap:=h',toks:=t' }:=by
 have f:∀ b u,H b=some u->b∉wr:=λb u e z=>by rw[(d b z).1] at e;cases e
 refine I.step (g':=s.gens) (d':=s.drawn) (ch:=wr) (λb g=>?_) (λb o _ _ a e _=>k b o a e) (λb o _ _ a e _=>⟨o.slots,k b o a e⟩) (λb o _ e n=>n)
  (λb o a e=>⟨o,k b o a e⟩) (λb y e=>e) (λb o u e=>e) (λb A e=>⟨#[],by rw[e];simp⟩) (λm h=>?_) (λb u e=>?_) I.bare
 ·obtain⟨_,i,_,j,l,p⟩:=d b g;exact⟨j,i,l,p⟩
 ·obtain⟨o,t,w,x,r⟩:=h;refine⟨o,t,w,k _ o (λz=>(d _ z).2.1 rfl) x,r⟩
 ·refine(I.hok b u e).stay (λc v a q=>k c v ?_ q) (λ_ q=>q) λ_ _ q=>q;rcases a with z | z
  ·rw[z];exact f b u e
  ·exact f c _ z
end
noncomputable def Ite(K:PySem.W.Frag)(l:Addr):It :=
 ⟨λi H=>∃ xs x,SqL K H l xs/\xs[i]?=some x,λi H x H'=>∃ p v,(∀ xs,SqL K H l xs->xs[i]?=some v)/\x=.ref p/\H p=none/\H'=upd H p (.tup [.int i,v]),λi H=>∃ xs,SqL K H l xs/\xs.length<=i⟩
theorem zZ{P:Program}{w:World}{K:PySem.W.Frag}{r:List Expr}{n:Nat}{pos:Pos}(e it l:Addr)(t:e≠it)(hle:l≠e)(hli:l≠it) :
  Turn P w K (.Tuple r n pos) (Ite K l) [e,it] e (λi h=>(∃ old,IsEnum h e it i old)/\h.IsListIter it l i) where
 mem:=by simp
 obj:=λi h d b f=>by
  obtain⟨⟨old,g⟩,o,J,L,hd⟩:=d;rcases(by simpa using f:b=e \/ b=it) with z | z
  ·subst z;exact⟨_,g,λv q=>by cases q⟩
  ·subst z;exact⟨o,J,λv q=>by rw[hd] at q;cases q⟩
 keep:=λi h h' d k=>by
  obtain⟨⟨old,g⟩,a⟩:=d;exact⟨⟨old,k e (by simp) _ g⟩,a.at λo q=>k it (by simp) o q⟩
 item:=by
  intro X M N O L i y s σ H E I D d Q;subst M N O;obtain⟨Z,x,F,R⟩:=Q;obtain⟨A,S,p,hz⟩:=I.list F;obtain⟨u,hu,ru⟩:=S.get R;obtain⟨⟨old,g⟩,a⟩:=d;refine wpAny_pyNext_enum_item g a p.isList (x:=u) (by simpa using hu) t λU J B hT hsz hk=>?_;refine⟨_,rfl,wpAny_letOwnedTupleGo_enum (s:={ s with heap:=U,toks:=s.toks+1 }) J λG V c=>?_⟩;replace c:Heap.SameBut e U G:=c;have j:e < s.heap.objs.size:=N1 g;have C:G.get? s.heap.objs.size=_:=(c.2 _ (Nat.ne_of_gt j)).trans hT;have kk:∀ b o,b∉[e,it]->s.heap.get? b=some o->G.get? b=some o:=λb o f q=>by
   have m:b≠e/\b≠it:=by simpa using f
   exact(c.2 b m.1).trans (hk b o m.1 m.2 q)
  have I1:=I.turnedNew (h':=G) (t':=s.toks+1) (wr:=[e,it]) (T:=s.heap.objs.size) (xs:=[.int i,x]) (its:=#[.int i s.toks,u]) kk D (M8 _) ⟨⟨_,C,rfl,_,rfl⟩,_,C,rfl⟩ (.cons ⟨_,rfl⟩ (.cons ru .nil)) (by show 2<=sizeLine;decide);refine⟨.ref s.heap.objs.size,_,I1,rfl,⟨_,x,(λys hy=>by rw[I.list_inj hy F];exact R),rfl,I.hok.fresh (M8 _),rfl⟩,⟨⟨_,by simpa using V⟩,B.at λo q=>(c.2 it t.symm).trans q⟩,λb f=>?_⟩;rw[jd]
  ·exact(D b f).1
  ·intro z;have:b < s.heap.objs.size:=by
    obtain⟨oi,Y,_⟩:=id a;rcases(by simpa using f:b=e \/ b=it) with q | q
    ·rw[q];exact j
    ·rw[q];exact N1 Y
   exact absurd this (by rw[z];exact Nat.lt_irrefl _)
 done:=by
  intro X M N O L i y s σ H E I D d Q;subst M N O;obtain⟨Z,F,R⟩:=Q;obtain⟨A,S,p,hz⟩:=I.list F;obtain⟨⟨old,g⟩,a⟩:=d;have hl:=S.length;exact wpAny_pyNext_enum_end (I.ok.hd L) g a p.isList (by simp;omega) λU eb=>⟨rfl,I.turnedL (t':=s.toks) (wr:=[e,it]) (λb o f q=>eb b o (by simp at f;exact f.2) q) D⟩
 self:=λ_ _ _ _ _ d h=>wpAny_pyIter_enum d.1.choose_spec h
noncomputable def jad(K:PySem.W.Frag)(tl:TA):TI:=λσ H R=>tl σ H λvs H1=>∃ a xs,vs=[.ref a]/\SqL K H1 a xs/\R (Ite K a) H1
section
variable {X:Cx}
theorem jas{f:List Expr}{n:Nat}{tpos p pos:Pos}{a:Expr}{ta:TA}(w:Gl X "enumerate")(x:X.mg "enumerate" = none)(y:PA X [a] ta)(A:starEach [a] X.env=[(false,eval a X.env)]:=by rfl) :
  PI X (.Tuple f n tpos) (.Call (.Name "enumerate" p) [a] [] pos) (jad X.K ta):=by
 intro d s σ H R I h;refine Call_ (kK I w x (show bootBuiltins "enumerate" = some (.type "enumerate") by decide +kernel) (PyProof.Rows.callWith_type1 (thn (y pos d s σ H _ I h) λN c ⟨O,m,j,B,C⟩=>?_) A rfl));obtain⟨l,P,rfl,D,q⟩:=C;obtain⟨u,rfl,E⟩:=B.one;cases E;obtain⟨F,Q,r,S⟩:=j.list D;have g:l < c.heap.objs.size:=by
  obtain⟨o,_,e,_⟩:=r;exact N1 e
 refine call_enumerate_list r.isList λt v k G J=>?_;have L:Inv X d σ m { c with heap:=t }:=j.kept (t':=c.toks) J;refine PySem.wpAny_pyIter_enum (s:={ c with heap:=t }) v ?_;refine⟨c.heap.objs.size+1,[c.heap.objs.size+1,c.heap.objs.size],_,_,m,rfl,L,zZ _ _ l (Nat.succ_ne_self _) (N6 (Nat.lt_succ_of_lt g)) (N6 g),⟨⟨_,v⟩,k⟩,λb M=>?_,q⟩;have i:c.heap.objs.size<=b:=by
  rcases(by simpa using M:b=c.heap.objs.size+1 \/ b=c.heap.objs.size) with z | z
  ·rw[z];exact Nat.le_succ _
  ·rw[z];exact M8 _
 exact j.fpOk i (j.hok.fresh i)
end
section
variable {X:Cx}
inductive TyQ (K:PySem.W.Frag) (H:Hp):V->String->Prop where
 | non:TyQ K H .non "NoneType"
 | bl (x:Bool):TyQ K H (.bl x) "bool"
 | int (i:Int):TyQ K H (.int i) "int"
 | str (x:Str):TyQ K H (.str x) "str"
 | lst {a:Addr}{xs:List V}(e:SqL K H a xs):TyQ K H (.ref a) "list"
 | tup {a:Addr}{xs:List V}(e:SqT K H a xs):TyQ K H (.ref a) "tuple"
 | dK {a:Addr}{kvs:List (Key×V)}(e:H a=some (.dK kvs)):TyQ K H (.ref a) "dict"
theorem Va:Yl X (.builtin "isinstance") (λxs H Q=>∃ x T t b,xs=[x,.ty T]/\TyQ X.K H x t/\PySem.W.kitOne X.K (.type t) (.type T)=some b/\Q (.bl b) H):=by
 intro f s σ H xs C Q I r h;obtain⟨x,T,t,b,rfl,ty,e,q⟩:=h;obtain⟨u,v,rfl,d,B⟩:=r.two;cases B;have c:∀ l,EP X f σ Q (.bool b) { s with toks:=l }:=λl=>⟨.bl b,H,I.tok l,rfl,q⟩;cases ty with
 | non=>cases(show u=Value.none from d);exact PySem.W.kia_one PySem.W.kitx_none I.kIn True.intro e (λz=>nomatch z) c
 | bl y=>cases(show u=Value.bool y from d);exact PySem.W.kia_one PySem.W.kitx_bool I.kIn True.intro e (λz=>nomatch z) c
 | int i=>obtain⟨t,q⟩:=(show ∃ t,u=Value.int i t from d);cases q;exact PySem.W.kia_one PySem.W.kitx_int I.kIn True.intro e (λz=>nomatch z) c
 | str y=>obtain⟨t,q⟩:=(show ∃ t,u=Value.str y t from d);cases q;exact PySem.W.kia_one PySem.W.kitx_str I.kIn True.intro e (λz=>nomatch z) c
 | @lst a xs g =>
  cases(show u=Value.ref a from d);obtain⟨m,_,⟨o,n,j,k,_,_⟩,_⟩:=I.list g;exact PySem.W.kia_one PySem.W.kitx_list I.kIn ⟨o,j,k⟩ e (λz=>nomatch z) c
 | @tup a xs g =>
  cases(show u=Value.ref a from d);obtain⟨m,_,⟨o,j,k,_⟩,_⟩:=I.tuple g;exact PySem.W.kia_one PySem.W.kitx_tuple I.kIn ⟨o,j,k⟩ e (λz=>nomatch z) c
 | @dK a A g =>
  cases(show u=Value.ref a from d);obtain⟨_,_,D,_,p⟩:=(show ObjOk X.prog X.w H s.heap a (.dK A) from I.hok a _ g);obtain⟨o,E,F,j,k,_⟩:=p;exact PySem.W.kia_one PySem.W.kitx_dict I.kIn ⟨o,j,k.1⟩ e (λz=>nomatch z) c
end
end L2
namespace QD
open PySem L2
theorem qg(h:OpR X f r)(h':OpR X f r'):OpR X f (λx y H Q=>r x y H Q \/ r' x y H Q):=by
 intro a s σ H x y v u Q I b c q;rcases q with q | q
 ·exact h a s σ H x y v u Q I b c q
 ·exact h' a s σ H x y v u Q I b c q
theorem Rep.lst_of(r:Rep R Z H (.lst o l) v O):∃ a vs O',v=.ref a/\SqX R.K H a vs/\Reps R Z H l vs O':=by
 rw[Rep] at r;obtain⟨a,vs,O',rfl,b,h⟩:=r;cases o with
 | true=>exact⟨a,vs,O',rfl,SqX.of h.1,b⟩
 | false=>exact⟨a,vs,O',rfl,FL.sqx h.1,b⟩
theorem Rep.tup_of(r:Rep R Z H (.tup l) v O):∃ a vs,v=.ref a/\SqT R.K H a vs/\Reps R Z H l vs O:=by
 rw[Rep] at r;obtain⟨a,vs,rfl,h,b⟩:=r;exact⟨a,vs,rfl,h.sq,b⟩
theorem Reps.frozen(r:Reps R Z H l vs O)(f:frzs l=true):Reps R Z H l vs []:=by
 cases r.nil f;exact r
noncomputable def u7(i:Int):Bool:=decide (Builtin.Int.intBits i<=2 ^ 20)
theorem xv(h:i.natAbs < 2 ^ 1000):u7 i=true:=X0 (Kv h (by decide))
noncomputable def jt(x y:D):Option D:=match x with
 | .int i=>(match y with
  | .int j=>some (.int (i+j))
  | _=>none)
 | .str a=>(match y with
  | .str b=>bif lim (a.length+b.length) then some (.str (a++b)) else none
  | _=>none)
 | .lst _ a=>(match y with
  | .lst _ b=>bif lim (a.length+b.length)&&(frzs a&&frzs b) then some (.lst true (a++b)) else none
  | _=>none)
 | .tup a=>(match y with
  | .tup b=>bif lim (a.length+b.length)&&(frzs a&&frzs b)&&!a.isEmpty then some (.tup (a++b)) else none
  | _=>none)
 | _=>none
noncomputable def jdZ:R2:=λx y H Q=>∃ a b,x=.str (S a)/\y=.str (S b)/\a.length+b.length<=sizeLine/\Q (.str (S (a++b))) H
noncomputable def xV(K:PySem.W.Frag):R2:=λx y H Q=>rI0 (λi j=>.int (i+j)) x y H Q \/ jdZ x y H Q \/ jdh K x y H Q \/ jbZ K x y H Q
theorem jaQ:OpR X (binaryOp .Add) (xV X.K):=qg jcm (qg uI (qg u9 jao))
theorem jcI:BO R (xV R.K) jt:=by
 intro Z H x y d v u E F z f h e Q k;cases x with
 | int i =>
  cases y with
  | int j =>
   cases e;obtain⟨rfl,_⟩:=f.int_of;obtain⟨rfl,_⟩:=h.int_of;exact .inl ⟨i,j,rfl,rfl,k (Go.id z) .int_mk⟩
  | _=>cases e
 | str a =>
  cases y with
  | str b =>
   simp only[jt] at e;cases hl:lim (a.length+b.length) with
   | false=>rw[hl] at e;cases e
   | true =>
    rw[hl] at e;cases e;obtain⟨rfl,_⟩:=f.str_of;obtain⟨rfl,_⟩:=h.str_of;exact .inr (.inl ⟨a,b,rfl,rfl,vS hl,k (Go.id z) .str_mk⟩)
  | _=>cases e
 | lst o a =>
  cases y with
  | lst G b =>
   simp only[jt] at e;cases hl:lim (a.length+b.length)&&(frzs a&&frzs b) with
   | false=>rw[hl] at e;cases e
   | true =>
    rw[hl] at e;cases e;simp only[L9] at hl;obtain⟨p,l,I,rfl,m,c⟩:=f.lst_of;obtain⟨q,n,A,rfl,r,rt⟩:=h.lst_of;have s:=(c.frozen hl.2.1).append (rt.frozen hl.2.2);exact .inr (.inr (.inl ⟨p,q,l,n,rfl,rfl,m,r,by rw[c.length,rt.length];exact vS hl.1,λb g=>k (Go.newO (wf0 z) g) (Rep.lstNew (wf0 z) g s)⟩))
  | _=>cases e
 | tup a =>
  cases y with
  | tup b =>
   simp only[jt] at e;cases hl:lim (a.length+b.length)&&(frzs a&&frzs b)&&!a.isEmpty with
   | false=>rw[hl] at e;cases e
   | true =>
    rw[hl] at e;cases e;simp only[L9] at hl;obtain⟨p,l,rfl,m,c⟩:=f.tup_of;obtain⟨q,n,rfl,r,rt⟩:=h.tup_of;have s:=(c.frozen hl.1.2.1).append (rt.frozen hl.1.2.2);have t:l≠[]:=by
     intro B;have:=c.length;rw[B] at this;have w:a=[]:=List.eq_nil_of_length_eq_zero this.symm;rw[w] at hl;simp at hl
    refine .inr (.inr (.inr ⟨p,q,l,n,rfl,rfl,m,r,t,by rw[c.length,rt.length];exact vS hl.1.1,(λw=>?_),λ_ b g=>k (Go.newF (wf0 z) g) (Rep.tupNew (wf0 z) g s)⟩));have C:b=[]:=List.eq_nil_of_length_eq_zero (by rw[<- rt.length,w];rfl);subst C;rw[M9] at k;have D:=c.nil hl.1.2.1;subst D;exact k (Go.id z) f
  | _=>cases e
 | _=>cases e
noncomputable def two(f:Int->Int->Option D):D->D->Option D
 | .int i,.int j=>f i j
 | _,_=>none
theorem two_of(e:two f x y=some d):∃ i j,x=.int i/\y=.int j/\f i j=some d:=by
 cases x with
 | int i =>
  cases y with
  | int j=>exact⟨i,j,rfl,rfl,e⟩
  | _=>cases e
 | _=>cases y<;>cases e
noncomputable def xM:D->D->Option D:=two λi j=>some (.int (i - j))
theorem jcb:BO R (rI0 λi j=>.int (i - j)) xM:=by
 intro Z H x y d v u c f z a b e Q k;replace e:=two_of e;obtain⟨i,j,rfl,rfl,e⟩:=e;cases e;obtain⟨rfl,_⟩:=a.int_of;obtain⟨rfl,_⟩:=b.int_of;exact⟨i,j,rfl,rfl,k (Go.id z) .int_mk⟩
noncomputable def vw(x y:D):Option D:=match y with
 | .int n=>(match x with
  | .int i=>bif u7 i&&u7 n then some (.int (i*n)) else none
  | .str a=>bif decide (a.length<=1000)&&(decide (0<=n)&&decide (n<=1000)) then some (.str (List.replicate n.toNat a).flatten) else none
  | _=>none)
 | _=>none
noncomputable def jbk:R2:=λx y H Q=>rI (λi j=>Builtin.Int.intBits i<=2 ^ 20/\Builtin.Int.intBits j<=2 ^ 20) (λi j=>.int (i*j)) x y H Q \/
 ∃(a:List Nat) (n:Int),x=.str (S a)/\y=.int n/\a.length<=1000/\0<=n/\n<=1000/\Q (.str (S (List.replicate n.toNat a).flatten)) H
theorem jbv:OpR X (binaryOp .Mult) jbk:=qg jar jak
theorem jbR:BO R jbk vw:=by
 intro Z H x y d v u f g z b c e Q k;cases y with
 | int n =>
  cases x with
  | int i =>
   simp only[vw] at e;cases hl:u7 i&&u7 n with
   | false=>rw[hl] at e;cases e
   | true =>
    rw[hl] at e;cases e;rw[L9] at hl;obtain⟨rfl,_⟩:=b.int_of;obtain⟨rfl,_⟩:=c.int_of;exact .inl ⟨i,n,rfl,rfl,⟨X2 hl.1,X2 hl.2⟩,k (Go.id z) .int_mk⟩
  | str a =>
   simp only[vw] at e;cases hl:decide (a.length<=1000)&&(decide (0<=n)&&decide (n<=1000)) with
   | false=>rw[hl] at e;cases e
   | true =>
    rw[hl] at e;cases e;simp only[L9,decide_eq_true_eq] at hl;obtain⟨rfl,_⟩:=b.str_of;obtain⟨rfl,_⟩:=c.int_of;exact .inr ⟨a,n,rfl,rfl,hl.1,hl.2.1,hl.2.2,k (Go.id z) .str_mk⟩
  | _=>cases e
 | _=>cases e
noncomputable def Vi(j:Int):Bool:=decide (0 < j)&&decide (j < 2 ^ 300)
theorem xj(h:Vi j=true):0 < j/\j.natAbs.log2 < 9000:=by
 unfold Vi at h;simp only[L9,decide_eq_true_eq] at h;refine⟨h.1,?_⟩;have a:j.natAbs < 2 ^ 300:=by omega
 have b:j.natAbs≠0:=by omega
 have:=(Nat.log2_lt b (k:=300)).mpr a;omega
theorem wG:OpR X (binaryOp .FloorDiv) (rI (λ_ j=>Vi j=true) λi j=>.int (i / j)):=opI λi j t u s Q E a q=>by
 obtain⟨b,c⟩:=xj a;have e:i / j=i.fdiv j:=(Int.fdiv_eq_ediv_of_nonneg i (Int.le_of_lt b)).symm;rw[e] at q;exact PyProof.Rows.floordiv_int (by omega) q (.inl (PyProof.noPylong_of_log2 c))
noncomputable def j6:D->D->Option D:=two λi j=>bif Vi j then some (.int (i / j)) else none
noncomputable def ju:D->D->Option D:=two λi j=>bif decide (0 < j) then some (.int (i % j)) else none
noncomputable def KC:D->D->Option D:=two λi j=>bif decide (0<=j)&&decide (j<=100)&&decide (i.natAbs < 2 ^ 64) then some (.int (i ^ j.toNat)) else none
theorem jcF:BO R (rI (λ_ j=>Vi j=true) λi j=>.int (i / j)) j6:=by
 intro Z H x y d v u c f z a b e Q k;replace e:=two_of e;obtain⟨i,j,rfl,rfl,e⟩:=e;cases hl:Vi j with
 | false=>rw[hl] at e;cases e
 | true =>
  rw[hl] at e;cases e;obtain⟨rfl,_⟩:=a.int_of;obtain⟨rfl,_⟩:=b.int_of;exact⟨i,j,rfl,rfl,hl,k (Go.id z) .int_mk⟩
theorem jdb:BO R (rI (λ_ j=>0 < j) λi j=>.int (i % j)) ju:=by
 intro Z H x y d v u f g z b c e Q k;replace e:=two_of e;obtain⟨i,j,rfl,rfl,e⟩:=e;by_cases a:0 < j
 ·rw[X0 a] at e;cases e;obtain⟨rfl,_⟩:=b.int_of;obtain⟨rfl,_⟩:=c.int_of;exact⟨i,j,rfl,rfl,a,k (Go.id z) .int_mk⟩
 ·rw[X1 a] at e;cases e
theorem jbG:BO R (rI jdU λi j=>.int (i ^ j.toNat)) KC:=by
 intro Z H x y d v u c f z a b e Q k;replace e:=two_of e;obtain⟨i,j,rfl,rfl,e⟩:=e;cases hl:decide (0<=j)&&decide (j<=100)&&decide (i.natAbs < 2 ^ 64) with
 | false=>rw[hl] at e;cases e
 | true =>
  rw[hl] at e;cases e;simp only[L9,decide_eq_true_eq] at hl;obtain⟨rfl,_⟩:=a.int_of;obtain⟨rfl,_⟩:=b.int_of;exact⟨i,j,rfl,rfl,⟨hl.1.1,by omega,hl.2⟩,k (Go.id z) .int_mk⟩
noncomputable def Qk:D->Option D
 | .int i=>some (.int (-i))
 | _=>none
theorem jcT:BU R (rU λi=>.int (-i)) Qk:=by
 intro Z H x d v O z a e Q k;cases x with
 | int i =>
  cases e;obtain⟨rfl,_⟩:=a.int_of;exact⟨i,rfl,k (Go.id z) .int_mk⟩
 | _=>cases e
noncomputable def opB(g:Int->Int->Bool):D->D->Option D:=two λi j=>some (.bl (g i j))
theorem jeM:BO R (rI0 λi j=>.bl (g i j)) (opB g):=by
 intro Z H x y d v u c f z a b e Q k;replace e:=two_of e;obtain⟨i,j,rfl,rfl,e⟩:=e;cases e;obtain⟨rfl,_⟩:=a.int_of;obtain⟨rfl,_⟩:=b.int_of;exact⟨i,j,rfl,rfl,k (Go.id z) .bl_mk⟩
noncomputable abbrev KY:D->D->Option D:=opB λi j=>decide (i < j)
noncomputable abbrev jcz:D->D->Option D:=opB λi j=>decide (j < i)
noncomputable def Y5:D->Bool
 | .non=>true
 | _=>false
noncomputable def V9:D->Bool
 | .dead=>true
 | _=>false
noncomputable def wX(x y:D):Option D:=bif Y5 y&&!V9 x then some (.bl (Y5 x)) else none
noncomputable def yL(x y:D):Option D:=bif Y5 y&&!V9 x then some (.bl (!Y5 x)) else none
theorem Ka(h:Y5 y=true):y=.non:=by
 cases y with
 | non=>rfl
 | _=>cases h
theorem YU(r:Rep R Z H x v O)(hd:∀(h:x=.dead),False):decide (v=V.non)=Y5 x:=by
 cases x with
 | non=>obtain⟨rfl,_⟩:=r.non_of;rfl
 | bl b=>obtain⟨rfl,_⟩:=r.bl_of;rfl
 | int i=>obtain⟨rfl,_⟩:=r.int_of;rfl
 | str s=>obtain⟨rfl,_⟩:=r.str_of;rfl
 | tup l=>rw[Rep] at r;obtain⟨a,d,rfl,_⟩:=r;rfl
 | lst o l=>rw[Rep] at r;obtain⟨a,d,e,rfl,_⟩:=r;rfl
 | dK o f l=>rw[Rep] at r;obtain⟨a,d,e,rfl,_⟩:=r;rfl
 | dT o f l=>rw[Rep] at r;obtain⟨a,d,e,rfl,_⟩:=r;rfl
 | ins o c ns l=>rw[Rep] at r;obtain⟨a,g,d,e,rfl,_⟩:=r;rfl
 | dead=>exact(hd rfl).elim
theorem jeD:BO R (λx y H Q=>y=.non/\Q (.bl (decide (x=.non))) H) wX:=by
 intro Z H x y d v u c f z a b e Q k;unfold wX at e;cases hl:Y5 y&&!V9 x with
 | false=>rw[hl] at e;cases e
 | true =>
  rw[hl] at e;cases e;rw[L9] at hl;have hd:∀(h:x=.dead),False:=λh=>by rw[h] at hl;exact absurd hl.2 (by decide)
  cases Ka hl.1;obtain⟨rfl,_⟩:=b.non_of;refine⟨rfl,?_⟩;rw[YU a hd];exact k (Go.id z) .bl_mk
theorem xX:BO R (λx y H Q=>y=.non/\Q (.bl (!decide (x=.non))) H) yL:=by
 intro Z H x y d v u c f z a b e Q k;unfold yL at e;cases hl:Y5 y&&!V9 x with
 | false=>rw[hl] at e;cases e
 | true =>
  rw[hl] at e;cases e;rw[L9] at hl;have hd:∀(h:x=.dead),False:=λh=>by rw[h] at hl;exact absurd hl.2 (by decide)
  cases Ka hl.1;obtain⟨rfl,_⟩:=b.non_of;refine⟨rfl,?_⟩;rw[YU a hd];exact k (Go.id z) .bl_mk
noncomputable def vA:D->Bool
 | .non=>true | .bl _=>true | .int _=>true | .str _=>true
 | _=>false
noncomputable def eqF:D->D->Bool
 | .non,.non=>true
 | .bl a,.bl b=>a==b
 | .int a,.int b=>a==b
 | .str a,.str b=>a==b
 | _,_=>false
noncomputable def JS:D->D->Bool
 | .bl _,.int _=>false
 | .int _,.bl _=>false
 | _,_=>true
theorem zg(d:Rep R Z H x v O1)(c:Rep R Z H y u O2)(h:(vA x&&vA y&&JS x y)=true):jeH v u=true/\decide (v=u)=eqF x y:=by
 cases x with
 | non =>
  obtain⟨rfl,_⟩:=d.non_of;cases y with
  | non=>obtain⟨rfl,_⟩:=c.non_of;exact⟨rfl,rfl⟩
  | bl b=>obtain⟨rfl,_⟩:=c.bl_of;exact⟨rfl,rfl⟩
  | int b=>obtain⟨rfl,_⟩:=c.int_of;exact⟨rfl,rfl⟩
  | str b=>obtain⟨rfl,_⟩:=c.str_of;exact⟨rfl,rfl⟩
  | _=>cases h
 | bl a =>
  obtain⟨rfl,_⟩:=d.bl_of;cases y with
  | non=>obtain⟨rfl,_⟩:=c.non_of;exact⟨rfl,rfl⟩
  | bl b=>obtain⟨rfl,_⟩:=c.bl_of;exact⟨rfl,by rw[zA];rfl⟩
  | str b=>obtain⟨rfl,_⟩:=c.str_of;exact⟨rfl,rfl⟩
  | _=>cases h
 | int a =>
  obtain⟨rfl,_⟩:=d.int_of;cases y with
  | non=>obtain⟨rfl,_⟩:=c.non_of;exact⟨rfl,rfl⟩
  | int b=>obtain⟨rfl,_⟩:=c.int_of;exact⟨rfl,by rw[Vr];rfl⟩
  | str b=>obtain⟨rfl,_⟩:=c.str_of;exact⟨rfl,rfl⟩
  | _=>cases h
 | str a =>
  obtain⟨rfl,_⟩:=d.str_of;cases y with
  | non=>obtain⟨rfl,_⟩:=c.non_of;exact⟨rfl,rfl⟩
  | bl b=>obtain⟨rfl,_⟩:=c.bl_of;exact⟨rfl,rfl⟩
  | int b=>obtain⟨rfl,_⟩:=c.int_of;exact⟨rfl,rfl⟩
  | str b =>
   obtain⟨rfl,_⟩:=c.str_of;refine⟨rfl,?_⟩;rw[Bool.eq_iff_iff];simp[eqF,jdF]
  | _=>cases h
 | _=>cases h
noncomputable def inL(x:D)(l:List D):Bool:=l.any λy=>eqF y x
noncomputable def Qd(x:D)(l:List D):Bool:=vA x&&l.all λy=>vA y&&JS y x
noncomputable def Ve(neg:Bool)(x y:D):Option D:=match y with
 | .str s=>(match x with
  | .str [c]=>some (.bl (neg != decide (c∈s)))
  | _=>none)
 | .lst _ l=>bif Qd x l then some (.bl (neg != inL x l)) else none
 | .tup l=>bif Qd x l then some (.bl (neg != inL x l)) else none
 | _=>none
theorem Reps.flat(c:Rep R Z H x v P)(d:vA x=true):∀{l:List D}{vs:List V}{O:List Addr},Reps R Z H l vs O->(l.all λy=>vA y&&JS y x)=true->Jn v=true/\vs.all Jn=true/\inV v vs=inL x l
 | [],_,_,h,_=>by
  rw[Reps] at h;obtain⟨rfl,_⟩:=h;refine⟨?_,rfl,rfl⟩;cases x with
  | non=>obtain⟨rfl,_⟩:=c.non_of;rfl
  | bl b=>obtain⟨rfl,_⟩:=c.bl_of;rfl
  | int b=>obtain⟨rfl,_⟩:=c.int_of;rfl
  | str b=>obtain⟨rfl,_⟩:=c.str_of;rfl
  | _=>cases d
 | y::l,_,_,h,f=>by
  rw[Reps] at h;obtain⟨u,vs,n,o,rfl,rfl,g,i⟩:=h;rw[List.all_cons,L9] at f;obtain⟨j,k,m⟩:=Reps.flat c d i f.2;have e:Jn u=true/\eqV u v=eqF y x:=by
   cases y with
   | non =>
    obtain⟨rfl,_⟩:=g.non_of;cases x with
    | non=>obtain⟨rfl,_⟩:=c.non_of;exact⟨rfl,rfl⟩
    | bl b=>obtain⟨rfl,_⟩:=c.bl_of;exact⟨rfl,rfl⟩
    | int b=>obtain⟨rfl,_⟩:=c.int_of;exact⟨rfl,rfl⟩
    | str b=>obtain⟨rfl,_⟩:=c.str_of;exact⟨rfl,rfl⟩
    | _=>cases d
   | bl a =>
    obtain⟨rfl,_⟩:=g.bl_of;cases x with
    | non=>obtain⟨rfl,_⟩:=c.non_of;exact⟨rfl,rfl⟩
    | bl b=>obtain⟨rfl,_⟩:=c.bl_of;exact⟨rfl,rfl⟩
    | str b=>obtain⟨rfl,_⟩:=c.str_of;exact⟨rfl,rfl⟩
    | int b=>exact absurd f.1 (by simp[JS])
    | _=>cases d
   | int a =>
    obtain⟨rfl,_⟩:=g.int_of;cases x with
    | non=>obtain⟨rfl,_⟩:=c.non_of;exact⟨rfl,rfl⟩
    | int b=>obtain⟨rfl,_⟩:=c.int_of;exact⟨rfl,rfl⟩
    | str b=>obtain⟨rfl,_⟩:=c.str_of;exact⟨rfl,rfl⟩
    | bl b=>exact absurd f.1 (by simp[JS])
    | _=>cases d
   | str a =>
    obtain⟨rfl,_⟩:=g.str_of;cases x with
    | non=>obtain⟨rfl,_⟩:=c.non_of;exact⟨rfl,rfl⟩
    | bl b=>obtain⟨rfl,_⟩:=c.bl_of;exact⟨rfl,rfl⟩
    | int b=>obtain⟨rfl,_⟩:=c.int_of;exact⟨rfl,rfl⟩
    | str b =>
     obtain⟨rfl,_⟩:=c.str_of;refine⟨rfl,?_⟩;rw[Bool.eq_iff_iff];simp[eqF,eqV,jdF]
    | _=>cases d
   | _=>exact absurd f.1 (by simp[vA])
  refine⟨j,by rw[List.all_cons,e.1,k];rfl,?_⟩;show(eqV u v||inV v vs)=(eqF y x||inL x l);rw[e.2,m]
noncomputable def je9(neg:Bool):R2:=λx y H Q=>∃ c l,x=.str (S [c])/\y=.str (S l)/\Q (.bl (if neg then !decide (c∈l) else decide (c∈l))) H
noncomputable def jbA(K:PySem.W.Frag)(neg:Bool):R2:=λx y H Q=>je9 neg x y H Q \/ rIn K neg x y H Q
theorem jdl:OpR X (compareOp .In) (jbA X.K false):=qg jbE xE
theorem xA:OpR X (compareOp .NotIn) (jbA X.K true):=qg Q0 YV
theorem VE(neg b:Bool):(if neg=true then !b else b)=(neg != b):=by cases neg<;>cases b<;>rfl
theorem jbJ:BO R (jbA R.K neg) (Ve neg):=by
 intro Z H x y d v u q r z b f e Q k;cases y with
 | str s =>
  cases x with
  | str t =>
   match t,e,b with
   | [c],e,b =>
    cases e;obtain⟨rfl,_⟩:=b.str_of;obtain⟨rfl,_⟩:=f.str_of;refine .inl ⟨c,s,rfl,rfl,?_⟩;rw[VE];exact k (Go.id z) .bl_mk
   | [],e,b=>cases e
   | _::_::_,e,b=>cases e
  | _=>cases e
 | lst o l =>
  have a:(bif Qd x l then some (D.bl (neg != inL x l)) else none)=some d:=e;cases hl:Qd x l with
  | false=>rw[hl] at a;cases a
  | true =>
   rw[hl] at a;cases a;unfold Qd at hl;rw[L9] at hl;obtain⟨p,g,w,rfl,h,i⟩:=f.lst_of;obtain⟨j,m,n⟩:=i.flat b hl.1 hl.2;refine .inr ⟨p,g,rfl,.inl h.sq,j,m,?_⟩;rw[n,VE];exact k (Go.id z) .bl_mk
 | tup l =>
  have a:(bif Qd x l then some (D.bl (neg != inL x l)) else none)=some d:=e;cases hl:Qd x l with
  | false=>rw[hl] at a;cases a
  | true =>
   rw[hl] at a;cases a;unfold Qd at hl;rw[L9] at hl;obtain⟨p,g,rfl,h,i⟩:=f.tup_of;obtain⟨j,m,n⟩:=i.flat b hl.1 hl.2;refine .inr ⟨p,g,rfl,.inr h,j,m,?_⟩;rw[n,VE];exact k (Go.id z) .bl_mk
 | _=>cases e
noncomputable def jB(x y:D):Option D:=match y with
 | .int i=>(match x with
  | .lst _ l=>atI l i
  | .tup l=>atI l i
  | .str s=>bif lim s.length then(match atI s i with
   | some c=>some (.str [c])
   | none=>none) else none
  | _=>none)
 | _=>none
theorem Reps.atI(r:Reps R Z H l vs O)(e:L2.atI l i=some d):∃ v P,L2.atI vs i=some v/\Rep R Z H d v P:=by
 unfold L2.atI at e ⊢;rw[r.length];cases h:ixN l.length i with
 | none=>rw[h] at e;cases e
 | some j =>
  rw[h] at e;obtain⟨v,A,P,B,a,_,b,_⟩:=r.at (show l[j]?=some d from e);exact⟨v,P,a,b⟩
theorem jd6:BO' R (rIx R.K) jB:=by
 intro Z H x y d v u q r z a n e Q k;cases y with
 | int i =>
  obtain⟨rfl,_⟩:=n.int_of;cases x with
  | lst o l =>
   obtain⟨p,b,t,rfl,f,g⟩:=a.lst_of;obtain⟨w,P,j,m⟩:=g.atI e;exact .inl ⟨p,b,i,w,rfl,rfl,f.sq,j,k m⟩
  | tup l =>
   obtain⟨p,b,rfl,f,g⟩:=a.tup_of;obtain⟨w,P,j,m⟩:=g.atI e;exact .inr (.inl ⟨p,b,i,w,rfl,rfl,f,j,k m⟩)
  | str s =>
   obtain⟨rfl,_⟩:=a.str_of;simp only[jB] at e;cases hl:lim s.length with
   | false=>rw[hl] at e;cases e
   | true =>
    rw[hl,cond_true] at e;cases h:L2.atI s i with
    | none=>rw[h] at e;cases e
    | some c =>
     rw[h] at e;cases e;refine .inr (.inr ⟨S s,i,c,rfl,rfl,by rw[qY];exact vS hl,by rw[vQ];exact h,?_⟩);rw[u4];exact k .str_mk
  | _=>cases e
 | _=>cases e
noncomputable abbrev OF:=Rh->Option (Option Int)
def PO'(R:RC)(t:TO)(p:OF):Prop:=∀{σ:St}{ρ:Rh}{Z:Zn}{H:Hp}{O:List Addr}{i:Option Int},Zd Z H->Slots R Z H ρ σ O->p ρ=some i ->
 ∀{Q:Option Int->Hp->Prop},(∀{Z':Zn}{H':Hp},Go Z H [] Z' H' []->Q i H')->t σ H Q
noncomputable def oN:OF:=λ_=>some none
noncomputable def oS(p:PF):OF:=λρ=>match p ρ with
 | some (.int i)=>some (some i)
 | _=>none
theorem je1:PO' R Vk oN:=by
 intro σ ρ Z H O i z s e Q k;cases e;exact k (Go.id z)
theorem jeX(h:PB R te p):PO' R (jbw te) (oS p):=by
 intro σ ρ Z H O i z s e Q k;unfold oS at e;split at e
 ·rename_i j a;cases e;refine h z s a λ{v d f g} b c=>?_;obtain⟨rfl,_⟩:=c.int_of;exact⟨j,rfl,k b⟩
 ·cases e
noncomputable def uA(lo hi:Option Int):D->Option D
 | .str s=>bif lim s.length then some (.str (yB s lo hi)) else none
 | .lst _ l=>bif frzs l then some (.lst true (yB l lo hi)) else none
 | .tup l=>bif frzs l&&decide ((yB l lo hi).length < l.length) then some (.tup (yB l lo hi)) else none
 | _=>none
def jek(K:PySem.W.Frag):V->Option Int->Option Int->Hp->VK->Prop:=λx lo hi H Q=>jeQ x lo hi H Q \/ jeK K x lo hi H Q \/ jeT K x lo hi H Q
theorem je8:SlR X (jek X.K):=SlR.or jb8 (SlR.or jbu jcD)
noncomputable def pSl(pa:PF)(pl ph:OF):PF:=λρ=>match pa ρ with
 | none=>none
 | some x=>match pl ρ with
  | none=>none
  | some lo=>match ph ρ with
   | none=>none
   | some hi=>uA lo hi x
theorem Reps.cut(r:Reps R Z H l vs [])(lo hi:Option Int):Reps R Z H (yB l lo hi) (uB vs lo hi) []:=by
 unfold yB uB;rw[r.length];exact(r.drop _).take _
theorem jep(C:PB R te pa)(D:PO' R tl pl)(E:PO' R th ph):PP R (tSl (jek R.K) te tl th) (pSl pa pl ph):=by
 intro σ ρ Z H O d z s e Q k;unfold pSl at e;cases e1:pa ρ with
 | none=>rw[e1] at e;cases e
 | some x =>
  rw[e1] at e;dsimp only at e;cases e2:pl ρ with
  | none=>rw[e2] at e;cases e
  | some m =>
   rw[e2] at e;dsimp only at e;cases e3:ph ρ with
   | none=>rw[e3] at e;cases e
   | some n =>
    rw[e3] at e;dsimp only at e;refine C z s e1 λ{v I J L} h F=>?_;refine D h.wf.zd (h.slots z s) e2 λ{M N} q=>?_;have c:=h.pair q;refine E q.wf.zd (c.slots z s) e3 λ{Z3 G} i=>?_;have a:Go Z H [] Z3 G []:=c.pair i;have r:=(q.pair i).rep h.wf.zd F;cases x with
    | str t =>
     simp only[uA] at e;cases hm:lim t.length with
     | false=>rw[hm] at e;cases e
     | true =>
      rw[hm] at e;cases e;obtain⟨rfl,_⟩:=r.str_of;exact .inl ⟨t,rfl,vS hm,k a .str_mk⟩
    | lst o l =>
     simp only[uA] at e;cases hm:frzs l with
     | false=>rw[hm] at e;cases e
     | true =>
      rw[hm] at e;cases e;obtain⟨p,u,P,rfl,w,j⟩:=r.lst_of;have f:=i.wf.zd;exact .inr (.inl ⟨p,u,rfl,w.sq,λb g=>k (by simpa using a.pair (Go.newO (wf0 f) g)) (Rep.lstNew (wf0 f) g ((j.frozen hm).cut m n))⟩)
    | tup l =>
     simp only[uA] at e;cases hm:frzs l&&decide ((yB l m n).length < l.length) with
     | false=>rw[hm] at e;cases e
     | true =>
      rw[hm] at e;cases e;simp only[L9,decide_eq_true_eq] at hm;obtain⟨p,u,rfl,w,j⟩:=r.tup_of;have f:=i.wf.zd;refine .inr (.inr ⟨p,u,rfl,w,?_,λb g=>k (by simpa using a.pair (Go.newF (wf0 f) g)) (Rep.tupNew (wf0 f) g ((j.frozen hm.1).cut m n))⟩);rintro⟨A,B⟩;have y:=hm.2;unfold yB at y;rw[j.length] at A B;rw[A,B,List.drop_zero,Nat.sub_zero,List.take_length] at y;exact absurd y (Nat.lt_irrefl _)
    | _=>cases e
noncomputable def kr:List D->Option D
 | [.lst _ l]=>some (.int l.length)
 | [.tup l]=>some (.int l.length)
 | [.str s]=>bif lim s.length then some (.int s.length) else none
 | _=>none
theorem jbV:BC R (λxs H Q=>∃ x n,xs=[x]/\jdx R.K x H n/\Q (.int n) H) kr:=by
 intro Z H xs d g O z r e Q k
 match xs,e,r with
 | [.lst o l],e,r =>
  cases e;obtain⟨v,rfl,a⟩:=r.one_of;obtain⟨p,b,h,rfl,c,f⟩:=a.lst_of;exact⟨_,_,rfl,.inl ⟨b,c.sq,rfl⟩,by rw[f.length];exact k (Go.id z) .int_mk⟩
 | [.tup l],e,r =>
  cases e;obtain⟨v,rfl,a⟩:=r.one_of;obtain⟨p,b,rfl,c,f⟩:=a.tup_of;exact⟨_,_,rfl,.inr ⟨b,c,rfl⟩,by rw[f.length];exact k (Go.id z) .int_mk⟩
 | [.str s],e,r =>
  simp only[kr] at e;cases hm:lim s.length with
  | false=>rw[hm] at e;cases e
  | true =>
   rw[hm] at e;cases e;obtain⟨v,rfl,a⟩:=r.one_of;obtain⟨rfl,_⟩:=a.str_of;exact⟨_,_,rfl,⟨by rw[qY];exact vS hm,rfl⟩,by rw[qY];exact k (Go.id z) .int_mk⟩
noncomputable def xc:List D->Option D
 | [.lst _ l]=>bif frzs l then some (.lst true l) else none
 | [.tup l]=>bif frzs l then some (.lst true l) else none
 | _=>none
theorem jbe:BC R (λxs H Q=>∃ p ys,xs=[.ref p]/\(SqL R.K H p ys \/ SqT R.K H p ys)/\∀ l,H l=none->Q (.ref l) (upd H l (.lst ys))) xc:=by
 intro Z H xs d i O z r e Q k
 match xs,e,r with
 | [.lst o l],e,r =>
  simp only[xc] at e;cases hm:frzs l with
  | false=>rw[hm] at e;cases e
  | true =>
   rw[hm] at e;cases e;obtain⟨v,rfl,c⟩:=r.one_of;obtain⟨p,f,j,rfl,g,h⟩:=c.lst_of;exact⟨p,f,rfl,.inl g.sq,λb a=>k (Go.newO (wf0 z) a) (Rep.lstNew (wf0 z) a (h.frozen hm))⟩
 | [.tup l],e,r =>
  simp only[xc] at e;cases hm:frzs l with
  | false=>rw[hm] at e;cases e
  | true =>
   rw[hm] at e;cases e;obtain⟨v,rfl,c⟩:=r.one_of;obtain⟨p,f,rfl,g,h⟩:=c.tup_of;exact⟨p,f,rfl,.inr g,λb a=>k (Go.newO (wf0 z) a) (Rep.lstNew (wf0 z) a (h.frozen hm))⟩
noncomputable def tyD:D->Option String
 | .non=>some "NoneType" | .bl _=>some "bool" | .int _=>some "int" | .str _=>some "str" | .tup _=>some "tuple" | .lst _ _=>some "list"
 | .dK true _ _=>some "dict"
 | _=>none
noncomputable def K4(t T:String):Bool:=t==T||(t=="bool"&&T=="int")
noncomputable def jaj(T:String)(p:PF):PF:=λρ=>match p ρ with
 | none=>none
 | some d=>match tyD d with
  | none=>none
  | some t=>some (.bl (K4 t T))
theorem ja7(K:PySem.W.Frag)  (a:t∈["NoneType","bool","int","str","tuple","list","dict"]) (b:T∈["bool","int","str","tuple","list","dict"]):PySem.W.kitOne K (.type t) (.type T)=some (K4 t T):=by
 simp only[M4,List.not_mem_nil,or_false] at a b;rcases a with rfl | rfl | rfl | rfl | rfl | rfl | rfl<;>rcases b with rfl | rfl | rfl | rfl | rfl | rfl<;>rfl
theorem Rep.ty(r:Rep R Z H x v O)(e:tyD x=some t):TyQ R.K H v t/\t∈["NoneType","bool","int","str","tuple","list","dict"]:=by
 cases x with
 | non=>cases e;obtain⟨rfl,_⟩:=r.non_of;exact⟨.non,by simp⟩
 | bl b=>cases e;obtain⟨rfl,_⟩:=r.bl_of;exact⟨.bl _,by simp⟩
 | int i=>cases e;obtain⟨rfl,_⟩:=r.int_of;exact⟨.int _,by simp⟩
 | str s=>cases e;obtain⟨rfl,_⟩:=r.str_of;exact⟨.str _,by simp⟩
 | tup l=>cases e;obtain⟨p,d,rfl,c,f⟩:=r.tup_of;exact⟨.tup c,by simp⟩
 | lst o l=>cases e;obtain⟨p,d,g,rfl,c,f⟩:=r.lst_of;exact⟨.lst c.sq,by simp⟩
 | dK o h l=>cases o with
  | false=>cases e
  | true=>cases e;rw[Rep] at r;obtain⟨a,j,g,rfl,_,_,hd,_⟩:=r;exact⟨.dK hd,by simp⟩
 | _=>cases e
theorem jbF(a:T∈["bool","int","str","tuple","list","dict"])  (h:PB R te p) :
  PP R (tCB (λxs H Q=>∃ x T t b,xs=[x,.ty T]/\TyQ R.K H x t/\PySem.W.kitOne R.K (.type t) (.type T)=some b/\Q (.bl b) H) (y9 te (y9 (tC (.ty T)) Vn))) (jaj T p):=by
 intro σ ρ Z H O d z s e Q k;unfold jaj at e;cases e1:p ρ with
 | none=>rw[e1] at e;cases e
 | some x =>
  rw[e1] at e;dsimp only at e;cases e2:tyD x with
  | none=>rw[e2] at e;cases e
  | some t =>
   rw[e2] at e;cases e;refine h z s e1 λ{v j l m} c f=>?_;obtain⟨g,i⟩:=f.ty e2;exact⟨v,T,t,K4 t T,rfl,g,ja7 _ i a,k c .bl_mk⟩
noncomputable def vZ:Nat->List D->List D
 | _,[]=>[]
 | k,x::l=>.tup [.int k,x]::vZ (k+1) l
theorem qV:∀(k:Nat) (l:List D),(vZ k l).length=l.length
 | _,[]=>rfl
 | k,x::l=>by rw[vZ,M0,M0,qV]
theorem qM:∀(k:Nat) (l:List D) (i:Nat) (y:D),(vZ k l)[i]?=some y->∃ x,l[i]?=some x/\y=.tup [.int ((k+i:Nat):Int),x]
 | _,[],_,_,e=>by simp[vZ] at e
 | k,x::l,0,y,e=>by simp[vZ] at e;exact⟨x,rfl,e.symm⟩
 | k,x::l,i+1,y,e=>by
  obtain⟨z,a,b⟩:=qM (k+1) l i y (by simpa [vZ] using e);exact⟨z,by simpa using a,by rw[b];congr 3;omega⟩
noncomputable def K9(p:PAf):PAf:=λρ=>match p ρ with
 | some [.lst _ l]=>some (vZ 0 (fzs l))
 | _=>none
theorem xO(z:Zd Z H)(b:H p=none)(c:Rep R Z H x u [])(d:Rep R Z H y v []):Rep R (λa=>Z a \/ a=p) (upd H p (.tup [u,v])) (.tup [x,y]) (.ref p) [] :=
 Rep.tupNew (wf0 z) b (.cons c (.cons d .empty))
theorem wl(h:PPs R ta p):PIt R (jad R.K ta) (K9 p):=by
 intro σ ρ Z H O U z s e Q k;unfold K9 at e;split at e
 ·rename_i o l C;cases e;refine h z s C λ{V D W E} F G=>?_;obtain⟨v,rfl,I⟩:=G.one_of;have g:=I.freeze (Z':=λa=>D a \/ a∈E) (λa z=>.inl z) λa z=>.inr z;rw[fz,Rep] at g;obtain⟨a,b,X,rfl,J,j,rfl,_⟩:=g;refine⟨a,b,rfl,FL.sq j,k F.fz ?_⟩;intro L M m n zd i;have c:=(j.frame m n).sq;have r:Reps R L M (fzs l) b []:=J.frame m n λa N=>(nomatch N);refine⟨λt=>⟨b,c,by rw[r.length];rw[qV] at t;exact t⟩,λx P=>?_⟩;obtain⟨y,S,rfl⟩:=qM 0 _ i x P;obtain⟨u,A,T⟩:=r.item S;refine⟨⟨b,u,c,A⟩,λw Y d=>?_⟩;obtain⟨q,u',f,rfl,B,rfl⟩:=d;have:=f b c;rw[A] at this;cases this;refine⟨_,Go.newF (wf0 zd) B,?_⟩;have:=xO (R:=R) (x:=.int i) (u:=.int i) zd B .int_mk T;simpa using this
 ·cases e
end QD
namespace QD
open PySem L2 PySem.Spec PyProof.Rows
section
variable (c:Nat->Addr)(pm:List Nat)(X:Cx)
structure QP(e:Expr)(te:TE)(p:PF):Prop where
 sem:PE X e te
 den:PP ⟨X.K,c⟩ te p
structure QB(e:Expr)(te:TE)(p:PF):Prop where
 sem:PE X e te
 den:PB ⟨X.K,c⟩ te p
structure QPs(es:List Expr)(ta:TA)(p:PAf):Prop where
 sem:PA X es ta
 den:PPs ⟨X.K,c⟩ ta p
structure QBs(es:List Expr)(ta:TA)(p:PAf):Prop where
 sem:PA X es ta
 den:PBs ⟨X.K,c⟩ ta p
 n:∀ ρ ds,p ρ=some ds->ds.length=es.length
structure QT(e:Expr)(tt:TT)(q:PTf):Prop where
 sem:PT X e tt
 den:PTt ⟨X.K,c⟩ tt q
structure QW(e:Expr)(tt:TT)(q:PTf):Prop where
 sem:PW X e tt
 den:PTt ⟨X.K,c⟩ tt q
structure QI(tg e:Expr)(wi:TI)(p:PAf):Prop where
 sem:PI X tg e wi
 den:PIt ⟨X.K,c⟩ wi p
structure QG(tg:Expr)(t:TG)(g:D->Rh->Option Rh):Prop where
 sem:PG X tg t
 den:PGt ⟨X.K,c⟩ pm t g
structure QGs(tg:List Expr)(t:TGs)(g:List D->Rh->Option Rh):Prop where
 sem:PGs X tg t
 den:jc9 ⟨X.K,c⟩ pm t g
structure QE(e:Expr)(te:TE)(f:FE):Prop where
 sem:PE X e te
 den:DE ⟨X.K,c⟩ te f
structure QS(st:Stmt)(ts:TS)(f:FS):Prop where
 sem:PS X st ts
 den:DS ⟨X.K,c⟩ pm ts f
structure QSs(st:List Stmt)(ts:TS)(f:FS):Prop where
 sem:PSs X st ts
 den:DS ⟨X.K,c⟩ pm ts f
structure QO(e:Option Expr)(t:TO)(p:OF):Prop where
 sem:PO X e t
 den:PO' ⟨X.K,c⟩ t p
structure QIf(ifs:List Expr)(tc:TT)(q:PTf):Prop where
 sem:PIf X ifs tc
 den:PTt ⟨X.K,c⟩ tc q
end
theorem QP.bb(h:QP cl X e te pe):QB cl X e te pe:=⟨h.sem,PP.b h.den⟩
theorem QB.f(h:QB cl X e te pe):QP cl X e te (pF pe):=⟨h.sem,PB.f h.den⟩
theorem QP.d(h:QP cl X e te pe):QE cl X e te (dP pe):=⟨h.sem,PP.d h.den⟩
theorem ja(i:Nat)  (b:X.N[i]?=some x:=by rfl) (c:Vis X.env.scope x:=by first | exact Or.inl rfl | exact Or.inr (Or.inl rfl) | exact Or.inr (Or.inr rfl)) (hd:(x==("__debug__" : Str))=false:=by decide)
  (a:(x==("__classdict__" : Str))=false:=by decide):QB cl X (.Name x pos) (vB i) (pV i):=⟨ug b c hd a,jdk⟩
theorem jb5(i:Nat)  (b:X.N[i]?=some x:=by rfl) (c:Vis X.env.scope x:=by first | exact Or.inl rfl | exact Or.inr (Or.inl rfl) | exact Or.inr (Or.inr rfl)) (hd:(x==("__debug__" : Str))=false:=by decide)
  (a:(x==("__classdict__" : Str))=false:=by decide):QE cl X (.Name x pos) (vB i) (dMv i):=⟨ug b c hd a,jei⟩
theorem wL{j}:QP cl X (.Constant (.int i) j pos) (tC (.int i)) (pC (.int i)):=⟨jcq,jdA λ_ _=>.int_mk⟩
theorem jbI{j}:QP cl X (.Constant (.bool i) j pos) (tC (.bl i)) (pC (.bl i)):=⟨jeg,jdA λ_ _=>.bl_mk⟩
theorem K0{j}:QP cl X (.Constant .none j pos) (tC .non) (pC .non):=⟨jb2,jdA λ_ _=>.non_mk⟩
theorem jdV{j}(l:List Nat)(h:x=S l):QP cl X (.Constant (.str x) j pos) (tC (.str x)) (pC (.str l)):=⟨jc1,by subst h;exact jdA λ_ _=>.str_mk⟩
theorem jY(c:QB cl X a ta pa)(d:QB cl X b tb pb):QP cl X (.BinOp a .Add b pos) (tOp (xV X.K) ta tb) (p2 jt pa pb):=⟨KQ jaQ c.sem d.sem,YS jcI c.den d.den⟩
theorem jd9(c:QB cl X a ta pa)(d:QB cl X b tb pb):QP cl X (.BinOp a .Sub b pos) (tOp (rI0 λi j=>.int (i - j)) ta tb) (p2 xM pa pb):=⟨KQ jcc c.sem d.sem,YS jcb c.den d.den⟩
theorem Qc(c:QB cl X a ta pa)(d:QB cl X b tb pb):QP cl X (.BinOp a .Mult b pos) (tOp jbk ta tb) (p2 vw pa pb):=⟨KQ jbv c.sem d.sem,YS jbR c.den d.den⟩
theorem qh(c:QB cl X a ta pa)(d:QB cl X b tb pb):QP cl X (.BinOp a .FloorDiv b pos) (tOp (rI (λ_ j=>Vi j=true) λi j=>.int (i / j)) ta tb) (p2 j6 pa pb):=⟨KQ wG c.sem d.sem,YS jcF c.den d.den⟩
theorem yj(c:QB cl X a ta pa)(d:QB cl X b tb pb):QP cl X (.BinOp a .Mod b pos) (tOp (rI (λ_ j=>0 < j) λi j=>.int (i % j)) ta tb) (p2 ju pa pb):=⟨KQ jcA c.sem d.sem,YS jdb c.den d.den⟩
theorem jeJ(c:QB cl X a ta pa)(d:QB cl X b tb pb):QP cl X (.BinOp a .Pow b pos) (tOp (rI jdU λi j=>.int (i ^ j.toNat)) ta tb) (p2 KC pa pb):=⟨KQ jdg c.sem d.sem,YS jbG c.den d.den⟩
theorem jbM(b:QB cl X a ta pa):QP cl X (.UnaryOp .USub a pos) (tUn (rU λi=>.int (-i)) ta) (p1 Qk pa):=⟨jd1 jcw b.sem,jdQ jcT b.den⟩
structure CmpR(cl:Nat->Addr)(X:Cx)(op:CmpOp)(b:Expr)(r:R2)(g:D->D->Option D):Prop where
 o:OpR X (compareOp op) r
 g:BO ⟨X.K,cl⟩ r g
 m:behindInMarks op b=false
theorem jcK:CmpR cl X .Lt b (rI0 λi j=>.bl (decide (i < j))) KY:=⟨jdX,jeM,JF _⟩
theorem je2:CmpR cl X .Gt b (rI0 λi j=>.bl (decide (j < i))) jcz:=⟨jd2,jeM,JF _⟩
theorem je0:CmpR cl X .Is b (λx y H Q=>y=.non/\Q (.bl (decide (x=.non))) H) wX:=⟨jbC,jeD,JF _⟩
theorem QN:CmpR cl X .IsNot b (λx y H Q=>y=.non/\Q (.bl (!decide (x=.non))) H) yL:=⟨jaL,xX,JF _⟩
theorem c_in(a:behindInMarks .In b=false):CmpR cl X .In b (jbA X.K false) (Ve false):=⟨jdl,jbJ,a⟩
theorem uU(a:behindInMarks .NotIn b=false):CmpR cl X .NotIn b (jbA X.K true) (Ve true):=⟨xA,jbJ,a⟩
theorem jeu(h:CmpR cl X op b r g)(c:QB cl X a ta pa)(d:QB cl X b tb pb):QP cl X (.Compare a [op] [b] pos) (tOp r ta tb) (p2 g pa pb):=⟨jat h.o c.sem d.sem h.m,YS h.g c.den d.den⟩
theorem jQ(h:CmpR cl X op b r g)(c:QB cl X a ta pa)(d:QB cl X b tb pb):QT cl X (.Compare a [op] [b] pos) (jaV (tOp r ta tb)) (jr (p2 g pa pb)):=⟨jal h.o c.sem d.sem h.m,VO (PP.b (YS h.g c.den d.den))⟩
theorem uf(b:QB cl X a ta pa)(c:∀ whole,isTrue a X.env whole=(do let v <- whole;standAt a.pos;holding [v] (truthy v)):=by intro _;rfl):QT cl X a (L2.tB ta) (jr pa):=⟨jcC b.sem c,VO b.den⟩
theorem uD(b:QT cl X a tA qa):QT cl X (.UnaryOp .Not a pos) (jdR tA) (jaW qa):=⟨jcG b.sem,jax b.den⟩
theorem jaP(b:QT cl X a tA qa):QW cl X (.BoolOp .And [a] pos) tA qa:=⟨jah b.sem,b.den⟩
theorem Qo(b:QT cl X a tA qa):QW cl X (.BoolOp .Or [a] pos) tA qa:=⟨jc3 b.sem,b.den⟩
theorem jc8{cl:Nat->Addr}{X:Cx}{a b:Expr}{es:List Expr}{tA tB:TT}{c d:PTf}{pos:Pos}(e:QT cl X a tA c)(f:QW cl X (.BoolOp .And (b::es) pos) tB d):QW cl X (.BoolOp .And (a::b::es) pos) (jeF tA tB) (ud c d):=⟨jdn e.sem f.sem,jbU e.den f.den⟩
theorem zy{cl:Nat->Addr}{X:Cx}{a b:Expr}{es:List Expr}{tA tB:TT}{c d:PTf}{pos:Pos}(e:QT cl X a tA c)(f:QW cl X (.BoolOp .Or (b::es) pos) tB d):QW cl X (.BoolOp .Or (a::b::es) pos) (tOr tA tB) (qOr c d):=⟨jeC e.sem f.sem,jdO e.den f.den⟩
theorem QW.t(h:QW cl X a tA qa):QT cl X a tA qa:=⟨PW.pt h.sem,h.den⟩
theorem jO:QPs cl X [] Vn pN:=⟨Jd,pps_nil⟩
theorem jf(a:QP cl X e te pe)(b:QPs cl X es tr pr)(c:starEach (e::es) X.env=(false,eval e X.env)::starEach es X.env:=by rfl):QPs cl X (e::es) (y9 te tr) (jc pe pr):=⟨vo a.sem b.sem c,pps_cons a.den b.den⟩
theorem jq:QBs cl X [] Vn pN:=⟨Jd,uR,λρ a e=>by cases e;rfl⟩
theorem je(b:QB cl X e te pe)(a:QBs cl X es tr pr)(c:starEach (e::es) X.env=(false,eval e X.env)::starEach es X.env:=by rfl):QBs cl X (e::es) (y9 te tr) (jc pe pr) :=
 ⟨vo b.sem a.sem c,xS b.den a.den,λρ f h=>by
  unfold jc at h;cases e1:pe ρ with
  | none=>rw[e1] at h;cases h
  | some x =>
   rw[e1] at h;dsimp only at h;cases e2:pr ρ with
   | none=>rw[e2] at h;cases h
   | some d =>
    rw[e2] at h;cases h;rw[M0,M0,a.n ρ d e2]⟩
theorem VA{x1}(h:QPs cl X es tr pr):QP cl X (.Tuple es x1 pos) (jed tr) (qB pr):=⟨jcx h.sem,jca h.den⟩
theorem vM(h:QPs cl X es tr pr):QP cl X (.List es pos) (jdW tr) (kU pr):=⟨jbD h.sem,jcl h.den⟩
theorem Jp(c:QB cl X a ta pa)(d:QB cl X b tb pb)(e:qZ b:=by exact λ_ _=>rfl):QB cl X (.Subscript a b pos) (tOp (rIx X.K) ta tb) (p2 jB pa pb):=⟨jau xx c.sem d.sem e,jdH jd6 c.den d.den⟩
theorem Jl:QO cl X none Vk oN:=⟨u6,je1⟩
theorem ka(h:QB cl X e te pe):QO cl X (some e) (jbw te) (oS pe):=⟨uW h.sem,jeX h.den⟩
theorem jbz{cl:Nat->Addr}{X:Cx}{lo hi:Option Expr}(b:QB cl X a ta pa)(c:QO cl X lo tl pl)(d:QO cl X hi th ph):QP cl X (.Subscript a (.Slice lo hi none p2') pos) (tSl (jek X.K) ta tl th) (pSl pa pl ph) :=
 ⟨wz je8 b.sem c.sem d.sem,jep b.den c.den d.den⟩
theorem j8{cl:Nat->Addr}{X:Cx}{e:Expr}{es:List Expr}{tr:TA}{pr:PAf}{pos:Pos}{k n:Nat}{f:Addr}{fd:FuncData}{ps:List Str}{m:List D->Option D}{x qual:Str}{st:Stmt}{p:Pos}(F:FnFact X.K X.mg x qual st f fd ps)(G:FnOk X.prog X.w X.K X.mg X.base CX0 k f fd ps (spP ⟨X.K,cl⟩ m n))(d:Room k X.A)
  (a:QBs cl X (e::es) tr pr) (hn:(e::es).length=n:=by rfl) (g:Gl X x:=by rfl) (b:(x==("__debug__" : Str))=false:=by decide)
  (i:starEach (e::es) X.env=(false,eval e X.env)::starEach es X.env:=by rfl) (c:(backTo pos (starEach es X.env)).any (·.1)=false:=by rfl):QP cl X (.Call (.Name x p) (e::es) [] pos) (xb (spP ⟨X.K,cl⟩ m n) [] E0 tr) (yh m pr) :=
 ⟨jef F G d a.sem g b i c,jaH a.den λρ j h=>(a.n ρ j h).trans hn⟩
theorem jbn{cl:Nat->Addr}{X:Cx}{e:Expr}{es:List Expr}{tr:TA}{pr:PAf}{pos:Pos}{x:Str}{p:Pos}{id:String}{r:List V->Hp->VK->Prop}{g:List D->Option D}(d:Yl X (.builtin id) r)(f:BC ⟨X.K,cl⟩ r g)(h:X.mg x=none)(i:bootBuiltins x=some (.builtin id))(c:QBs cl X (e::es) tr pr)(j:Gl X x:=by rfl)
  (hn:x≠"__name__":=by decide) (a:(x==("__debug__" : Str))=false:=by decide) (k:starEach (e::es) X.env=(false,eval e X.env)::starEach es X.env:=by rfl) (b:(backTo pos (starEach es X.env)).any (·.1)=false:=by rfl) :
  QP cl X (.Call (.Name x p) (e::es) [] pos) (tCB r tr) (pCB g pr):=⟨V0 d j h i c.sem hn a k b,jcn f c.den⟩
theorem xi(d:Yl X (.type T) r)(f:BC ⟨X.K,cl⟩ r g)(h:X.mg x=none)(i:bootBuiltins x=some (.type T))(c:QBs cl X (e::es) tr pr)(j:Gl X x:=by rfl)
  (hn:x≠"__name__":=by decide) (a:(x==("__debug__" : Str))=false:=by decide) (k:starEach (e::es) X.env=(false,eval e X.env)::starEach es X.env:=by rfl) (b:(backTo pos (starEach es X.env)).any (·.1)=false:=by rfl) :
  QP cl X (.Call (.Name x p) (e::es) [] pos) (tCB r tr) (pCB g pr):=⟨xp d j h i c.sem hn a k b,jcn f c.den⟩
theorem Jh(b:X.mg "len" = none)  (c:QBs cl X [e] tr pr) (d:Gl X "len":=by rfl) (f:starEach [e] X.env=(false,eval e X.env)::starEach [] X.env:=by rfl) (a:(backTo pos (starEach [] X.env)).any (·.1)=false:=by rfl) :
  QP cl X (.Call (.Name "len" p) [e] [] pos) (tCB (λxs H Q=>∃ x n,xs=[x]/\jdx X.K x H n/\Q (.int n) H) tr) (pCB kr pr):=jbn wn jbV b PySem.boot_len c d (by decide) (by decide) f a
theorem qk:bootBuiltins "isinstance" = some (.builtin "isinstance"):=by decide +kernel
theorem Qj:bootBuiltins "str" = some (.type "str"):=by decide +kernel
theorem JE:bootBuiltins "list" = some (.type "list"):=by decide +kernel
theorem KN:bootBuiltins "dict" = some (.type "dict"):=by decide +kernel
theorem jc6{cl:Nat->Addr}{X:Cx}{a:Expr}{ta:TE}{pa:PF}{pos:Pos}{T:String}{x:Str}{p p1:Pos}(j:T∈["bool","int","str","tuple","list","dict"])(k:X.mg "isinstance" = none)(c:X.mg x=none)(d:bootBuiltins x=some (.type T))(h:QB cl X a ta pa)(l:Gl X "isinstance":=by rfl)(e:Gl X x:=by rfl)
  (hn:x≠"__name__":=by decide) (f:(x==("__debug__" : Str))=false:=by decide) (i:starEach [a,.Name x p1] X.env=(false,eval a X.env)::starEach [.Name x p1] X.env:=by rfl) (g:(backTo pos (starEach [.Name x p1] X.env)).any (·.1)=false:=by rfl)
  (h1:starEach [.Name x p1] X.env=(false,eval (.Name x p1) X.env)::starEach [] X.env:=by rfl) :
  QP cl X (.Call (.Name "isinstance" p) [a,.Name x p1] [] pos) (tCB (λxs H Q=>∃ x T t b,xs=[x,.ty T]/\TyQ X.K H x t/\PySem.W.kitOne X.K (.type t) (.type T)=some b/\Q (.bl b) H) (y9 ta (y9 (tC (.ty T)) Vn))) (jaj T pa) :=
 ⟨V0 Va l k qk (vo h.sem (vo (u8 e c d rfl hn f) Jd h1) i) (by decide) (by decide) i g,jbF j h.den⟩
theorem V5(h:QP cl X e te pe):QI cl X tg e (uy X.K te) (pIt pe):=⟨QR h.sem,jec h.den⟩
theorem k5(b:X.mg "range" = none)(h:QBs cl X [a] tr pr)(c:Gl X "range":=by rfl)(d:starEach [a] X.env=[(false,eval a X.env)]:=by rfl):QI cl X tg (.Call (.Name "range" p) [a] [] pos) (jbt tr) (k9 pr):=⟨zC c b h.sem d,jbr h.den⟩
theorem jbs(b:X.mg "enumerate" = none)(h:QPs cl X [a] tr pr)(c:Gl X "enumerate":=by rfl)(d:starEach [a] X.env=[(false,eval a X.env)]:=by rfl):QI cl X (.Tuple elts n tpos) (.Call (.Name "enumerate" p) [a] [] pos) (jad X.K tr) (K9 pr):=⟨jas c b h.sem d,wl h.den⟩
theorem jF(a:X.N.Nodup)(hi:X.N[i]?=some x:=by rfl)(b:Loc X.env.scope x:=by first | exact Or.inl rfl | exact Or.inr rfl)(c:X.fn x=true \/ X.env.scope.names.lookup x=some .local:=by first | exact .inl rfl | exact .inr rfl) :
  QG cl pm X (.Name x pos) (qC i) (jl pm i):=⟨jaM a hi b c,x5⟩
theorem xD:QGs cl pm X [] jez gN:=⟨u3,xU⟩
theorem kA(h1:QG cl pm X e t g)(h2:QGs cl pm X es ts gs)(a:(assignEach (e::es) X.env).map (·.2)=assign e X.env::(assignEach es X.env).map (·.2):=by rfl):QGs cl pm X (e::es) (uY t ts) (gC g gs):=⟨w8 h1.sem h2.sem a,xy h1.den h2.den⟩
theorem uw(b:X.calm=true)(h:QGs cl pm X es ts gs)(hn:(assignEach es X.env).length=n:=by rfl)(a:(assignEach es X.env).findIdx? (·.1)=none:=by rfl):QG cl pm X (.Tuple es k pos) (jeq X.K n ts) (gT n gs):=⟨jcB b h.sem hn a,ja6 h.den⟩
theorem Yb:QIf cl X [] (λ_ H Q=>Q true H) qT:=⟨.inl ⟨rfl,rfl⟩,jbg⟩
theorem qy(h:QT cl X c tA qa):QIf cl X [c] tA qa:=⟨.inr ⟨c,rfl,h.sem⟩,h.den⟩
theorem yc:QSs cl pm X [] jbh yX:=⟨jbc,jav⟩
theorem jh{cl:Nat->Addr}{pm:List Nat}{X:Cx}{st:Stmt}{a:TS}{f:FS}(h:QS cl pm X st a f):QSs cl pm X [st] a f:=⟨ja2 h.sem,h.den⟩
theorem jb{cl:Nat->Addr}{pm:List Nat}{X:Cx}{st:Stmt}{rest:List Stmt}{a tu:TS}{f fe:FS}(h:QS cl pm X st a f)(k:QSs cl pm X rest tu fe):QSs cl pm X (st::rest) (jcg a tu) (jL f fe):=⟨Kr h.sem k.sem,jcj h.den k.den⟩
theorem jW(h:QE cl X e te fE):QS cl pm X (.Return (some e) pos) (jd5 te) (kB fE):=⟨jds h.sem,jct h.den⟩
theorem kl(a:QT cl X c tA qa)(b:QSs cl pm X x ts f)(e:QSs cl pm X y tu fe):QS cl pm X (.If c x y pos) (jey tA ts tu) (sIf (dPT qa) f fe):=⟨jee a.sem b.sem e.sem,jdT (PTt.d a.den) b.den e.den⟩
theorem jm(a:X.N.Nodup)(h:QE cl X e te fE)(hi:X.N[i]?=some x:=by rfl)(b:Loc X.env.scope x:=by first | exact Or.inl rfl | exact Or.inr rfl)(c:swapsWith e (some (.Name x pos')) pos.line X.env=pure false:=by rfl)
  (d:X.fn x=true \/ X.env.scope.names.lookup x=some .local:=by first | exact .inl rfl | exact .inr rfl):QS cl pm X (.Assign [.Name x pos'] e pos) (uX te (qC i)) (j7 fE (jl pm i)):=⟨uv a hi b h.sem c d,ue h.den VC⟩
noncomputable def Kw(pm:List Nat)(i:Nat)(g:Int->Int->Int)(p:PF):FS:=λρ=>match ρ[i]? with
 | some (some (.int x))=>(match p ρ with
  | some (.int y)=>(match jl pm i (.int (g x y)) ρ with
   | some ρ'=>some (.nx ρ')
   | none=>none)
  | _=>none)
 | _=>none
theorem jaD(h:PB R te p):DS R pm (jd4 i te (ipI gg)) (Kw pm i gg p):=by
 intro σ ρ Z H O o w s e q k;unfold Kw at e;split at e
 ·rename_i x a;split at e
  ·rename_i y d;cases e2:jl pm i (.int (gg x y)) ρ with
   | none=>rw[e2] at e;cases e
   | some t =>
    rw[e2] at e;cases e;obtain⟨A,P,B,rfl,f,_,_⟩:=s.put (L8.mp a).1;obtain⟨v,g,r⟩:=f _ a;obtain⟨rfl,_⟩:=r.int_of;refine⟨_,g,h w.zd s d λ{u z C D} b j=>?_⟩;obtain⟨rfl,_⟩:=j.int_of;refine⟨x,y,rfl,rfl,?_⟩;have c:=b.widen w;exact VC (P:=[]) c.wf (Rep.int_mk (i:=gg x y)) (b.slots w.zd s) e2 λl m n=>k (c.trans l) m n
  ·cases e
 ·cases e
theorem jbl(a:X.N.Nodup)(b:PIp X op (ipI gg))(h:QB cl X e te pe)(hi:X.N[i]?=some x:=by rfl)(c:Loc X.env.scope x:=by first | exact Or.inl rfl | exact Or.inr rfl)
  (d:X.fn x=true \/ X.env.scope.names.lookup x=some .local:=by first | exact .inl rfl | exact .inr rfl):QS cl pm X (.AugAssign (.Name x pos') op e pos) (jd4 i te (ipI gg)) (Kw pm i gg pe):=⟨jdf a hi c h.sem b d,jaD h.den⟩
theorem VU(j:QB cl X (.Name x xpos) (vB i) (pV i))(h:QP cl X e te pe)(b:attributeBase (.Name x xpos) "append" X.env (eval (.Name x xpos) X.env)=eval (.Name x xpos) X.env:=by rfl)
  (d:((backTo cpos (starEach [e] X.env)).all (λx=>!x.1)&&(backToKw cpos (keywordEach [] X.env)).all (λx=>x.1.isSome)
   && decide ([e].length+([]:List Keyword).length+(if([]:List Keyword).isEmpty then 0 else 1) < 30))=true:=by rfl)
  (c:(apos.endLine==cpos.line)=true:=by rfl) (g:starEach [e] X.env=(false,eval e X.env)::starEach [] X.env:=by rfl) (a:(backTo cpos (starEach [] X.env)).any (·.1)=false:=by rfl)
  (f:swapsWith (.Call (.Attribute (.Name x xpos) "append" apos) [e] [] cpos) none pos.line X.env=pure false:=by rfl) :
  QS cl pm X (.Expr (.Call (.Attribute (.Name x xpos) "append" apos) [e] [] cpos) pos) (qP (tBM X.K "list" Vo (vB i) (y9 te Vn))) (x4 i pe) :=
 ⟨qR (QM PySem.F.plainAttrs_list PySem.F.slot_list_append PySem.F.type_list_append Jb j.sem (vo h.sem Jd g) b d c g a) f,jb0 h.den⟩
theorem kG(c:PassesOwn (model X.prog X.w) X.A X.env X.xe)(d:X.calm=true)(hi:QI cl X tg iter wi pi)(a:QG cl pm X tg t g)(b:QSs cl pm X body ts f)(e:∀ x,foldedSetIterable iter X.env x=pure x:=by intro _;rfl):QS cl pm X (.For tg iter body [] pos) (jaY wi t ts) (Vf pi g f) :=
 ⟨xf c d hi.sem a.sem b.sem e,jco hi.den a.den b.den⟩
theorem QS.fz{cl:Nat->Addr}{pm:List Nat}{X:Cx}{st:Stmt}{a:TS}{f:FS}(i:Nat)(h:QS cl pm X st a f):QS cl pm X st a (sFz i f):=⟨h.sem,jes h.den⟩
theorem qi{cl:Nat->Addr}{P:Program}{w:World}{K:PySem.W.Frag}{mg:Str->Option Value}{base:Heap}{x qual:Str}{a:Stmt}{fa:Addr}{fd:FuncData}{N ps:List Str}{k n:Nat}{fs:FS}(F:Fun K x qual a fa fd)(c:FnScope N ps (jk a))(hn:ps.length=n)
  (b:∀(cdv:Value) (A:Around) (outer:List Env) (s:Shared) (H:Hp) (E:XK),Room k (A.deeper (envOfC qual (jk a) s.heap.objs.size fa cdv)) ->
   ∃ ts,QSs cl [] (jbo CX0 P w K mg base N qual (jk a) fa cdv A outer s H E).nox (yS a) ts fs):FnOk P w K mg base CX0 (k+1) fa fd ps (spP ⟨K,cl⟩ (fnP N.length fs) n):=by
 refine F.ok c (λd H Q E h=>by rw[jap h,hn]) λcdv A outer s H d Q E e h=>?_;obtain⟨ts,q⟩:=b cdv A outer s H E e;exact⟨ts,q.sem,jaS q.den h⟩
mutual
noncomputable def zQ:D->PyData
 | .non=>.none | .bl b=>.bool b | .int i=>.int i | .str s=>.str (S s)
 | .tup l=>.tuple (vz l)
 | .lst _ l=>.list (vz l)
 | .dK _ _ _=>.none | .dT _ _ _=>.none | .ins _ _ _ _=>.none | .dead=>.none
noncomputable def vz:List D->List PyData
 | []=>[]
 | d::l=>zQ d::vz l
end
mutual
noncomputable def okE:Nat->D->Bool
 | _,.non=>true | _,.bl _=>true | _,.int _=>true
 | _,.str s=>s.all λc=>decide (c < 1114112)
 | n+1,.tup l=>y8 n l
 | n+1,.lst _ l=>y8 n l
 | _,_=>false
noncomputable def y8:Nat->List D->Bool
 | _,[]=>true
 | n,d::l=>okE n d&&y8 n l
end
mutual
noncomputable def eqD:D->D->Bool
 | .non,.non=>true
 | .bl a,.bl b=>a==b
 | .bl a,.int j=>(if a then 1 else 0)==j
 | .int i,.bl b=>i==(if b then 1 else 0)
 | .int i,.int j=>i==j
 | .str a,.str b=>a==b
 | .tup l,.tup m=>KJ l m
 | .lst _ l,.lst _ m=>KJ l m
 | _,_=>false
noncomputable def KJ:List D->List D->Bool
 | [],[]=>true
 | x::l,y::m=>eqD x y&&KJ l m
 | _,_=>false
end
theorem Kk:∀(n:Nat) (l:List D),y8 n l=l.all (okE n)
 | _,[]=>rfl
 | n,d::l=>by rw[y8,Kk n l];rfl
mutual
theorem xm:∀(n:Nat) (x y:D),okE n x=true->okE n y=true->PyData.eqv (zQ x) (zQ y)=eqD x y
 | n,.non,y,hx,hy=>by cases y<;>first | rfl | (cases n<;>simp_all [okE])
 | n,.bl a,y,hx,hy=>by cases y<;>first | rfl | (cases n<;>simp_all [okE])
 | n,.int a,y,hx,hy=>by cases y<;>first | rfl | (cases n<;>simp_all [okE])
 | n,.str a,y,hx,hy=>by
  cases y with
  | str b =>
   show(S a==S b)=(a==b);rw[Bool.eq_iff_iff];simp[jdF]
  | _=>first | rfl | (cases n<;>simp_all [okE])
 | 0,.tup l,y,hx,hy=>by simp[okE] at hx
 | n+1,.tup l,y,hx,hy=>by
  cases y with
  | tup m=>show PyData.eqvAll (vz l) (vz m)=KJ l m;exact VQ n l m (by simpa [okE] using hx) (by simpa [okE] using hy)
  | _=>first | rfl | (simp_all [okE])
 | 0,.lst o l,y,hx,hy=>by simp[okE] at hx
 | n+1,.lst o l,y,hx,hy=>by
  cases y with
  | lst o' m=>show PyData.eqvAll (vz l) (vz m)=KJ l m;exact VQ n l m (by simpa [okE] using hx) (by simpa [okE] using hy)
  | _=>first | rfl | (simp_all [okE])
 | n,.dK _ _ _,y,hx,hy=>by cases n<;>simp[okE] at hx
 | n,.dT _ _ _,y,hx,hy=>by cases n<;>simp[okE] at hx
 | n,.ins _ _ _ _,y,hx,hy=>by cases n<;>simp[okE] at hx
 | n,.dead,y,hx,hy=>by cases n<;>simp[okE] at hx
theorem VQ:∀(n:Nat) (l m:List D),y8 n l=true->y8 n m=true->PyData.eqvAll (vz l) (vz m)=KJ l m
 | n,[],[],_,_=>rfl
 | n,[],_::_,_,_=>rfl
 | n,_::_,[],_,_=>rfl
 | n,x::l,y::m,hx,hy=>by
  rw[y8,L9] at hx hy;show(PyData.eqv (zQ x) (zQ y)&&PyData.eqvAll (vz l) (vz m))=(eqD x y&&KJ l m);rw[xm n x y hx.1 hy.1,VQ n l m hx.2 hy.2]
end
mutual
theorem Ko:∀(n:Nat) (x:D),okE n x=true->(zQ x).canLay0=true/\(zQ x).depth<=n
 | n,.non,_=>⟨rfl,U5 _⟩
 | n,.bl _,_=>⟨rfl,U5 _⟩
 | n,.int _,_=>⟨rfl,U5 _⟩
 | n,.str s,h=>by
  refine⟨?_,U5 _⟩;have h:(s.all λc=>decide (c < 1114112))=true:=by cases n<;>simpa [okE] using h
  show PyData.strOk (S s)=true;unfold PyData.strOk S;rw[Array.all_eq_true'];intro c hc;rw[List.all_eq_true] at h;exact h c (by simpa using hc)
 | 0,.tup l,h=>by simp[okE] at h
 | n+1,.tup l,h=>by
  obtain⟨h1,h2⟩:=qQ n l (by simpa [okE] using h);exact⟨h1,Nat.succ_le_succ h2⟩
 | 0,.lst o l,h=>by simp[okE] at h
 | n+1,.lst o l,h=>by
  obtain⟨h1,h2⟩:=qQ n l (by simpa [okE] using h);exact⟨h1,Nat.succ_le_succ h2⟩
 | n,.dK _ _ _,hx=>by cases n<;>simp[okE] at hx
 | n,.dT _ _ _,hx=>by cases n<;>simp[okE] at hx
 | n,.ins _ _ _ _,hx=>by cases n<;>simp[okE] at hx
 | n,.dead,hx=>by cases n<;>simp[okE] at hx
theorem qQ:∀(n:Nat) (l:List D),y8 n l=true->PyData.canLayAll0 (vz l)=true/\PyData.depthAll (vz l)<=n
 | n,[],_=>⟨rfl,U5 _⟩
 | n,x::l,h=>by
  rw[y8,L9] at h;obtain⟨h1,h2⟩:=Ko n x h.1;obtain⟨h3,h4⟩:=qQ n l h.2;rw[vz];refine⟨?_,?_⟩
  ·show((zQ x).canLay0&&PyData.canLayAll0 (vz l))=true;rw[h1,h3];rfl
  ·show max (zQ x).depth (PyData.depthAll (vz l))<=n;exact Nat.max_le.mpr ⟨h2,h4⟩
end
mutual
theorem Rep.reads(I:Inv X pins σ H s):∀(n:Nat) {x:D}{v:V}{u:Value}{O:List Addr},Rep ⟨X.K,cl⟩ Z H x v O->RelV v u->okE n x=true->∃ as,Reads s.heap u (zQ x) as
 | n,.non,_,_,_,r,q,_=>by obtain⟨rfl,_⟩:=r.non_of;cases q;exact⟨_,.none⟩
 | n,.bl b,_,_,_,r,q,_=>by obtain⟨rfl,_⟩:=r.bl_of;cases q;exact⟨_,.bool b⟩
 | n,.int i,_,_,_,r,q,_=>by obtain⟨rfl,_⟩:=r.int_of;obtain⟨t,rfl⟩:=q;exact⟨_,.int i t⟩
 | n,.str w,_,_,_,r,q,_=>by obtain⟨rfl,_⟩:=r.str_of;obtain⟨t,rfl⟩:=q;exact⟨_,.str _ t⟩
 | 0,.tup l,_,_,_,r,q,h=>by simp[okE] at h
 | n+1,.tup l,_,_,_,r,q,h=>by
  obtain⟨a,vs,rfl,hx,rs⟩:=r.tup_of;cases q;obtain⟨its,rv,⟨o,h1,h2,k,h3⟩,_⟩:=I.tuple hx;obtain⟨as,hr⟩:=Reps.reads I n rs rv (by simpa [okE] using h);exact⟨_,reads_tuple_at h1 h2 h3 (by simpa using hr)⟩
 | 0,.lst o l,_,_,_,r,q,h=>by simp[okE] at h
 | n+1,.lst o l,_,_,_,r,q,h=>by
  obtain⟨a,vs,O',rfl,hx,rs⟩:=r.lst_of;cases q;obtain⟨its,rv,⟨o,k,h1,h2,_,h3⟩,_⟩:=I.list hx.sq;obtain⟨as,hr⟩:=Reps.reads I n rs rv (by simpa [okE] using h);exact⟨_,reads_list_at h1 h2 h3 (by simpa using hr)⟩
 | n,.dK _ _ _,_,_,_,_,_,hx=>by cases n<;>simp[okE] at hx
 | n,.dT _ _ _,_,_,_,_,_,hx=>by cases n<;>simp[okE] at hx
 | n,.ins _ _ _ _,_,_,_,_,_,hx=>by cases n<;>simp[okE] at hx
 | n,.dead,_,_,_,_,_,hx=>by cases n<;>simp[okE] at hx
theorem Reps.reads(I:Inv X pins σ H s):∀(n:Nat) {l:List D}{vs:List V}{us:List Value}{O:List Addr},Reps ⟨X.K,cl⟩ Z H l vs O->Vals vs us->y8 n l=true->∃ as,ReadsAll s.heap us (vz l) as
 | n,[],_,_,_,r,q,_=>by rw[Reps] at r;obtain⟨rfl,_⟩:=r;cases q;exact⟨_,.nil⟩
 | n,x::l,_,_,_,r,q,h=>by
  rw[Reps] at r;obtain⟨v,vs,O1,O2,rfl,rfl,r1,r2⟩:=r;rw[y8,L9] at h;cases q with
  | cons q1 q2 =>
   obtain⟨as,h1⟩:=Rep.reads I n r1 q1 h.1;obtain⟨bs,h2⟩:=Reps.reads I n r2 q2 h.2;exact⟨_,.cons h1 h2⟩
end
noncomputable def jbq(R:RC)(neg:Bool):R2:=λx y H Q=>∃ Z d e O P,Rep R Z H d x O/\Rep R Z H e y P/\okE 20 d=true/\okE 20 e=true/\Q (.bl (neg != eqD d e)) H
theorem jdw(h:okE 20 x=true):SeqAt.shaped (zQ x)=true:=by
 obtain⟨a,b⟩:=Ko 20 x h;unfold SeqAt.shaped;rw[a,Bool.true_and];exact X0 (N7 b (by decide))
theorem jbK(f:X.A.units+64 < cLine):OpR X (compareOp .Eq) (jbq ⟨X.K,cl⟩ false):=by
 intro c s σ H x y v u Q I g i h;obtain⟨Z,d,e,O,P,j,k,a,b,q⟩:=h;obtain⟨n,l⟩:=j.reads I 20 g a;obtain⟨bs,m⟩:=k.reads I 20 i b;refine eq_dataH l m (jdw a) (jdw b) f ?_;rw[xm 20 d e a b];exact⟨.bl _,H,I,rfl,by simpa using q⟩
theorem jda(f:X.A.units+64 < cLine):OpR X (compareOp .NotEq) (jbq ⟨X.K,cl⟩ true):=by
 intro c s σ H x y v u Q I g i h;obtain⟨Z,d,e,O,P,j,k,a,b,q⟩:=h;obtain⟨n,l⟩:=j.reads I 20 g a;obtain⟨bs,m⟩:=k.reads I 20 i b;refine ne_dataH l m (jdw a) (jdw b) f ?_;rw[xm 20 d e a b];exact⟨.bl _,H,I,rfl,by simpa using q⟩
noncomputable def k7(x y:D):Option D:=bif vA x&&vA y&&JS x y then some (.bl (eqF x y)) else bif okE 20 x&&okE 20 y then some (.bl (eqD x y)) else none
noncomputable def ua(x y:D):Option D:=bif vA x&&vA y&&JS x y then some (.bl (!eqF x y)) else bif okE 20 x&&okE 20 y then some (.bl (!eqD x y)) else none
theorem jdS:BO R (λx y H Q=>rEq x y H Q \/ jbq R false x y H Q) k7:=by
 intro Z H x y d v u c f z a b e Q k;unfold k7 at e;cases hl:vA x&&vA y&&JS x y with
 | true =>
  rw[hl] at e;cases e;obtain⟨g,h⟩:=zg a b hl;exact .inl ⟨g,by rw[h];exact k (Go.id z) .bl_mk⟩
 | false =>
  rw[hl,cond_false] at e;cases hm:okE 20 x&&okE 20 y with
  | false=>rw[hm] at e;cases e
  | true =>
   rw[hm] at e;cases e;rw[L9] at hm;exact .inr ⟨Z,x,y,c,f,a,b,hm.1,hm.2,by simpa using k (Go.id z) .bl_mk⟩
theorem jdL:BO R (λx y H Q=>rNe x y H Q \/ jbq R true x y H Q) ua:=by
 intro Z H x y d v u c f z a b e Q k;unfold ua at e;cases hl:vA x&&vA y&&JS x y with
 | true =>
  rw[hl] at e;cases e;obtain⟨g,h⟩:=zg a b hl;exact .inl ⟨g,by rw[h];exact k (Go.id z) .bl_mk⟩
 | false =>
  rw[hl,cond_false] at e;cases hm:okE 20 x&&okE 20 y with
  | false=>rw[hm] at e;cases e
  | true =>
   rw[hm] at e;cases e;rw[L9] at hm;exact .inr ⟨Z,x,y,c,f,a,b,hm.1,hm.2,by simpa using k (Go.id z) .bl_mk⟩
theorem c_eq(a:Room k X.A):CmpR cl X .Eq b (λx y H Q=>rEq x y H Q \/ jbq ⟨X.K,cl⟩ false x y H Q) k7:=⟨qg jeo (jbK a.units),jdS,JF _⟩
theorem jeV(a:Room k X.A):CmpR cl X .NotEq b (λx y H Q=>rNe x y H Q \/ jbq ⟨X.K,cl⟩ true x y H Q) ua:=⟨qg jd7 (jda a.units),jdL,JF _⟩
def BM(R:RC)(T:String)(r:V->List V->Hp->VK->Prop)(g:D->List D->Option D):Prop:=∀{Z:Zn}{H:Hp}{x d:D}{xs:List D}{v:V}{vs:List V}{O1 O2:List Addr},Zd Z H->Rep R Z H x v O1->Reps R Z H xs vs O2->g x xs=some d ->
 ∀{Q:VK},(∀{w:V}{Z':Zn}{H':Hp}{P:List Addr},Go Z H [] Z' H' P->Rep R Z' H' d w P->Q w H')->r v vs H Q
noncomputable def isT:String->D->Bool
 | "str",.str _=>true
 | _,_=>false
noncomputable def pBM(T:String)(g:D->List D->Option D)(pa:PF)(pr:PAf):PF:=λρ=>match pa ρ with
 | none=>none
 | some x=>bif isT T x then(match pr ρ with
  | none=>none
  | some xs=>g x xs) else none
theorem jci(r:Rep R Z H x v O)(h:isT T x=true):tyV R.K T v H:=by
 unfold isT at h;split at h
 ·obtain⟨rfl,_⟩:=r.str_of;rfl
 ·cases h
theorem jdJ(f:BM R T r g)(h:PB R to pa)(i:PBs R ta pr):PP R (tBM R.K T r to ta) (pBM T g pa pr):=by
 intro σ ρ Z H O d z s e Q k;unfold pBM at e;cases e1:pa ρ with
 | none=>rw[e1] at e;cases e
 | some x =>
  rw[e1] at e;dsimp only at e;cases ht:isT T x with
  | false=>rw[ht] at e;cases e
  | true =>
   rw[ht,cond_true] at e;cases e2:pr ρ with
   | none=>rw[e2] at e;cases e
   | some n =>
    rw[e2] at e;refine h z s e1 λ{v o p q} a c=>⟨jci c ht,?_⟩;refine i a.wf.zd (a.slots z s) e2 λ{t u w y} b j=>?_;exact f b.wf.zd (b.rep a.wf.zd c) j e λl m=>k ((a.pair b).pair l) m
end QD
namespace QD
open PySem L2
noncomputable def kD(i:Nat)(g:D->Rh->Option Rh)(f:FS):Nat->Nat->FS
 | 0,_,_=>none
 | n+1,j,ρ=>match ρ[i]? with
  | some (some (.lst _ l))=>(match l[j]? with
   | none=>some (.nx ρ)
   | some x=>bif frz x then(match g x ρ with
    | none=>none
    | some ρ1=>match f ρ1 with
     | none=>none
     | some (.nx ρ2)=>kD i g f n (j+1) ρ2
     | some (.ct ρ2)=>kD i g f n (j+1) ρ2
     | some (.bk ρ2)=>some (.nx ρ2)
     | some (.rt d ρ2)=>some (.rt d ρ2)) else none)
  | _=>none
noncomputable def K5(i:Nat)(g:D->Rh->Option Rh)(f:FS):FS:=λρ=>match ρ[i]? with
 | some (some (.lst _ l))=>kD i g f (l.length+1) 0 ρ
 | _=>none
theorem Keep.sub(h:∀ i∈pm,i∈pm')(k:Keep pm' σ σ'):Keep pm σ σ':=λi a=>k i (h i a)
theorem Slots.lst{ρ:Rh}{O:List Addr}{i:Nat}{l:List D}(s:Slots R Z H ρ σ O)(h:ρ[i]?=some (some (.lst o l))):∃ a vs O',σ[i]?=some (some (.ref a))/\SqX R.K H a vs/\Reps R Z H l vs O':=by
 obtain⟨A,P,B,rfl,b,_,_⟩:=s.put (L8.mp h).1;obtain⟨v,c,r⟩:=b _ h;obtain⟨a,vs,O',rfl,d,e⟩:=r.lst_of;exact⟨a,vs,O',c,d,e⟩
theorem uK{pm:List Nat}{i:Nat}{g:D->Rh->Option Rh}(hg:PGt R (i::pm) tg g)(hf:DS R (i::pm) tb f)(inj:∀{H a xs ys},SqL R.K H a xs->SqL R.K H a ys->True):DS R pm (jaY (uy R.K (vB i)) tg tb) (K5 i g f):=by
 intro σ ρ Z H O o w s e D' k;unfold K5 at e;split at e
 ·rename_i o0 l0 Q;obtain⟨a,S,O0,ea,T,rs0⟩:=s.lst Q;refine⟨.ref a,ea,.inl ⟨a,rfl,⟨S,T.sq⟩,?_⟩⟩;refine⟨λj m U V=>∃ n I J W,m=n/\Go Z H O J V W/\Slots R J V I U W/\Keep (i::pm) σ U/\kD i g f n j I=some o,⟨l0.length+1,_,ρ,Z,O,rfl,Go.refl w,s,Keep.refl _ _,e⟩,?_⟩;rintro j m U V ⟨n,I,J,W,em,X,Y,kp,c⟩;subst em;cases m with
  | zero=>cases c
  | succ n =>
   unfold kD at c;split at c
   ·rename_i o1 l hl;obtain⟨a',vs,O1,ea',hx,rs⟩:=Y.lst hl;have:a'=a:=by
     have q:=kp i L6;rw[ea',ea] at q;cases q;rfl
    subst this;cases hj:l[j]? with
    | none =>
     rw[hj] at c;cases c
     left
     refine⟨⟨vs,hx.sq,?_⟩,k X Y (kp.sub λb y=>L5 _ y)⟩;rw[rs.length];exact List.getElem?_eq_none_iff.mp hj
    | some x =>
     rw[hj] at c;dsimp only at c;cases hf':frz x with
     | false=>rw[hf'] at c;cases c
     | true =>
      rw[hf',cond_true] at c
      right
      obtain⟨v,A,P,B,ev,_,rv,_⟩:=rs.at hj;cases rv.nil hf';cases e3:g x I with
      | none=>rw[e3] at c;cases c
      | some ρ1 =>
       rw[e3] at c;dsimp only at c;cases e4:f ρ1 with
       | none=>rw[e4] at c;cases c
       | some o2 =>
        rw[e4] at c;refine⟨⟨vs,v,hx.sq,ev⟩,λσ2 z=>∃ h L M,Go Z H O L z M/\Slots R L z h σ2 M/\Keep (i::pm) σ σ2/\kD i g f n (j+1) h=some o,λσ2 z ⟨h,L,M,a1,a2,a3,a4⟩=>⟨n,Nat.lt_succ_self _,n,h,L,M,rfl,a1,a2,a3,a4⟩,λu z hy=>?_⟩;obtain⟨rfl,hy⟩:=hy;have C:=hy vs hx.sq;rw[ev] at C;cases C;refine hg rv Y e3 λ{σ3 O3} sub nd s3 N=>?_;have E:Go Z H O J z O3:=X.drop sub (nd X.wf.nd);refine hf E.wf s3 e4 ?_;cases o2 with
        | nx h=>exact λ{σ4 F H4 G} p r t=>⟨h,F,G,E.trans p,r,kp.trans (N.trans t),c⟩
        | ct h=>exact λ{σ4 F H4 G} p r t=>⟨h,F,G,E.trans p,r,kp.trans (N.trans t),c⟩
        | bk h=>cases c;exact λ{σ4 F H4 G} p r t=>k (E.trans p) r ((kp.trans (N.trans t)).sub λb y=>L5 _ y)
        | rt d h=>cases c;exact λ{v4 σ4 F H4 P4 G} p r4 r t=>k (E.trans p) r4 r ((kp.trans (N.trans t)).sub λb y=>L5 _ y)
   ·cases c
 ·cases e
def ItB(R:RC)(J:It)(Z:Zn)(H:Hp)(xs:List D):Prop:=∀{Z1:Zn}{H1:Hp},(∀ a,Z a->Z1 a)->(∀ a,H a≠none->H1 a=H a)->Zd Z1 H1->∀ i:Nat,
 (xs.length<=i->J.stop i H1)/\∀ x,xs[i]?=some x->J.go i H1/\∀ u H2,J.yld i H1 u H2->∃ Z2,Go Z1 H1 [] Z2 H2 []/\Rep R Z2 H2 x u []
def jdC(R:RC)(wi:TI)(p:PAf):Prop:=∀{σ:St}{ρ:Rh}{Z:Zn}{H:Hp}{O:List Addr}{xs:List D},Zd Z H->Slots R Z H ρ σ O->p ρ=some xs ->
 ∀{Q:It->Hp->Prop},(∀{J:It}{Z':Zn}{H':Hp},Go Z H [] Z' H' []->ItB R J Z' H' xs->Q J H')->wi σ H Q
theorem PIt.b(h:PIt R wi p):jdC R wi p:=by
 intro σ ρ Z H O j z s e Q k;refine h z s e λg c=>k g ?_;intro l m d f zd i;exact c d (λa z=>f a (g.wf.zd a z)) zd i
noncomputable def Yv(p:PF):PAf:=λρ=>match p ρ with
 | some (.lst _ l)=>bif frzs l then some l else none
 | some (.tup l)=>bif frzs l then some l else none
 | some (.str s)=>some (s.map λc=>.str [c])
 | _=>none
theorem wD(b:∀ a,H a≠none->H' a=H a)(h:SqX K H a vs):SqX K H' a vs:=by
 rcases h with h | h
 ·refine .inl (Rd.agree (b a ?_) h);rcases h with h | ⟨o,h⟩<;>rw[h]<;>exact λz=>(nomatch z)
 ·exact .inr h
theorem xN(b:∀ a,H a≠none->H' a=H a)(h:SqT K H a vs):SqT K H' a vs:=by
 rcases h with h | h
 ·refine .inl (Rd.agree (b a ?_) h);rcases h with h | ⟨o,h⟩<;>rw[h]<;>exact λz=>(nomatch z)
 ·exact .inr h
theorem jcZ(h:PB R te p):jdC R (uy R.K te) (Yv p):=by
 intro σ ρ Z H O P z s e Q k;unfold Yv at e;split at e
 ·rename_i o l y;cases hf:frzs l with
  | false=>rw[hf] at e;cases e
  | true =>
   rw[hf] at e;cases e;refine h z s y λ{v I J S} f A=>?_;obtain⟨a,d,U,rfl,B,C⟩:=A.lst_of;have g:=C.frozen hf;refine .inl ⟨a,rfl,⟨d,B.sq⟩,k f ?_⟩;intro r G D j zd i;have c:=SqX.sq (wD j B);have m:Reps R r G P d []:=g.frame D (λb z=>j b (f.wf.zd b z)) λb L=>(nomatch L);refine⟨λM=>⟨d,c,by rw[C.length];exact M⟩,λx n=>?_⟩;obtain⟨u,E,N⟩:=m.item n;refine⟨⟨d,u,c,E⟩,λw T q=>?_⟩;obtain⟨rfl,q⟩:=q;have F:=q d c;rw[E] at F;cases F;exact⟨r,Go.id zd,N⟩
 ·rename_i l y;cases hf:frzs l with
  | false=>rw[hf] at e;cases e
  | true =>
   rw[hf] at e;cases e;refine h z s y λ{v I J S} f A=>?_;obtain⟨a,d,rfl,B,C⟩:=A.tup_of;have g:=C.frozen hf;refine .inr (.inl ⟨a,rfl,⟨d,B⟩,k f ?_⟩);intro r G D j zd i;have c:=xN j B;have m:Reps R r G P d []:=g.frame D (λb z=>j b (f.wf.zd b z)) λb L=>(nomatch L);refine⟨λM=>⟨d,c,by rw[C.length];exact M⟩,λx n=>?_⟩;obtain⟨u,E,N⟩:=m.item n;refine⟨⟨d,u,c,E⟩,λw T q=>?_⟩;obtain⟨rfl,q⟩:=q;have F:=q d c;rw[E] at F;cases F;exact⟨r,Go.id zd,N⟩
 ·rename_i t y;cases e;refine h z s y λ{v I J S} f A=>?_;obtain⟨rfl,_⟩:=A.str_of;refine .inr (.inr ⟨t,rfl,k f ?_⟩);intro r G D j zd i;exact ux (Z:=I) (H:=J) D (λb z=>j b (f.wf.zd b z)) zd i
 ·cases e
theorem Ye(hi:jdC R wi pi)(hg:PGt R [] tg g)(hq:PTt R tc q)(he:PP R te p) :
  PP R (Vj wi tg tc te ix) (yH pi g q p ix):=by
 intro σ ρ Z H O d z s e Q k;unfold yH at e;cases e1:pi ρ with
 | none=>rw[e1] at e;cases e
 | some h =>
  rw[e1] at e;dsimp only at e;cases hl:lim h.length with
  | false=>rw[hl] at e;cases e
  | true =>
   rw[hl,cond_true] at e;cases e2:jX g q p h (j4 ix ρ) with
   | none=>rw[e2] at e;cases e
   | some all =>
    rw[e2] at e;cases e;refine hi z s e1 λ{J F M} g0 it=>?_;intro a ha;have N:=g0.wf.zd;obtain⟨Oi,si⟩:=qX (g0.slots z s) ix;have gp:Go F M [] F (upd M a (.lst [])) [a]:=Go.newO (wf0 N) ha;refine⟨λi m σ2 w=>m=h.length - i/\i<=h.length/\∃ X G O2 x l j rest,Go F M [] G w (a::j)/\w a=some (.lst l)/\Reps R G w x l j/\(∀ b∈O2,b≠a)/\Slots R G w X σ2 O2/\jX g q p (h.drop i) X=some rest/\all=x++rest/\x.length<=i,
     ⟨h.length,rfl,U5 _,_,F,Oi,[],[],[],all,gp,jo,Reps.empty,λb o e=>si.dom b o (e▸ha),gp.slots N si,e2,rfl,M8 _⟩,?_⟩
    rintro i m σ2 w ⟨rfl,hi',X,G,O2,x,l,j,rest,r,S,Y,na,s2,c,e4,C⟩;have T:=it (Z1:=G) (H1:=w) r.zz (λb z=>r.same b z) r.wf.zd i;by_cases D:i < h.length
    ·right
     have hx:h[i]?=some h[i]:=by simp[D]
     obtain⟨go,yl⟩:=T.2 _ hx;refine⟨go,λu H3 hy=>?_⟩;obtain⟨Z3,I,r3⟩:=yl u H3 hy;rw[kz hx] at c;unfold jX at c;cases e5:g h[i] X with
     | none=>rw[e5] at c;cases c
     | some U =>
      rw[e5] at c;dsimp only at c;refine hg r3 (I.slots r.wf.zd s2) e5 λ{σ4 O4} sub nd s4 _=>?_;cases e6:q U with
      | none=>rw[e6] at c;cases c
      | some b =>
       rw[e6] at c;dsimp only at c;refine hq I.wf.zd s4 e6 λ{Z5 H5} V=>?_;have t:=I.pair V;cases b with
       | true =>
        refine jcy ?_;rw[cond_true] at c;cases e7:p U with
        | none=>rw[e7] at c;cases c
        | some y =>
         rw[e7] at c;dsimp only at c;cases e8:jX g q p (h.drop (i+1)) U with
         | none=>rw[e8] at c;cases c
         | some ys2 =>
          rw[e8] at c;cases c;refine he V.wf.zd (V.slots I.wf.zd s4) e7 λ{v6 K v L} g6 r6=>?_;have E:Go G w [] K v L:=by simpa using t.pair g6
          have ea6:v a=some (.lst l):=by rw[E.same a (by rw[S];exact λz=>(nomatch z))];exact S
          have hvl:l.length < sizeLine:=by
           rw[Y.length];exact Yk (n:=x.length) (X0 (N7 C (N7 hi' (X2 hl))))
          have gA:Go F M [] K v (a::j++L):=by
           have f:=E.frame (A:=a::j) (B:=[]) (by simpa using r.wf);exact r.trans (by simpa using f)
          have w6:=gA.wf;have gB:Go K v (a::j++L) K (upd v a (.lst (l++[v6]))) (a::j++L):=Go.put w6 L6;have nd6:=List.nodup_cons.mp w6.nd;have ne:∀ b,b∈j++L->upd v a (.lst (l++[v6])) b=v b:=λb o=>jd λz=>nd6.1 (z▸o);have W:∀ b,K b->upd v a (.lst (l++[v6])) b=v b:=λb o=>jd λz=>w6.nz a L6 (z▸o);refine⟨l,ea6,hvl,h.length - (i+1),by omega,rfl,D,U,K,O4,x++[y],l++[v6],j++L,ys2,gA.trans gB,jo,?_,λb o=>na b (sub b o),?_,e8,by rw[e4];simp,by rw[N4];exact Nat.add_le_add_right C 1⟩
          ·refine((E.reps r.wf.zd Y).append (.one r6)).frame (λb z=>z) W ne
          ·exact((V.pair g6).slots I.wf.zd s4).frame (λb z=>z) W λb o=>jd (na b (sub b o))
       | false =>
        refine jcr ?_;rw[cond_false] at c;have gA:Go F M [] Z5 H5 (a::j):=by
         have f:=t.frame (A:=a::j) (B:=[]) (by simpa using r.wf);exact r.trans (by simpa using f)
        exact⟨h.length - (i+1),by omega,rfl,D,U,Z5,O4,x,l,j,rest,gA,by rw[t.same a (by rw[S];exact λz=>(nomatch z))];exact S,t.reps r.wf.zd Y,λb o=>na b (sub b o),V.slots I.wf.zd s4,c,e4,Nat.le_succ_of_le C⟩
    ·left
     have hi2:i=h.length:=by omega
     refine⟨T.1 (by omega),?_⟩;rw[hi2,List.drop_length] at c;cases c;rw[M9] at e4;subst e4;refine k (P:=a::j) (by simpa using g0.pair r) ?_;rw[Rep];exact⟨a,l,j,rfl,Y,S,rfl⟩
structure QIb(cl:Nat->Addr)(X:Cx)(tg e:Expr)(wi:TI)(p:PAf):Prop where
 sem:PI X tg e wi
 den:jdC ⟨X.K,cl⟩ wi p
theorem QI.b'(h:QI cl X tg e wi pi):QIb cl X tg e wi pi:=⟨h.sem,PIt.b h.den⟩
theorem km(h:QB cl X e te pe):QIb cl X tg e (uy X.K te) (Yv pe):=⟨QR h.sem,jcZ h.den⟩
theorem k8(B:BlockOk X scope N' ix)(d:X.calm=true)(hi:QIb cl X tg iter wi pi)
  (b:∀ C s H fp,QG cl [] (jP X scope N' C s H fp) tg t g) (a:∀ C s H fp,QIf cl (jP X scope N' C s H fp) ifs tcc qq) (c:∀ C s H fp,QP cl (jP X scope N' C s H fp) elt te pe)
  (e:∀ x,foldedSetIterable iter X.env x=pure x:=by intro _;rfl):QP cl X (.ListComp elt [⟨tg,iter,ifs,0⟩] scope pos) (Vj wi t tcc te ix) (yH pi g qq pe ix) :=
 ⟨jbm B d hi.sem (λC s H fp=>(b C s H fp).sem) (λC s H fp=>(a C s H fp).sem) (λC s H fp=>(c C s H fp).sem) e,
  Ye hi.den (b 0 X.s₀ X.H₀ []).den (a 0 X.s₀ X.H₀ []).den (c 0 X.s₀ X.H₀ []).den⟩
theorem Vw(B:BlockOk X scope N' ix)(h:X.calm=true)(hi:QIb cl X tg iter wi pi)
  (e:∀ C s H fp,QG cl [] (jP X scope N' C s H fp) tg t g) (a:∀ C s H fp,QIf cl (jP X scope N' C s H fp) ifs tcc qq) (f:∀ C s H fp,QP cl (jP X scope N' C s H fp) elt te pe)
  (j:X.N.Nodup) (b:X.N[i]?=some x:=by rfl) (k:Loc X.env.scope x:=by first | exact Or.inl rfl | exact Or.inr rfl)
  (c:swapsWith (.ListComp elt [⟨tg,iter,ifs,0⟩] scope pos) (some (.Name x pos')) spos.line X.env=pure true:=by with_unfolding_all rfl)
  (l:∀ x,foldedSetIterable iter X.env x=pure x:=by intro _;rfl)
  (m:X.fn x=true \/ X.env.scope.names.lookup x=some .local:=by first | exact .inl rfl | exact .inr rfl) :
  QS cl pm X (.Assign [.Name x pos'] (.ListComp elt [⟨tg,iter,ifs,0⟩] scope pos) spos) (uX (Vj wi t tcc te ix) (qC i)) (j7 (dP (yH pi g qq pe ix)) (jl pm i)) :=
 ⟨Ky B h hi.sem (λC s H fp=>(e C s H fp).sem) (λC s H fp=>(a C s H fp).sem) (λC s H fp=>(f C s H fp).sem) j b k c l m,
  ue (PP.d (Ye hi.den (e 0 X.s₀ X.H₀ []).den (a 0 X.s₀ X.H₀ []).den (f 0 X.s₀ X.H₀ []).den)) VC⟩
theorem jac(c:PassesOwn (model X.prog X.w) X.A X.env X.xe)(d:X.calm=true)(e:QB cl X (.Name x xpos) (vB i) (pV i))(a:QG cl (i::pm) X tg t g)(b:QSs cl (i::pm) X body ts f)
  (h:∀ z,foldedSetIterable (.Name x xpos) X.env z=pure z:=by intro _;rfl):QS cl pm X (.For tg (.Name x xpos) body [] pos) (jaY (uy X.K (vB i)) t ts) (K5 i g f) :=
 ⟨xf c d (QR e.sem) a.sem b.sem h,uK a.den b.den λ_ _=>trivial⟩
noncomputable def Out.thn:Out->FS->Option Out
 | .nx ρ,g=>g ρ
 | .rt d ρ,_=>some (.rt d ρ)
 | .bk ρ,_=>some (.bk ρ)
 | .ct ρ,_=>some (.ct ρ)
@[simp] theorem ui(ρ:Rh)(g:FS):(Out.nx ρ).thn g=g ρ:=rfl
@[simp] theorem thn_rt(d:D)(ρ:Rh)(g:FS):(Out.rt d ρ).thn g=some (.rt d ρ):=rfl
@[simp] theorem thn_bk(ρ:Rh)(g:FS):(Out.bk ρ).thn g=some (.bk ρ):=rfl
@[simp] theorem thn_ct(ρ:Rh)(g:FS):(Out.ct ρ).thn g=some (.ct ρ):=rfl
@[simp] theorem jbQ:jL f g ρ=(f ρ).bind λo=>o.thn g:=by
 unfold jL;cases h:f ρ with
 | none=>rfl
 | some o=>cases o<;>rfl
@[simp] theorem sNext_e:yX ρ=some (.nx ρ):=rfl
@[simp] theorem sRet_e:kB fe ρ=(fe ρ).bind λx=>some (.rt x.1 x.2):=by unfold kB;cases fe ρ<;>rfl
@[simp] theorem sAsg_e:j7 fe G ρ=(fe ρ).bind λx=>(G x.1 x.2).bind λr=>some (.nx r):=by
 unfold j7;cases fe ρ with
 | none=>rfl
 | some x=>obtain⟨d,r⟩:=x;dsimp only[Option.bind];cases G d r<;>rfl
@[simp] theorem jej:sIf ft f g ρ=(ft ρ).bind λx=>bif x.1 then f x.2 else g x.2:=by unfold sIf;cases ft ρ<;>rfl
@[simp] theorem dP_e:dP pa ρ=(pa ρ).bind λd=>some (d,ρ):=by unfold dP;cases pa ρ<;>rfl
@[simp] theorem dPT_e:dPT q ρ=(q ρ).bind λd=>some (d,ρ):=by unfold dPT;cases q ρ<;>rfl
@[simp] theorem dMv_e:dMv i ρ=(pV i ρ).bind λd=>some (d,ρ.set i none):=by
 unfold dMv pV;cases ρ[i]? with
 | none=>rfl
 | some o=>cases o<;>rfl
@[simp] theorem pC_e:pC d ρ=some d:=rfl
@[simp] theorem pN_e:pN ρ=some []:=rfl
@[simp] theorem qT_e:qT ρ=some true:=rfl
@[simp] theorem oN_e:oN ρ=some none:=rfl
@[simp] theorem pV0:pV 0 (o::ρ)=o:=by unfold pV;cases o<;>rfl
@[simp] theorem pVs:pV (i+1) (o::ρ)=pV i ρ:=rfl
@[simp] theorem p2_e:p2 G pa pb ρ=(pa ρ).bind λx=>(pb ρ).bind λy=>G x y:=by
 unfold p2;cases pa ρ with
 | none=>rfl
 | some x=>dsimp only[Option.bind];cases pb ρ<;>rfl
@[simp] theorem p1_e:p1 G pa ρ=(pa ρ).bind G:=by unfold p1;cases pa ρ<;>rfl
@[simp] theorem pF_e:pF pa ρ=(pa ρ).bind λd=>bif frz d then some d else none:=by unfold pF;cases pa ρ<;>rfl
@[simp] theorem pCons_e:jc pa p ρ=(pa ρ).bind λx=>(p ρ).bind λxs=>some (x::xs):=by
 unfold jc;cases pa ρ with
 | none=>rfl
 | some x=>dsimp only[Option.bind];cases p ρ<;>rfl
@[simp] theorem jdv:pCB G p ρ=(p ρ).bind G:=by unfold pCB;cases p ρ<;>rfl
@[simp] theorem pTup_e:qB p ρ=(p ρ).bind λxs=>bif lim xs.length then some (.tup xs) else none:=by unfold qB;rw[jdv]
@[simp] theorem pLst_e:kU p ρ=(p ρ).bind λxs=>bif lim xs.length then some (.lst true xs) else none:=by unfold kU;rw[jdv]
@[simp] theorem pCall_e:yh m p ρ=(p ρ).bind λds=>(m (fzs ds)).bind λd=>bif frzs ds||yZ d then some d else none:=by
 unfold yh;cases p ρ with
 | none=>rfl
 | some x=>dsimp only[Option.bind];cases m (fzs x)<;>rfl
noncomputable def jeN:D->Option Bool
 | .bl b=>some b
 | _=>none
@[simp] theorem blOf_bl(b:Bool):jeN (.bl b)=some b:=rfl
@[simp] theorem qTest_e:jr pa ρ=(pa ρ).bind jeN:=by
 unfold jr;cases pa ρ with
 | none=>rfl
 | some d=>cases d<;>rfl
@[simp] theorem qNot_e:jaW q ρ=(q ρ).bind λb=>some (!b):=by unfold jaW;cases q ρ<;>rfl
@[simp] theorem qAnd_e:ud q q' ρ=(q ρ).bind λb=>bif b then q' ρ else some false:=by unfold ud;cases q ρ<;>rfl
@[simp] theorem qOr_e:qOr q q' ρ=(q ρ).bind λb=>bif b then some true else q' ρ:=by unfold qOr;cases q ρ<;>rfl
@[simp] theorem oS_e:oS pa ρ=(pa ρ).bind λd=>match d with | .int i=>some (some i) | _=>none:=by
 unfold oS;cases pa ρ with
 | none=>rfl
 | some d=>cases d<;>rfl
@[simp] theorem pSl_e:pSl pa pl ph ρ=(pa ρ).bind λx=>(pl ρ).bind λlo=>(ph ρ).bind λhi=>uA lo hi x:=by
 unfold pSl;cases pa ρ with
 | none=>rfl
 | some x =>
  dsimp only[Option.bind];cases pl ρ with
  | none=>rfl
  | some lo=>dsimp only;cases ph ρ<;>rfl
@[simp] theorem gSet_e:jl pm i d ρ=bif decide (i < ρ.length)&&!decide (i∈pm) then some (ρ.set i (some d)) else none:=rfl
@[simp] theorem gN_e:gN [] ρ=some ρ:=rfl
@[simp] theorem gC_e:gC G Gs (d::r) ρ=(G d ρ).bind λρ1=>Gs r ρ1:=by
 show(match G d ρ with | none=>none | some ρ1=>Gs r ρ1)=_;cases G d ρ<;>rfl
@[simp] theorem gT_e:gT n Gs (.tup l) ρ=bif decide (l.length=n) then Gs l ρ else none:=rfl
@[simp] theorem sFz_e:sFz i f ρ=match pV i ρ with | some d=>f (ρ.set i (some (fz d))) | none=>f ρ:=by
 unfold sFz pV;cases ρ[i]? with
 | none=>rfl
 | some o=>cases o<;>rfl
noncomputable def jaK:D->Option (List D)
 | .lst true l=>some l
 | _=>none
@[simp] theorem lstOf_lst(l:List D):jaK (.lst true l)=some l:=rfl
noncomputable def kt:D->Option Int
 | .int i=>some i
 | _=>none
@[simp] theorem intOf_int(i:Int):kt (.int i)=some i:=rfl
@[simp] theorem sApp_e:x4 i pa ρ=(pa ρ).bind λd=>(pV i ρ).bind λx=>(jaK x).bind λl=>bif lim l.length then some (.nx (ρ.set i (some (.lst true (l++[d]))))) else none:=by
 unfold x4 pV;cases pa ρ with
 | none=>rfl
 | some d =>
  dsimp only[Option.bind];cases ρ[i]? with
  | none=>rfl
  | some o=>cases o with
   | none=>rfl
   | some x=>cases x with
    | lst o l=>cases o<;>rfl
    | _=>rfl
@[simp] theorem sFor_e:Vf p G f ρ=(p ρ).bind λxs=>yf G f xs ρ:=by unfold Vf;cases p ρ<;>rfl
@[simp] theorem pIt_e:pIt pa ρ=(pa ρ).bind qE:=by unfold pIt;cases pa ρ<;>rfl
@[simp] theorem pItB_lst:Yv pa ρ=(pa ρ).bind λd=>match d with | .lst _ l=>bif frzs l then some l else none | .tup l=>bif frzs l then some l else none | .str s=>some (s.map λc=>D.str [c]) | _=>none:=by
 unfold Yv;cases pa ρ with
 | none=>rfl
 | some d=>cases d<;>rfl
noncomputable def xu:List D->Option (List D)
 | [.lst _ l]=>some (vZ 0 (fzs l))
 | _=>none
noncomputable def ut:List D->Option (List D)
 | [.int j]=>bif JL j then some (ql 0 j.toNat) else none
 | _=>none
@[simp] theorem enumOf_e(o:Bool)(l:List D):xu [.lst o l]=some (vZ 0 (fzs l)):=rfl
theorem zT(h:-(2 ^ 62) < j)(k:j < 2 ^ 62):JL j=true:=Nat.ble_eq_true_of_le (by omega)
theorem vL(h:-(2 ^ 62) < j)(k:j < 2 ^ 62):ut [.int j]=some (ql 0 j.toNat):=by
 show(bif JL j then some (ql 0 j.toNat) else none)=_;rw[zT h k];rfl
@[simp] theorem pEnum_e:K9 p ρ=(p ρ).bind xu:=by
 unfold K9;cases p ρ with
 | none=>rfl
 | some d =>
  match d with
  | []=>rfl
  | [x]=>cases x<;>rfl
  | x::y::r=>cases x<;>rfl
@[simp] theorem pRng1_e:k9 p ρ=(p ρ).bind ut:=by
 unfold k9;cases p ρ with
 | none=>rfl
 | some d =>
  match d with
  | []=>rfl
  | [x]=>cases x<;>rfl
  | x::y::r=>cases x<;>rfl
@[simp] theorem pComp_e:yH pi G q pa ix ρ=(pi ρ).bind λxs=>bif lim xs.length then((jX G q pa xs (j4 ix ρ)).bind λys=>some (.lst true ys)) else none:=by
 unfold yH;cases pi ρ with
 | none=>rfl
 | some xs =>
  dsimp only[Option.bind];cases lim xs.length with
  | false=>rfl
  | true=>dsimp only[cond];cases jX G q pa xs (j4 ix ρ)<;>rfl
@[simp] theorem sAugI_e:Kw pm i g pa ρ=(pV i ρ).bind λx=>(kt x).bind λa=>(pa ρ).bind λy=>(kt y).bind λb=>(jl pm i (.int (g a b)) ρ).bind λr=>some (.nx r):=by
 unfold Kw pV;cases ρ[i]? with
 | none=>rfl
 | some o=>cases o with
  | none=>rfl
  | some x=>cases x with
   | int a =>
    dsimp only[Option.bind,kt];cases pa ρ with
    | none=>rfl
    | some y=>cases y with
     | int b=>dsimp only;cases jl pm i (.int (g a b)) ρ<;>rfl
     | _=>rfl
   | _=>rfl
@[simp] theorem pIsI_e:jaj T pa ρ=(pa ρ).bind λd=>(tyD d).bind λt=>some (.bl (K4 t T)):=by
 unfold jaj;cases pa ρ with
 | none=>rfl
 | some d=>dsimp only[Option.bind];cases tyD d<;>rfl
noncomputable def Out.val:Out->Option D
 | .rt d _=>some d
 | .nx _=>some .non
 | _=>none
@[simp] theorem val_rt(d:D)(ρ:Rh):(Out.rt d ρ).val=some d:=rfl
@[simp] theorem val_nx(ρ:Rh):(Out.nx ρ).val=some .non:=rfl
theorem vt(n:Nat)(f:FS)(ds:List D):fnP n f ds=(f (ds.map some++List.replicate (n - ds.length) none)).bind Out.val:=by
 unfold fnP;cases f (ds.map some++List.replicate (n - ds.length) none) with
 | none=>rfl
 | some o=>cases o<;>rfl
@[simp] theorem sLoop_nil:yf G f [] ρ=some (.nx ρ):=rfl
noncomputable def Out.loop:Out->FS->Option Out
 | .nx ρ,g=>g ρ
 | .ct ρ,g=>g ρ
 | .bk ρ,_=>some (.nx ρ)
 | .rt d ρ,_=>some (.rt d ρ)
@[simp] theorem k6(ρ:Rh)(g:FS):(Out.nx ρ).loop g=g ρ:=rfl
@[simp] theorem loop_ct(ρ:Rh)(g:FS):(Out.ct ρ).loop g=g ρ:=rfl
@[simp] theorem loop_bk(ρ:Rh)(g:FS):(Out.bk ρ).loop g=some (.nx ρ):=rfl
@[simp] theorem loop_rt(d:D)(ρ:Rh)(g:FS):(Out.rt d ρ).loop g=some (.rt d ρ):=rfl
theorem yx:yf G f (x::xs) ρ=(G x ρ).bind λr=>(f r).bind λo=>o.loop (yf G f xs):=by
 rw[yf];cases G x ρ with
 | none=>rfl
 | some r =>
  dsimp only[Option.bind];cases f r with
  | none=>rfl
  | some o=>cases o<;>rfl
@[simp] theorem cLoop_nil:jX G q p [] ρ=some []:=rfl
theorem j5:jX G q p (x::xs) ρ=(G x ρ).bind λr=>(q r).bind λb=>bif b then((p r).bind λy=>(jX G q p xs r).bind λys=>some (y::ys)) else jX G q p xs r:=by
 rw[jX];cases G x ρ with
 | none=>rfl
 | some r =>
  dsimp only[Option.bind];cases q r with
  | none=>rfl
  | some b=>cases b with
   | false=>rfl
   | true =>
    dsimp only[cond];cases p r with
    | none=>rfl
    | some y=>dsimp only;cases jX G q p xs r<;>rfl
theorem vx(P:Nat->Rh->Prop)(step:∀ i x ρ,xs[i]?=some x->P i ρ->∃ ρ1 ρ2,G x ρ=some ρ1/\(f ρ1=some (.nx ρ2) \/ f ρ1=some (.ct ρ2))/\P (i+1) ρ2)  (e:P 0 ρ) :
  ∃ ρ',yf G f xs ρ=some (.nx ρ')/\P xs.length ρ':=by
 have c:∀(n i:Nat) (ρ:Rh),xs.length - i=n->i<=xs.length->P i ρ->∃ ρ',yf G f (xs.drop i) ρ=some (.nx ρ')/\P xs.length ρ':=by
  intro n
  induction n with
  | zero =>
   intro i ρ g h p;have:i=xs.length:=by omega
   subst this;exact⟨ρ,by rw[List.drop_length];rfl,p⟩
  | succ n j =>
   intro i ρ g h p;have a:i < xs.length:=by omega
   have d:xs[i]?=some xs[i]:=by simp[a]
   obtain⟨ρ1,ρ2,k,b,p2⟩:=step i _ ρ d p;obtain⟨ρ',l,p3⟩:=j (i+1) ρ2 (by omega) a p2;refine⟨ρ',?_,p3⟩;rw[kz d,yx,k];rcases b with b | b<;>simp[b,l]
 exact c _ 0 ρ rfl (U5 _) e
theorem zK(P:Nat->Rh->Prop)(m:∀ j ρ,P j ρ->pV i ρ=some (.lst o l))
  (step:∀ j x ρ,l[j]?=some x->P j ρ->frz x=true/\∃ ρ1 ρ2,G x ρ=some ρ1/\(f ρ1=some (.nx ρ2) \/ f ρ1=some (.ct ρ2))/\P (j+1) ρ2)  (g:P 0 ρ) :
  ∃ ρ',K5 i G f ρ=some (.nx ρ')/\P l.length ρ':=by
 have at_:∀ j ρ,P j ρ->ρ[i]?=some (some (.lst o l)):=by
  intro j ρ p;have h:=m j ρ p;unfold pV at h;split at h
  ·rename_i d hd;cases h;exact hd
  ·cases h
 have c:∀(n j:Nat) (ρ:Rh),l.length - j=n->j<=l.length->P j ρ->∃ ρ',kD i G f (n+1) j ρ=some (.nx ρ')/\P l.length ρ':=by
  intro n
  induction n with
  | zero =>
   intro j ρ q r p;have:j=l.length:=by omega
   subst this;refine⟨ρ,?_,p⟩;unfold kD;rw[at_ _ ρ p];simp
  | succ n s =>
   intro j ρ q r p;have a:j < l.length:=by omega
   have k:l[j]?=some l[j]:=by simp[a]
   obtain⟨t,ρ1,ρ2,u,b,p2⟩:=step j _ ρ k p;obtain⟨ρ',v,p3⟩:=s (j+1) ρ2 (by omega) a p2;refine⟨ρ',?_,p3⟩;unfold kD;rw[at_ _ ρ p];dsimp only;rw[k];dsimp only;rw[t,cond_true,u];rcases b with b | b<;>simp[b,v]
 obtain⟨ρ',e,p⟩:=c _ 0 ρ rfl (U5 _) g;refine⟨ρ',?_,p⟩;unfold K5;rw[at_ _ ρ g];simpa using e
@[simp] theorem cond_dec(p:Prop) [Decidable p] (x y:α):(bif decide p then x else y)=if p then x else y:=by by_cases h:p<;>simp[h]
@[simp] theorem cond_beq_int(i j:Int)(x y:α):(bif i==j then x else y)=if i=j then x else y:=by
 by_cases h:i=j
 ·subst h;simp
 ·rw[if_neg h,U2.mpr h];rfl
@[simp] theorem ite_bind(p:Prop) [Decidable p] (x y:Option α) (f:α->Option β):(if p then x else y).bind f=if p then x.bind f else y.bind f:=by by_cases h:p<;>simp[h]
@[simp] theorem add_ii(i j:Int):jt (.int i) (.int j)=some (.int (i+j)):=rfl
@[simp] theorem sub_ii(i j:Int):xM (.int i) (.int j)=some (.int (i - j)):=rfl
theorem Jz(h:i.natAbs < 2 ^ 1000)(k:j.natAbs < 2 ^ 1000):vw (.int i) (.int j)=some (.int (i*j)):=by
 show(bif u7 i&&u7 j then some (D.int (i*j)) else none)=_;rw[xv h,xv k];rfl
theorem vp(h:0 < j)(k:j < 2 ^ 300):j6 (.int i) (.int j)=some (.int (i / j)):=by
 show(bif decide (0 < j)&&decide (j < 2 ^ 300) then some (D.int (i / j)) else none)=_;rw[X0 h,X0 k];rfl
theorem jD(h:0 < j):ju (.int i) (.int j)=some (.int (i % j)):=by
 show(bif decide (0 < j) then some (D.int (i % j)) else none)=_;rw[X0 h];rfl
@[simp] theorem opB_ii(g:Int->Int->Bool)(i j:Int):opB g (.int i) (.int j)=some (.bl (g i j)):=rfl
@[simp] theorem eq_ii(i j:Int):k7 (.int i) (.int j)=some (.bl (i==j)):=rfl
@[simp] theorem ne_ii(i j:Int):ua (.int i) (.int j)=some (.bl (!(i==j))):=rfl
@[simp] theorem frz_int(i:Int):frz (.int i)=true:=rfl
@[simp] theorem frz_bl(i:Bool):frz (.bl i)=true:=rfl
@[simp] theorem frz_str(i:List Nat):frz (.str i)=true:=rfl
@[simp] theorem frz_non:frz .non=true:=rfl
@[simp] theorem fz_int(i:Int):fz (.int i)=.int i:=rfl
@[simp] theorem fz_bl(i:Bool):fz (.bl i)=.bl i:=rfl
@[simp] theorem fz_str(i:List Nat):fz (.str i)=.str i:=rfl
@[simp] theorem fz_non:fz .non=.non:=rfl
@[simp] theorem fz_lst(o:Bool)(l:List D):fz (.lst o l)=.lst false (fzs l):=rfl
@[simp] theorem fz_tup(l:List D):fz (.tup l)=.tup (fzs l):=rfl
@[simp] theorem frz_lst(o:Bool)(l:List D):frz (.lst o l)=(!o&&frzs l):=rfl
@[simp] theorem frz_tup(l:List D):frz (.tup l)=frzs l:=rfl
@[simp] theorem fzs_nil:fzs []=[]:=rfl
@[simp] theorem fzs_cons(d:D)(l:List D):fzs (d::l)=fz d::fzs l:=rfl
@[simp] theorem frzs_nil:frzs []=true:=rfl
@[simp] theorem YR(d:D)(l:List D):frzs (d::l)=(frz d&&frzs l):=rfl
@[simp] theorem clean_int(i:Int):yZ (.int i)=true:=rfl
@[simp] theorem clean_bl(i:Bool):yZ (.bl i)=true:=rfl
@[simp] theorem clean_str(i:List Nat):yZ (.str i)=true:=rfl
@[simp] theorem clean_non:yZ .non=true:=rfl
@[simp] theorem clean_lst(o:Bool)(l:List D):yZ (.lst o l)=(o&&jN l):=rfl
@[simp] theorem clean_tup(l:List D):yZ (.tup l)=jN l:=rfl
@[simp] theorem cleans_nil:jN []=true:=rfl
@[simp] theorem cleans_cons(d:D)(l:List D):jN (d::l)=(yZ d&&jN l):=rfl
@[simp] theorem fzs_ints(l:List Int):fzs (l.map D.int)=l.map D.int:=by
 rw[yE,U1];rfl
@[simp] theorem frzs_ints(l:List Int):frzs (l.map D.int)=true:=by
 rw[J6,List.all_map,List.all_eq_true];intro x _;rfl
theorem jV:∀ l:List D,jN l=l.all yZ
 | []=>rfl
 | d::l=>by rw[jN,jV l];rfl
@[simp] theorem cleans_ints(l:List Int):jN (l.map D.int)=true:=by
 rw[jV,List.all_map,List.all_eq_true];intro x _;rfl
@[simp] theorem fLen_lst(o:Bool)(l:List D):kr [.lst o l]=some (.int l.length):=rfl
@[simp] theorem fLen_tup(l:List D):kr [.tup l]=some (.int l.length):=rfl
@[simp] theorem fList_lst(o:Bool)(l:List D):xc [.lst o l]=bif frzs l then some (.lst true l) else none:=rfl
@[simp] theorem itemsOf_lst(o:Bool)(l:List D):qE (.lst o l)=some (fzs l):=rfl
@[simp] theorem itemsOf_tup(l:List D):qE (.tup l)=some (fzs l):=rfl
@[simp] theorem tyD_int(i:Int):tyD (.int i)=some "int":=rfl
@[simp] theorem tyD_bl(i:Bool):tyD (.bl i)=some "bool":=rfl
@[simp] theorem tyD_str(i:List Nat):tyD (.str i)=some "str":=rfl
@[simp] theorem tyD_non:tyD .non=some "NoneType":=rfl
@[simp] theorem tyD_lst(o:Bool)(l:List D):tyD (.lst o l)=some "list":=rfl
@[simp] theorem tyD_tup(l:List D):tyD (.tup l)=some "tuple":=rfl
theorem jc0{c:Nat->Addr}{m:List D->Option D}{ns:List Int}(h:m [.lst false (ns.map D.int)]=some (.bl true))(d:SqX K H a (ns.map V.int)):spP ⟨K,c⟩ m 1 [.ref a] H (λv _=>v=.bl true) E:=by
 refine⟨λb=>b=a/\H a≠none,[.lst false (ns.map D.int)],.bl true,λb e=>by rw[e.1];exact e.2,rfl,.one ?_,h,λg r=>r.bl_of.1⟩;rw[Rep];have f:∀(l:List Int),Reps ⟨K,c⟩ (λb=>b=a/\H a≠none) H (l.map D.int) (l.map V.int) []:=by
  intro l
  induction l with
  | nil=>exact .empty
  | cons x l i=>exact .cons (O:=[]) (P:=[]) .int_mk i
 refine⟨a,ns.map V.int,[],rfl,f ns,?_⟩;show FL _ _ _ _ _/\_;refine⟨?_,rfl,rfl⟩;rcases d with d | d
 ·refine .inl ⟨⟨rfl,?_⟩,d⟩;rcases d with d | ⟨o,d⟩<;>rw[d]<;>exact λz=>(nomatch z)
 ·exact .inr d
end QD
namespace L2
open PySem PySem.Spec PyProof.Rows
end L2
namespace QD
open PySem L2 PySem.Spec PyProof.Rows
noncomputable def J0:List D->Option (List (List Nat))
 | []=>some []
 | .str w::l=>match J0 l with
  | some ws=>some (w::ws)
  | none=>none
 | _::_=>none
@[simp] theorem KI(l:List (List Nat)):J0 (l.map D.str)=some l:=by
 induction l with
 | nil=>rfl
 | cons x l a=>simp[J0,a]
section
variable {R:RC}{Z:Zn}{H:Hp}
theorem Kc:∀{l:List D}{ws:List (List Nat)}{vs:List V}{O:List Addr},J0 l=some ws->Reps R Z H l vs O->vs=(ws.map S).map V.str
 | [],ws,vs,O,e,r=>by
  cases e;have:=r.length;exact List.length_eq_zero_iff.mp this
 | x::l,ws,vs,O,e,r=>by
  cases x with
  | str w =>
   simp only[J0] at e;cases e1:J0 l with
   | none=>rw[e1] at e;cases e
   | some a =>
    rw[e1] at e;cases e;obtain⟨v,b,P,f,rfl,-,c,d⟩:=r;obtain⟨rfl,_⟩:=c.str_of;rw[Kc e1 d];rfl
  | _=>cases e
noncomputable def vO(a b:List Nat):Int:=Txt.find (S a) (S b)
end
section
variable {cl:Nat->Addr}{X:Cx}{o e:Expr}{es:List Expr}{to:TE}{po:PF}{tr:TA}{pr:PAf}{name:Str}{apos cpos:Pos}{T id:String}{r:V->List V->Hp->VK->Prop}{g:D->List D->Option D}
theorem je5(pa:PlainAttrs T)(slot:Slot T name id)(f:typeOf (.builtin id)=pure (.type "method_descriptor"))(j:MtR X id r)(k:BM ⟨X.K,cl⟩ T r g)(h:QB cl X o to po)(i:QBs cl X (e::es) tr pr)
  (b:attributeBase o name X.env (eval o X.env)=eval o X.env:=by rfl)
  (d:((backTo cpos (starEach (e::es) X.env)).all (λx=>!x.1)&&(backToKw cpos (keywordEach [] X.env)).all (λx=>x.1.isSome)
   && decide ((e::es).length+([]:List Keyword).length+(if([]:List Keyword).isEmpty then 0 else 1) < 30))=true:=by rfl)
  (c:(apos.endLine==cpos.line)=true:=by rfl) (l:starEach (e::es) X.env=(false,eval e X.env)::starEach es X.env:=by rfl) (a:(backTo cpos (starEach es X.env)).any (·.1)=false:=by rfl) :
  QP cl X (.Call (.Attribute o name apos) (e::es) [] cpos) (tBM X.K T r to tr) (pBM T g po pr) :=
 ⟨QM pa slot f j h.sem i.sem b d c l a,jdJ k h.den i.den⟩
end
@[simp] theorem pBM_e{g:D->List D->Option D}{pa:PF}{pr:PAf}{ρ:Rh}:pBM "str" g pa pr ρ=(pa ρ).bind λx=>bif isT "str" x then(pr ρ).bind λxs=>g x xs else none:=by
 unfold pBM;cases pa ρ with
 | none=>rfl
 | some x=>dsimp only[Option.bind];cases isT "str" x<;>cases pr ρ<;>rfl
@[simp] theorem isT_str(w:List Nat):isT "str" (.str w)=true:=rfl
end QD
namespace QK
open PySem L2 QD PySem.Spec PyProof.Rows
section
variable {cl:Nat->Addr}{pm:List Nat}{X:Cx}{a b c e o:Expr}{es:List Expr}{ta tb tc te to:TE}{pa pb pc pe po:PF}{tr:TA}{pr:PAf}{pos:Pos}{K:PySem.W.Frag}
variable {tg iter elt:Expr}{ifs:List Expr}{wi:TI}{pi:PAf}{t:TG}{g:D->Rh->Option Rh}
theorem add(c:X.K=K)(d:QB cl X a ta pa)(e:QB cl X b tb pb):QP cl X (.BinOp a .Add b pos) (tOp (xV K) ta tb) (p2 jt pa pb):=by subst c;exact jY d e
theorem ix(c:X.K=K)(d:QB cl X a ta pa)(e:QB cl X b tb pb)(f:qZ b:=by exact λ_ _=>rfl):QB cl X (.Subscript a b pos) (tOp (rIx K) ta tb) (p2 jB pa pb):=by subst c;exact Jp d e f
theorem call{k n:Nat}{f:Addr}{fd:FuncData}{ps:List Str}{m:List D->Option D}{x qual:Str}{st:Stmt}{p:Pos}(c:X.K=K)(F:FnFact X.K X.mg x qual st f fd ps)(G:FnOk X.prog X.w X.K X.mg X.base CX0 k f fd ps (spP ⟨X.K,cl⟩ m n))(d:Room k X.A)
  (g:QBs cl X (e::es) tr pr) (hn:(e::es).length=n:=by rfl) (h:Gl X x:=by rfl) (a:(x==("__debug__" : Str))=false:=by decide)
  (i:starEach (e::es) X.env=(false,eval e X.env)::starEach es X.env:=by rfl) (b:(backTo pos (starEach es X.env)).any (·.1)=false:=by rfl):QP cl X (.Call (.Name x p) (e::es) [] pos) (xb (spP ⟨K,cl⟩ m n) [] E0 tr) (yh m pr):=by
 subst c;exact j8 F G d g hn h a i b
theorem len(b:X.K=K)(c:X.mg "len" = none){p:Pos}(d:QBs cl X [e] tr pr)(f:Gl X "len":=by rfl)(g:starEach [e] X.env=(false,eval e X.env)::starEach [] X.env:=by rfl)(a:(backTo pos (starEach [] X.env)).any (·.1)=false:=by rfl) :
  QP cl X (.Call (.Name "len" p) [e] [] pos) (tCB (λxs H Q=>∃ x n,xs=[x]/\jdx K x H n/\Q (.int n) H) tr) (pCB kr pr):=by subst b;exact Jh c d f g a
theorem c_in(a:X.K=K)(c:behindInMarks .In b=false):CmpR cl X .In b (jbA K false) (Ve false):=by subst a;exact QD.c_in c
theorem c_eq{k:Nat}(a:X.K=K)(c:Room k X.A):CmpR cl X .Eq b (λx y H Q=>rEq x y H Q \/ jbq ⟨K,cl⟩ false x y H Q) k7:=by subst a;exact QD.c_eq c
theorem ib_any(a:X.K=K)(h:QB cl X e te pe):QIb cl X tg e (uy K te) (Yv pe):=by subst a;exact km h
end
end QK
namespace QD
open PySem L2 PySem.Spec PyProof.Rows
structure QGo(cl:Nat->Addr)(pm:List Nat)(X:Cx)(tg:Expr)(t:TG)(g:D->Rh->Option Rh):Prop where
 sem:PG X tg t
 den:DG ⟨X.K,cl⟩ pm t g
structure QGos(cl:Nat->Addr)(pm:List Nat)(X:Cx)(tg:List Expr)(t:TGs)(g:List D->Rh->Option Rh):Prop where
 sem:PGs X tg t
 den:DGs ⟨X.K,cl⟩ pm t g
end QD
namespace L2
open PySem PySem.Spec PyProof.Rows
section
variable {κ:Type} [DecidableEq κ]
noncomputable def Vg(kvs:List (κ×V))(k:κ):Option V:=(kvs.find? λkv=>decide (kv.1=k)).map (·.2)
noncomputable def kP(kvs:List (κ×V))(k:κ)(v:V):List (κ×V) :=
 if(kvs.any λkv=>decide (kv.1=k))=true then kvs.map (λkv=>if kv.1=k then(kv.1,v) else kv) else kvs++[(k,v)]
theorem ky{p:κ×V}{r:List (κ×V)}{k:κ}(e:p.1=k):Vg (p::r) k=some p.2:=by simp[Vg,List.find?_cons,e]
theorem kO{p:κ×V}{r:List (κ×V)}{k:κ}(e:¬ p.1=k):Vg (p::r) k=Vg r k:=by simp[Vg,List.find?_cons,e]
theorem VY(k:κ):∀ kvs:List (κ×V),(kvs.any λkv=>decide (kv.1=k))=(Vg kvs k).isSome
 | []=>rfl
 | p::r=>by
  rw[List.any_cons];by_cases e:p.1=k
  ·simp only[ky e,X0 e,Bool.true_or,Option.isSome_some]
  ·rw[kO e,X1 e,Bool.false_or];exact VY k r
theorem kq(a:List (κ×V))(k:κ)(v:V):(kP a k v).length<=a.length+1:=by
 unfold kP;split
 ·rw[L0];omega
 ·rw[N4,M0,List.length_nil];omega
theorem RelO.isSome_eq{o:Option V}{u:Option Value}(r:RelO o u):o.isSome=u.isSome:=by
 cases o with
 | none=>cases u with
  | none=>rfl
  | some _=>exact(show False from r).elim
 | some _=>cases u with
  | none=>exact(show False from r).elim
  | some _=>rfl
theorem KV.val{a:List (κ×V)}{f:List (κ×Value)}(r:KV a f)(k:κ):RelO (Vg a k) (valueAt f k):=by
 unfold KV at r
 induction r with
 | nil=>exact True.intro
 | @cons p q l c h t i =>
  obtain⟨g,j⟩:=h;by_cases e:p.1=k
  ·have d:q.1=k:=g.symm.trans e;have b:valueAt (q::c) k=some q.2:=by simp[valueAt,List.find?_cons,d]
   rw[ky e,b];exact j
  ·have d:¬ q.1=k:=λz=>e (g.trans z);have b:valueAt (q::c) k=valueAt c k:=by simp[valueAt,List.find?_cons,d]
   rw[kO e,b];exact i
theorem KV.any{a:List (κ×V)}{b:List (κ×Value)}(r:KV a b)(k:κ):(a.any λkv=>decide (kv.1=k))=b.any λkv=>decide (kv.1=k):=by
 unfold KV at r
 induction r with
 | nil=>rfl
 | cons h t c=>rw[List.any_cons,List.any_cons,c,h.1]
theorem KV.repl{a:List (κ×V)}{c:List (κ×Value)}(r:KV a c)(k:κ){y:V}{u:Value}(d:RelV y u) :
  KV (a.map λkv=>if kv.1=k then(kv.1,y) else kv) (c.map λkv=>if kv.1=k then(kv.1,u) else kv):=by
 unfold KV at r ⊢
 induction r with
 | nil=>exact .nil
 | @cons p q i j h t f =>
  rw[L4,L4];refine .cons ?_ f;obtain⟨b,g⟩:=h;by_cases e:p.1=k
  ·rw[if_pos e,if_pos (b.symm.trans e)];exact⟨b,d⟩
  ·rw[if_neg e,if_neg (λz=>e (b.trans z))];exact⟨b,g⟩
theorem KV.put{a:List (κ×V)}{b:List (κ×Value)}(r:KV a b)(k:κ){y:V}{u:Value}(c:RelV y u):KV (kP a k y) (stored b k u):=by
 unfold kP stored;rw[r.any k];by_cases e:(b.any λd=>decide (d.1=k))=true
 ·rw[if_pos e,if_pos e];exact r.repl k c
 ·rw[if_neg e,if_neg e];exact Paired.snoc r ⟨rfl,c⟩
theorem KV.keys{a:List (κ×V)}{b:List (κ×Value)}(r:KV a b):a.map (·.1)=b.map (·.1):=by
 unfold KV at r
 induction r with
 | nil=>rfl
 | cons h t c=>rw[L4,L4,c,h.1]
theorem KV.length{a:List (κ×V)}{b:List (κ×Value)}(r:KV a b):a.length=b.length:=Paired.length r
end
theorem Kt{P:Program}{w:World}{k:Key}{u:Value}(r:RelV (kV k) u):(jw P w).is k u=true:=by
 cases k with
 | inl i=>obtain⟨t,e⟩:=(show ∃ t,u=Value.int i t from r);subst e;exact Vv P w i t
 | inr x=>obtain⟨t,e⟩:=(show ∃ t,u=Value.str x t from r);subst e;exact Vp P w x t
theorem Y4{P:Program}{w:World}:∀{ks:List Key}{us:List Value},Vals (ks.map kV) us->ItemsAre (jw P w) ks us
 | [],_,r=>by rw[List.map_nil] at r;cases r;exact .nil
 | k::ks,_,r=>by
  rw[L4] at r;cases r with
  | cons h t=>exact .cons (Kt h) (Y4 t)
abbrev KT(H:Hp):List (List Key×V)->List (List Key×Addr×Value)->Prop:=Paired λp q=>p.1=q.1/\H q.2.1=some (.tup (p.1.map kV))/\RelV p.2 q.2.2
theorem KT.val{H:Hp}{a:List (List Key×V)}{xs:List (List Key×Addr×Value)}(r:KT H a xs)(k:List Key):RelO (Vg a k) ((atKey xs k).map (·.2)):=by
 induction r with
 | nil=>exact True.intro
 | @cons p q j c h t g =>
  obtain⟨f,_,i⟩:=h;by_cases e:p.1=k
  ·have d:q.1=k:=f.symm.trans e;have b:atKey (q::c) k=some q.2:=by simp[atKey,List.find?_cons,d]
   rw[ky e,b];exact i
  ·have d:¬ q.1=k:=λz=>e (f.trans z);have b:atKey (q::c) k=atKey c k:=by simp[atKey,List.find?_cons,d]
   rw[kO e,b];exact g
theorem KT.repl{H:Hp}{a:List (List Key×V)}{xs:List (List Key×Addr×Value)}(r:KT H a xs)(k:List Key){y:V}{u:Value}(d:RelV y u) :
  KT H (a.map λkv=>if kv.1=k then(kv.1,y) else kv) (xs.map (putAt k u)):=by
 induction r with
 | nil=>exact .nil
 | @cons p q i j h t f =>
  rw[L4,L4];refine .cons ?_ f;obtain⟨b,c,g⟩:=h;unfold putAt;by_cases e:p.1=k
  ·rw[if_pos e,if_pos (b.symm.trans e)];exact⟨b,c,d⟩
  ·rw[if_neg e,if_neg (λz=>e (b.trans z))];exact⟨b,c,g⟩
theorem KT.put{H:Hp}{a:List (List Key×V)}{xs:List (List Key×Addr×Value)}(r:KT H a xs)(k:List Key){b:Addr}{y:V}{u:Value}(d:H b=some (.tup (k.map kV)))(c:RelV y u) :
  KT H (kP a k y) (storedH xs k b u):=by
 have e:(a.any λf=>decide (f.1=k))=(atKey xs k).isSome:=by
  rw[VY,(r.val k).isSome_eq,Option.isSome_map]
 unfold kP storedH;rw[e];by_cases q:(atKey xs k).isSome=true
 ·rw[if_pos q,if_pos q];exact r.repl k c
 ·rw[if_neg q,if_neg q];exact Paired.snoc r ⟨rfl,d,c⟩
theorem KT.keeps{H H':Hp}{a:List (List Key×V)}{xs:List (List Key×Addr×Value)}(r:KT H a xs)(c:∀ b ys,H b=some (.tup ys)->H' b=some (.tup ys)):KT H' a xs :=
 Paired.mapP r λ_ _ z=>⟨z.1,c _ _ z.2.1,z.2.2⟩
section
variable {P:Program}{w:World}{H:Hp}{h:Heap}{a:Addr}
theorem jcX{u:HO}(ok:HOk P w H h)(e:Rd H a u):ObjOk P w H h a u:=e.ok ok
theorem wq{b:List (Key×V)}(ok:HOk P w H h)(e:Rd H a (.dK b)):b.length<=sizeLine/\(a==sysModules)=false/\∃ vs,KV b vs/\h.DictOf (jw P w) a vs :=
 show ObjOk P w H h a (.dK b) from jcX ok e
theorem uN{b:List (Key×V)}(ok:HOk P w H h)(e:H a=some (.dK b)):b.length<=sizeLine/\(a==sysModules)=false/\∃ vs,KV b vs/\h.DictOf (jw P w) a vs:=wq ok (.inl e)
theorem Ki{ks:List Key}(ok:HOk P w H h)(e:H a=some (.tup (ks.map kV))):(tupleKind (jw P w)).is h ks a:=by
 obtain⟨_,b,r,⟨o,c,d,n,f⟩,_⟩:=(show ObjOk P w H h a (.tup (ks.map kV)) from ok a _ e);exact⟨o,b.toArray,n,c,d,f,by simpa using Y4 r⟩
theorem wg{b:List (List Key×V)}(ok:HOk P w H h)(e:Rd H a (.dT b)):b.length<=sizeLine/\(a==sysModules)=false /\
  ∃ xs,KT H b xs/\h.DictOfH (tupleKind (jw P w)) a xs:=by
 obtain⟨z,y,xs,r,o,f,g,i,j,k,n,s⟩:=(show ObjOk P w H h a (.dT b) from jcX ok e);refine⟨z,y,xs,r,o,f,g,i,j,k,n,λx c=>?_,s⟩;have all:∀{l:List (List Key×V)}{m:List (List Key×Addr×Value)},KT H l m->∀ x∈m,(tupleKind (jw P w)).is h x.1 x.2.1:=by
  intro l m q
  induction q with
  | nil=>intro x c;exact nomatch c
  | @cons p q v A d t u =>
   intro x c;rcases M4.mp c with e | c
   ·subst e;exact Ki ok (by rw[<- d.1];exact d.2.1)
   ·exact u x c
 exact all r x c
theorem jer{b:List (List Key×V)}(ok:HOk P w H h)(e:H a=some (.dT b)):b.length<=sizeLine/\(a==sysModules)=false /\
  ∃ xs,KT H b xs/\h.DictOfH (tupleKind (jw P w)) a xs:=wg ok (.inl e)
end
def DGet(H:Hp)(a:Addr)(y:V)(r:Option V):Prop :=
 (∃ kvs k,Rd H a (.dK kvs)/\y=kV k/\r=Vg kvs k) \/ ∃ kvs k b,Rd H a (.dT kvs)/\y=.ref b/\H b=some (.tup (k.map kV))/\r=Vg kvs k
def DPut(H:Hp)(a:Addr)(y v:V)(H':Hp):Prop :=
 (∃ kvs k,H a=some (.dK kvs)/\y=kV k/\kvs.length < sizeLine/\H'=upd H a (.dK (kP kvs k v))) \/
 ∃ kvs k b,H a=some (.dT kvs)/\y=.ref b/\H b=some (.tup (k.map kV))/\kvs.length < sizeLine/\H'=upd H a (.dT (kP kvs k v))
theorem DPut.k{H:Hp}{a:Addr}{b:List (Key×V)}{k:Key}{v:V}(e:H a=some (.dK b))(c:b.length < sizeLine):DPut H a (kV k) v (upd H a (.dK (kP b k v))):=.inl ⟨b,k,e,rfl,c,rfl⟩
section
variable {X:Cx}{pins:List (Addr×Obj)}{σ:St}{H:Hp}{s:Shared}{a:Addr}{y v:V}{u r:Value}{o:Option V}{A:Around}{E:Value->Shared->Prop}
theorem Inv.big(I:Inv X pins σ H s):sysModules < s.heap.objs.size:=by
 have h:mainGlobals < s.heap.objs.size:=(I.mod.glob.keeps I.bk).lt;exact Nat.lt_trans (by decide) h
theorem zx{Q:Value->Shared->Prop}(n:A.units+1 < cLine)(I:Inv X pins σ H s)(g:DGet H a y (some v))(m:RelV y u)(h:∀ w' s',Inv X pins σ H s'->RelV v w'->Q w' s') :
  wpAny (model X.prog X.w) A (getItem (.ref a) u) Q E s:=by
 rcases g with⟨d,k,e,f,l⟩ | ⟨d,k,b,e,f,q,l⟩
 ·subst f;obtain⟨z,hd,r,rel,dd⟩:=wq I.hok e;obtain⟨w',i,c⟩:=RelO.some_of (v:=v) (o:=valueAt r k) (by rw[l];exact rel.val k);exact wpAny_getItem_of (Kt m) dd.mapOf i (h w' _ (I.tok _) c)
 ·subst f;cases(show u=Value.ref b from m);obtain⟨z,hd,t,rel,dd⟩:=wg I.hok e;obtain⟨w',i,c⟩:=RelO.some_of (v:=v) (o:=(atKey t k).map (·.2)) (by rw[l];exact rel.val k);obtain⟨p,x,j⟩:=Option.map_eq_some_iff.mp i;refine wpAny_getItem_heap (tupleKind_room_in1 n) (Ki I.hok q) dd x ?_;rw[j];exact h w' _ (I.tok _) c
theorem jaC{Q:Value->Shared->Prop}(i:A.units+1 < cLine)(I:Inv X pins σ H s)(g:DGet H a y o)(f:RelV y u)(h:∀ s',Inv X pins σ H s'->Q (.bool (!o.isSome)) s') :
  wpAny (model X.prog X.w) A (compareOp .NotIn u (.ref a)) Q E s:=by
 rcases g with⟨c,k,e,d,l⟩ | ⟨c,k,b,e,d,j,l⟩
 ·subst d;obtain⟨z,hd,m,rel,dd⟩:=wq I.hok e;refine wpAny_notIn_of (Kt f) hd dd.mapOf ?_;rw[<- (rel.val k).isSome_eq,<- l];exact h _ (I.tok _)
 ·subst d;cases(show u=Value.ref b from f);obtain⟨z,hd,n,rel,dd⟩:=wg I.hok e;refine wpAny_notIn_heap (tupleKind_room_in1 i) (Ki I.hok j) hd dd ?_;have q:=(rel.val k).isSome_eq;rw[Option.isSome_map] at q;rw[<- q,<- l];exact h _ (I.tok _)
theorem JY{h':Heap}{t':Nat}{ob:HO}(I:Inv X pins σ H s)(c:Mut (H a))(d:Heap.SameBut a s.heap h')(f:∃ q,h'.get? a=some q)(new:ObjOk X.prog X.w (upd H a ob) h' a ob) :
  Inv X pins σ (upd H a ob) { s with heap:=h',toks:=t' } :=
 I.write (x:=a) (e:=a) c (.inl rfl) (λb q g z=>(d.2 b g).trans z) f new
theorem zq{P:Program}{w:World}{H':Hp}{h':Heap}{b:List (Key×V)}{c:List (Key×Value)}(z:b.length<=sizeLine)(hd:(a==sysModules)=false)(rel:KV b c)(dd:h'.DictOf (jw P w) a c) :
  ObjOk P w H' h' a (.dK b):=⟨z,hd,c,rel,dd⟩
theorem zN{H':Hp}{Q:Unit->Shared->Prop}(F:A.units+1 < cLine)(I:Inv X pins σ H s)(g:DPut H a y v H')(t:RelV y u)(x:RelV v r)(h:∀ s',Inv X pins σ H' s'->Q () s') :
  wpAny (model X.prog X.w) A (setItem (.ref a) u r) Q E s:=by
 rcases g with⟨d,k,e,j,l,m⟩ | ⟨d,k,b,e,j,B,l,m⟩
 ·subst j m;obtain⟨z,hd,G,rel,dd⟩:=uN I.hok e;have n:G.length<=sizeLine:=by rw[<- rel.length];exact z
  have o:(kP d k v).length<=sizeLine:=by have:=kq d k v;omega
  refine wpAny_setItem_pairs (hsz:=n) (Kt t) dd λC f p=>h _ ?_;have J:∃ q,C.get? a=some q:=let ⟨q,_,_,i,_⟩:=f;⟨q,i⟩
  exact JY I (by rw[e];exact True.intro) p J (zq o hd (rel.put k x) f)
 ·subst j m;cases(show u=Value.ref b from t);obtain⟨z,hd,K,rel,dd⟩:=jer I.hok e;have n:K.length<=sizeLine:=by rw[<- Paired.length rel];exact z
  have o:(kP d k v).length<=sizeLine:=by have:=kq d k v;omega
  refine wpAny_setItem_heap (hsz:=n) (tupleKind_room_in1 F) (Ki I.hok B) dd λC f p=>h _ ?_;obtain⟨q,L,M,i,N,O,P,_,R⟩:=f;refine JY I (by rw[e];exact True.intro) p ⟨q,i⟩ ⟨o,hd,_,(rel.put k B x).keeps λc S D=>?_,q,L,M,i,N,O,P,R⟩;rw[jd (jen D e (λz=>nomatch z))];exact D
end
def jdz(i:Expr):Prop:=∀ ov iv,subscripted i false ov iv=operate [ov,iv] (getItem ov iv)
theorem jae{prog:Program}{w:World}{A:Around}{E:Value->Shared->Prop}{s:Shared}{env:Env}{value slice:Expr}{pos:Pos}{T id:String}{Q:Value->Shared->Prop}
  (e:typeLookup (.type T) "__getitem__" = pure (some (.builtin id))) (f:jdz slice)
  (h:wpAny (model prog w) A (eval value env) (λo s₁=>wpAny (model prog w) A (eval slice env) (λi s₂=>s₂.TypeIs o T/\wpAny (model prog w) A (getItem o i) Q E s₂) E s₁) E s) :
  wpAny (model prog w) A (eval (.Subscript value slice pos) env) Q E s:=by
 refine Subscript_ (wpAny_mono h (λo s₁ g=>wpAny_mono g (λi s₂ b=>?_) λ_ _ x=>x) λ_ _ x=>x);obtain⟨c,b⟩:=b;unfold subscriptTail;refine L1 ?_;rw[getitemInPython_of_ne c.not_modules];refine L1 (wpAny_specialOf c e ?_);have a:wpAny (model prog w) A (subscripted slice false o i) (λr d=>wpAny (model prog w) A (letTemporaryGo value o r >>= λ_=>pure r) Q E d) E s₂:=by
  rw[f o i];exact wpAny_operating (wpAny_mono b (λr d j=>L1 (wpAny_letTemporaryGo (M6 j))) λ_ _ x=>x)
 first
  | exact M6 (L1 a)
  | exact L1 (M6 (L1 a))
  | exact L1 a
theorem VH{X:Cx}{pins:List (Addr×Obj)}{σ:St}{H:Hp}{s:Shared}{a:Addr}{y:V}{o:Option V}(I:Inv X pins σ H s)(g:DGet H a y o):s.TypeIs (.ref a) "dict":=by
 rcases g with⟨c,k,e,_,_⟩ | ⟨c,k,b,e,_,_,_⟩
 ·obtain⟨_,_,d,_,dd⟩:=wq I.hok e;exact dd.typeIs
 ·obtain⟨_,_,f,_,dd⟩:=wg I.hok e;exact dd.typeIs
noncomputable def Q8(td ty:TE):TE:=λσ H Q=>td σ H λx H1=>ty σ H1 λy H2=>∃ a v,x=.ref a/\DGet H2 a y (some v)/\Q v H2
noncomputable def Ya(ty td:TE):TE:=λσ H Q=>ty σ H λy H1=>td σ H1 λx H2=>∃ a o,x=.ref a/\DGet H2 a y o/\Q (.bl (!o.isSome)) H2
noncomputable def Qs(td ty tv:TE):TS:=λD σ H=>tv σ H λv H1=>td σ H1 λx H2=>ty σ H2 λy H3=>∃ a H4,x=.ref a/\DPut H3 a y v H4/\D.nx σ H4
section
variable {X:Cx}{o i e value:Expr}{pos pos' tpos:Pos}{td ty tv:TE}
theorem zh(e:X.A.units+1 < cLine)(f:PE X o td)(hi:PE X i ty)(j:jdz i):PE X (.Subscript o i pos) (Q8 td ty):=by
 intro b s σ H Q I h;refine jae PySem.F.slot_dict_getitem.lookup j (thn (f b s σ H _ I h) λu k ⟨x,l,m,n,p⟩=>thn (hi b k σ l _ m p) λz B ⟨y,q,d,r,a,v,ex,g,t⟩=>?_);subst ex;obtain rfl:u=Value.ref a:=n;exact⟨VH d g,zx e d g r λC D w c=>⟨v,q,w,c,t⟩⟩
theorem z6(c:X.A.units+1 < cLine)(hi:PE X i ty)(d:PE X o td):PC X .NotIn i o (Ya ty td):=by
 intro b s σ H Q I h;refine thn (hi b s σ H _ I h) λv e ⟨y,f,j,k,l⟩=>thn (d b e σ f _ j l) λu w ⟨x,m,n,p,a,q,ex,g,r⟩=>?_;subst ex;obtain rfl:u=Value.ref a:=p;exact jaC c n g k λz t=>⟨.bl (!q.isSome),m,t,rfl,r⟩
theorem xr(c:X.A.units+1 < cLine)(d:PE X o td)(hi:PE X i ty)(e:PE X value tv)(f:swapsWith value (some (.Subscript o i pos')) pos.line X.env=pure false) :
  PS X (.Assign [.Subscript o i pos'] value pos) (Qs td ty tv):=by
 intro b s σ H D I h;refine wpAny_Assign_Subscript (thn (e b s σ H _ I h) λr j ⟨v,k,l,m,n⟩=>thn (d b j σ k _ l n) λu p ⟨x,q,t,w,z⟩=>thn (hi b p σ q _ t z) λJ K ⟨y,L,B,C,a,E,ex,g,F⟩=>?_) f;subst ex;obtain rfl:u=Value.ref a:=w;exact zN c B g C m λM G=>⟨σ,E,G,F⟩
end
theorem Kh{P:Program}{w:World}{H:Hp}(h:Heap)(a:sysModules < h.objs.size):ObjOk P w H (h.push { cls:=.type "dict",data:=.dict #[] }) h.objs.size (.dK []) :=
 ⟨U5 _,U2.mpr (Ne.symm (N6 a)),[],.nil,Heap.DictOf.new h⟩
noncomputable def QX:TE:=λ_ H Q=>∀ p,H p=none->Q (.ref p) (upd H p (.dK []))
section
variable {X:Cx}{pos:Pos}
theorem wU:PE X (.Dict [] [] pos) QX:=λb s σ H Q I h =>
 wpAny_Dict_empty ⟨.ref s.heap.objs.size,_,I.laid (a:=s.heap.objs.size) (o:=.dK []) (t':=s.toks) (λ_ _ q=>L7 _ q) (M8 _) (Kh s.heap I.big),rfl,h _ (I.hok.fresh (M8 _))⟩
end
def Qg:List (TE×TE)->St->Hp->(List (V×V)->Hp->Prop)->Prop
 | [],_,H,Q=>Q [] H
 | (tk,tv)::r,σ,H,Q=>tk σ H λx H1=>tv σ H1 λy H2=>Qg r σ H2 λps H3=>Q ((x,y)::ps) H3
abbrev VV:List (V×V)->List (Value×Value)->Prop:=Paired λp q=>RelV p.1 q.1/\RelV p.2 q.2
def PPs(X:Cx)(pos:Pos)(keys:List (Option Expr))(values:List Expr)(trs:List (TE×TE)):Prop :=
 ∀(pins:List (Addr×Obj)) (s:Shared) (σ:St) (H:Hp) (Q:List (V×V)->Hp->Prop),Inv X pins σ H s->Qg trs σ H Q ->
  wpAny (model X.prog X.w) X.A (evalPairs (pairTrees keys values X.env pos)) (λvs s'=>∃ ps H',Inv X pins σ H' s'/\VV ps vs/\Q ps H') X.xe s
theorem pps_nil{X:Cx}{pos:Pos}:PPs X pos [] [] []:=λa s σ H Q I h=>pairTrees_nil_walk ⟨[],H,I,.nil,h⟩
theorem pps_cons{X:Cx}{pos:Pos}{k v:Expr}{ks:List (Option Expr)}{c:List Expr}{tk tv:TE}{b:List (TE×TE)}(d:PE X k tk)(e:PE X v tv)(f:PPs X pos ks c b) :
  PPs X pos (some k::ks) (v::c) ((tk,tv)::b):=λa s σ H Q I h =>
 pairTrees_cons_walk (thn (d a s σ H _ I h) λu g ⟨x,i,j,l,m⟩=>thn (e a g σ i _ j m) λB n ⟨y,o,p,q,r⟩ =>
  thn (f a n σ o _ p r) λC D ⟨t,w,z,rel,A⟩=>⟨(x,y)::t,w,z,.cons ⟨l,q⟩ rel,A⟩)
noncomputable def YE(kvs more:List (Key×V)):List (Key×V):=more.foldl (λacc kv=>kP acc kv.1 kv.2) kvs
theorem KV.merge:∀{more:List (Key×V)}{rs:List (Key×Value)}{kvs:List (Key×V)}{vs:List (Key×Value)},KV more rs->KV kvs vs->KV (YE kvs more) (merged vs rs):=by
 intro more rs kvs vs r;unfold KV at r
 induction r generalizing kvs vs with
 | nil=>intro q;exact q
 | @cons p q c d h t a =>
  intro b;have e:KV (kP kvs p.1 p.2) (stored vs q.1 q.2):=by
   have:=b.put p.1 h.2;rw[<- h.1];exact this
  exact a e
theorem kx:∀(more kvs:List (Key×V)),(YE kvs more).length<=kvs.length+more.length
 | [],kvs=>by show kvs.length<=kvs.length+0;omega
 | p::r,kvs=>by
  have a:=kx r (kP kvs p.1 p.2);have b:=kq kvs p.1 p.2;show(YE (kP kvs p.1 p.2) r).length<=_;rw[M0];omega
theorem JA{P:Program}{w:World}:∀{kvs:List (Key×V)}{ws:List (Value×Value)},VV (kvs.map λkv=>(kV kv.1,kv.2)) ws->∃ rs,Carries (jw P w) ws rs/\KV kvs rs
 | [],_,r=>by rw[List.map_nil] at r;cases r;exact⟨[],True.intro,.nil⟩
 | p::kvs,_,r=>by
  rw[L4] at r;cases r with
  | @cons a b e bs h t =>
   obtain⟨rs,c,q⟩:=JA (P:=P) (w:=w) t;obtain⟨f,d⟩:=b;exact⟨(p.1,d)::rs,⟨Kt h.1,rfl,c⟩,.cons ⟨rfl,h.2⟩ q⟩
noncomputable def ja0(trs:List (TE×TE)):TE:=λσ H Q=>∀ p,H p=none->Qg trs σ (upd H p (.dK [])) λps H2=>H2 p=some (.dK [])/\∃ kvs:List (Key×V),ps=kvs.map (λkv=>(kV kv.1,kv.2))/\kvs.length<=15/\Q (.ref p) (upd H2 p (.dK (YE [] kvs)))
theorem jaR{X:Cx}{pos:Pos}{keys:List (Option Expr)}{b:List Expr}{d:List (TE×TE)}(h:PPs X pos keys b d)(f:keys.all (·.isSome)=true)(n:keys.length=b.length)(p:keys≠[])
  (k:keys.length<=15):PE X (.Dict keys b pos) (ja0 d):=by
 intro g s σ H Q I q;have r:=I.hok.fresh (M8 s.heap.objs.size);have t:=I.laid (a:=s.heap.objs.size) (o:=.dK []) (h':=s.heap.push { cls:=.type "dict",data:=.dict #[] }) (t':=s.toks) (λ_ _ q=>L7 _ q) (M8 _) (Kh s.heap I.big);refine wpAny_Dict_walk (knd:=jw X.prog X.w) f n p k (thn (h g _ σ _ _ t (q _ r)) λG J ⟨K,L,m,rel,e,i,u,M,v⟩=>?_);subst u;obtain⟨x,c,y⟩:=JA (P:=X.prog) (w:=X.w) rel;obtain⟨z,hd,A,B,dd⟩:=uN m.hok e;cases B;refine⟨x,c,dd,λl j C=>⟨.ref s.heap.objs.size,_,?_,rfl,v⟩⟩;have D:(YE [] i).length<=sizeLine:=by
  have E:=kx i [];rw[List.length_nil] at E;rw[sizeLine_eq];omega
 have F:∃ q,l.get? s.heap.objs.size=some q:=let ⟨q,_,_,hq,_⟩:=j;⟨q,hq⟩
 exact JY m (by rw[e];exact True.intro) C F (zq D hd (y.merge .nil) j)
structure M1(X:Cx)(o:Expr)(m:Str)(apos:Pos)(e:Expr)(cpos:Pos):Prop where
 base:attributeBase o m X.env (eval o X.env)=eval o X.env
 few:((backTo cpos (starEach [e] X.env)).all (λx=>!x.1)&&(backToKw cpos (keywordEach [] X.env)).all (λx=>x.1.isSome)
  && decide (([e]:List Expr).length+([]:List Keyword).length+(if([]:List Keyword).isEmpty then 0 else 1) < 30))=true
 line:(apos.endLine==cpos.line)=true
 trees:backTo cpos (starEach [e] X.env)=[(false,eval e X.env)]
structure M2(X:Cx)(o:Expr)(m:Str)(apos:Pos)(e f:Expr)(cpos:Pos):Prop where
 base:attributeBase o m X.env (eval o X.env)=eval o X.env
 few:((backTo cpos (starEach [e,f] X.env)).all (λx=>!x.1)&&(backToKw cpos (keywordEach [] X.env)).all (λx=>x.1.isSome)
  && decide (([e,f]:List Expr).length+([]:List Keyword).length+(if([]:List Keyword).isEmpty then 0 else 1) < 30))=true
 line:(apos.endLine==cpos.line)=true
 trees:backTo cpos (starEach [e,f] X.env)=[(false,eval e X.env),(false,eval f X.env)]
end L2
namespace QD
open PySem L2 PySem.Spec PyProof.Rows
section
variable {R:RC}{Z Z':Zn}{H H':Hp}{pm:List Nat}
noncomputable def ym:D->Option KA
 | .int i=>some (.int i)
 | .str s=>some (.str s)
 | _=>none
theorem yC(e:ym d=some k)(r:Rep R Z H d v O):v=kV (kaV k)/\O=[]:=by
 cases d with
 | int i=>cases e;rw[Rep] at r;exact r
 | str s=>cases e;rw[Rep] at r;exact r
 | _=>cases e
theorem Yi(h:kaV a=kaV b):a=b:=by
 cases a<;>cases b<;>simp only[kaV] at h
 ·cases h;rfl
 ·cases h
 ·cases h
 ·have:=jaU (Sum.inr.inj h);rw[this]
noncomputable def JI:List KA->List D->KA->Option D
 | k::ks,d::l,a=>if k=a then some d else JI ks l a
 | _,_,_=>none
theorem qo:∀{ks:List KA}{l:List D}{vs:List V}{O:List Addr}{a:KA},Reps R Z H l vs O->ks.length=l.length ->
  (∀ d,JI ks l a=some d->∃ v P,Vg ((ks.map kaV).zip vs) (kaV a)=some v/\Rep R Z H d v P)/\(JI ks l a=none->Vg ((ks.map kaV).zip vs) (kaV a)=none)
 | [],l,vs,O,a,r,c=>⟨λd e=>(by cases l<;>cases e),λ_=>rfl⟩
 | k::ks,[],vs,O,a,r,c=>by simp at c
 | k::ks,x::l,vs,O,a,r,c=>by
  rw[Reps] at r;obtain⟨v,b,f,n,rfl,rfl,g,i⟩:=r;have j:=qo (a:=a) i (by simpa using c);by_cases e:k=a
  ·subst e;refine⟨λd h=>?_,λh=>?_⟩
   ·simp only[JI,if_true] at h;cases h;exact⟨v,f,ky rfl,g⟩
   ·simp[JI] at h
  ·have m:¬ (kaV k=kaV a):=λz=>e (Yi z);have q:Vg (((k::ks).map kaV).zip (v::b)) (kaV a)=Vg ((ks.map kaV).zip b) (kaV a):=kO m;rw[q];simp only[JI,if_neg e];exact j
theorem DkA.rd(h:DkA o H a kvs):Rd H a (.dK kvs):=by
 cases o with
 | true=>exact .inl h
 | false=>exact h
theorem DGet.r(e:Rd H a (.dK kvs)):DGet H a (kV k) (Vg kvs k):=.inl ⟨kvs,k,e,rfl,rfl⟩
theorem Rep.dK_of(r:Rep R Z H (.dK o ks l) v O):∃ a vs O',v=.ref a/\Rd H a (.dK ((ks.map kaV).zip vs))/\Reps R Z H l vs O'/\ks.length=l.length:=by
 rw[Rep] at r;obtain⟨a,vs,O',rfl,b,c,d,_⟩:=r;exact⟨a,vs,O',rfl,d.rd,b,c⟩
theorem uF:PP R QX (pC (.dK true [] [])):=by
 intro σ ρ Z H O d z s e Q k;cases e;intro p a;refine k (Go.newO (wf0 z) a) ?_;rw[Rep];exact⟨p,[],[],rfl,.empty,rfl,jo,rfl⟩
noncomputable def vN:D->D->Option D
 | .dK _ ks l,y=>(ym y).bind λk=>JI ks l k
 | _,_=>none
theorem jbd(f:PB R td pa)(g:PB R ty pb):PB R (Q8 td ty) (p2 vN pa pb):=by
 intro σ ρ Z H O d z s e Q k;unfold p2 at e;cases e1:pa ρ with
 | none=>rw[e1] at e;cases e
 | some x =>
  rw[e1] at e;dsimp only at e;cases e2:pb ρ with
  | none=>rw[e2] at e;cases e
  | some y =>
   rw[e2] at e;dsimp only at e;refine f z s e1 λ{v A B C} b h=>?_;refine g b.wf.zd (b.slots z s) e2 λ{u D E F} c i=>?_;have j:=c.rep b.wf.zd h;cases x with
   | dK o G l =>
    simp only[vN] at e;cases e3:ym y with
    | none=>rw[e3] at e;cases e
    | some a =>
     rw[e3,L3] at e;obtain⟨p,I,J,rfl,m,n,q⟩:=j.dK_of;obtain⟨rfl,_⟩:=yC e3 i;obtain⟨w,P,t,rw⟩:=(qo n q).1 d e;exact⟨p,w,rfl,t▸DGet.r m,k (b.pair c) rw⟩
   | _=>cases e
noncomputable def p3(g:D->D->D->Option D)(pa pb pc:PF):PF:=λρ=>match pa ρ with
 | none=>none
 | some x=>match pb ρ with
  | none=>none
  | some y=>match pc ρ with
   | none=>none
   | some z=>g x y z
noncomputable def JX(neg:Bool)(y x:D):Option D:=match x with
 | .dK _ ks l=>(ym y).bind λk=>some (.bl (neg != (JI ks l k).isSome))
 | _=>none
theorem wE{td ty:TE}{pa pb:PF}{neg:Bool}(i:PB R ty pa)(j:PB R td pb){σ:L2.St}{ρ:Rh}{Z:Zn}{H:Hp}{O:List Addr}{d:D}(z:Zd Z H)(s:Slots R Z H ρ σ O)(e:p2 (JX neg) pa pb ρ=some d)
  {Q:VK}(k:∀{v:V}{Z':Zn}{H':Hp}{P:List Addr},Go Z H [] Z' H' P->Rep R Z' H' d v P->Q v H'):ty σ H λy H1=>td σ H1 λx H2=>∃ a o,x=.ref a/\DGet H2 a y o/\Q (.bl (neg != o.isSome)) H2:=by
 unfold p2 at e;cases e1:pa ρ with
 | none=>rw[e1] at e;cases e
 | some y =>
  rw[e1] at e;dsimp only at e;cases e2:pb ρ with
  | none=>rw[e2] at e;cases e
  | some x =>
   rw[e2] at e;dsimp only at e;refine i z s e1 λ{v B H1 C} b m=>?_;refine j b.wf.zd (b.slots z s) e2 λ{u E H2 F} c n=>?_;cases x with
   | dK o q l =>
    simp only[JX] at e;cases e3:ym y with
    | none=>rw[e3] at e;cases e
    | some a =>
     rw[e3,L3] at e;cases e;obtain⟨p,G,I,rfl,f,g,h⟩:=n.dK_of;obtain⟨rfl,_⟩:=yC e3 m;cases ev:JI q l a with
     | none =>
      refine⟨p,none,rfl,(qo g h).2 ev▸DGet.r f,k (b.pair c) ?_⟩;rw[ev];exact .bl_mk
     | some d =>
      obtain⟨w,P,t,A⟩:=(qo g h).1 d ev;refine⟨p,some w,rfl,t▸DGet.r f,k (b.pair c) ?_⟩;rw[ev];exact .bl_mk
   | _=>cases e
theorem Qv{td ty:TE}{pa pb:PF}(a:PB R ty pa)(b:PB R td pb):PP R (Ya ty td) (p2 (JX true) pa pb):=λz s e _ k=>by
 have:=wE (neg:=true) a b z s e k;simpa [Ya] using this
noncomputable def ja5:List KA->List D->KA->D->List D
 | k::ks,x::l,a,d=>(if k=a then d else x)::ja5 ks l a d
 | _,_,_,_=>[]
theorem V3:∀{ks:List KA}{l:List D}(a:KA) (d:D),ks.length=l.length->(ja5 ks l a d).length=l.length
 | [],[],_,_,_=>rfl
 | [],_::_,_,_,h=>by simp at h
 | _::_,[],_,_,h=>by simp at h
 | k::ks,x::l,a,d,h=>by rw[ja5,M0,M0,V3 a d (by simpa using h)]
theorem VT(rd:Rep R Z H d v [])(a:KA):∀{ks:List KA}{l:List D}{vs:List V}{O:List Addr},Reps R Z H l vs O->ks.length=l.length ->
  ∃ vs2 O2,Reps R Z H (ja5 ks l a d) vs2 O2/\(ks.map kaV).zip vs2=((ks.map kaV).zip vs).map (λkv=>if kv.1=kaV a then(kv.1,v) else kv)/\O2.Sublist O
 | [],[],vs,O,r,b=>by
  rw[Reps] at r;obtain⟨rfl,rfl⟩:=r;exact⟨[],[],.empty,rfl,.slnil⟩
 | [],_::_,_,_,_,h=>by simp at h
 | _::_,[],_,_,_,h=>by simp at h
 | k::ks,x::l,vs,O,r,b=>by
  rw[Reps] at r;obtain⟨w,m,n,O2,rfl,rfl,o,p⟩:=r;obtain⟨c,f,g,i,j⟩:=VT rd a p (by simpa using b);by_cases e:k=a
  ·subst e;refine⟨v::c,[]++f,?_,?_,?_⟩
   ·rw[ja5,if_pos rfl];exact Reps.cons rd g
   ·simp only[L4,U6,if_true,i]
   ·exact j.trans (List.sublist_append_right _ _)
  ·have q:¬ (kaV k=kaV a):=λz=>e (Yi z);refine⟨w::c,n++f,?_,?_,?_⟩
   ·rw[ja5,if_neg e];exact Reps.cons o g
   ·simp only[L4,U6,if_neg q,i]
   ·exact List.Sublist.append (List.Sublist.refl _) j
theorem VJ(a:KA):∀{ks:List KA}{vs:List V},ks.length=vs.length->(((ks.map kaV).zip vs).any λkv=>decide (kv.1=kaV a))=decide (a∈ks)
 | [],vs,_=>by simp
 | k::ks,[],h=>by simp at h
 | k::ks,v::vs,h=>by
  rw[L4,U6,List.any_cons,VJ a (by simpa using h)];by_cases e:k=a
  ·subst e;simp
  ·have b:¬ (kaV k=kaV a):=λz=>e (Yi z);have c:¬ (a=k):=λz=>e z.symm;simp[b,c]
noncomputable def yM(ks:List KA)(l:List D)(a:KA)(d:D):List KA×List D:=if a∈ks then(ks,ja5 ks l a d) else(ks++[a],l++[d])
theorem JW(rd:Rep R Z H d v [])(a:KA)  (r:Reps R Z H l vs O) (b:ks.length=l.length) :
  ∃ vs2 O2,Reps R Z H (yM ks l a d).2 vs2 O2/\(((yM ks l a d).1).map kaV).zip vs2=kP ((ks.map kaV).zip vs) (kaV a) v/\O2.Sublist O/\(yM ks l a d).1.length=(yM ks l a d).2.length:=by
 have c:ks.length=vs.length:=by rw[r.length];exact b
 unfold yM kP;rw[VJ a c];by_cases e:a∈ks
 ·rw[if_pos e,X0 e,if_pos rfl];obtain⟨f,P,g,h,i⟩:=VT rd a r b;exact⟨f,P,g,h,i,by rw[V3 a d b];exact b⟩
 ·rw[if_neg e,X1 e,if_neg (λz=>(nomatch z))];refine⟨vs++[v],O++[],r.append (Reps.one rd),?_,by simp,by simp[b]⟩;rw[N5,List.zip_append (by simpa using c)];rfl
noncomputable def K8(i:Nat)(pk pv:PF):FS:=λρ=>match pv ρ with
 | none=>none
 | some d=>match ρ[i]? with
  | some (some (.dK true ks l))=>match pk ρ with
   | none=>none
   | some y=>match ym y with
    | none=>none
    | some a=>bif frz d&&lim ks.length then some (.nx (ρ.set i (some (.dK true (yM ks l a d).1 (yM ks l a d).2)))) else none
  | _=>none
theorem jba{i:Nat}{ty tv:TE}{pk pv:PF}(W:PB R ty pk)(X:PB R tv pv):DS R pm (Qs (vB i) ty tv) (K8 i pk pv):=by
 intro σ ρ Z H O o w s e D' k;unfold K8 at e;cases e1:pv ρ with
 | none=>rw[e1] at e;cases e
 | some d =>
  rw[e1] at e;dsimp only at e;split at e
  ·rename_i m l N;cases e2:pk ρ with
   | none=>rw[e2] at e;cases e
   | some y =>
    rw[e2] at e;dsimp only at e;cases e3:ym y with
    | none=>rw[e3] at e;cases e
    | some c =>
     rw[e3] at e;dsimp only at e;cases hm:frz d&&lim m.length with
     | false=>rw[hm] at e;cases e
     | true =>
      rw[hm] at e;cases e;rw[L9] at hm;refine X w.zd s e1 λ{u Z1 Y P1} q Q=>?_;cases Q.nil hm.1;have g:=q.widen w;rw[X4] at g;have S:=q.slots w.zd s;obtain⟨A,P,B,rfl,k1,k2,_⟩:=S.put (L8.mp N).1;obtain⟨v,T,r⟩:=k1 _ N;rw[Rep] at r;obtain⟨a,U,E,rfl,rs,F,D,rfl⟩:=r;have D:Y a=some (.dK ((m.map kaV).zip U)):=D;refine⟨.ref a,T,?_⟩;refine W q.wf.zd S e2 λ{t x p P2} n r2=>?_;obtain⟨rfl,_⟩:=yC e3 r2;have h:=n.widen g.wf;rw[X4] at h;have G:p a=some (.dK ((m.map kaV).zip U)):=by rw[n.same a (by rw[D];exact λz=>(nomatch z))];exact D
      have I:=n.reps q.wf.zd rs;have J:=n.rep q.wf.zd Q;obtain⟨j,K,r3,e4,L,M⟩:=JW J c I F;refine⟨a,_,rfl,DPut.k G (by rw[List.length_zip,L0];exact X8 (Nat.min_le_left _ _) (Yk hm.2)),?_⟩;rw[<- e4];have nd:=h.wf.nd;have gB:Go x p (A++(a::E)++B) x (upd p a (.dK (((yM m l c d).1.map kaV).zip j))) (A++(a::E)++B):=Go.put h.wf (by simp);have gC:Go x p (A++(a::E)++B) x (upd p a (.dK (((yM m l c d).1.map kaV).zip j))) (A++(a::K)++B):=gB.drop (λb f=>by
       simp at f ⊢;rcases f with f | f | f | f
       ·exact .inl f
       ·exact .inr (.inl f)
       ·exact .inr (.inr (.inl (L.subset f)))
       ·exact .inr (.inr (.inr f))) (List.Nodup.sublist (List.Sublist.append (List.Sublist.append (List.Sublist.refl A) (List.Sublist.cons_cons a L)) (List.Sublist.refl B)) nd)
      have C:∀ b,x b->upd p a (.dK (((yM m l c d).1.map kaV).zip j)) b=p b:=λb f=>jd λz=>h.wf.nz a (by simp) (z▸f);simp only[U8,N2,List.nodup_cons,M4,not_or] at nd;obtain⟨⟨n1,⟨n2,n3⟩,n5⟩,n6,n7⟩:=nd;have hr:Rep R x (upd p a (.dK (((yM m l c d).1.map kaV).zip j))) (.dK true (yM m l c d).1 (yM m l c d).2) (.ref a) (a::K):=by
       rw[Rep];exact⟨a,j,K,rfl,r3.frame (λb z=>z) C (λb f=>jd λz=>n2 (z▸L.subset f)),M,jo,rfl⟩
      have V:=k2 (v':=.ref a) hr (λb f=>n.zz b f) (λb f=>(C b (n.zz b f)).trans (n.same b (q.wf.zd b f))) (λb f=>(jd λz=>n5 b f a (.inl rfl) z).trans (n.same b (g.wf.od b (by simp[f])))) (λb f=>(jd λz=>n7 a (.inr (.inl rfl)) b f z.symm).trans (n.same b (g.wf.od b (by simp[f]))));rw[jH T] at V;exact k ((g.trans h).trans gC) V (Keep.refl _ _)
  ·cases e
end
theorem jdo:QP cl X (.Dict [] [] pos) QX (pC (.dK true [] [])):=⟨wU,uF⟩
theorem V7(e:Room k X.A)(c:QB cl X a ta pa)(d:QB cl X b tb pb)(f:jdz b:=by exact λ_ _=>rfl):QB cl X (.Subscript a b pos) (Q8 ta tb) (p2 vN pa pb):=⟨zh (Qe e) c.sem d.sem f,jbd c.den d.den⟩
theorem Ys(e:Room k X.A)(c:QB cl X a ta pa)(d:QB cl X b tb pb)(f:behindInMarks .NotIn b=false:=by with_unfolding_all rfl):QT cl X (.Compare a [.NotIn] [b] pos) (L2.tB (Ya ta tb)) (jr (p2 (JX true) pa pb)) :=
 ⟨jbL (z6 (Qe e) c.sem d.sem) f,VO (PP.b (Qv c.den d.den))⟩
theorem jaO(d:Room k X.A)(f:QB cl X (.Name x xpos) (vB i) (pV i))(a:QB cl X b tb pb)(c:QB cl X e te pe)(g:swapsWith e (some (.Subscript (.Name x xpos) b pos')) pos.line X.env=pure false:=by rfl) :
  QS cl pm X (.Assign [.Subscript (.Name x xpos) b pos'] e pos) (Qs (vB i) tb te) (K8 i pb pe):=⟨xr (Qe d) f.sem a.sem c.sem g,jba a.den c.den⟩
@[simp] theorem p3_e:p3 g pa pb pc ρ=(pa ρ).bind λx=>(pb ρ).bind λy=>(pc ρ).bind λz=>g x y z:=by
 unfold p3;cases pa ρ with
 | none=>rfl
 | some x =>
  dsimp only[Option.bind];cases pb ρ with
  | none=>rfl
  | some y=>dsimp only;cases pc ρ<;>rfl
noncomputable def jdy:D->Option (List KA×List D)
 | .dK true ks l=>some (ks,l)
 | _=>none
@[simp] theorem dkOf_dK(ks:List KA)(l:List D):jdy (.dK true ks l)=some (ks,l):=rfl
@[simp] theorem sDSet_e{i:Nat}{pk pv:PF}{ρ:Rh}:K8 i pk pv ρ=(pv ρ).bind λd=>(pV i ρ).bind λx=>(jdy x).bind λp=>(pk ρ).bind λy=>(ym y).bind λa=>bif frz d&&lim p.1.length then some (.nx (ρ.set i (some (.dK true (yM p.1 p.2 a d).1 (yM p.1 p.2 a d).2)))) else none:=by
 unfold K8 pV;cases pv ρ with
 | none=>rfl
 | some d =>
  dsimp only[Option.bind];cases h:ρ[i]? with
  | none=>rfl
  | some o=>cases o with
   | none=>rfl
   | some x=>cases x with
    | dK o b l=>cases o with
     | false=>rfl
     | true =>
      dsimp only[jdy];cases pk ρ with
      | none=>rfl
      | some y=>dsimp only;cases ym y<;>rfl
    | _=>rfl
@[simp] theorem keyOf_int(i:Int):ym (.int i)=some (.int i):=rfl
@[simp] theorem keyOf_str(s:List Nat):ym (.str s)=some (.str s):=rfl
@[simp] theorem opDIx_e(o:Bool)(ks:List KA)(l:List D)(y:D):vN (.dK o ks l) y=(ym y).bind λk=>JI ks l k:=rfl
@[simp] theorem opDIn_e(neg o:Bool)(ks:List KA)(l:List D)(y:D):JX neg y (.dK o ks l)=(ym y).bind λk=>some (.bl (neg != (JI ks l k).isSome)):=rfl
end QD
namespace PySem
open Sem (wp)
namespace F
theorem lk_list_keys:typeLookup (.type "list") "keys" = pure none:=by rw[typeLookup_type,builtinLookup_eq_fast];kernel_rfl
theorem lk_list_getattr:typeLookup (.type "list") "__getattr__" = pure none:=by rw[typeLookup_type,builtinLookup_eq_fast];kernel_rfl
theorem plain_dict_loop:plainId "dict.update.loop" = true:=by decide +kernel
theorem entry_dict_loop:entryFor table "dict.update.loop" = some Builtin.«dict.update.loop»:=entryFor_of_fast (by kernel_rfl)
end F
section
variable {prog:Program}{w:World}{A:Around}{E:Value->Shared->Prop}{h:Heap}{g:Array GenState}{d:Drawn}{t:Nat}{os:OsState}{a:Addr}{o:Obj}
theorem F.sub_attrErr:isSubtype (.type "AttributeError") (.type "AttributeError")=pure true:=by rw[isSubtype_type];kernel_rfl
theorem ww{x nm:Value}{e:Addr}{y:Value}{Q:Unit->Shared->Prop}(a:h.get? e=some { cls:=.type "AttributeError",data:=.fields #[y,.none,.none,.none,.bool false,.none,unsetMember,unsetMember] })
  (c:∀ h',(∀ b o,b≠e->h.get? b=some o->h'.get? b=some o)->(∃ ob,h'.get? e=some ob/\ob.cls=.type "AttributeError")->Q () ⟨h',g,d,t,os⟩) :
  wpAny (model prog w) A (noteAttr (.ref e) x nm) Q E ⟨h,g,d,t,os⟩:=by
 have j:(⟨h,g,d,t,os⟩:Shared).TypeIs (.ref e) "AttributeError":=⟨_,a,rfl⟩;have k:=F.sub_attrErr;unfold noteAttr
 repeat (any_goals (first | assumption | wp_step))
 refine c _ (λb o f i=>?_) ?_
 ·rw[Heap.get?_update_ne _ _ _ _ f];exact i
 ·exact⟨_,Heap.get?_update_self _ a rfl,rfl⟩
theorem KF{α:Type}{x:Value}{nm c:Str}{Q:α->Shared->Prop}(l:c.length<=sizeLine)(n:A.handled=none)
  (p:∀ h' e t',(∀ b o,h.get? b=some o->h'.get? b=some o)->h.get? e=none->(∃ ob,h'.get? e=some ob/\ob.cls=.type "AttributeError")->E (.ref e) ⟨h',g,d,t',os⟩) :
  wpAny (model prog w) A (raiseAttrError x nm c:Sem α) Q E ⟨h,g,d,t,os⟩:=by
 unfold raiseAttrError;refine L1 (wpAny_mkStr (L1 ?_) l);unfold newExc newTuple;refine L1 (wpAny_newObj_type ?_);refine L1 (m:=firstArgMember _ _) (wpAny_of_eq (a:=Value.none) (by simp only[firstArgMember];rfl) ?_);refine wpAny_newObj_type ?_;refine L1 (wpAny_mkText (L1 ?_));refine ww (y:=.ref h.objs.size) (X7 _ rfl) λh' q r=>?_;unfold raiseNew;refine L1 (wpAny_handled ?_);rw[n];have f:∀ i,E (.ref (h.push { cls:=.type "tuple",data:=.seq #[Value.str c t] }).objs.size) ⟨h',g,d,i,os⟩:=λi=>p h' _ _ (λb o j=>q b o (λz=>by
  have k:=N1 j;rw[z] at k;exact absurd k (Nat.not_lt.mpr (by simp))) (L7 _ (L7 _ j))) (Heap.get?_none_of_le (by simp)) r
 first
  | exact wpAny_throw (f _)
  | exact L1 (M6 (wpAny_throw (f _)))
theorem KB{its:Array Value}{n:Nat}{sl:Array (Option Value)}{tk:Tok}{Q:Fin->Shared->Prop}(c:A.handled=none)(f:h.get? a=some { cls:=.type "list",data:=.seq its n,slots:=sl })
  (i:∀ h' e t',(∀ b o,h.get? b=some o->h'.get? b=some o)->h.get? e=none->(∃ ob,h'.get? e=some ob/\ob.cls=.type "AttributeError")->E (.ref e) ⟨h',g,d,t',os⟩) :
  wpAny (model prog w) A (Builtin.«object.__getattribute__» ⟨[.ref a,.str "keys" tk],[]⟩) Q E ⟨h,g,d,t,os⟩:=by
 have j:(⟨h,g,d,t,os⟩:Shared).TypeIs (.ref a) "list":=⟨_,f,rfl⟩;have k:=F.lk_list_keys
 repeat (any_goals (first | assumption | wp_step))
 exact KF (by decide +kernel) c i
theorem zM{its:Array Value}{n:Nat}{sl:Array (Option Value)}{tk:Tok}{R:Result->Shared->Prop}(f:A.handled=none)(c:h.get? a=some { cls:=.type "list",data:=.seq its n,slots:=sl })
  (i:∀ h' e t',(∀ b o,h.get? b=some o->h'.get? b=some o)->h.get? e=none->(∃ ob,h'.get? e=some ob/\ob.cls=.type "AttributeError")->R (.error (.ref e)) ⟨h',g,d,t',os⟩) :
  codeAny (model prog w) A (.call (.builtin "list.__getattribute__") ⟨[.ref a,.str "keys" tk],[]⟩) R ⟨h,g,d,t,os⟩:=by
 refine codeAny_call_builtin F.slot_list_getattribute.plain F.entry_list_ga (F.slot_list_getattribute.check _ _ _ _ _ _ _ _ (show(⟨h,g,d,t,os⟩:Shared).TypeIs (.ref a) "list" from⟨_,c,rfl⟩) (F.args_list_getattribute_2 _ _) ?_);exact KB (show A.in1.handled=none from f) c i
theorem jaq{its:Array Value}{n:Nat}{sl:Array (Option Value)}{tk:Tok}{Q:Value->Shared->Prop}(k:A.handled=none)(i:h.get? a=some { cls:=.type "list",data:=.seq its n,slots:=sl })
  (l:∀ h' e t',(∀ b o,h.get? b=some o->h'.get? b=some o)->h.get? e=none->(∃ ob,h'.get? e=some ob/\ob.cls=.type "AttributeError")->E (.ref e) ⟨h',g,d,t',os⟩) :
  wpAny (model prog w) A (getAttrBy (.ref a) (.str "keys" tk) false) Q E ⟨h,g,d,t,os⟩:=by
 have u:(⟨h,g,d,t,os⟩:Shared).TypeIs (.ref a) "list":=⟨_,i,rfl⟩;have v:=F.sub_attrErr;have x:=F.slot_list_getattribute.lookup;have y:=F.slot_list_getattribute.bind (.ref a);have z:=F.lk_list_getattr
 repeat (any_goals (first | assumption | wp_step))
 refine zM k i λh' e t' m p j=>?_;have c:=j;obtain⟨ob,f,q⟩:=j;have r:(⟨h',g,d,t',os⟩:Shared).TypeIs (.ref e) "AttributeError":=⟨_,f,q⟩;have s:=l h' e t' m p c;show wpAny (model prog w) A (getattributeRaised (Value.ref a) (Value.str (Str.ofString "keys") tk) (Value.type "list") (.ref e) none false false) Q E _;unfold getattributeRaised
 repeat (any_goals (first | assumption | wp_step))
theorem z9{its:Array Value}{n:Nat}{sl:Array (Option Value)}{Q:Option Value->Shared->Prop}(f:A.handled=none)(i:h.get? a=some { cls:=.type "list",data:=.seq its n,slots:=sl })
  (j:∀ h' t',(∀ b o,h.get? b=some o->h'.get? b=some o)->Q none ⟨h',g,d,t',os⟩):wpAny (model prog w) A (getAttr? (.ref a) "keys") Q E ⟨h,g,d,t,os⟩:=by
 unfold getAttr? getAttrBy?
 refine L1 (wpAny_mkText (L1 ?_));refine wpAny_attempt ?_;refine jaq f i λh' e t' k r l=>?_;obtain⟨s,c,m⟩:=l;have p:(⟨h',g,d,t',os⟩:Shared).TypeIs (.ref e) "AttributeError":=⟨_,c,m⟩;have u:=F.sub_attrErr;have q:=j h' t' k
 repeat (any_goals (first | assumption | wp_step))
end
section
variable {prog:Program}{w:World}{K:Type} [DecidableEq K] {knd:KeyKind prog w K}{A:Around}{E:Value->Shared->Prop}{s:Shared}
theorem KW(c:s.heap.get? p=some o)(b:o.cls=.type "tuple")(hd:o.data=.seq #[key,x] m)(e:Q [key,x] s):wpAny (model prog w) A (Builtin.Dict.pairItems (.ref p)) Q E s:=by
 obtain⟨f,od,a,d⟩:=o;dsimp only at b hd;subst b;subst hd;have g:s.TypeIs (.ref p) "tuple":=⟨_,c,rfl⟩;unfold Builtin.Dict.pairItems
 repeat (any_goals (first | assumption | wp_step))
def zw(knd:KeyKind prog w K)(h:Heap)(v:Value)(kv:K×Value):Prop:=∃ p key m o,v=.ref p/\h.get? p=some o/\o.cls=.type "tuple"/\o.data=.seq #[key,kv.2] m/\knd.is kv.1 key=true
theorem Q6{R:Result->Shared->Prop}(hh:A.handled=none)  (q:ax≠I) (h:D≠I) (P:D≠ax) {items:Array Value}{ps:List (K×Value)}(r:items.size=ps.length):∀(k i:Nat) (s:Shared) (kvs:List (K×Value)),
  items.size - i=k->i<=items.size->(s.heap.IsListIter I ax i/\s.heap.IsList ax items)->s.heap.DictOf knd D kvs ->
  (∀(j:Nat) (v:Value),items[j]?=some v->∃ kv,ps[j]?=some kv/\zw knd s.heap v kv/\v≠.ref I/\v≠.ref D)->kvs.length+k<=100000 ->
  (∀ h' tk,h'.DictOf knd D ((ps.drop i).foldl (λa kv=>stored a kv.1 kv.2) kvs)->(∀ b o,b≠I->b≠D->s.heap.get? b=some o->h'.get? b=some o)->R (.ok (.ret .none)) { s with heap:=h',toks:=tk }) ->
  codeAny (model prog w) A (.builtin "dict.update.loop" ⟨[.ref D,.ref I,rawInt i,.none],[]⟩) R s:=by
 intro k
 induction k with
 | zero =>
  intro i s kvs hk hi l hd Q hz S;have T:i=items.size:=by omega
  subst T;have W:=Walks.list (prog:=prog) (w:=w) (A:=A.in1) (by exact hh) I ax q items;refine codeAny_builtin F.entry_dict_loop ?_;rw[Around.under_plainId F.plain_dict_loop _];show wpAny _ A.in1 (pyNext (.ref I) >>= _) _ _ s;refine L1 (W.done s _ _ l λh' tk c=>?_);have fin:=S h' tk (by rw[r,List.drop_length];exact hd.extBut (b:=I) (λb o d e=>c b o (by simpa using d) e) h) (λb o d _ e=>c b o (by simpa using d) e);unfold Builtin.Dict.addKeywords
  repeat (any_goals (first | assumption | wp_step))
 | succ k ih =>
  intro i s kvs hk hi l hd Q hz S;have t:i < items.size:=by omega
  have W:=Walks.list (prog:=prog) (w:=w) (A:=A.in1) (by exact hh) I ax q items;refine codeAny_builtin F.entry_dict_loop ?_;rw[Around.under_plainId F.plain_dict_loop _];show wpAny _ A.in1 (pyNext (.ref I) >>= _) _ _ s;refine L1 (W.item i s _ _ t l λv h' tk hP u c=>?_);obtain⟨kv,x,⟨p,y,m,po,rfl,U,V,X,B⟩,Y,hvD⟩:=Q i v hP;have C:h'.get? p=some po:=c p _ (by simpa using λz=>Y (by rw[z])) U;have Z:h'.DictOf knd D kvs:=hd.extBut (b:=I) (λb o d e=>c b o (by simpa using d) e) h;refine L1 (wpAny_holding ?_);refine L1 (wpAny_tryCatch (KW C V X ?_));show wpAny _ _ (holding [y,kv.2] (dictSet D y kv.2)) _ _ _;have hsz:sizeLine=16777216:=by decide
  refine wpAny_holding (wpAny_dictSet_pairs B Z (λh'' E hs=>?_) (by omega));refine M6 ⟨plainId_quiet F.plain_dict_loop _,?_⟩;have hd2:ps.drop i=kv::ps.drop (i+1):=by
   have G:i < ps.length:=by omega
   rw[List.drop_eq_getElem_cons G];have:ps[i]=kv:=by
    rw[X5 G] at x;exact X3 x
   rw[this]
  refine ih (i+1) _ (stored kvs kv.1 kv.2) (by omega) t (W.frame (i+1) h' h'' u λb d o e=>(hs.2 b ?_).trans e) E (λj v hv=>?_) ?_ λh3 tk3 hd3 hk3=>?_
  ·rcases M4.mp d with rfl | d
   ·exact λz=>h z.symm
   ·rw[M7.mp d];exact λz=>P z.symm
  ·obtain⟨kv',H,⟨p',J,m',po',rfl,L,M,N,n⟩,f,g⟩:=Q j v hv;refine⟨kv',H,⟨p',J,m',po',rfl,?_,M,N,n⟩,f,g⟩;exact(hs.2 p' λz=>g (by rw[z])).trans (c p' _ (by simpa using λz=>f (by rw[z])) L)
  ·have:=stored_length_le kvs kv.1 kv.2;omega
  ·refine S h3 tk3 ?_ λb o d O e=>hk3 b o d O ((hs.2 b O).trans (c b o (by simpa using d) e));rw[hd2,U9];exact hd3
end
section
variable {prog:Program}{w:World}{K:Type} [DecidableEq K] {knd:KeyKind prog w K}{A:Around}{E:Value->Shared->Prop}{s:Shared}
theorem Jt{its:Array Value}{n:Nat}{sl:Array (Option Value)}{ps:List (K×Value)}{Q:Value->Shared->Prop}(O:A.handled=none)(x:s.heap.get? p=some { cls:=.type "list",data:=.seq its n,slots:=sl })(k:its.size=ps.length)
  (S:∀(j:Nat) (v:Value),its[j]?=some v->∃ kv,ps[j]?=some kv/\zw knd s.heap v kv) (hz:ps.length<=100000)
  (h:∀ h' tk,h'.DictOf knd s.heap.objs.size (ps.foldl (λa kv=>stored a kv.1 kv.2) [])->(∀ b o,s.heap.get? b=some o->h'.get? b=some o)->Q (.ref s.heap.objs.size) { s with heap:=h',toks:=tk }) :
  wpAny (model prog w) A (call (.type "dict") [.ref p]) Q E s:=by
 refine callType_codes (Q₁:=λobj P=>obj=.ref s.heap.objs.size/\P={ s with heap:=s.heap.push { cls:=.type "dict",data:=.dict #[] } }) F.kt_called_dict (F.kt_typeCall_dict_1 _) F.entry_dict_init (kt_code_dict_new _ ⟨rfl,rfl⟩) ?_;rintro obj P ⟨rfl,rfl⟩;have c:(s.heap.push { cls:=.type "dict",data:=.dict #[] }).DictOf knd s.heap.objs.size []:=Heap.DictOf.new s.heap;refine⟨c.typeIs,F.args_dict_init_2 _ _,?_⟩;have f:(s.heap.push { cls:=.type "dict",data:=.dict #[] }).get? p=some { cls:=.type "list",data:=.seq its n,slots:=sl }:=L7 _ x;have R:s.heap.get? s.heap.objs.size=none:=Heap.get?_none_of_le (M8 _);unfold Builtin.«dict.__init__»;refine L1 ?_;unfold Builtin.Dict.selfAndRest;refine L1 (wpAny_notOrdered_dict c.typeIs ?_);show wpAny _ _ (pure (s.heap.objs.size,[Value.ref p])) _ _ _;refine M6 ?_;show wpAny _ _ (Builtin.Dict.updateFrom "dict.__init__" s.heap.objs.size (.ref p) [] .none) _ _ _;unfold Builtin.Dict.updateFrom;refine L1 (wpAny_typeOf (T:="list") ⟨_,f,rfl⟩ ?_);rw[if_pos (by decide)];refine L1 ?_;refine z9 (its:=its) (n:=n) ?_ f λl X d=>?_
 ·exact O
 ·rw[if_pos (show(Option.isNone (none:Option Value))=true from rfl)];refine L1 (wpAny_rule ?_);have g:=d p _ f;have y:l.IsList p its:=⟨_,g,rfl,n,rfl⟩;refine L1 (wpAny_pyIter_list y ?_);have B:=d s.heap.objs.size _ (X7 _ rfl);have C:p≠l.objs.size:=N6 (N1 g);have q:s.heap.objs.size≠l.objs.size:=N6 (N1 B);have D:s.heap.objs.size≠p:=λz=>by rw[<- z,R] at x;cases x
  refine M6 ⟨plainId_quiet F.plain_dict_loop _,?_⟩;refine Q6 (A:=A.in1) (knd:=knd) (show A.in1.handled=none from O) C q D k its.size 0 _ [] (by omega) (U5 _) ⟨⟨_,X7 _ rfl,rfl,rfl⟩,?_⟩ ?_ (λU v V=>?_) (by simp;omega) λW G H I=>?_
  ·exact⟨_,L7 _ g,rfl,n,rfl⟩
  ·exact c.extBut (b:=l.objs.size) (λb o Y e=>L7 _ (d b o e)) q
  ·obtain⟨kv,J,u,L,m,po,rfl,i,M,N,r⟩:=S U v V;have t:=d u _ (L7 _ i);refine⟨kv,J,⟨u,L,m,po,rfl,L7 _ t,M,N,r⟩,λz=>?_,λz=>?_⟩
   ·have z:u=l.objs.size:=by injection z
    exact absurd z (N6 (N1 t))
   ·have z:u=s.heap.objs.size:=by injection z
    rw[z,R] at i;cases i
  ·refine⟨rfl,h W G H λb o e=>?_⟩;have t:=d b o (L7 _ e);exact I b o (N6 (N1 t)) (N6 (N1 e)) (L7 _ t)
end
end PySem
namespace L2
open PySem PySem.Spec PyProof.Rows
theorem Ke(I:Inv X pins σ H s):∀{ys:List V}{its:List Value}{ps:List (Key×V)},Vals ys its->ys.length=ps.length ->
  (∀(j:Nat) (y:V),ys[j]?=some y->∃ kv t,ps[j]?=some kv/\y=.ref t/\SqT X.K H t [kV kv.1,kv.2]) ->
  ∃ qs:List (Key×Value),KV ps qs/\∀(j:Nat) (v:Value),its[j]?=some v->∃ kv,qs[j]?=some kv/\zw (jw X.prog X.w) s.heap v kv
 | [],its,ps,b,a,c=>by
  cases b;have:ps=[]:=List.length_eq_zero_iff.mp a.symm;subst this;exact⟨[],.nil,λj v e=>by simp at e⟩
 | y::ys,its,[],b,a,c=>by simp at a
 | y::ys,its,kv::ps,b,a,c=>by
  cases b with
  | cons i k =>
   rename_i u D;obtain⟨qs,r,q⟩:=Ke I (ps:=ps) k (by simpa using a) λj y e=>c (j+1) y (by simpa using e);obtain⟨l,t,m,rfl,d⟩:=c 0 y rfl;cases m;cases(show u=Value.ref t from i);obtain⟨g,p,⟨o,e,x,n,hd⟩,_⟩:=I.tuple d;cases p with
   | cons z A =>
    cases A with
    | cons B C =>
     cases C;rename_i f val;refine⟨(kv.1,val)::qs,.cons ⟨rfl,B⟩ r,λj v h=>?_⟩;cases j with
     | zero =>
      cases h;exact⟨_,rfl,t,f,n,o,rfl,e,x,hd,Kt z⟩
     | succ j=>exact q j v (by simpa using h)
theorem zu:∀{ps:List (Key×V)}{qs:List (Key×Value)}{a:List (Key×V)}{b:List (Key×Value)},KV ps qs->KV a b->KV (ps.foldl (λa kv=>kP a kv.1 kv.2) a) (qs.foldl (λa kv=>stored a kv.1 kv.2) b)
 | [],_,_,_,.nil,h=>h
 | p::ps,q::qs,a,b,.cons c d,h=>by
  rw[U9,U9];refine zu d ?_;have:=h.put p.1 c.2;rw[c.1] at this ⊢;exact this
theorem uJ{ps:List (Key×V)}:∀{qs:List (Key×V)},(ps.foldl (λa kv=>kP a kv.1 kv.2) qs).length<=qs.length+ps.length:=by
 induction ps with
 | nil=>intro qs;simp
 | cons p ps b =>
  intro qs;rw[U9];have c:=b (qs:=kP qs p.1 p.2);have d:(kP qs p.1 p.2).length<=qs.length+1:=by unfold kP;split<;>simp
  rw[M0];omega
theorem KH{X:Cx}(C:X.calm=true):Yl X (.type "dict") (λxs H Q=>∃(p:Addr) (ys:List V) (ps:List (Key×V)),xs=[.ref p]/\SqL X.K H p ys/\ys.length=ps.length/\ps.length<=100000 /\
  (∀(j:Nat) (y:V),ys[j]?=some y->∃ kv t,ps[j]?=some kv/\y=.ref t/\SqT X.K H t [kV kv.1,kv.2])/\∀ D,H D=none->Q (.ref D) (upd H D (.dK (ps.foldl (λa kv=>kP a kv.1 kv.2) [])))):=by
 intro x s σ H xs R Q I r h;obtain⟨p,ys,ps,rfl,E,z,F,G,q⟩:=h;obtain⟨u,rfl,J⟩:=r.one;cases J;obtain⟨i,A,⟨o,n,e,b,c,d⟩,_⟩:=I.list E;obtain⟨S,od,k,L⟩:=o;dsimp only at b c d;subst b c d;obtain⟨B,rel,l⟩:=Ke I A z G;have f:i.toArray.size=B.length:=by rw[N3,<- A.length,z,rel.length]
 refine Jt (knd:=jw X.prog X.w) (I.ok.hd C) e f (λj v M=>l j v (by simpa using M)) (by rw[<- rel.length];exact F) λT N hd O=>?_;have g:=zu rel (.nil:KV ([]:List (Key×V)) []);have m:=uJ (ps:=ps) (qs:=[]);have P:sizeLine=16777216:=by decide
 exact⟨.ref s.heap.objs.size,_,I.laid (a:=s.heap.objs.size) (o:=.dK (ps.foldl (λa kv=>kP a kv.1 kv.2) [])) (t':=N) O (M8 _) (zq (by simp at m;omega) (U2.mpr (Ne.symm (N6 I.big))) g hd),rfl,q _ (I.hok.fresh (M8 _))⟩
end L2
namespace QD
open PySem L2 PySem.Spec PyProof.Rows
noncomputable def vP:List D->Option (List (KA×D))
 | []=>some []
 | .tup [k,v]::l=>(ym k).bind λa=>(vP l).bind λr=>some ((a,v)::r)
 | _::_=>none
noncomputable def Vy(ps:List (KA×D)):List KA×List D:=ps.foldl (λacc kv=>yM acc.1 acc.2 kv.1 kv.2) ([],[])
noncomputable def KG:List D->Option D
 | [.lst _ l]=>(vP l).bind λps=>bif frzs (ps.map (·.2))&&lim ps.length then some (.dK true (Vy ps).1 (Vy ps).2) else none
 | _=>none
theorem JG:∀{l:List D}{ps:List (KA×D)}{ys:List V}{O:List Addr},vP l=some ps->Reps R Z H l ys O->frzs (ps.map (·.2))=true ->
  ∃ ws:List V,Reps R Z H (ps.map (·.2)) ws []/\ys.length=ps.length/\∀(j:Nat) (y:V),ys[j]?=some y->∃ kv t,((ps.map λp=>kaV p.1).zip ws)[j]?=some kv/\y=.ref t/\SqT R.K H t [kV kv.1,kv.2]
 | [],ps,ys,O,e,r,b=>by
  cases e;rw[Reps] at r;obtain⟨rfl,rfl⟩:=r;exact⟨[],.empty,rfl,λj y c=>by simp at c⟩
 | d::l,ps,ys,O,e,r,b=>by
  match d,e with
  | .tup [k,v],e =>
   simp only[vP] at e;cases e1:ym k with
   | none=>rw[e1] at e;cases e
   | some a =>
    rw[e1,L3] at e;cases e2:vP l with
    | none=>rw[e2] at e;cases e
    | some i =>
     rw[e2] at e;cases e;rw[Reps] at r;obtain⟨B,m,C,E,rfl,rfl,g,n⟩:=r;rw[L4,YR,L9] at b;obtain⟨ws,f,o,q⟩:=JG e2 n b.2;rw[Rep] at g;obtain⟨t,F,rfl,s,x⟩:=g;obtain⟨u,w,G,I,rfl,-,z,h⟩:=x.two_of;obtain⟨rfl,_⟩:=yC e1 z;have A:=h.nil b.1;subst A;refine⟨w::ws,Reps.cons (O:=[]) (P:=[]) h f,by simp[o],λj y c=>?_⟩;cases j with
     | zero =>
      cases c;exact⟨(kaV a,w),t,rfl,rfl,s.sq⟩
     | succ j=>exact q j y (by simpa using c)
theorem Y9:∀{ps:List (KA×D)}{ws:List V}{ks:List KA}{l:List D}{us:List V},Reps R Z H (ps.map (·.2)) ws []->Reps R Z H l us []->ks.length=l.length ->
  ∃ us',Reps R Z H (ps.foldl (λacc kv=>yM acc.1 acc.2 kv.1 kv.2) (ks,l)).2 us' []/\(((ps.foldl (λacc kv=>yM acc.1 acc.2 kv.1 kv.2) (ks,l)).1).map kaV).zip us'=(((ps.map λp=>kaV p.1).zip ws).foldl (λa kv=>kP a kv.1 kv.2) ((ks.map kaV).zip us)) /\
   (ps.foldl (λacc kv=>yM acc.1 acc.2 kv.1 kv.2) (ks,l)).1.length=(ps.foldl (λacc kv=>yM acc.1 acc.2 kv.1 kv.2) (ks,l)).2.length
 | [],ws,ks,l,us,b,r,c=>⟨us,r,by simp,c⟩
 | p::ps,ws,ks,l,us,b,r,c=>by
  rw[L4,Reps] at b;obtain⟨w,g,t,u,rfl,e,h,i⟩:=b;obtain⟨rfl,rfl⟩:=List.append_eq_nil_iff.mp e.symm;obtain⟨j,k,m,n,o,d⟩:=JW h p.1 r c;have:k=[]:=List.sublist_nil.mp o;subst this;obtain⟨us',q,s,f⟩:=Y9 (ps:=ps) i m d;refine⟨us',q,?_,f⟩;rw[L4,U6,U9,U9,s,n]
theorem jbp:BC R (λxs H Q=>∃(p:Addr) (ys:List V) (ps:List (Key×V)),xs=[.ref p]/\SqL R.K H p ys/\ys.length=ps.length/\ps.length<=100000 /\
  (∀(j:Nat) (y:V),ys[j]?=some y->∃ kv t,ps[j]?=some kv/\y=.ref t/\SqT R.K H t [kV kv.1,kv.2])/\∀ D,H D=none->Q (.ref D) (upd H D (.dK (ps.foldl (λa kv=>kP a kv.1 kv.2) [])))) KG:=by
 intro Z H xs d C O z r e Q k
 match xs,e,r with
 | [.lst o l],e,r =>
  simp only[KG] at e;cases e1:vP l with
  | none=>rw[e1] at e;cases e
  | some ps =>
   rw[e1,L3] at e;cases hm:frzs (ps.map (·.2))&&lim ps.length with
   | false=>rw[hm] at e;cases e
   | true =>
    rw[hm] at e;cases e;rw[L9] at hm;obtain⟨v,rfl,n⟩:=r.one_of;obtain⟨p,ys,E,rfl,s,u⟩:=n.lst_of;obtain⟨i,b,w,q⟩:=JG e1 u hm.1;obtain⟨f,A,B,g⟩:=Y9 (ks:=[]) (l:=[]) (us:=[]) b .empty rfl;have c:i.length=ps.length:=by rw[b.length];simp
    refine⟨p,ys,(ps.map λp=>kaV p.1).zip i,rfl,s.sq,by simp[w,c],by simp[c];exact X2 hm.2,q,λD m=>?_⟩;refine k (Go.newO (wf0 z) m) ?_;have ne:∀ a,H a≠none->a≠D:=λa h e=>h (e▸m);rw[Rep];exact⟨D,f,[],rfl,A.frame (λa z=>z) (λa h=>jd (ne a (z a h))) (λa h=>(nomatch h)),g,by show upd H D _ D=some _;rw[jo];exact congrArg (λx=>some (HO.dK x)) B.symm,rfl⟩
@[simp] theorem jag(o:Bool)(l:List D):KG [.lst o l]=(vP l).bind λps=>bif frzs (ps.map (·.2))&&lim ps.length then some (.dK true (Vy ps).1 (Vy ps).2) else none:=rfl
end QD
namespace QK
open PySem L2 QD PySem.Spec PyProof.Rows
end QK
namespace QD
open PySem L2 PySem.Spec PyProof.Rows
theorem Reps.rev:∀{l:List D}{vs:List V},Reps R Z H l vs []->Reps R Z H l.reverse vs.reverse []
 | [],vs,r=>by
  rw[Reps] at r;obtain⟨rfl,_⟩:=r;exact .empty
 | d::l,vs,r=>by
  rw[Reps] at r;obtain⟨v,a,f,g,rfl,e,b,c⟩:=r;obtain⟨rfl,rfl⟩:=List.append_eq_nil_iff.mp e.symm;rw[List.reverse_cons,List.reverse_cons];exact(Reps.rev c).append (.one b)
noncomputable def jby(i:Nat):FS:=λρ=>match ρ[i]? with
 | some (some (.lst true l))=>bif frzs l then some (.nx (ρ.set i (some (.lst true l.reverse)))) else none
 | _=>none
theorem jbS:DS R pm (qP (jel R.K "list" JQ (vB i))) (jby i):=by
 intro σ ρ Z H O o w s e y k;unfold jby at e;split at e
 ·rename_i l g;cases hf:frzs l with
  | false=>rw[hf] at e;cases e
  | true =>
   rw[hf] at e;cases e;obtain⟨A,P,B,rfl,p,q,_⟩:=s.put (L8.mp g).1;obtain⟨v,h,r⟩:=p _ g;rw[Rep] at r;obtain⟨a,d,C,rfl,j,m,rfl⟩:=r;have t:=j.nil hf;subst t;refine⟨.ref a,h,.inl ⟨rfl,d,SqL.of m⟩,?_⟩;refine⟨a,d,rfl,rfl,m,?_⟩;have u:Go Z H (A++[a]++B) Z (upd H a (.lst d.reverse)) (A++[a]++B):=Go.put w (by simp);have f:∀ b,Z b->upd H a (.lst d.reverse) b=H b:=λb c=>jd λz=>w.nz a (by simp) (z▸c);have nd:=w.nd;simp only[U8,N2,List.nodup_cons,M4,not_or] at nd;have x:Rep R Z (upd H a (.lst d.reverse)) (.lst true l.reverse) (.ref a) [a]:=by
    rw[Rep];exact⟨a,d.reverse,[],rfl,j.rev.frame (λb z=>z) f (λb c=>(nomatch c)),jo,rfl⟩
   have n:=q (v':=.ref a) x (λb c=>c) f (λb c=>jd λz=>by subst z;exact(nd.1.2.2 b c b (.inl rfl)) rfl) (λb c=>jd λz=>by subst z;exact(nd.2.2 b (.inr (.inl rfl)) b c) rfl);rw[jH h] at n;exact k u n (Keep.refl _ _)
 ·cases e
theorem jck(d:QB cl X (.Name x xpos) (vB i) (pV i))
  (a:attributeBase (.Name x xpos) "reverse" X.env (eval (.Name x xpos) X.env)=eval (.Name x xpos) X.env:=by rfl) (b:(apos.endLine==cpos.line)=true:=by rfl)
  (c:swapsWith (.Call (.Attribute (.Name x xpos) "reverse" apos) [] [] cpos) none pos.line X.env=pure false:=by rfl) :
  QS cl pm X (.Expr (.Call (.Attribute (.Name x xpos) "reverse" apos) [] [] cpos) pos) (qP (jel X.K "list" JQ (vB i))) (jby i) :=
 ⟨qR (jcp PySem.F.plainAttrs_list PySem.F.slot_list_reverse PySem.F.type_list_reverse KZ d.sem a b) c,jbS⟩
@[simp] theorem sRev_e:jby i ρ=(pV i ρ).bind λx=>(jaK x).bind λl=>bif frzs l then some (.nx (ρ.set i (some (.lst true l.reverse)))) else none:=by
 unfold jby pV;cases h:ρ[i]? with
 | none=>rfl
 | some o=>cases o with
  | none=>rfl
  | some x=>cases x with
   | lst o l=>cases o<;>rfl
   | _=>rfl
end QD
namespace L2
open PySem PySem.Spec PyProof.Rows
end L2
namespace QD
open PySem L2 PySem.Spec PyProof.Rows
theorem z4(h:ixN l.length j=some i)(k:l[i]?=some x):L2.atI l j=some x:=by
 unfold L2.atI;rw[h];exact k
theorem Go.frz1(w:WF Z H (a::O)):Go Z H (a::O) (λb=>Z b \/ b=a) H O:=by
 have nd:=List.nodup_cons.mp w.nd;refine⟨⟨nd.2,λb c z=>?_,λb c=>w.od b (L5 _ c),λb z=>?_⟩,λb z=>.inl z,λ_ _ _=>rfl,λb z=>?_,λb c=>.inl (L5 _ c),λ_ h=>h⟩
 ·rcases z with z | rfl
  ·exact w.nz b (L5 _ c) z
  ·exact nd.1 c
 ·rcases z with z | rfl
  ·exact w.zd b z
  ·exact w.od b L6
 ·rcases z with z | rfl
  ·exact .inl z
  ·exact .inr (.inl L6)
structure QDs(cl:Nat->Addr)(X:Cx)(es:List Expr)(ta:TA)(f:FA):Prop where
 sem:PA X es ta
 den:DA ⟨X.K,cl⟩ ta f
end QD
namespace L2
open PySem PySem.Spec PyProof.Rows
theorem Inv.layAll(I:Inv X pins σ H s)(k:∀ b u,s.heap.get? b=some u->h'.get? b=some u)(a:∀ b,H b≠none->H' b=H b)
  (new:∀ b o,H b=none->H' b=some o->s.heap.objs.size<=b/\ObjOk X.prog X.w H' h' b o):Inv X pins σ H' { s with heap:=h',toks:=t' }:=by
 refine I.un ⟨λb u q _ _ _=>k b u q,λb u q _ _ _=>⟨u.slots,k b u q⟩,λb u q n _=>?_,λb u q _=>⟨u,k b u q⟩,λb f q=>?_,λb o u q=>?_,λb g q=>⟨#[],?_⟩⟩ λb o e=>?_
 ·cases e:H' b with
  | none=>rfl
  | some o=>exact absurd (N1 q) (Nat.not_lt.mpr (new b o n e).1)
 ·rw[a b (by rw[q];exact λz=>nomatch z)];exact q
 ·rw[a b (by rw[q];exact λz=>nomatch z)];exact q
 ·rw[a b (by rw[q];exact λz=>nomatch z),q];simp
 ·by_cases n:H b=none
  ·exact(new b o n e).2
  ·have d:=e;rw[a b n] at d;exact(I.hok b o d).stay (λc u _ q=>k c u q) (λc q=>by rw[a c (by rw[q];exact λz=>nomatch z)];exact q) λc f q=>by rw[a c (by rw[q];exact λz=>nomatch z)];exact q
theorem jdI(h:(jw P w).is k u=true):RelV (kV k) u:=by
 rw[JC] at h;rcases jA h with⟨i,t,rfl,rfl⟩ | ⟨x,t,rfl,rfl⟩
 ·exact⟨t,rfl⟩
 ·exact⟨t,rfl⟩
end L2
namespace QD
open PySem L2 PySem.Spec PyProof.Rows
section
variable {R:RC}{Z Z':Zn}{H H':Hp}{pm:List Nat}
noncomputable def kaD:KA->D
 | .int i=>.int i
 | .str s=>.str s
theorem jbj(a:KA):Rep R Z H (kaD a) (kV (kaV a)) []:=by
 cases a with
 | int i=>exact .int_mk
 | str s=>exact .str_mk
end
end QD
namespace L2
open PySem PySem.Spec PyProof.Rows
noncomputable def yK(scope:Scope)(env:Env)(C:Addr):List (Str×Addr):=cellsFrom (C+1) scope.names (JB scope env)
theorem QF:∀{names:List (Str×NameKind)}{n:Nat}{acc:List (Str×Addr)},(∀ x y c,acc.lookup x=some c->acc.lookup y=some c->x=y)->(∀ x c,acc.lookup x=some c->c < n)->∀ x y c,(cellsFrom n names acc).lookup x=some c->(cellsFrom n names acc).lookup y=some c->x=y
 | [],n,acc,h,_=>h
 | (a,k)::r,n,acc,h,e=>by
  unfold cellsFrom;split
  ·refine QF (λx y c b d=>?_) (λx c b=>?_)
   ·rw[List.lookup_cons] at b d;cases e1:x==a with
    | true =>
     rw[e1] at b;cases b;cases e2:y==a with
     | true=>rw[eq_of_beq e1,eq_of_beq e2]
     | false=>rw[e2] at d;exact absurd (e y _ d) (Nat.lt_irrefl _)
    | false =>
     rw[e1] at b;cases e2:y==a with
     | true=>rw[e2] at d;cases d;exact absurd (e x _ b) (Nat.lt_irrefl _)
     | false=>rw[e2] at d;exact h x y c b d
   ·rw[List.lookup_cons] at b;cases e1:x==a with
    | true=>rw[e1] at b;cases b;exact Nat.lt_succ_self _
    | false=>rw[e1] at b;exact Nat.lt_succ_of_lt (e x c b)
  ·exact QF h e
theorem jc7(h:∀ x y c,(JB scope env).lookup x=some c->(JB scope env).lookup y=some c->x=y)(a:∀ x c,(JB scope env).lookup x=some c->c < C+1)(x y:Str)(c:Addr)(h1:(yK scope env C).lookup x=some c)(h2:(yK scope env C).lookup y=some c):x=y:=QF h a x y c h1 h2
theorem VD:∀{names:List (Str×NameKind)}{n:Nat}{acc:List (Str×Addr)},(∃ c,acc.lookup x=some c)->∃ c,(cellsFrom n names acc).lookup x=some c
 | [],_,_,h=>h
 | (a,k)::r,n,acc,h=>by
  unfold cellsFrom;split
  ·refine VD ?_;rw[List.lookup_cons];cases x==a with
   | true=>exact⟨n,rfl⟩
   | false=>exact h
  ·exact VD h
theorem zJ:∀{names:List (Str×NameKind)}{n:Nat}{acc:List (Str×Addr)},(x,NameKind.cell)∈names->∃ c,(cellsFrom n names acc).lookup x=some c
 | [],_,_,h=>nomatch h
 | (a,k)::r,n,acc,h=>by
  unfold cellsFrom;rcases M4.mp h with e | e
  ·cases e;rw[if_pos (show(NameKind.cell==NameKind.cell)=true from rfl)];refine VD ⟨n,?_⟩;rw[List.lookup_cons,beq_self_eq_true]
  ·split
   ·exact zJ e
   ·exact zJ e
theorem jcR(h:(x,NameKind.cell)∈scope.names):∃ c,(yK scope env C).lookup x=some c:=zJ h
theorem VG:∀{names:List (Str×NameKind)}{n:Nat}{acc:List (Str×Addr)},(x,NameKind.cell)∉names->(cellsFrom n names acc).lookup x=acc.lookup x
 | [],_,_,_=>rfl
 | (a,k)::r,n,acc,h=>by
  unfold cellsFrom;split
  ·rename_i b;have b:=eq_of_beq b;subst b;rw[VG λz=>h (L5 _ z),List.lookup_cons];have:(x==a)=false:=U2.mpr λz=>h (by rw[z];exact L6);rw[this]
  ·exact VG λz=>h (L5 _ z)
theorem Vh:∀(names:List (Str×NameKind)) (h:Heap) (acc:List (Str×Addr)) (x:Str) (c:Addr),(cellsFrom h.objs.size names acc).lookup x=some c->(h.objs.size<=c/\(pushCells h names).IsCell c none) \/ acc.lookup x=some c
 | [],_,_,_,_,e=>.inr e
 | (a,k)::r,h,acc,x,c,e=>by
  unfold cellsFrom at e;unfold pushCells;split at e
  ·rename_i b;rw[if_pos b];rcases Vh r (h.push { cls:=.type "cell",data:=.cell none }) ((a,h.objs.size)::acc) x c (by rw[Heap.size_push];exact e) with q | q
   ·rw[Heap.size_push] at q;exact .inl ⟨Nat.le_of_succ_le q.1,q.2⟩
   ·rw[List.lookup_cons] at q;cases e1:x==a with
    | true =>
     rw[e1] at q;cases q;exact .inl ⟨M8 _,⟨_,pushCells_keeps r _ _ _ (X7 _ rfl),rfl⟩⟩
    | false=>rw[e1] at q;exact .inr q
  ·rename_i b;rw[if_neg b];exact Vh r h acc x c e
theorem Jy:∀(l:List (Str×NameKind)) (cs:List (Str×Addr)),(x,c)∈KO env l cs->(x,c)∈cs \/ (x,NameKind.free)∈l
 | [],_,h=>.inl h
 | (n,k)::r,cs,h=>by
  unfold KO at h;rcases Jy r _ h with z | z
  ·split at z
   ·rename_i a;split at z
    ·rcases M4.mp z with e | e
     ·cases e;have a:=eq_of_beq a;subst a;exact .inr L6
     ·exact .inl e
    ·exact .inl z
   ·exact .inl z
  ·exact .inr (L5 _ z)
theorem Q5(h:(JB scope env).lookup x=some c):(x,NameKind.free)∈scope.names:=by
 rcases Jy scope.names [] (PySem.mem_of_lookup h) with z | z
 ·exact nomatch z
 ·exact z
theorem JR 
  (h:Q (newEnv scope s.heap.objs.size globals (cellsFrom (s.heap.objs.size+1) scope.names cl) qual none .none (some env) builtinsNs) { s with heap:=pushCells (s.heap.push { cls:=.type "dict",data:=.dict #[] }) scope.names }) :
  wpAny M A (newFunctionEnv scope globals cl [] qual none .none (some env)) Q E s:=by
 simp only[newFunctionEnv,if_true,Option.isSome_some];refine L1 (wpAny_alloc ?_);refine L1 (wpAny_layCells _ (λnm a b=>by cases hq:a==NameKind.cell<;>simp[hq]) _ _ _ _ ?_);rw[show({ s with heap:=s.heap.push { cls:=.type "dict",data:=.dict #[] } }:Shared).heap.objs.size=s.heap.objs.size+1 from Heap.size_push ..];rw[List.forIn_nil];exact L1 (M6 (M6 h))
noncomputable def yb(X:Cx)(scope:Scope)(N':List Str)(C:Addr)(s₃:Shared)(H₃:Hp)(fp:List Addr):Cx :=
 { X with N:=N',s₀:=s₃,H₀:=H₃,env:=compEnvC scope (yK scope X.env C) C X.env,outer:=X.stack,stack:=X.stack,ex:=fp,fn:=λx=>scope.names.lookup x==some NameKind.cell,pn:=[],xe:=λ_ _=>False }
structure BlockOkC(X:Cx)(scope:Scope)(N':List Str)(ix:List (Option Nat)):Prop where
 kind:scope.kind=.function
 names:∀ y∈scope.names,y.2=.local->scope.names.lookup y.1=some .local
 cells:∀ y∈scope.names,y.2=.cell->scope.names.lookup y.1=some .cell
 uniq:∀ y∈scope.names,y.2=.free->scope.names.lookup y.1=some .free
 outer:∀ y∈scope.names,y.2=.free->X.env.kindOf y.1=some .cell \/ X.env.kindOf y.1=some .free
 nd:N'.Nodup
 len:ix.length=N'.length
 at_:∀(i j:Nat) (x:Str),ix[i]?=some (some j)->N'[i]?=some x->X.N[j]?=some x/\(x,NameKind.free)∈scope.names
 func:X.env.scope.kind=.function
theorem BlockOkC.free(B:BlockOkC X scope N' ix)  (h:(x,NameKind.free)∈scope.names):(yK scope X.env C).lookup x=(JB scope X.env).lookup x :=
 VG λz=>by
  have a:=B.cells _ z rfl;rw[B.uniq _ h rfl] at a;cases a
noncomputable def YF(sc:Scope)(N:List Str)(scope:Scope)(N':List Str)(ix:List (Option Nat)):Bool :=
 decide (scope.kind=.function)&&decide (sc.kind=.function)&&scope.names.all (λy=>!decide (y.2=.cell)||decide (scope.names.lookup y.1=some .cell))&&scope.names.all (λy=>!decide (y.2=.local)||decide (scope.names.lookup y.1=some .local)) &&
 scope.names.all (λy=>!decide (y.2=.free)||(decide (scope.names.lookup y.1=some .free)&&(decide (sc.names.lookup y.1=some .cell)||decide (sc.names.lookup y.1=some .free))))&&decide N'.Nodup&&decide (ix.length=N'.length) &&
 (List.range ix.length).all (λi=>match ix[i]? with | some (some j)=>(match N'[i]? with | some x=>decide (N[j]?=some x)&&decide ((x,NameKind.free)∈scope.names) | none=>true) | _=>true)
theorem Kg(b:Scope)(N:List Str)(h1:X.env.scope=b)(h2:X.N=N)(h:YF b N scope N' ix=true):BlockOkC X scope N' ix:=by
 subst h1;subst h2;unfold YF at h;simp only[L9,decide_eq_true_eq,List.all_eq_true,Bool.or_eq_true,Bool.not_eq_true',decide_eq_false_iff_not] at h;obtain⟨⟨⟨⟨⟨⟨⟨d,f⟩,g⟩,k⟩,c⟩,l⟩,m⟩,n⟩:=h;refine⟨d,λy a e=>?_,λy a e=>?_,λy a e=>?_,λy a e=>?_,l,m,λi j x h1 h2=>?_,f⟩
 ·exact(k y a).elim (λz=>absurd e z) id
 ·exact(g y a).elim (λz=>absurd e z) id
 ·exact(c y a).elim (λz=>absurd e z) λz=>z.1
 ·exact(c y a).elim (λz=>absurd e z) λz=>z.2
 ·have o:i < ix.length:=(L8.mp h1).1;have z:=n i (List.mem_range.mpr o);rw[h1] at z;dsimp only at z;rw[h2] at z;dsimp only at z;simp only[L9,decide_eq_true_eq] at z;exact z
theorem Ku(B:BlockOkC X scope N' ix)(I:Inv X pins σ H s)(w:∀ b∈fp,Y8 X pins H b)(A:∀ b∈fp,b < s.heap.objs.size)
  (L:h₁.Ns s.heap.objs.size (λ_=>none)) (K:∀ b o,s.heap.get? b=some o->h₁.get? b=some o)
  (h:∀ x c,(yK scope X.env s.heap.objs.size).lookup x=some c->(s.heap.objs.size+1<=c/\h₁.IsCell c none) \/ (JB scope X.env).lookup x=some c) :
  Inv (yb X scope N' s.heap.objs.size s H fp) [] (jI ix σ) H { s with heap:=h₁,toks:=t }:=by
 have fresh:H s.heap.objs.size=none:=I.hok.fresh (M8 _);have f:∀ x c,(JB scope X.env).lookup x=some c->X.env.cells.lookup x=some c:=λx c e=>vv e;have M:∀ x c,X.env.cells.lookup x=some c->c < s.heap.objs.size:=λx c e=>by
  obtain⟨v,o,C,_⟩:=I.cell x c e;exact N1 C
 refine⟨⟨I.ok.mod,B.kind,I.ok.glob,I.ok.blt,M8 _,jc7 (λx y c D E=>I.ok.inj x y c (f x c D) (f y c E)) (λx c e=>Nat.lt_succ_of_lt (M x c (f x c e))),λx F=>?_,(λx c D E=>?_),I.ok.hd,I.ok.frames,.inl rfl,λb n=>⟨N6 (A b n),λx c e=>?_⟩,
  λb o e=>I.bs b o e,N7 I.ok.bsz I.sz,λb o e n=>?_,λb n z=>?_,I.stack,I.stkFree⟩,rfl,I.bare,Un.kept K,⟨_,L,λi x v D E Q=>?_⟩,λx c e=>?_,fresh,λx c e=>?_,(λp R=>nomatch (show p∈([]:List (Addr×Obj)) from R)),I.hok.kept K,?_⟩
 ·have N:(relabel scope X.env).names.lookup x=some .cell \/ (relabel scope X.env).names.lookup x=some .free:=F;have g:(x,NameKind.free)∈scope.names \/ (x,NameKind.cell)∈scope.names:=by
   rcases N with q | q
   ·rcases yd (PySem.mem_of_lookup q) with z | z
    ·exact .inr z
    ·exact .inl z.2
   ·rcases yd (PySem.mem_of_lookup q) with z | z
    ·exact .inl z
    ·exact absurd z.1 (by decide)
  rcases g with g | g
  ·obtain⟨c,O⟩:=I.ok.has x (B.outer _ g rfl);exact⟨c,by show(yK scope X.env s.heap.objs.size).lookup x=some c;rw[B.free g];exact JV O g⟩
  ·exact jcR g
 ·-- the block's own cells are new
  have F:(scope.names.lookup x==some NameKind.cell)=true:=D;have F:=eq_of_beq F;rcases h x c E with⟨q,_⟩ | q
  ·exact Nat.le_of_succ_le q
  ·exfalso;have w:=Q5 q;have G:=B.uniq _ w rfl;rw[F] at G;cases G
 ·rcases h x c e with⟨q,_⟩ | q
  ·exact Nat.ne_of_gt (U4 (A b n) (Nat.le_of_succ_le q))
  ·exact(w b n).2.2.2.2.1 x c (f x c q)
 ·rcases(w b n).2.2.2.1 with z | z
  ·exact I.ok.noex b o e z
  ·exact absurd (U4 (N1 e) (N7 I.ok.bsz z)) (Nat.lt_irrefl _)
 ·rcases M4.mp (I.stkSub b z) with q | q
  ·exact(w b n).2.1 q
  ·exact(w b n).2.2.1 q
 ·have a:(jI ix σ)[i]?=some (some v):=E;unfold jI at a;rw[List.getElem?_map] at a;cases e:ix[i]? with
  | none=>rw[e] at a;cases a
  | some o =>
   rw[e] at a;cases o with
   | none=>cases a
   | some j =>
    have d:(σ[j]?).join=some v:=X3 a;have S:σ[j]?=some (some v):=by
     cases q:σ[j]? with
     | none=>rw[q] at d;cases d
     | some u=>rw[q] at d;rw[show u=some v from d]
    obtain⟨T,g⟩:=B.at_ i j x e D;have J:=B.outer _ g rfl;obtain⟨m,V,U⟩:=I.loc;obtain⟨u,r,l⟩:=U j x v T S (J.elim (λz=>.inr (.inl z)) λz=>.inr (.inr z));refine⟨u,r,.inr ?_⟩;rcases l with⟨k,_⟩ | ⟨_,c,O,z⟩
    ·rcases J with y | y<;>rw[k] at y<;>cases y
    ·refine⟨?_,c,by show(yK scope X.env s.heap.objs.size).lookup x=some c;rw[B.free g];exact JV O g,?_⟩
     ·rcases Q with y | y | y
      ·have:(x,NameKind.local)∈(relabel scope X.env).names:=PySem.mem_of_lookup y;rcases yd this with P | P
       ·have G:=B.names _ P rfl;rw[B.uniq _ g rfl] at G;cases G
       ·exact absurd P.1 (by decide)
      ·exact .inl y
      ·exact .inr y
     ·obtain⟨o,C,hd⟩:=z;exact⟨o,K c o C,hd⟩
 ·rcases h x c e with⟨_,q⟩ | q
  ·exact⟨none,q⟩
  ·obtain⟨v,o,C,hd⟩:=I.cell x c (f x c q);exact⟨v,o,K c o C,hd⟩
 ·rcases h x c e with⟨q,_⟩ | q
  ·exact I.hok.fresh (Nat.le_of_succ_le q)
  ·exact I.freeC x c (f x c q)
 ·show(jI ix σ).length=N'.length;unfold jI;rw[L0,B.len]
theorem Kx{X:Cx}{ifs:List Expr}{N':List Str}{ix:List (Option Nat)}{pins:List (Addr×Obj)}{s:Shared}{Q:Addr->Hp->Prop}{use:Option (Value->Sem Unit)}{QQ:Value->Shared->Prop}(B:BlockOkC X scope N' ix)(hc:X.calm=true)(hi:PI X tg iter wi)
  (hg:∀ C s H fp,PG (yb X scope N' C s H fp) tg g) (hif:∀ C s H fp,PIf (yb X scope N' C s H fp) ifs tc) (he:∀ C s H fp,PE (yb X scope N' C s H fp) elt te)
  (hs:∀ x,foldedSetIterable iter X.env x=pure x) (I:Inv X pins σ H s)
  (h:wi σ H λJ H1=>∀ p,H1 p=none->zG tc te g J p (jI ix σ) (upd H1 p (.lst [])) (Q p))
  (hend:∀ p C s' H',Q p H'->Inv X pins σ H' s'->Y8 X pins H' C->(∃ m,s'.heap.Ns C m)->compPost (model X.prog X.w) X.A X.xe use QQ (.ref p) C (.ok .next) s') :
  wpAny (model X.prog X.w) X.A (comprehension (.ListComp elt [⟨tg,iter,ifs,0⟩] scope pos) scope X.env pos' (newList []) false (eval iter X.env) use) QQ X.xe s:=by
 have V:closureFor scope X.env=pure (JB scope X.env):=JO λn k hm hk=>I.ok.has n (B.outer _ hm hk);refine wpAny_comprehension_free rfl hs V B.kind B.names (thn (hi pins s σ H _ I h) λv s1 h1=>thn h1 λitv a h2=>?_);obtain⟨it,fp,tn,J,L,rfl,I2,T,Y,f2,h2⟩:=h2;refine wpAny_newObj_type (JR ?_);dsimp only;have fr2:L a.heap.objs.size=none:=I2.fresh
 -- the new list
 have I3:Inv X pins σ (upd L a.heap.objs.size (.lst [])) { a with heap:=a.heap.push { cls:=.type "list",data:=.seq ([]:List Value).toArray } }:=I2.lnew (t':=a.toks) .nil (U5 _);generalize hs3:({ a with heap:=a.heap.push { cls:=.type "list",data:=.seq ([]:List Value).toArray } }:Shared)=s3 at I3;have e3:s3.heap=a.heap.push { cls:=.type "list",data:=.seq ([]:List Value).toArray }:=by rw[<- hs3]
 have hk3:∀ b o,a.heap.get? b=some o->s3.heap.get? b=some o:=λb o e=>by rw[e3];exact L7 _ e
 have Z:∀ b∈fp,b < s3.heap.objs.size:=λb f=>by
  obtain⟨o,e,_⟩:=T.obj _ _ Y b f;exact N1 (hk3 b o e)
 have nep:∀ b∈fp,b≠a.heap.objs.size:=λb f z=>by
  obtain⟨o,e,_⟩:=T.obj _ _ Y b f;exact absurd (N1 e) (by rw[z];exact Nat.lt_irrefl _)
 have M:∀ b∈fp,Y8 X pins (upd L a.heap.objs.size (.lst [])) b:=λb f=>⟨by rw[jd (nep b f)];exact(f2 b f).1,(f2 b f).2⟩;have sz3:s3.heap.objs.size=(a.heap.push { cls:=.type "list",data:=.seq ([]:List Value).toArray }).objs.size:=by rw[e3]
 have hh₁:∃ N,N=pushCells (s3.heap.push { cls:=.type "dict",data:=.dict #[] }) scope.names:=⟨_,rfl⟩;obtain⟨N,O⟩:=hh₁;rw[<- e3,<- O];have hk4:∀ b o,s3.heap.get? b=some o->N.get? b=some o:=λb o e=>by
  rw[O];exact pushCells_keeps _ _ b o (L7 _ e)
 have hns4:N.Ns s3.heap.objs.size (λ_=>none):=by
  rw[O];exact(Heap.Ns.new s3.heap (.type "dict")).keeps (pushCells_keeps _ _)
 have P:∀ x c,(yK scope X.env s3.heap.objs.size).lookup x=some c->(s3.heap.objs.size+1<=c/\N.IsCell c none) \/ (JB scope X.env).lookup x=some c:=λx c e=>by
  have q:=Vh scope.names (s3.heap.push { cls:=.type "dict",data:=.dict #[] }) (JB scope X.env) x c (by rw[Heap.size_push];exact e);rw[Heap.size_push,<- O] at q;exact q
 have I4:Inv (yb X scope N' s3.heap.objs.size s3 (upd L a.heap.objs.size (.lst [])) fp) [] (jI ix σ) (upd L a.heap.objs.size (.lst [])) { s3 with heap:=N,toks:=a.toks }:=Ku B I3 M Z hns4 hk4 P;have st4:tn 0 N:=T.keep _ _ _ Y λb f o e=>hk4 b o (hk3 b o e);obtain⟨W,⟨m0,w0⟩,turn⟩:=h2 _ fr2;have hg':=hg s3.heap.objs.size s3 (upd L a.heap.objs.size (.lst [])) fp;have R:=hif s3.heap.objs.size s3 (upd L a.heap.objs.size (.lst [])) fp;have he':=he s3.heap.objs.size s3 (upd L a.heap.objs.size (.lst [])) fp;generalize j:yb X scope N' s3.heap.objs.size s3 (upd L a.heap.objs.size (.lst [])) fp=X' at I4 hg' R he';have eP:X'.prog=X.prog:=by rw[<- j];rfl
 have eW:X'.w=X.w:=by rw[<- j];rfl
 have eK:X'.K=X.K:=by rw[<- j];rfl
 have eA:X'.A=X.A:=by rw[<- j];rfl
 have eC:X'.calm=true:=by rw[<- j];exact hc
 have eE:X'.env=compEnvC scope (yK scope X.env s3.heap.objs.size) s3.heap.objs.size X.env:=by rw[<- j];rfl
 have eX:X'.xe=λ_ _=>False:=by rw[<- j];rfl
 have F:∀{H':Hp},(∀ b∈fp,H' b=none)->∀ b∈fp,Y8 X' [] H' b:=λhn b f=>by
  refine⟨hn b f,?_,?_,?_,?_,?_⟩
  ·rw[eE];exact N6 (Z b f)
  ·rw[<- j];intro z;rcases M4.mp (I3.stkSub b z) with q | q
   ·exact(M b f).2.1 q
   ·exact(M b f).2.2.1 q
  ·rw[<- j];exact .inl f
  ·rw[eE];intro x c e;rcases P x c e with⟨q,_⟩ | q
   ·exact Nat.ne_of_gt (U4 (Z b f) (Nat.le_of_succ_le q))
   ·exact(M b f).2.2.2.2.1 x c (vv q)
  ·rw[<- j];exact(λp hp=>nomatch (show p∈([]:List (Addr×Obj)) from hp))
 -- the end of the block
 have fin:∀{l:St}{H':Hp}{s':Shared},Inv X' [] l H' s'->Q a.heap.objs.size H'->compPost (model X.prog X.w) X.A X.xe use QQ (.ref a.heap.objs.size) s3.heap.objs.size (.ok .next) s':=λ{l H' s'} J q=>by
  have hL:X'.env.locals=s3.heap.objs.size:=by rw[eE];rfl
  have un:Un (frs X.stack) fp (upd L a.heap.objs.size (.lst [])) H' s3.heap s'.heap:=by
   have z:=J.base;rw[<- j] at z;exact z
  have hos:s'.os=s3.os:=by
   have z:=J.os;rw[<- j] at z;exact z
  have hok:HOk X.prog X.w H' s'.heap:=by
   have z:=J.hok;rw[eP,eW] at z;exact z
  have fc:H' s3.heap.objs.size=none:=by
   have z:=J.free;rw[hL] at z;exact z
  have I5:Inv X pins σ H' s':=by
   obtain⟨hh,gg,dd,tt,oo⟩:=s';obtain rfl:oo=s3.os:=hos;exact I3.call (h':=hh) (g':=gg) (d':=dd) (t':=tt) (ch:=fp) un hok J.bare λb f=>⟨(M b f).2.2.2.1,(M b f).2.1,(M b f).2.2.2.2.1,(M b f).2.2.2.2.2⟩
  obtain⟨m,hn,_⟩:=J.loc;rw[hL] at hn;exact hend _ _ s' H' q I5 (I3.fpOk (M8 _) fc) ⟨m,hn⟩
 have loop:∀ s',s'=({ s3 with heap:=N,toks:=a.toks }:Shared)->codeAny (model X.prog X.w) X.A (.compLoop (.ListComp elt [⟨tg,iter,ifs,0⟩] scope pos) 0 (.ref it) (.ref a.heap.objs.size) X'.env) (compPost (model X.prog X.w) X.A X.xe use QQ (.ref a.heap.objs.size) s3.heap.objs.size) s':=by
  rintro s' rfl;refine qd (λn s'=>∃ i l H',Inv X' [] l H' s'/\tn i s'.heap/\(∀ b∈fp,H' b=none)/\W i n l H') ?_ m0 ⟨0,_,_,I4,st4,λb f=>(M b f).1,w0⟩;rintro n s5 ⟨i,σ5,H5,I5,st5,fr5,w5⟩;have it5:=T.item X' eP eW eK eC i [] s5 σ5 H5 (λ_ _=>False) I5 (F fr5) st5;have dn5:=T.done X' eP eW eK eC i [] s5 σ5 H5 (λ_ _=>False) I5 (F fr5) st5;rw[eA] at it5 dn5;rcases turn i n σ5 H5 w5 with⟨stop,qn⟩ | ⟨go,step⟩
  ·refine thn (dn5 stop) λr s6 ⟨hr,I6⟩=>?_;subst hr;exact fin I6 qn
  ·refine thn (it5 go) λr s6 ⟨u,hr,h6⟩=>?_;subst hr;refine thn h6 λ_ s7 ⟨x,H7,I7,r7,y7,st7,fr7⟩=>?_;have I7':=I7.pinned (F fr7) (T.obj _ _ st7);have a7:=hg' _ s7 σ5 H7 x u _ I7' r7 (step x H7 y7);rw[eP,eW,eA,eX] at a7;refine thn a7 λ_ s8 ⟨G,H8,I8,q8⟩=>?_;have again:∀{t:Shared}{E:Hp},Inv X' ([]++qe fp s7.heap) G E t->(∃ D,D < n/\W (i+1) D G E)->∃ m,m < n/\∃ i l H',Inv X' [] l H' t/\tn i t.heap/\(∀ b∈fp,H' b=none)/\W i m l H':=λ{t E} S ⟨D,hm,w9⟩=>by
    refine⟨D,hm,i+1,G,E,S.unpinned,T.keep _ _ _ st7 λb f o e=>(S.pin (b,o) (U3 _ (U3 _ (yz f e)))).1,λb f=>?_,w9⟩;obtain⟨o,e,d⟩:=T.obj _ _ st7 b f;exact(S.pin (b,o) (U3 _ (U3 _ (yz f e)))).2.1
   have rest:∀(b:Bool) (t:Shared) (E:Hp),Inv X' ([]++qe fp s7.heap) G E t->(if b=true then te G E λy H6=>∃ ys,H6 a.heap.objs.size=some (.lst ys)/\ys.length < sizeLine/\∃ D,D < n/\W (i+1) D G (upd H6 a.heap.objs.size (.lst (ys++[y])))
     else ∃ D,D < n/\W (i+1) D G E) ->
     if b=true then wpAny (model X.prog X.w) X.A (eval elt X'.env) (λx s₄=>wpAny (model X.prog X.w) X.A (call (.builtin "list.append") [.ref a.heap.objs.size,x]) (λ_ s₅=>∃ m,m < n/\∃ i l H',Inv X' [] l H' s₅/\tn i s₅.heap/\(∀ b∈fp,H' b=none)/\W i m l H') (λ_ _=>False) s₄) (λ_ _=>False) t
     else ∃ m,m < n/\∃ i l H',Inv X' [] l H' t/\tn i t.heap/\(∀ b∈fp,H' b=none)/\W i m l H':=λb t E S q9=>by
    cases b with
    | false =>
     rw[if_neg M3] at q9 ⊢;exact again S q9
    | true =>
     rw[if_pos rfl] at q9 ⊢;have a9:=he' _ t G E _ S q9;rw[eP,eW,eA,eX] at a9;refine thn a9 λyv s10 ⟨y,H10,I10,r10,ys,e10,l10,q10⟩=>?_;have a10:=Jb _ s10 G H10 (.ref a.heap.objs.size) [y] (.ref a.heap.objs.size) [yv] (λ_ H'=>∃ D,D < n/\W (i+1) D G H') I10 rfl (.cons r10 .nil) ⟨_,ys,y,rfl,rfl,e10,l10,q10⟩;rw[eP,eW,eA,eX] at a10;exact thn a10 λ_ s11 ⟨_,H11,I11,_,q11⟩=>again I11 q11
   rcases R with⟨e1,e2⟩ | ⟨c,e1,e2⟩
   ·subst e1;rw[e2] at q8;exact wpAny_tests_nil (rest true s8 H8 I8 q8)
   ·subst e1;have a8:=e2 _ s8 G H8 _ I8 q8;rw[eP,eW,eA,eX] at a8;exact wpAny_tests_one (thn a8 λb t ⟨E,S,q9⟩=>rest b t E S q9)
 have U:codeAny (model X.prog X.w) X.A (.compStart (.ListComp elt [⟨tg,iter,ifs,0⟩] scope pos) 0 (.ref it) (.ref a.heap.objs.size) X'.env) (compPost (model X.prog X.w) X.A X.xe use QQ (.ref a.heap.objs.size) s3.heap.objs.size) { s3 with heap:=N,toks:=a.toks } :=
  codeAny_compStart_list (loop _ rfl) (T.self _ 0 _ _ _ st4 (loop _ rfl))
 rw[eE] at U;subst hs3;exact U
theorem wc(B:BlockOkC X scope N' ix)(d:X.calm=true)(hi:PI X tg iter wi)
  (e:∀ C s H fp,PG (yb X scope N' C s H fp) tg g) (a:∀ C s H fp,PIf (yb X scope N' C s H fp) ifs tc) (i:∀ C s H fp,PE (yb X scope N' C s H fp) elt te)
  (j:∀ x,foldedSetIterable iter X.env x=pure x:=by intro _;rfl):PE X (.ListComp elt [⟨tg,iter,ifs,0⟩] scope pos) (Vj wi g tc te ix):=by
 intro c s σ H Q I h;rw[eval_ListComp];exact Kx (use:=none) (Q:=λp b=>Q (.ref p) b) B d hi e a i j I h λp C o b q k f ⟨m,l⟩=>⟨m,l,λr n=>⟨.ref p,b,k.other f n,rfl,q⟩⟩
end L2
namespace QD
open PySem L2 PySem.Spec PyProof.Rows
theorem zI(B:BlockOkC X scope N' ix)(d:X.calm=true)(hi:QIb cl X tg iter wi pi)
  (b:∀ C s H fp,QG cl [] (yb X scope N' C s H fp) tg t g) (a:∀ C s H fp,QIf cl (yb X scope N' C s H fp) ifs tcc qq) (c:∀ C s H fp,QP cl (yb X scope N' C s H fp) elt te pe)
  (e:∀ x,foldedSetIterable iter X.env x=pure x:=by intro _;rfl):QP cl X (.ListComp elt [⟨tg,iter,ifs,0⟩] scope pos) (Vj wi t tcc te ix) (yH pi g qq pe ix) :=
 ⟨wc B d hi.sem (λC s H fp=>(b C s H fp).sem) (λC s H fp=>(a C s H fp).sem) (λC s H fp=>(c C s H fp).sem) e,
  Ye hi.den (b 0 X.s₀ X.H₀ []).den (a 0 X.s₀ X.H₀ []).den (c 0 X.s₀ X.H₀ []).den⟩
noncomputable def Kq(scope sc:Scope):Scope:={ scope with names:=scope.names.map λ(n,k)=>if(k==NameKind.free&&sc.kind==.function&&sc.names.lookup n==some .cell) then(n,NameKind.cell) else(n,k) }
theorem Kp(a:Scope)(h1:X.env.scope=a)(h:qv (Kq scope0 a) N0 scope N' ix=true):BlockOk (yb X scope0 N0 C s₃ H₃ fp) scope N' ix :=
 xo (Kq scope0 a) N0 (by subst h1;rfl) rfl h
end QD
namespace L2
open PySem PySem.Spec PyProof.Rows
structure KD(P:Program)(w:World)(K:PySem.W.Frag)(a:Addr)(kvs:List (Key×V)):Prop where
 nm:(a==sysModules)=false
 dd:∀ h:Heap,K.In h->∃ vs,KV kvs vs/\h.DictOf (jw P w) a vs
end L2
namespace QD
open PySem L2 PySem.Spec PyProof.Rows
end QD
namespace L2
open PySem PySem.Spec PyProof.Rows
end L2
namespace QD
open PySem L2 PySem.Spec PyProof.Rows
def PJ(R:RC)(i j:Nat)(ta:TA)(p:PAf):Prop:=∀{σ:L2.St}{ρ:Rh}{Z:Zn}{H:Hp}{O:List Addr}{ds:List D},Zd Z H->Slots R Z H ρ σ O->p ρ=some ds->∀{u:V},σ[i]?=some (some u) ->
 ∀{Q:List V->Hp->Prop},(∀{v1 v2:List V}{Z':Zn}{H':Hp},Go Z H [] Z' H' []->v1.length=j->Reps R Z' H' (ds.take j) v1 []->Reps R Z' H' (ds.drop j) v2 []->Q (v1++u::v2) H')->ta σ H Q
structure QJ(cl:Nat->Addr)(X:Cx)(i j:Nat)(es:List Expr)(ta:TA)(p:PAf):Prop where
 sem:PA X es ta
 den:PJ ⟨X.K,cl⟩ i j ta p
 n:∀ ρ ds,p ρ=some ds->ds.length+1=es.length/\j<=ds.length
noncomputable def oF(g:D->D->Option D):D->D->Option D:=λx y=>(g x y).bind λd=>bif frz d then some d else none
def DIt(R:RC)(wi:TI)(fi:FA):Prop:=∀{σ:L2.St}{ρ ρ':Rh}{Z:Zn}{H:Hp}{O:List Addr}{xs:List D},WF Z H O->Slots R Z H ρ σ O->fi ρ=some (xs,ρ') ->
 ∀{Q:It->Hp->Prop},(∀{J:It}{Z':Zn}{H':Hp}{O':List Addr},Go Z H O Z' H' O'->Slots R Z' H' ρ' σ O'->uT R J Z' H' xs->Q J H')->wi σ H Q
noncomputable def Qp(p:FA)(g:D->Rh->Option Rh)(f:FS):FS:=λρ=>(p ρ).bind λr=>yf g f r.1 r.2
theorem jaw(hi:DIt R wi p)(hg:PGt R pm tg g)(hf:DS R pm tb f):DS R pm (jaY wi tg tb) (Qp p g f):=by
 intro σ ρ Z H O o w s e D' k;unfold Qp at e;cases e1:p ρ with
 | none=>rw[e1] at e;cases e
 | some r =>
  obtain⟨c,ρ0⟩:=r;rw[e1,L3] at e;dsimp only at e;refine hi w s e1 λ{J K Q L} h s0 it=>?_;refine⟨λi m S y=>m=c.length - i/\i<=c.length/\∃ M A B,Go K Q L A y B/\Slots R A y M S B/\Keep pm σ S/\yf g f (c.drop i) M=some o,
   ⟨c.length,rfl,U5 _,ρ0,K,L,Go.refl h.wf,s0,Keep.refl _ _,e⟩,?_⟩
  rintro i m S y ⟨rfl,hi',M,A,B,l,X,kp,b⟩;have C:=it (Z1:=A) (H1:=y) l.zz (λa z=>l.zH h.wf a z) l.wf.zd i;by_cases D:i < c.length
  ·right
   have Y:c[i]?=some c[i]:=by simp[D]
   obtain⟨go,yl⟩:=C.2 _ Y;rw[kz Y] at b;unfold yf at b;cases e3:g c[i] M with
   | none=>rw[e3] at b;cases b
   | some ρ1 =>
    rw[e3] at b;dsimp only at b;cases e4:f ρ1 with
    | none=>rw[e4] at b;cases b
    | some o1 =>
     rw[e4] at b;refine⟨go,λT n=>∃ j q N,Go K Q L q n N/\Slots R q n j T N/\Keep pm σ T/\yf g f (c.drop (i+1)) j=some o,λT n ⟨j,q,N,a1,a2,a3,a4⟩=>⟨c.length - (i+1),by omega,rfl,D,j,q,N,a1,a2,a3,a4⟩,λu n hy=>?_⟩;obtain⟨q,g2,r2⟩:=yl u n hy;have E:Go A y B q n B:=by simpa using g2.widen l.wf
     refine hg r2 (g2.slots l.wf.zd X) e3 λ{σ3 O3} sub nd s3 P=>?_;have F:Go K Q L q n O3:=(l.trans E).drop sub (nd E.wf.nd);refine hf F.wf s3 e4 ?_;cases o1 with
     | nx j=>exact λ{U G V I} t v x=>⟨j,G,I,F.trans t,v,kp.trans (P.trans x),b⟩
     | ct j=>exact λ{U G V I} t v x=>⟨j,G,I,F.trans t,v,kp.trans (P.trans x),b⟩
     | bk j=>cases b;exact λ{U G V I} t v x=>k (h.trans (F.trans t)) v (kp.trans (P.trans x))
     | rt d j=>cases b;exact λ{v4 U G V P4 I} t r4 v x=>k (h.trans (F.trans t)) r4 v (kp.trans (P.trans x))
  ·left
   have W:i=c.length:=by omega
   refine⟨C.1 (by omega),?_⟩;rw[W,List.drop_length] at b;cases b;exact k (h.trans l) X kp
structure QTE(cl:Nat->Addr)(X:Cx)(e:Expr)(tt:TT)(f:FT'):Prop where
 sem:PT X e tt
 den:DT ⟨X.K,cl⟩ tt f
structure QWE(cl:Nat->Addr)(X:Cx)(e:Expr)(tt:TT)(f:FT'):Prop where
 sem:PW X e tt
 den:DT ⟨X.K,cl⟩ tt f
structure QIE(cl:Nat->Addr)(X:Cx)(tg e:Expr)(wi:TI)(p:FA):Prop where
 sem:PI X tg e wi
 den:DIt ⟨X.K,cl⟩ wi p
theorem jcf(c:PassesOwn (model X.prog X.w) X.A X.env X.xe)(d:X.calm=true)(hi:QIE cl X tg iter wi fi)(a:QG cl pm X tg t g)(b:QSs cl pm X body ts f)(e:∀ x,foldedSetIterable iter X.env x=pure x:=by intro _;rfl):QS cl pm X (.For tg iter body [] pos) (jaY wi t ts) (Qp fi g f) :=
 ⟨xf c d hi.sem a.sem b.sem e,jaw hi.den a.den b.den⟩
end QD
namespace L2
open PySem PySem.Spec PyProof.Rows
theorem jeh(l:Addr)(items:Array Value)(n:Nat)(b:Addr)(a:Array Value)(n2:Nat)(dd:Option Addr)(sl:Array (Option Value))(f:¬(!items.isEmpty&&Builtin.List.listTooLong (items.size+a.size))=true)(h1:items.size<=sizeLine)(h2:items.size+a.size<=sizeLine+1) :
  Meets (Builtin.«list.extend» ⟨[.ref l,.ref b],[]⟩) (λ_ R s=>s.heap.get? l=some { cls:=.type "list",dict:=none,data:=.seq items n,slots:=#[] }/\s.heap.get? b=some { cls:=.type "list",dict:=dd,data:=.seq a n2,slots:=sl }/\R (.ok (.ret Value.none)) { s with heap:=s.heap.update l (Obj.mapSeq λx=>x++a) }) :=
 .of_wp λprog w A R s h=>by
  rcases s with⟨g,i,j,k,os⟩;obtain⟨c,e,q⟩:=h;have m:=AutoSeq1.idx_int;have o:=AutoSeq1.sub_tuple_tuple;have p:=AutoSeq1.sub_list_list;have r:=AutoSeq1.sub_tuple_list;have t:=AutoSeq1.sub_list_tuple;have d:(items++a).size<=sizeLine+1:=by rw[Array.size_append];exact h2
  wp_walk using(wpAny_updateSeq c rfl (hz:=h1) (_hz':=d)),wpAny_loadPart' c,wpAny_loadPart' e
  exact⟨_,rfl,q⟩
theorem jd0(l:Addr)(items:Array Value)(n:Nat)(b:Addr)(a:Array Value)(n2:Nat)(dd:Option Addr)(sl:Array (Option Value))(f:¬(!items.isEmpty&&Builtin.List.listTooLong (items.size+a.size))=true)(h1:items.size<=sizeLine)(h2:items.size+a.size<=sizeLine+1) :
  Meets (Builtin.«list.extend» ⟨[.ref l,.ref b],[]⟩) (λ_ R s=>s.heap.get? l=some { cls:=.type "list",dict:=none,data:=.seq items n,slots:=#[] }/\s.heap.get? b=some { cls:=.type "tuple",dict:=dd,data:=.seq a n2,slots:=sl }/\R (.ok (.ret Value.none)) { s with heap:=s.heap.update l (Obj.mapSeq λx=>x++a) }) :=
 .of_wp λprog w A R s h=>by
  rcases s with⟨g,i,j,k,os⟩;obtain⟨c,e,q⟩:=h;have m:=AutoSeq1.idx_int;have o:=AutoSeq1.sub_tuple_tuple;have p:=AutoSeq1.sub_list_list;have r:=AutoSeq1.sub_tuple_list;have t:=AutoSeq1.sub_list_tuple;have d:(items++a).size<=sizeLine+1:=by rw[Array.size_append];exact h2
  wp_walk using(wpAny_updateSeq c rfl (hz:=h1) (_hz':=d)),wpAny_loadPart' c,wpAny_loadPart' e
  exact⟨_,rfl,q⟩
def zi(K:PySem.W.Frag):V->List V->Hp->VK->Prop:=λx vs H Q=>∃ l b xs zs,x=.ref l/\vs=[.ref b]/\H l=some (.lst xs)/\(SqL K H b zs \/ SqT K H b zs)/\xs.length+zs.length<=sizeLine/\Q .non (upd H l (.lst (xs++zs)))
theorem zB:MtM X "list.extend" (zi X.K):=by
 intro y s σ H x E v G Q I B C h;obtain⟨l,b,J,L,rfl,rfl,o,g,A,q⟩:=h;cases B;obtain⟨u,rfl,D⟩:=C.one;cases D;obtain⟨z,c,n,r,M,e⟩:=I.lstM o;rcases g with g | g
 ·obtain⟨a,i,p2,_⟩:=I.list g;obtain⟨⟨cls,dd,data,k⟩,m,p,j,hd,t⟩:=p2;simp only at j hd t
  first | subst j | skip
  have f:c.toArray.size+a.toArray.size<=sizeLine:=by rw[N3,N3,<- r.length,<- i.length];exact A
  have d:¬ (!c.toArray.isEmpty&&Builtin.List.listTooLong (c.toArray.size+a.toArray.size))=true:=by
   rw[Kn f,Bool.and_false];exact M3
  have w:s.heap.get? b=some { cls:=.type "list",dict:=dd,data:=.seq a.toArray m,slots:=k }:=by
   rw[p];simp_all
  refine call_meets PySem.F.slot_list_extend ⟨_,e,rfl⟩ PySem.F.entry_list_extend (PySem.F.args_list_extend_2 _ _) (jeh l c.toArray n b a.toArray m dd k d (by omega) (by omega)) ⟨e,w,?_⟩;refine⟨.non,_,I.lset (its':=c++a) o e (by simp) (r.append i) ?_,rfl,q⟩;rw[N4];omega
 ·obtain⟨a,i,p2,_⟩:=I.tuple g;obtain⟨⟨cls,dd,data,k⟩,p,j,m,hd⟩:=p2;simp only at j hd;subst j hd;have f:c.toArray.size+a.toArray.size<=sizeLine:=by rw[N3,N3,<- r.length,<- i.length];exact A
  have d:¬ (!c.toArray.isEmpty&&Builtin.List.listTooLong (c.toArray.size+a.toArray.size))=true:=by
   rw[Kn f,Bool.and_false];exact M3
  refine call_meets PySem.F.slot_list_extend ⟨_,e,rfl⟩ PySem.F.entry_list_extend (PySem.F.args_list_extend_2 _ _) (jd0 l c.toArray n b a.toArray m dd k d (by omega) (by omega)) ⟨e,p,?_⟩;refine⟨.non,_,I.lset (its':=c++a) o e (by simp) (r.append i) ?_,rfl,q⟩;rw[N4];omega
end L2
namespace QD
open PySem L2 PySem.Spec PyProof.Rows
noncomputable def Js:D->Option (List D)
 | .lst _ m=>bif frzs m then some m else none
 | .tup m=>bif frzs m then some m else none
 | _=>none
noncomputable def jbx(i:Nat)(p:PF):FS:=λρ=>(p ρ).bind λe=>(Js e).bind λm=>match ρ[i]? with
 | some (some (.lst true l))=>bif lim (l.length+m.length) then some (.nx (ρ.set i (some (.lst true (l++m))))) else none
 | _=>none
theorem jdq(h:PB R te p):DS R pm (qP (tBM R.K "list" (zi R.K) (vB i) (y9 te Vn))) (jbx i p):=by
 intro σ ρ Z H O o w s e D' k;unfold jbx at e;cases e1:p ρ with
 | none=>rw[e1] at e;cases e
 | some d =>
  rw[e1,L3] at e;cases e2:Js d with
  | none=>rw[e2] at e;cases e
  | some m =>
   rw[e2,L3] at e;split at e
   ·rename_i l T;cases hlim:lim (l.length+m.length) with
    | false=>rw[hlim] at e;cases e
    | true =>
     rw[hlim] at e;cases e;obtain⟨A,P,B,rfl,k1,k2,_⟩:=s.put (L8.mp T).1;obtain⟨v,U,r⟩:=k1 _ T;rw[Rep] at r;obtain⟨a,j,y,rfl,V,E,rfl⟩:=r;refine⟨.ref a,U,.inl ⟨rfl,j,SqL.of E⟩,?_⟩;refine h w.zd s e1 λ{u x g P1} q F=>?_;have W:Go Z H (A++a::y++B) x g (A++a::y++B):=by simpa using q.widen w
     have G:=W.wf;have I:g a=some (.lst j):=by rw[q.same a (by rw[E];exact λz=>(nomatch z))];exact E
     have J:=q.reps w.zd V
     -- the things put behind
     have hm:∃ b f,u=.ref b/\(SqL R.K g b f \/ SqT R.K g b f)/\Reps R x g m f []:=by
      cases d with
      | lst o' L =>
       simp only[Js] at e2;cases hf:frzs L with
       | false=>rw[hf] at e2;cases e2
       | true =>
        rw[hf] at e2;cases e2;rw[Rep] at F;obtain⟨b,f,O'',rfl,C,D⟩:=F;cases o' with
        | true=>exact⟨b,f,rfl,.inl (SqL.of D.1),C.frozen hf⟩
        | false=>exact⟨b,f,rfl,.inl (FL.sq D.1),C.frozen hf⟩
      | tup L =>
       simp only[Js] at e2;cases hf:frzs L with
       | false=>rw[hf] at e2;cases e2
       | true =>
        rw[hf] at e2;cases e2;obtain⟨b,f,rfl,D,C⟩:=F.tup_of;exact⟨b,f,rfl,.inr D,C.frozen hf⟩
      | _=>cases e2
     obtain⟨b,f,rfl,hb,X⟩:=hm;refine⟨a,b,j,f,rfl,rfl,I,hb,by rw[V.length,X.length];exact vS hlim,?_⟩;have nd:=G.nd;simp only[U8,N2,List.nodup_cons,M4] at nd;obtain⟨⟨nA,⟨na,nO⟩,M⟩,nB,N⟩:=nd;have t:∀ c,x c->upd g a (.lst (j++f)) c=g c:=λc z=>jd λe=>G.nz a (by simp) (e▸z);have Q:Reps R x (upd g a (.lst (j++f))) l j y:=J.frame (λ_ z=>z) t λc n=>jd λe=>na (e▸n);have S:Reps R x (upd g a (.lst (j++f))) m f []:=X.frame (λ_ z=>z) t λc n=>(nomatch n);have r2:Rep R x (upd g a (.lst (j++f))) (.lst true (l++m)) (.ref a) (a::y):=by
      rw[Rep];refine⟨a,j++f,y,rfl,?_,jo,rfl⟩;have:=Q.append S;simpa using this
     have sA:∀ c,c∈A->upd g a (.lst (j++f)) c=H c:=λc n=>by
      rw[jd λe=>M c n a (.inl rfl) e];exact q.same c (w.od c (by simp[n]))
     have sB:∀ c,c∈B->upd g a (.lst (j++f)) c=H c:=λc n=>by
      rw[jd λe=>N a (.inr (.inl rfl)) c n e.symm];exact q.same c (w.od c (by simp[n]))
     have Y:=k2 r2 q.zz (λc z=>by rw[t c (q.zz c z)];exact q.same c (w.zd c z)) sA sB;rw[jH U] at Y;exact k (W.trans (Go.put G (by simp))) Y (Keep.refl _ _)
   ·cases e
theorem jb4(j:QB cl X (.Name x xpos) (vB i) (pV i))(h:QB cl X e te pe)(b:attributeBase (.Name x xpos) "extend" X.env (eval (.Name x xpos) X.env)=eval (.Name x xpos) X.env:=by rfl)
  (d:((backTo cpos (starEach [e] X.env)).all (λx=>!x.1)&&(backToKw cpos (keywordEach [] X.env)).all (λx=>x.1.isSome)
   && decide ([e].length+([]:List Keyword).length+(if([]:List Keyword).isEmpty then 0 else 1) < 30))=true:=by rfl)
  (c:(apos.endLine==cpos.line)=true:=by rfl) (g:starEach [e] X.env=(false,eval e X.env)::starEach [] X.env:=by rfl) (a:(backTo cpos (starEach [] X.env)).any (·.1)=false:=by rfl)
  (f:swapsWith (.Call (.Attribute (.Name x xpos) "extend" apos) [e] [] cpos) none pos.line X.env=pure false:=by rfl) :
  QS cl pm X (.Expr (.Call (.Attribute (.Name x xpos) "extend" apos) [e] [] cpos) pos) (qP (tBM X.K "list" (zi X.K) (vB i) (y9 te Vn))) (jbx i pe) :=
 ⟨qR (QM PySem.F.plainAttrs_list PySem.F.slot_list_extend PySem.F.type_list_extend zB j.sem (vo h.sem Jd g) b d c g a) f,jdq h.den⟩
end QD
namespace QD
open PySem L2
theorem jg(h:n<=100000):lim n=true:=X0 h
theorem Qf(a:0<=i)(h:i < l.length):atI l i=l[i.toNat]?:=by
 unfold atI ixN;rw[if_pos (by omega),if_pos (by omega)];rfl
theorem qu(h:(ql lo n)[i]?=some x):x=.int (lo+i)/\i < n:=by
 unfold ql at h;rw[List.getElem?_map] at h;by_cases a:i < n
 ·rw[List.getElem?_range a] at h;cases h;exact⟨rfl,a⟩
 ·rw[List.getElem?_eq_none (by simpa using a)] at h;cases h
theorem vH(lo:Int)(n:Nat):(ql lo n).length=n:=by simp[ql]
@[simp] theorem uL(a b:List Nat):k7 (.str a) (.str b)=some (.bl (a==b)):=rfl
@[simp] theorem ne_ss(a b:List Nat):ua (.str a) (.str b)=some (.bl (!(a==b))):=rfl
@[simp] theorem isnot_i(i:Int):yL (.int i) .non=some (.bl true):=rfl
@[simp] theorem isnot_n:yL .non .non=some (.bl false):=rfl
@[simp] theorem isnot_s(a:List Nat):yL (.str a) .non=some (.bl true):=rfl
@[simp] theorem is_i(i:Int):wX (.int i) .non=some (.bl false):=rfl
@[simp] theorem is_n:wX .non .non=some (.bl true):=rfl
@[simp] theorem is_s(a:List Nat):wX (.str a) .non=some (.bl false):=rfl
@[simp] theorem in_cs(neg:Bool)(c:Nat)(s:List Nat):Ve neg (.str [c]) (.str s)=some (.bl (neg != decide (c∈s))):=rfl
@[simp] theorem neg_i(i:Int):Qk (.int i)=some (.int (-i)):=rfl
theorem kS(h:a.length+b.length<=100000):jt (.str a) (.str b)=some (.str (a++b)):=by
 show(bif lim (a.length+b.length) then some (D.str (a++b)) else none)=_;rw[jg h];rfl
theorem jeU(a:s.length<=100000)(b:0<=i)(h:i < s.length):jB (.str s) (.int i)=some (.str [s.getD i.toNat 0]):=by
 show(bif lim s.length then(match atI s i with | some c=>some (D.str [c]) | none=>none) else none)=_;rw[jg a,Qf b h];have:i.toNat < s.length:=by omega
 simp[this]
theorem jcN(a:s.length<=100000):uA lo hi (.str s)=some (.str (yB s lo hi)):=by
 show(bif lim s.length then some (D.str (yB s lo hi)) else none)=_;rw[jg a];rfl
@[simp] theorem itemsOf_str(s:List Nat):qE (.str s)=some (s.map λc=>D.str [c]):=rfl
theorem YX(w:List Nat)(l:List (List Nat)):Qd (.str w) (l.map D.str)=true:=by
 unfold Qd;rw[L9];refine⟨rfl,List.all_eq_true.mpr λy a=>?_⟩;obtain⟨z,_,rfl⟩:=M5.mp a;rfl
theorem V2(w:List Nat)(l:List (List Nat)):inL (.str w) (l.map D.str)=decide (w∈l):=by
 unfold inL;rw[Bool.eq_iff_iff,List.any_eq_true,decide_eq_true_eq];constructor
 ·rintro⟨y,a,e⟩;obtain⟨z,b,rfl⟩:=M5.mp a;have:z=w:=by
   have e:(z==w)=true:=e;exact eq_of_beq e
  exact this▸b
 ·intro h;exact⟨.str w,M5.mpr ⟨w,h,rfl⟩,by show(w==w)=true;simp⟩
theorem uQ(neg o:Bool)(w:List Nat)(l:List (List Nat)):Ve neg (.str w) (.lst o (l.map D.str))=some (.bl (neg != decide (w∈l))):=by
 show(bif Qd (.str w) (l.map D.str) then some (D.bl (neg != inL (.str w) (l.map D.str))) else none)=_;rw[YX,V2];rfl
mutual
theorem wR:∀(n:Nat) (d:D),okE n d=true->eqD d d=true
 | n,.non,_=>rfl
 | n,.bl _,_=>by show(_==_)=true;simp
 | n,.int _,_=>by show(_==_)=true;simp
 | n,.str _,_=>by show(_==_)=true;simp
 | n+1,.tup l,h=>by rw[eqD];exact qL n l (by simpa [okE] using h)
 | n+1,.lst _ l,h=>by rw[eqD];exact qL n l (by simpa [okE] using h)
 | 0,.tup l,h=>by simp[okE] at h
 | 0,.lst _ l,h=>by simp[okE] at h
 | n,.dK _ _ _,h=>by cases n<;>simp[okE] at h
 | n,.dT _ _ _,h=>by cases n<;>simp[okE] at h
 | n,.ins _ _ _ _,h=>by cases n<;>simp[okE] at h
 | n,.dead,h=>by cases n<;>simp[okE] at h
theorem qL:∀(n:Nat) (l:List D),y8 n l=true->KJ l l=true
 | n,[],_=>rfl
 | n,d::l,h=>by
  rw[y8,L9] at h;rw[KJ,wR n d h.1,qL n l h.2];rfl
end
theorem Vm(h:∀ d∈l,okE n d=true):y8 n l=true:=by rw[Kk];exact List.all_eq_true.mpr h
theorem vn:∀{l:List D},(∀ d∈l,frz d=true)->frzs l=true
 | [],_=>rfl
 | d::l,h=>by rw[YR,h d (by simp),vn λx a=>h x (by simp[a])];rfl
theorem jam(h:∀ c∈w,c < 1114112):okE n (.str w)=true:=by
 have:okE n (.str w)=w.all λc=>decide (c < 1114112):=by cases n<;>rfl
 rw[this];exact List.all_eq_true.mpr λc a=>X0 (h c a)
@[simp] theorem okE_int(n:Nat)(i:Int):okE n (.int i)=true:=by cases n<;>rfl
theorem jeW(a:frzs l=true):uA lo hi (.lst o l)=some (.lst true (yB l lo hi)):=by
 show(bif frzs l then some (D.lst true (yB l lo hi)) else none)=_;rw[a];rfl
theorem jbB(a:0<=i)(h:i < l.length):jB (.lst o l) (.int i)=l[i.toNat]?:=Qf a h
@[simp] theorem fzs_strs(l:List (List Nat)):fzs (l.map D.str)=l.map D.str:=by
 rw[yE,U1];rfl
@[simp] theorem jC(l:List (List Nat)):frzs (l.map D.str)=true:=by
 rw[J6,List.all_map,List.all_eq_true];intro x _;rfl
@[simp] theorem cleans_strs(l:List (List Nat)):jN (l.map D.str)=true:=by
 rw[jV,List.all_map,List.all_eq_true];intro x _;rfl
theorem wk{l:List α}{i:Nat}(h:i < l.length):l.getD i d∈l:=by
 rw[List.getD_eq_getElem?_getD,X5 h];exact List.getElem_mem h
theorem x9(f:α->β)(l:List α)(lo hi:Option Int):yB (l.map f) lo hi=(yB l lo hi).map f:=by
 unfold yB;rw[L0,List.map_take,List.map_drop]
mutual
theorem jc2:∀(n:Nat) (d:D),okE n d=true->eqD (fz d) d=true
 | n,.non,_=>rfl
 | n,.bl _,_=>by show(_==_)=true;simp
 | n,.int _,_=>by show(_==_)=true;simp
 | n,.str _,_=>by show(_==_)=true;simp
 | n+1,.tup l,h=>by rw[fz,eqD];exact VF n l (by simpa [okE] using h)
 | n+1,.lst _ l,h=>by rw[fz,eqD];exact VF n l (by simpa [okE] using h)
 | 0,.tup l,h=>by simp[okE] at h
 | 0,.lst _ l,h=>by simp[okE] at h
 | n,.dK _ _ _,h=>by cases n<;>simp[okE] at h
 | n,.dT _ _ _,h=>by cases n<;>simp[okE] at h
 | n,.ins _ _ _ _,h=>by cases n<;>simp[okE] at h
 | n,.dead,h=>by cases n<;>simp[okE] at h
theorem VF:∀(n:Nat) (l:List D),y8 n l=true->KJ (fzs l) l=true
 | n,[],_=>rfl
 | n,d::l,h=>by
  rw[y8,L9] at h;rw[fzs,KJ,jc2 n d h.1,VF n l h.2];rfl
end
mutual
theorem Qx:∀(n:Nat) (d e:D),okE n d=true->fz d=fz e->eqD d e=true
 | n,.non,e,_,h=>by cases e<;>simp[fz] at h;rfl
 | n,.bl _,e,_,h=>by cases e<;>simp[fz] at h;subst h;show(_==_)=true;simp
 | n,.int _,e,_,h=>by cases e<;>simp[fz] at h;subst h;show(_==_)=true;simp
 | n,.str _,e,_,h=>by cases e<;>simp[fz] at h;subst h;show(_==_)=true;simp
 | n+1,.tup l,e,h,q=>by
  cases e<;>simp[fz] at q;rw[eqD];exact Vl n l _ (by simpa [okE] using h) q
 | n+1,.lst _ l,e,h,q=>by
  cases e<;>simp[fz] at q;rw[eqD];exact Vl n l _ (by simpa [okE] using h) q
 | 0,.tup l,e,h,_=>by simp[okE] at h
 | 0,.lst _ l,e,h,_=>by simp[okE] at h
 | n,.dK _ _ _,e,h,_=>by cases n<;>simp[okE] at h
 | n,.dT _ _ _,e,h,_=>by cases n<;>simp[okE] at h
 | n,.ins _ _ _ _,e,h,_=>by cases n<;>simp[okE] at h
 | n,.dead,e,h,_=>by cases n<;>simp[okE] at h
theorem Vl:∀(n:Nat) (l m:List D),y8 n l=true->fzs l=fzs m->KJ l m=true
 | n,[],[],_,_=>rfl
 | n,[],_::_,_,q=>by simp[fzs] at q
 | n,_::_,[],_,q=>by simp[fzs] at q
 | n,d::l,e::m,h,q=>by
  rw[y8,L9] at h;rw[fzs,fzs] at q;injection q with q1 q2;rw[KJ,Qx n d e h.1 q1,Vl n l m h.2 q2];rfl
end
theorem Qm(h:okE 20 d=true)(h':okE 20 e=true)(q:fz d=fz e)(a:vA d=false:=by rfl):ua d e=some (.bl false):=by
 unfold ua;rw[a,h,h',Qx 20 d e h q];rfl
theorem jaZ(h:okE 20 d=true)(h':okE 20 e=true)(q:fz d=fz e)(a:vA d=false:=by rfl):k7 d e=some (.bl true):=by
 unfold k7;rw[a,h,h',Qx 20 d e h q];rfl
theorem Jg:∀ l:List (List Nat×D),vP (l.map λp=>.tup [.str p.1,p.2])=some (l.map λp=>(KA.str p.1,p.2))
 | []=>rfl
 | p::l=>by
  rw[L4,vP,Jg l];rfl
theorem qG:∀(ps:List (KA×D)) (ks:List KA) (vs:List D),(ks++ps.map (·.1)).Nodup->ps.foldl (λacc kv=>yM acc.1 acc.2 kv.1 kv.2) (ks,vs)=(ks++ps.map (·.1),vs++ps.map (·.2))
 | [],ks,vs,_=>by simp
 | p::ps,ks,vs,h=>by
  have a:p.1∉ks:=by
   rw[L4] at h;intro z;exact(U8.mp h).2.2 p.1 z p.1 (by simp) rfl
  rw[U9];have b:yM ks vs p.1 p.2=(ks++[p.1],vs++[p.2]):=by unfold yM;rw[if_neg a]
  show ps.foldl _ (yM ks vs p.1 p.2)=_;rw[b,qG ps (ks++[p.1]) (vs++[p.2]) (by simpa using h)];simp
theorem KU{l:List (List Nat×D)}(hn:(l.map (·.1)).Nodup)(g:∀ p∈l,frz p.2=true)(i:l.length<=100000):KG [.lst o (l.map λp=>.tup [.str p.1,p.2])]=some (.dK true (l.map λp=>KA.str p.1) (l.map (·.2))):=by
 have j:((l.map λp=>(KA.str p.1,p.2)).map (·.1)).Nodup:=by
  rw[U1];have:((λx:KA×D=>x.1) ∘ λp:List Nat×D=>(KA.str p.1,p.2))=KA.str ∘ (·.1):=rfl;rw[this,<- U1];exact List.Pairwise.map _ (λa b h z=>h (by cases z;rfl)) hn
 have e:=qG (l.map λp=>(KA.str p.1,p.2)) [] [] (by simpa using j);show((vP (l.map λp=>.tup [.str p.1,p.2])).bind λc=>bif frzs (c.map (·.2))&&lim c.length then some (D.dK true (Vy c).1 (Vy c).2) else none)=_;rw[Jg,L3];have f:((l.map λp=>(KA.str p.1,p.2)).map (·.2))=l.map (·.2):=by rw[U1];rfl
 rw[f,vn (by intro d hd;obtain⟨p,k,rfl⟩:=M5.mp hd;exact g p k),L0,jg i];unfold Vy;rw[e,f];simp[U1]
noncomputable def lkp{α:Type}(w:List Nat):List (List Nat×α)->Option α
 | []=>none
 | p::l=>if p.1=w then some p.2 else lkp w l
theorem Yr(w:List Nat):∀ l:List (List Nat×D),JI (l.map λp=>KA.str p.1) (l.map (·.2)) (.str w)=lkp w l
 | []=>rfl
 | p::l=>by
  rw[L4,L4,JI,lkp,Yr w l];by_cases h:p.1=w
  ·rw[if_pos h,if_pos (by rw[h])]
  ·rw[if_neg h,if_neg (λz=>h (by cases z;rfl))]
theorem QA(f:α->β)(w:List Nat):∀ l:List (List Nat×α),lkp w (l.map λp=>(p.1,f p.2))=(lkp w l).map f
 | []=>rfl
 | p::l=>by
  rw[L4,lkp,lkp,QA f w l];by_cases h:p.1=w
  ·rw[if_pos h,if_pos h];rfl
  ·rw[if_neg h,if_neg h]
theorem J3:∀{l:List (List Nat×α)},w∈l.map (·.1)->∃ a,lkp w l=some a/\(w,a)∈l
 | [],h=>by cases h
 | p::l,h=>by
  rw[lkp];by_cases e:p.1=w
  ·rw[if_pos e];exact⟨p.2,rfl,by rw[<- e];simp⟩
  ·rw[if_neg e];rw[L4] at h;obtain⟨a,b,c⟩:=J3 ((M4.mp h).resolve_left λz=>e z.symm);exact⟨a,b,by simp[c]⟩
theorem YG:∀{l:List (List Nat×α)},(l.map (·.1)).Nodup->∀ p∈l,lkp p.1 l=some p.2
 | [],_,_,h=>by cases h
 | q::l,a,p,h=>by
  rw[L4,List.nodup_cons] at a;rw[lkp];rcases M4.mp h with rfl | h
  ·rw[if_pos rfl]
  ·rw[if_neg λz=>a.1 (by rw[z];exact M5.mpr ⟨p,h,rfl⟩)];exact YG a.2 p h
noncomputable def fnOf(S:List (List Nat×Int))(n:List Nat):Int:=(lkp n S).getD 0
variable {ρ:Rh}{fa fb fe:FE}{ft fu:FT'}{fr:FA}{p:PAf}{pi:PAf}{g:D->D->Option D}{gl:List D->Option D}{G:D->Rh->Option Rh}{f:FS}{m:List D->Option (D×D)}{mp:List D->Option D}{i j:Nat}
@[simp] theorem oF_e:oF g x y=(g x y).bind λd=>bif frz d then some d else none:=rfl
theorem jbT:pV i ρ=(ρ[i]?).join:=by
 unfold pV;cases h:ρ[i]? with
 | none=>rfl
 | some o=>cases o<;>rfl
@[simp] theorem sForE_e:Qp fr G f ρ=(fr ρ).bind λr=>yf G f r.1 r.2:=rfl
end QD
namespace L2
open PySem PySem.Spec PyProof.Rows
end L2
namespace QD
open PySem L2 PySem.Spec PyProof.Rows
end QD
namespace L2
open PySem PySem.Spec PyProof.Rows
section
open AutoSeq1 (wpAny_loadPart') in
end
end L2
namespace QD
open PySem L2 PySem.Spec PyProof.Rows
end QD
namespace L2
open PySem PySem.Spec PyProof.Rows
theorem jbf:typeLookup (.type "list_reverseiterator") "__len__" = pure none:=by rw[typeLookup_type,builtinLookup_eq_fast];kernel_rfl
theorem x8:typeLookup (.type "list_reverseiterator") "__length_hint__" = pure (some (.builtin "list_reverseiterator.__length_hint__")):=by rw[typeLookup_type,builtinLookup_eq_fast];kernel_rfl
section
variable {prog:Program}{w:World}{A:Around}{s:Shared}{R:Result->Shared->Prop}
variable {I:Addr}{fp wr:List Addr}{G:Array GenState->Array GenState->Prop}{n:Nat}{P:Nat->Value->Prop}{St:Nat->Shared->Prop}
theorem K3(W:WalksS prog w A.in1 I fp wr G n P St)(h:∀ i s,St i s->s.TypeIs (.ref I) "list_reverseiterator")(S:Addr)(res:Value)(l:Nat)(a:St 0 s)(d:S∉fp)(m:I∈fp)
  (o:s.heap.get? S=some { cls:=.type "list",data:=.seq #[] l })
  (p:∀ s' acc c,Moved (S::wr) G s s'->s'.heap.get? S=some { cls:=.type "list",dict:=none,data:=.seq acc c,slots:=#[] }->ItemsOf P acc n->R (.ok (.ret res)) s') (hn:n<=sizeLine) :
  wpAny (model prog w) A.in1 (Builtin.List.listExtendWith (.ref S) (.ref I) res)
   (λfin s'=>match fin with | .done f=>R (.ok f) s' | .again c'=>c'.quiet=true/\codeAny (model prog w) A c' R s') (λe s'=>R (.error e) s') s:=by
 have j:S≠I:=λe=>d (e▸m);unfold Builtin.List.listExtendWith;refine L1 (wpAny_typeOf (h 0 _ a) ?_);have q:Builtin.List.listSameRef (.ref S) (.ref I)=false:=by simp[Builtin.List.listSameRef,j]
 rw[if_neg (by rw[q];decide)];refine L1 (W.self 0 _ _ _ a ?_);refine L1 (wpAny_holding ?_);unfold Builtin.List.listLengthHint;refine L1 (wpAny_specialOf (h 0 _ a) jbf ?_);show wpAny _ A.in1 (specialOf (Value.ref I) (Str.ofString "__length_hint__") >>= _) _ _ _;refine L1 (wpAny_specialOf (h 0 _ a) x8 ?_);generalize g:("list_reverseiterator.__length_hint__" : String)=id0
 wp_delta
 rw[show splitId id0=some ("list_reverseiterator","__length_hint__") from by subst g;decide +kernel];subst g;refine L1 (wpAny_isInstance (b:=true) (h 0 _ a) (by rw[isSubtype_type];kernel_rfl) ?_);refine M6 ?_;rw[if_neg (by decide)];refine M6 ⟨plainId_quiet F.plain_extend_loop _,codeAny_extend_loopS W hn _ d _ n 0 _ _ _ rfl (U5 _) a o (ItemsOf.nil P) λs' acc c r k t=>?_⟩;exact p s' acc c r k t
theorem wt(W:WalksS prog w A.in1 I fp wr G n P St)(p:∀ i s,St i s->s.TypeIs (.ref I) "list_reverseiterator")(S:Addr)(j:St 0 s)(a:S∉fp)(q:I∈fp)
  (k:s.heap.get? S=some { cls:=.type "list",data:=.seq #[] })
  (r:∀ s' acc c,Moved (S::wr) G s s'->s'.heap.get? S=some { cls:=.type "list",dict:=none,data:=.seq acc c,slots:=#[] }->ItemsOf P acc n->R (.ok (.ret .none)) s') (hn:n<=sizeLine) :
  wpAny (model prog w) A.in1 (Builtin.«list.__init__» ⟨[.ref S,.ref I],[]⟩)
   (λfin s'=>match fin with | .done f=>R (.ok f) s' | .again c'=>c'.quiet=true/\codeAny (model prog w) A c' R s') (λe s'=>R (.error e) s') s:=by
 show wpAny _ A.in1 (do let was <- Builtin.List.listItems (.ref S);Builtin.List.listUpdate (.ref S) (λ_=>#[]);letGo was.toList.reverse;Builtin.List.listExtendWith (.ref S) (.ref I) .none) _ _ s;refine L1 ?_;unfold Builtin.List.listItems;refine L1 (wpAny_seqItems k rfl (M6 ?_));show wpAny _ A.in1 (updateSeq S (λ_=>#[]) >>= λ_=>letGo (#[]:Array Value).toList.reverse >>= λ_=>Builtin.List.listExtendWith (.ref S) (.ref I) .none) _ _ s;refine L1 (wpAny_updateSeq k rfl ?_);have l:=Heap.get?_update_self (Obj.mapSeq (λ_=>(#[]:Array Value))) k rfl;have d:∀ b o,b≠S->s.heap.get? b=some o->(s.heap.update S (Obj.mapSeq (λ_=>(#[]:Array Value)))).get? b=some o:=λb o g e=>(Heap.get?_update_other _ _ (Ne.symm g)).trans e;refine L1 (wpAny_letGo ?_);refine K3 (hn:=hn) W p S .none _ (W.frame 0 s _ s.toks j (M8 _) λb g o e=>d b o (λh=>a (h▸g)) e) a q l λs' acc c t m u=>?_;exact r s' acc c (Moved.trans W.gtrans ((Moved.refl W.grefl).then_heap (M8 _) λb o g e=>d b o (λh=>g (h▸L6)) e) t) m u
end
section
variable {prog:Program}{w:World}{A:Around}{E:Value->Shared->Prop}{s:Shared}{l:Addr}{us:Array Value}
theorem x6{C:Value->Shared->Prop}(H:A.handled=none)(D:s.heap.IsList l us)(hz:us.size<=sizeLine)
  (go:∀ k c tk,(∀ b o,s.heap.get? b=some o->k.get? b=some o)->k.get? (s.heap.objs.size+1)=some { cls:=.type "list",dict:=none,data:=.seq us.reverse c,slots:=#[] }->C (.ref (s.heap.objs.size+1)) { s with heap:=k,toks:=tk }) :
  wpAny (model prog w) A (call (.type "list") [.ref s.heap.objs.size]) C E { s with heap:=s.heap.push (revObj l ((us.size:Int) - 1)) }:=by
 have a:(s.heap.push (revObj l ((us.size:Int) - 1))).objs.size=s.heap.objs.size+1:=Heap.size_push _ _;have f:l < s.heap.objs.size:=by
  obtain⟨o,e,_⟩:=id D;exact N1 e
 have t:l≠s.heap.objs.size:=N6 f;have W:=(Walks.listRev (prog:=prog) (w:=w) (A:=A.in1.in1) H s.heap.objs.size l t us).toS;refine callType_codes (Q₁:=λobj u=>obj=.ref (s.heap.push (revObj l ((us.size:Int) - 1))).objs.size/\u={ s with heap:=(s.heap.push (revObj l ((us.size:Int) - 1))).push { cls:=.type "list",data:=.seq #[] } }) F.called_list (F.typeCall_list_1 _) F.entry_list_init
  (code_list_new _ ⟨rfl,rfl⟩) λobj u v=>?_
 obtain⟨rfl,rfl⟩:=v;have G:((s.heap.push (revObj l ((us.size:Int) - 1))).push { cls:=.type "list",data:=.seq #[] }).get? (s.heap.push (revObj l ((us.size:Int) - 1))).objs.size=some { cls:=.type "list",data:=.seq #[] }:=X7 _ rfl;have I:((s.heap.push (revObj l ((us.size:Int) - 1))).push ({ cls:=.type "list",data:=.seq #[] }:Obj)).IsRevIter s.heap.objs.size l ((us.size:Int) - 1 - ((0:Nat):Int)):=⟨_,L7 _ (X7 _ rfl),rfl,by simp[revObj]⟩;have y:((s.heap.push (revObj l ((us.size:Int) - 1))).push ({ cls:=.type "list",data:=.seq #[] }:Obj)).IsList l us:=D.at λo e=>L7 _ (L7 _ e);refine⟨⟨_,G,rfl⟩,F.args_list_init_2 _ _,wt (hn:=hz) W (λi u x=>x.2.1.typeIs) _ ⟨U5 _,I,y⟩ (λz=>?_) (by simp) G λJ h c p m K=>?_⟩
 ·rw[a] at z;rcases M4.mp z with q | q
  ·exact absurd q (Nat.succ_ne_self _)
  ·have q:=M7.mp q;rw[<- q] at f;exact absurd f (Nat.not_lt.mpr (Nat.le_succ _))
 ·refine⟨rfl,?_⟩;have n:h=us.reverse:=by
   obtain⟨L,M⟩:=K;refine Array.ext (by simp[L]) λj v P=>?_;have q:=M j h[j] (by simp[v]);rw[Array.getElem_reverse];have N:us[us.size - 1 - j]?=some (us[us.size - 1 - j]'(by omega)):=Array.getElem?_eq_getElem (by omega);exact X3 (q.symm.trans N)
  subst n;rw[a] at m ⊢;have O:=p.gens;have hd:=p.drawn;have B:=p.os;obtain⟨k,g,d,tk,os⟩:=J;obtain rfl:g=s.gens:=O;obtain rfl:d=s.drawn:=hd;obtain rfl:os=s.os:=B;refine go k c tk (λb o e=>?_) m;have r:b < s.heap.objs.size:=N1 e;exact p.heap b o (by
   intro z;rw[a] at z;rcases M4.mp z with q | q
   ·rw[q] at r;exact absurd r (Nat.not_lt.mpr (Nat.le_succ _))
   ·rw[M7.mp q] at r;exact absurd r (Nat.lt_irrefl _)) (L7 _ (L7 _ e))
end
noncomputable def jdN(K:PySem.W.Frag)(t:TE):TE:=λσ H Q=>t σ H λx H1=>∃ a ys,x=.ref a/\SqL K H1 a ys/\∀ l,H1 l=none->Q (.ref l) (upd H1 l (.lst ys.reverse))
theorem Vals.rev:∀{xs:List V}{us:List Value},Vals xs us->Vals xs.reverse us.reverse
 | [],_,.nil=>.nil
 | x::xs,u::us,.cons h r=>by
  rw[List.reverse_cons,List.reverse_cons];exact(Vals.rev r).append (.cons h .nil)
section
variable {X:Cx}{a:Expr}{ta:TE}{p p2 pos pos2:Pos}
theorem jb3(z:X.calm=true)(A:Gl X "list")(B:X.mg "list" = none)(i:Gl X "reversed")(j:X.mg "reversed" = none)(C:PE X a ta)
  (D:starEach [.Call (.Name "reversed" p2) [a] [] pos2] X.env=(false,eval (.Call (.Name "reversed" p2) [a] [] pos2) X.env)::starEach [] X.env:=by rfl)
  (m:(backTo pos (starEach [] X.env)).any (·.1)=false:=by rfl)
  (n:backTo pos (starEach [.Call (.Name "reversed" p2) [a] [] pos2] X.env)=[(false,eval (.Call (.Name "reversed" p2) [a] [] pos2) X.env)]:=by rfl)
  (o:starEach [a] X.env=(false,eval a X.env)::starEach [] X.env:=by rfl) (b:(backTo pos2 (starEach [] X.env)).any (·.1)=false:=by rfl)
  (d:backTo pos2 (starEach [a] X.env)=[(false,eval a X.env)]:=by rfl) :
  PE X (.Call (.Name "list" p) [.Call (.Name "reversed" p2) [a] [] pos2] [] pos) (jdN X.K ta):=by
 intro e s σ H Q I h;refine wpAny_Call_Name_kw (kK I A B (show bootBuiltins "list" = some (.type "list") by decide +kernel) ?_ (by decide) (by decide));refine PyProof.Rows.callWith_type1 ?_ D m;rw[n];refine Calls.spliced_cons (wpAny_Call_Name_kw (kK I i j (show bootBuiltins "reversed" = some (.type "reversed") by decide +kernel) ?_ (by decide) (by decide)));refine PyProof.Rows.callWith_type1 ?_ o b;rw[d];refine Calls.spliced_cons (thn (C e s σ H _ I h) λv q ⟨x,P,g,E,l,F,ex,G,J⟩=>Calls.spliced_nil ?_);subst ex;obtain rfl:v=Value.ref l:=E;obtain⟨r,t,u,L⟩:=g.list G;have y:=t.length;refine call_reversed_list u.isList (Calls.spliced_nil ?_);refine x6 (g.ok.hd z) u.isList (by simp only[N3]<;>omega) λk c M N O=>?_;have f:q.heap.objs.size<=q.heap.objs.size+1:=Nat.le_succ _;refine⟨.ref (q.heap.objs.size+1),_,g.laid (t':=M) N f (show ObjOk X.prog X.w _ k _ (.lst F.reverse) from⟨by rw[List.length_reverse];exact L,r.reverse,c,Vals.rev t,by simpa using O⟩),rfl,J _ (g.hok.fresh f)⟩
end
noncomputable def Itk(a:Addr)(o:Obj)(kvs:List (Key×V)):It :=
 ⟨λi H=>H a=some (.frz o (.dK kvs))/\i < kvs.length,λi H x H'=>H'=H/\∃ kv,kvs[i]?=some kv/\x=kV kv.1,λi H=>H a=some (.frz o (.dK kvs))/\kvs.length<=i⟩
theorem jaz(ok:HOk P w H h)(e:H a=some (.frz o (.dK kvs))) :
  h.get? a=some o/\(a==sysModules)=false/\∃ vs,KV kvs vs/\h.DictOf (jw P w) a vs:=by
 obtain⟨b,c⟩:=(show ObjOk P w H h a (.frz o (.dK kvs)) from ok a _ e);obtain⟨_,d,f⟩:=(show ObjOk P w H h a (.dK kvs) from c);exact⟨b,d,f⟩
theorem jai{P:Program}{w:World}{K:PySem.W.Frag}{tg:Expr}(a it:Addr)(o:Obj)(g:List (Key×V))(es:Array DictEntry)(D:Nat)(ho:o.data=.dict es D):Turn P w K tg (Itk a o g) [it] it (λi h=>h.IsKeyIter it a i g.length D) where
 mem:=by simp
 obj:=λi h j b n=>by
  have e:b=it:=by simpa using n
  subst e;obtain⟨q,e,c,d⟩:=j;exact⟨q,e,λv z=>by rw[d] at z;cases z⟩
 keep:=λi h F j k=>j.at λo e=>k it (by simp) o e
 item:=by
  intro X M N O hc i m s σ H E I G j Q;subst M N O;obtain⟨R,S⟩:=Q;obtain⟨T,g2,J,L,dd⟩:=jaz I.hok R;obtain⟨r,l⟩:=dd.dictAt;have t:r=D:=by
   obtain⟨o',U,y,_,A,_⟩:=id l;rw[T] at y;cases y;rw[ho] at A;cases A;rfl
  subst t;have f:=L.length;obtain⟨⟨k,u⟩,hu⟩:∃ p,J[i]?=some p:=⟨J[i]'(by omega),by simp[<- f,S]⟩;have hk:∃ v,g[i]?=some (k,v):=by
   have hi:i < g.length:=S;have B:(g.map (·.1))[i]?=(J.map (·.1))[i]?:=by rw[L.keys]
   rw[List.getElem?_map,List.getElem?_map,hu] at B;cases q:g[i]? with
   | none=>rw[q] at B;cases B
   | some p =>
    rw[q] at B;obtain⟨k',v⟩:=p;cases B;exact⟨v,rfl⟩
  obtain⟨v,Y⟩:=hk;obtain⟨Z,f1,f2,f3,f4,f5⟩:=G it (by simp);rw[f] at j;refine wpAny_pyNext_dict_item j l hu λkey F C x sb=>?_;rw[<- f] at x;have I1:Inv X m σ H { s with heap:=F }:=I.turned (t':=s.toks) (λb o n e=>(sb.2 b n).trans e) Z f1 f3 f4 f5;obtain⟨o2,e,c,d⟩:=id x;exact⟨key,rfl,xt (s:={ s with heap:=F }) e c d (by decide) ⟨kV k,H,I1,jdI C,⟨rfl,(k,v),Y,rfl⟩,x,λb n=>(G b n).1⟩⟩
 done:=by
  intro X M N O hc i m s σ H E I G j Q;subst M N O;obtain⟨R,S⟩:=Q;obtain⟨T,g2,J,L,dd⟩:=jaz I.hok R;obtain⟨r,l⟩:=dd.dictAt;have t:r=D:=by
   obtain⟨o',U,y,_,A,_⟩:=id l;rw[T] at y;cases y;rw[ho] at A;cases A;rfl
  subst t;have f:=L.length;obtain⟨Z,f1,f2,f3,f4,f5⟩:=G it (by simp);rw[f] at j;exact wpAny_pyNext_dict_end (I.ok.hd hc) j l (List.getElem?_eq_none (by omega)) λF eb=>⟨rfl,I.turned (t':=s.toks) (λb o n e=>eb b o n e) Z f1 f3 f4 f5⟩
 self:=λ_ _ _ _ _ j h=>wpAny_pyIter_keyiter j h
noncomputable def iDK(te:TE):TI:=λσ H R=>te σ H λx H1=>∃ a kvs,x=.ref a/\H1 a=some (.dK kvs)/\∀ o,R (Itk a o kvs) (upd H1 a (.frz o (.dK kvs)))
theorem Inv.frzD(I:Inv X pins σ H s)(c:H a=some (.dK kvs)) :
  ∃ o es ep,o.data=.dict es ep/\s.heap.get? a=some o/\Inv X pins σ (upd H a (.frz o (.dK kvs))) s:=by
 obtain⟨z,hd,d,e,dd⟩:=uN I.hok c;obtain⟨o,es,ep,b,g,f,h,i,j⟩:=id dd;refine⟨o,es,ep,f,b,?_⟩;exact JY (s:=s) (t':=s.toks) I (by rw[c];exact trivial) ⟨rfl,λ_ _=>rfl⟩ ⟨o,b⟩ (show ObjOk X.prog X.w _ s.heap a (.frz o (.dK kvs)) from⟨b,z,hd,d,e,dd⟩)
theorem jeb{X:Cx}{tg e:Expr}{te:TE}(r:PE X e te):PI X tg e (iDK te):=by
 intro g s σ H R I h;refine thn (r g s σ H _ I h) λv c ⟨x,t,y,z,a,d,ex,A,q⟩=>?_;subst ex;obtain rfl:v=Value.ref a:=z;obtain⟨o,B,C,m,D,k⟩:=y.frzD A;have E:upd t a (.frz o (.dK d)) a=some (.frz o (.dK d)):=jo;obtain⟨_,hd,F,G,dd⟩:=jaz k.hok E;obtain⟨f,i⟩:=dd.dictAt;have l:f=C:=by
  obtain⟨M,J,n,_,p,_⟩:=id i;rw[D] at n;cases n;rw[m] at p;cases p;rfl
 subst l;refine wpAny_pyIter_dict (knd:=jw X.prog X.w) hd i ?_;have K:∀ b u,c.heap.get? b=some u->(c.heap.push ({ cls:=.type "dict_keyiterator",data:=.fields #[.ref a,.int 0 0,.int F.length 0,.int f 0] }:Obj)).get? b=some u:=λb u q=>L7 _ q;refine⟨c.heap.objs.size,[c.heap.objs.size],_,_,_,rfl,k.kept (t':=c.toks) K,jai a _ o d B f m,⟨_,X7 _ rfl,rfl,by rw[G.length];rfl⟩,λb L=>?_,q o⟩;have j:c.heap.objs.size<=b:=by
  have:b=c.heap.objs.size:=by simpa using L
  rw[this];exact M8 _
 exact k.fpOk j (k.hok.fresh j)
end L2
namespace QD
open PySem L2 PySem.Spec PyProof.Rows
section
variable {R:RC}{Z Z':Zn}{H H':Hp}{pm:List Nat}
noncomputable def jaF(p:PF):PF:=λρ=>match p ρ with
 | some (.lst _ l)=>bif frzs l then some (.lst true l.reverse) else none
 | _=>none
theorem Reps.revR:∀{l:List D}{vs:List V},Reps R Z H l vs []->Reps R Z H l.reverse vs.reverse []
 | [],_,h=>by rw[Reps] at h;rw[h.1];exact .empty
 | d::l,_,h=>by
  rw[Reps] at h;obtain⟨v,vs,c,f,rfl,e,a,b⟩:=h;obtain⟨rfl,rfl⟩:=List.append_eq_nil_iff.mp e.symm;rw[List.reverse_cons,List.reverse_cons];exact Reps.append (O:=[]) (P:=[]) (Reps.revR b) (.one a)
theorem jcW(h:PB R te p):PP R (jdN R.K te) (jaF p):=by
 intro σ ρ Z H O d z s e Q k;unfold jaF at e;split at e
 ·rename_i o l q;cases hf:frzs l with
  | false=>rw[hf] at e;cases e
  | true =>
   rw[hf] at e;cases e;refine h z s q λ{v n i P} g r=>?_;obtain⟨a,j,y,rfl,t,u⟩:=r.lst_of;have m:=u.frozen hf;refine⟨a,j,rfl,t.sq,λf c=>?_⟩;have ne:∀ b,i b≠none->b≠f:=λb h e=>h (e▸c);have w:Go n i [] n (upd i f (.lst j.reverse)) [f]:=Go.newO (wf0 g.wf.zd) c;refine k (g.trans w) ?_;rw[Rep];exact⟨f,j.reverse,[],rfl,(Reps.revR m).frame (λb z=>z) (λb z=>jd (ne b (g.wf.zd b z))) (λb x=>(nomatch x)),jo,rfl⟩
 ·cases e
noncomputable def YJ:D->List D->Option D
 | .str a,[.str b]=>bif decide (0<=vO a b) then some (.int (vO a b)) else none
 | _,_=>none
theorem xQ:BM R "str" (λx vs H Q=>∃ a b,x=.str a/\vs=[.str b]/\0<=Txt.find a b/\Q (.int (Txt.find a b)) H) YJ:=by
 intro Z H x d h v vs i j z c f e Q k;unfold YJ at e;split at e
 ·rename_i a b;cases hd:decide (0<=vO a b) with
  | false=>rw[hd] at e;cases e
  | true =>
   rw[hd] at e;cases e;have hd:=X2 hd;obtain⟨rfl,_⟩:=c.str_of;obtain⟨u,rfl,g⟩:=f.one_of;obtain⟨rfl,_⟩:=g.str_of;exact⟨_,_,rfl,rfl,hd,k (Go.id z) .int_mk⟩
 ·cases e
theorem jbO{o:Obj}{ks:List KA}{d:List V}(j:ks.length=d.length)(k:Z a)(l:H a=some (.frz o (.dK ((ks.map kaV).zip d)))):uT R (Itk a o ((ks.map kaV).zip d)) Z H (ks.map kaD):=by
 intro m n s p zd i;have g:n a=some (.frz o (.dK ((ks.map kaV).zip d))):=by rw[p a k];exact l
 have b:((ks.map kaV).zip d).length=ks.length:=by rw[List.length_zip,L0,j,Nat.min_self]
 refine⟨λf=>⟨g,by rw[b];rw[L0] at f;exact f⟩,λx e=>?_⟩;rw[List.getElem?_map] at e;cases hk:ks[i]? with
 | none=>rw[hk] at e;cases e
 | some c =>
  rw[hk] at e;cases e;have f:i < ks.length:=(L8.mp hk).1;refine⟨⟨g,by rw[b];exact f⟩,λu t q=>?_⟩;obtain⟨rfl,v,h,rfl⟩:=q;have r:((ks.map kaV).zip d)[i]?=some (kaV c,d[i]'(by omega)):=by
   rw[List.getElem?_zip_eq_some];exact⟨by rw[List.getElem?_map,hk];rfl,by simp⟩
  rw[r] at h;cases h;exact⟨m,Go.id zd,jbj c⟩
theorem jb6(w:WF Z H (a::O)):Go Z H (a::O) (λb=>Z b \/ b=a) (upd H a u) O :=
 (Go.put (o:=u) w L6).trans (Go.frz1 (Go.put (o:=u) w L6).wf)
noncomputable def qJ(i:Nat):FA:=λρ=>match ρ[i]? with
 | some (some (.dK true ks l))=>bif frzs l then some (ks.map kaD,ρ.set i (some (.dK false ks l))) else none
 | _=>none
theorem wx:DIt R (iDK (vB i)) (qJ i):=by
 intro σ ρ E Z H O F w s e Q k;unfold qJ at e;split at e
 ·rename_i d l j;cases hf:frzs l with
  | false=>rw[hf] at e;cases e
  | true =>
   rw[hf] at e;cases e;obtain⟨A,P,B,rfl,u,x,_⟩:=s.put (L8.mp j).1;obtain⟨v,m,r⟩:=u _ j;rw[Rep] at r;obtain⟨a,f,G,rfl,g,c,y,rfl⟩:=r;cases g.nil hf;refine⟨.ref a,m,a,_,rfl,y,λo=>?_⟩;have n:Go Z H [a] (λb=>Z b \/ b=a) (upd H a (.frz o (.dK ((d.map kaV).zip f)))) []:=jb6 w.mid;have C:=n.frame w;have p:∀ b,Z b->upd H a (.frz o (.dK ((d.map kaV).zip f))) b=H b:=λb h=>jd λz=>w.nz a (by simp) (z▸h);have q:=Go.keepA w n;have D:Rep R (λb=>Z b \/ b=a) (upd H a (.frz o (.dK ((d.map kaV).zip f)))) (.dK false d l) (.ref a) []:=by
    rw[Rep];exact⟨a,f,[],rfl,g.frame (λb z=>.inl z) p (λb h=>(nomatch h)),c,.inr ⟨o,jo⟩,.inr rfl,rfl,rfl⟩
   have t:=x D (λb z=>.inl z) p q.1 q.2;rw[jH m] at t;exact k C t (jbO (by rw[g.length];exact c) (.inr rfl) jo)
 ·cases e
end
section
variable {cl:Nat->Addr}{pm:List Nat}{X:Cx}{a e elt tg iter:Expr}{ta te:TE}{pa pe:PF}{ifs:List Expr}{wi:TI}{fi:FA}{t:TG}{g:D->Rh->Option Rh}{pos p p2 pos2:Pos}
theorem jcM(j:X.calm=true)(k:X.mg "list" = none)(d:X.mg "reversed" = none)(i:QB cl X a ta pa)(l:Gl X "list":=by rfl)(e:Gl X "reversed":=by rfl)
  (m:starEach [.Call (.Name "reversed" p2) [a] [] pos2] X.env=(false,eval (.Call (.Name "reversed" p2) [a] [] pos2) X.env)::starEach [] X.env:=by rfl)
  (f:(backTo pos (starEach [] X.env)).any (·.1)=false:=by rfl)
  (g:backTo pos (starEach [.Call (.Name "reversed" p2) [a] [] pos2] X.env)=[(false,eval (.Call (.Name "reversed" p2) [a] [] pos2) X.env)]:=by rfl)
  (h:starEach [a] X.env=(false,eval a X.env)::starEach [] X.env:=by rfl) (b:(backTo pos2 (starEach [] X.env)).any (·.1)=false:=by rfl)
  (c:backTo pos2 (starEach [a] X.env)=[(false,eval a X.env)]:=by rfl) :
  QP cl X (.Call (.Name "list" p) [.Call (.Name "reversed" p2) [a] [] pos2] [] pos) (jdN X.K ta) (jaF pa):=⟨jb3 j l k e d i.sem m f g h b c,jcW i.den⟩
theorem wY(h:QB cl X (.Name x p) (vB i) (pV i)):QIE cl X tg (.Name x p) (iDK (vB i)) (qJ i):=⟨jeb h.sem,wx⟩
end
noncomputable def jcJ:D->Option (List KA×List D)
 | .dK true ks l=>some (ks,l)
 | _=>none
@[simp] theorem dkOwn_e(ks:List KA)(l:List D):jcJ (.dK true ks l)=some (ks,l):=rfl
@[simp] theorem x0:qJ i ρ=(pV i ρ).bind λd=>(jcJ d).bind λk=>bif frzs k.2 then some (k.1.map kaD,ρ.set i (some (.dK false k.1 k.2))) else none:=by
 unfold qJ pV;cases ρ[i]? with
 | none=>rfl
 | some x=>cases x with
  | none=>rfl
  | some d=>cases d with
   | dK o a l=>cases o<;>rfl
   | _=>rfl
@[simp] theorem pRev_e:jaF p ρ=(p ρ).bind λd=>match d with | .lst _ l=>bif frzs l then some (.lst true l.reverse) else none | _=>none:=by
 unfold jaF;cases p ρ with
 | none=>rfl
 | some d=>cases d<;>rfl
@[simp] theorem xY(a b:List Nat):YJ (.str a) [.str b]=bif decide (0<=vO a b) then some (.int (vO a b)) else none:=rfl
end QD
namespace L2
open PySem PySem.Spec PyProof.Rows
theorem we:MtR X "str.index" (λx vs H Q=>∃ a b,x=.str a/\vs=[.str b]/\0<=Txt.find a b/\Q (.int (Txt.find a b)) H):=by
 intro d s σ H x vs v k Q I f g h;obtain⟨a,b,rfl,rfl,c,q⟩:=h;obtain⟨t,rfl⟩:=f;obtain⟨u,rfl,j⟩:=g.one;obtain⟨l,rfl⟩:=j;cases ho:PySem.Builtin.Str.occurrences a b 0 a.length 1 with
 | nil =>
  unfold Txt.find at c;rw[ho] at c;exact absurd c (by decide)
 | cons i rest =>
  have e:Txt.find a b=(i:Int):=by unfold Txt.find;rw[ho]
  rw[e] at q;exact SC.index (i:=i) (rest:=rest) ho ⟨.int _,H,I.tok _,⟨_,rfl⟩,q⟩
end L2
namespace QD
open PySem L2 PySem.Spec PyProof.Rows
theorem Go.from(g:Go Z H O Z' H' E)(h:∀ a∈O,a∈O'):Go Z H O' Z' H' E :=
 ⟨g.wf,g.zz,λa q n=>g.fr a q λz=>n (h a z),λa z=>(g.zn a z).elim .inl λq=>q.elim (λq=>.inr (.inl (h a q))) λq=>.inr (.inr q),λa q=>(g.sub a q).elim (λq=>.inl (h a q)) .inr,g.dm⟩
theorem qp{l m:List Addr}(h:∀ c,l.count c<=m.count c)(n:m.Nodup):l.Nodup:=List.nodup_iff_count.mpr λc=>N7 (h c) (List.nodup_iff_count.mp n c)
theorem YW{l m:List Addr}(h:∀ c,l.count c<=m.count c):∀ c∈l,c∈m:=λc a=>List.count_pos_iff.mp (U4 (List.count_pos_iff.mpr a) (h c))
end QD
namespace PySem
open Sem (wp)
namespace F
end F
end PySem
namespace L2
open PySem PySem.Spec PyProof.Rows
end L2
namespace QD
open PySem L2 PySem.Spec PyProof.Rows
noncomputable def pFz(p:PF):PF:=λρ=>(p ρ).bind λd=>some (fz d)
@[simp] theorem pFz_e:pFz p ρ=(p ρ).bind λd=>some (fz d):=rfl
theorem jdM(h:PP R te p):PB R te (pFz p):=by
 intro σ ρ Z H O d z s e Q k;unfold pFz at e;cases e1:p ρ with
 | none=>rw[e1] at e;cases e
 | some x =>
  rw[e1,L3] at e;cases e;refine h z s e1 λ{v b c P} g r=>?_;exact k (P:=[]) g.fz (r.freeze (Z':=λa=>b a \/ a∈P) (λa z=>.inl z) λa z=>.inr z)
theorem QP.fzb(h:QP cl X e te pe):QB cl X e te (pFz pe):=⟨h.sem,jdM h.den⟩
end QD
namespace L2
open PySem PySem.Spec PyProof.Rows
end L2
namespace QD
open PySem L2 PySem.Spec PyProof.Rows
end QD
namespace L2
open PySem PySem.Spec PyProof.Rows
end L2
namespace QD
open PySem L2 PySem.Spec PyProof.Rows
noncomputable def xI:List KA->KA->Option Nat
 | [],_=>none
 | k::ks,a=>if k=a then some 0 else(xI ks a).map (·+1)
theorem V8:∀{ks:List KA}{a:KA}{vs:List V}{j:Nat}{v:V},xI ks a=some j->ks.length=vs.length->vs[j]?=some v->Vg ((ks.map kaV).zip vs) (kaV a)=some v
 | [],_,_,_,_,h,_,_=>by cases h
 | k::ks,a,[],_,_,_,b,_=>by simp at b
 | k::ks,a,u::vs,j,v,h,b,c=>by
  rw[xI] at h;by_cases e:k=a
  ·rw[if_pos e] at h;cases h;cases c;rw[L4,U6,e];exact ky rfl
  ·rw[if_neg e] at h;cases hp:xI ks a with
   | none=>rw[hp] at h;cases h
   | some i =>
    rw[hp] at h;cases h;rw[L4,U6,kO (λz=>e (Yi z))];exact V8 hp (by simpa using b) (by simpa using c)
end QD
namespace L2
open PySem PySem.Spec PyProof.Rows
end L2
namespace QD
open PySem L2 PySem.Spec PyProof.Rows
noncomputable abbrev Ln:=D->Option (D×(D->D))
def jew(R:RC)(tb:TE)(i:Nat)(L:Ln):Prop:=∀{σ:L2.St}{ρ:Rh}{Z:Zn}{H:Hp}{O:List Addr}{d x:D}{k:D->D},Slots R Z H ρ σ O->ρ[i]?=some (some d)->L d=some (x,k) ->
 ∃ v A P B,O=A++P++B/\Rep R Z H x v P/\(∀{Q:VK},Q v H->tb σ H Q) /\
  ∀{Z':Zn}{H':Hp}{x':D}{P':List Addr},Rep R Z' H' x' v P'->(∀ a,Z a->Z' a)->(∀ a,Z a->H' a=H a)->(∀ a∈A,H' a=H a)->(∀ a∈B,H' a=H a)->Slots R Z' H' (ρ.set i (some (k x'))) σ (A++P'++B)
noncomputable def jch:Ln:=λd=>some (d,λx=>x)
theorem jcE:jew R (vB i) i jch:=by
 intro σ ρ Z H O d x k s h e;cases e;obtain⟨A,P,B,rfl,b,c,_⟩:=s.put (L8.mp h).1;obtain⟨v,a,r⟩:=b _ h;refine⟨v,A,P,B,rfl,r,λq=>⟨v,a,q⟩,λf g j l m=>?_⟩;have q:=c f g j l m;rw[jH a] at q;exact q
structure MtFact(K:PySem.W.Frag)(C:Addr)(x qual:Str)(st:Stmt)(f:Addr)(fd:FuncData)(ps:List Str):Prop where
 fn:Fun K x qual st f fd
 mt:Meth K C x f
 bd:Binds K fd ps []
structure QL(cl:Nat->Addr)(X:Cx)(e:Expr)(tb:TE)(i:Nat)(L:Ln):Prop where
 sem:PE X e tb
 den:jew ⟨X.K,cl⟩ tb i L
theorem jbH(a:QB cl X (.Name x p) (vB i) (pV i)):QL cl X (.Name x p) (vB i) i jch:=⟨a.sem,jcE⟩
def je3(R:RC)(tk:TE)(pk:Rh->Option (List KA)):Prop:=∀{σ:L2.St}{ρ:Rh}{Z:Zn}{H:Hp}{O:List Addr}{k:List KA},Zd Z H->Slots R Z H ρ σ O->pk ρ=some k ->
 ∀{Q:VK},(∀{p:Addr}{Z':Zn}{H':Hp},Go Z H [] Z' H' []->Z' p->H' p=some (.tup ((k.map kaV).map kV))->Q (.ref p) H')->tk σ H Q
structure QK3(cl:Nat->Addr)(X:Cx)(e:Expr)(tk:TE)(pk:Rh->Option (List KA)):Prop where
 sem:PE X e tk
 den:je3 ⟨X.K,cl⟩ tk pk
end QD
namespace L2
open PySem PySem.Spec PyProof.Rows
end L2
namespace QD
open PySem L2 PySem.Spec PyProof.Rows
noncomputable def vE(q:PTf)(f:FS):Nat->FS
 | 0,_=>none
 | n+1,ρ=>(q ρ).bind λb=>bif b then((f ρ).bind λo=>match o with
  | .nx ρ2=>vE q f n ρ2
  | .ct ρ2=>vE q f n ρ2
  | .bk ρ2=>some (.nx ρ2)
  | .rt d ρ2=>some (.rt d ρ2)) else some (.nx ρ)
noncomputable def Jo(n:Nat)(q:PTf)(f:FS):FS:=vE q f n
theorem wy(J:PTt R tt q)(K:DS R pm tb f):DS R pm (zk tt tb) (Jo n q f):=by
 intro σ ρ Z H O o w s e T k;unfold Jo at e;refine⟨λm B y=>∃ r z t,Go Z H O z y t/\Slots R z y r B t/\Keep pm σ B/\vE q f m r=some o,⟨n,ρ,Z,O,Go.refl w,s,Keep.refl _ _,e⟩,?_⟩;rintro m B y ⟨r,z,t,h,F,kp,a⟩;cases m with
 | zero=>cases a
 | succ m =>
  rw[vE] at a;cases e3:q r with
  | none=>rw[e3] at a;cases a
  | some b =>
   rw[e3,L3] at a;refine J h.wf.zd F e3 λ{p u} G=>?_;have c:Go z y t p u t:=by simpa using G.widen h.wf
   have I:=G.slots h.wf.zd F;cases b with
   | false =>
    cases a;exact jcr (k (h.trans c) I kp)
   | true =>
    refine jcy ?_;rw[cond_true] at a;cases e4:f r with
    | none=>rw[e4] at a;cases a
    | some L =>
     rw[e4,L3] at a;refine⟨λC u=>∃ g p A,Go Z H O p u A/\Slots R p u g C A/\Keep pm σ C/\vE q f m g=some o,λC u ⟨g,p,A,M,N,P,Q⟩=>⟨m,Nat.lt_succ_self _,g,p,A,M,N,P,Q⟩,?_⟩;refine K c.wf I e4 ?_;cases L with
     | nx g=>exact λ{D v E x} i j l=>⟨g,v,x,h.trans (c.trans i),j,kp.trans l,a⟩
     | ct g=>exact λ{D v E x} i j l=>⟨g,v,x,h.trans (c.trans i),j,kp.trans l,a⟩
     | bk g=>cases a;exact λ{D v E x} i j l=>k (h.trans (c.trans i)) j (kp.trans l)
     | rt d g=>cases a;exact λ{U D v E V x} i S j l=>k (h.trans (c.trans i)) S j (kp.trans l)
theorem V4(d:PassesOwn (model X.prog X.w) X.A X.env X.xe)(a:QT cl X c tt q)(b:QSs cl pm X body ts f):QS cl pm X (.While c body [] pos) (zk tt ts) (Jo n q f):=⟨wC d a.sem b.sem,wy (R:=⟨X.K,cl⟩) a.den b.den⟩
section
variable {R:RC}{Z Z' Z2:Zn}{H H' H2:Hp}{pm:List Nat}
theorem wB{ρ:Rh}{i:Nat}{A O' B d e:List Addr}{s:D->D}(w:WF Z H (e++(A++(a::O')++B)))(g:Go Z H [] Z2 H2 [])
  (u:∀{Z':Zn}{H':Hp}{x':D}{P':List Addr},Rep R Z' H' x' (.ref a) P'->(∀ a,Z a->Z' a)->(∀ a,Z a->H' a=H a)->(∀ a∈A,H' a=H a)->(∀ a∈B,H' a=H a)->Slots R Z' H' (ρ.set i (some (s x'))) σ (A++P'++B))
  (f:∀ q,d.count q<=O'.count q+e.count q)
  (r:(∀ b,Z2 b->upd H2 a ob b=H2 b)->(∀ b∈d,b≠a)->Rep R Z2 (upd H2 a ob) x' (.ref a) (a::d)) :
  Go Z H (e++(A++(a::O')++B)) Z2 (upd H2 a ob) (A++(a::d)++B)/\Slots R Z2 (upd H2 a ob) (ρ.set i (some (s x'))) σ (A++(a::d)++B):=by
 have n:Go Z H (e++(A++(a::O')++B)) Z2 H2 (e++(A++(a::O')++B)):=by simpa using g.widen w
 have v:=Go.put (o:=ob) n.wf (show a∈e++(A++(a::O')++B) by simp);have gC:=n.trans v;have nd:=n.wf.nd;have ct:=List.nodup_iff_count.mp nd a;simp only[U7,List.count_cons,beq_self_eq_true,if_true] at ct;have pos:∀{m:List Addr},a∈m->0 < m.count a:=λh=>List.count_pos_iff.mpr h;have j:∀ b,Z2 b->upd H2 a ob b=H2 b:=λb c=>jd λz=>n.wf.nz a (by simp) (z▸c);have y:∀ b∈d,b≠a:=λb c z=>by subst z;have:=pos c;have:=f b;omega
 have C:∀ b∈A,b≠a:=λb c z=>by subst z;have:=pos c;omega
 have E:∀ b∈B,b≠a:=λb c z=>by subst z;have:=pos c;omega
 have p:∀ x,Z x->upd H2 a ob x=H x:=λx k=>(j x (g.zz x k)).trans (g.same x (w.zd x k));have l:∀ x,x∈A++(a::O')++B->x≠a->upd H2 a ob x=H x:=λx k F=>(jd F).trans (g.same x (w.od x (by simp only[N2] at k ⊢;exact .inr k)));have G:=u (r j y) g.zz p (λb c=>l b (by simp[c]) (C b c)) (λb c=>l b (by simp[c]) (E b c));have t:∀ q,(A++(a::d)++B).count q<=(e++(A++(a::O')++B)).count q:=λq=>by
  have:=f q;simp only[U7,List.count_cons];omega
 exact⟨gC.drop (YW t) (qp t nd),G⟩
theorem xC(rd:Rep R Z H d v P)(a:KA)  (r:Reps R Z H l vs O) (b:ks.length=l.length) (hn:a∉ks) :
  Reps R Z H (yM ks l a d).2 (vs++[v]) (O++P)/\(((yM ks l a d).1).map kaV).zip (vs++[v])=kP ((ks.map kaV).zip vs) (kaV a) v/\(yM ks l a d).1.length=(yM ks l a d).2.length:=by
 have c:ks.length=vs.length:=by rw[r.length];exact b
 unfold yM kP;rw[VJ a c,if_neg hn,X1 hn,if_neg (λz=>(nomatch z))];refine⟨r.append (Reps.one rd),?_,by simp[b]⟩;rw[N5,List.zip_append (by simpa using c)];rfl
noncomputable def JM(i:Nat)(L:Ln)(pk pv:PF):FS:=λρ=>(pv ρ).bind λd=>(pV i ρ).bind λt=>(L t).bind λy=>match y.1 with
 | .dK true ks l=>(pk ρ).bind λq=>(ym q).bind λa=>bif lim ks.length&&(frz d||!decide (a∈ks)) then some (.nx (ρ.set i (some (y.2 (.dK true (yM ks l a d).1 (yM ks l a d).2))))) else none
 | _=>none
theorem uH(a:pV i ρ=some t):ρ[i]?=some (some t):=by
 rw[jbT] at a;cases q:ρ[i]? with
 | none=>rw[q] at a;cases a
 | some o=>cases o with
  | none=>rw[q] at a;cases a
  | some b=>rw[q] at a;cases a;rfl
theorem wK{i:Nat}{L:Ln}{tb ty tv:TE}{pk pv:PF}(U:jew R tb i L)(V:PB R ty pk)(W:PP R tv pv):DS R pm (Qs tb ty tv) (JM i L pk pv):=by
 intro σ ρ Z H O o w s e D' k;unfold JM at e;cases e1:pv ρ with
 | none=>rw[e1] at e;cases e
 | some d =>
  rw[e1,L3] at e;cases e2:pV i ρ with
  | none=>rw[e2] at e;cases e
  | some t =>
   rw[e2,L3] at e;have X:=uH e2;cases e3:L t with
   | none=>rw[e3] at e;cases e
   | some y =>
    obtain⟨y,k0⟩:=y;rw[e3,L3] at e;dsimp only at e;split at e
    ·rename_i f l;cases e4:pk ρ with
     | none=>rw[e4] at e;cases e
     | some q =>
      rw[e4,L3] at e;cases e5:ym q with
      | none=>rw[e5] at e;cases e
      | some c =>
       rw[e5,L3] at e;cases hm:lim f.length&&(frz d||!decide (c∈f)) with
       | false=>rw[hm] at e;cases e
       | true =>
        rw[hm] at e;cases e;rw[L9] at hm;refine W w.zd s e1 λ{u Z1 Y P1} j Q=>?_;have S:=j.slots w.zd s;have m:=j.widen w;obtain⟨v,A,P,B,hO,r,ht,kb⟩:=U S X e3;subst hO;rw[Rep] at r;obtain⟨a,F,O',rfl,rs,n,G,rfl⟩:=r;have G:Y a=some (.dK ((f.map kaV).zip F)):=G;refine ht ?_;refine V j.wf.zd S e4 λ{z Z2 T P2} I r2=>?_;obtain⟨rfl,_⟩:=yC e5 r2;have J:T a=some (.dK ((f.map kaV).zip F)):=by rw[I.same a (by rw[G];exact λz=>(nomatch z))];exact G
        have p:=I.rep j.wf.zd Q;have C:=I.reps j.wf.zd rs;have K:((f.map kaV).zip F).length < sizeLine:=by rw[List.length_zip,L0];exact X8 (Nat.min_le_left _ _) (Yk hm.1)
        refine⟨a,_,rfl,DPut.k J K,?_⟩;have M:∃ b h,Reps R Z2 T (yM f l c d).2 b h/\(((yM f l c d).1).map kaV).zip b=kP ((f.map kaV).zip F) (kaV c) u/\(∀ q,h.count q<=O'.count q+P1.count q)/\(yM f l c d).1.length=(yM f l c d).2.length:=by
         cases hf:frz d with
         | true =>
          cases Q.nil hf;obtain⟨b,h,D,E,sl,g⟩:=JW p c C n;exact⟨b,h,D,E,λq=>by have:=sl.count_le q;simp;exact this,g⟩
         | false =>
          have hn:c∉f:=by
           have:=hm.2;rw[hf] at this;simpa using this
          obtain⟨D,E,g⟩:=xC p c C n hn;exact⟨_,_,D,E,λq=>by rw[U7];exact M8 _,g⟩
        obtain⟨b,h,D,E,cn,g⟩:=M;rw[<- E];obtain⟨gF,sF⟩:=wB (ob:=.dK (((yM f l c d).1.map kaV).zip b)) (x':=.dK true (yM f l c d).1 (yM f l c d).2) m.wf I kb cn λN nO=>by
         rw[Rep];exact⟨a,b,h,rfl,D.frame (λ_ z=>z) N (λx hx=>jd (nO x hx)),g,jo,rfl⟩
        exact k (m.trans gF) sF (Keep.refl _ _)
    ·cases e
end
section
variable {cl:Nat->Addr}{pm:List Nat}{X:Cx}{o b e:Expr}{to tb te:TE}{po pb pe:PF}{pos p fp tpos:Pos}{k i:Nat}{L:Ln}
theorem wA(f:Room k X.A)(a:QL cl X o to i L)(c:QB cl X b tb pb)(d:QP cl X e te pe)(g:swapsWith e (some (.Subscript o b pos')) pos.line X.env=pure false:=by rfl) :
  QS cl pm X (.Assign [.Subscript o b pos'] e pos) (Qs to tb te) (JM i L pb pe):=⟨xr (Qe f) a.sem c.sem d.sem g,wK (R:=⟨X.K,cl⟩) a.den c.den d.den⟩
end
namespace QK
end QK
end QD
namespace PySem
open Sem (wp)
end PySem
namespace L2
open PySem PySem.Spec PyProof.Rows
end L2
namespace QD
open PySem L2 PySem.Spec PyProof.Rows
section
variable {R:RC}{Z Z':Zn}{H H':Hp}{pm:List Nat}
def PK(R:RC)(te:TE)(pk:Rh->Option (List KA))(pv:PF):Prop:=∀{σ:L2.St}{ρ:Rh}{Z:Zn}{H:Hp}{O:List Addr}{c:List KA}{d:D},Zd Z H->Slots R Z H ρ σ O->pk ρ=some c->pv ρ=some d->frz d=true ->
 ∀{Q:VK},(∀{t b:Addr}{u:V}{Z':Zn}{H':Hp},Go Z H [] Z' H' []->Z' t->Z' b->H' t=some (.tup [.ref b,u])->H' b=some (.tup ((c.map kaV).map kV))->Rep R Z' H' d u []->Q (.ref t) H')->te σ H Q
structure KvAt(R:RC)(Z:Zn)(H:Hp)(ys:List (List KA×D))(vs:List V)(ps:List (List Key×Addr×V)):Prop where
 l:vs.length=ps.length
 i:∀(j:Nat) (v:V),vs[j]?=some v->∃ kv t,ps[j]?=some kv/\v=.ref t/\H t=some (.tup [.ref kv.2.1,kv.2.2])/\H kv.2.1=some (.tup (kv.1.map kV))
 k:ps.map (·.1)=ys.map λy=>y.1.map kaV
 r:Reps R Z H (ys.map (·.2)) (ps.map (·.2.2)) []
end
section
variable {cl:Nat->Addr}{pm:List Nat}{X:Cx}{tg iter elt:Expr}{ifs:List Expr}{wi:TI}{pi:PAf}{t:TG}{g:D->Rh->Option Rh}{te:TE}{pk:Rh->Option (List KA)}{pv:PF}{pos cpos p:Pos}
structure QKv(cl:Nat->Addr)(X:Cx)(e:Expr)(te:TE)(pk:Rh->Option (List KA))(pv:PF):Prop where
 sem:PE X e te
 den:PK ⟨X.K,cl⟩ te pk pv
end
end QD
namespace PySem
open PySem.W PyProof.Rows PySem.Calls
end PySem
set_option maxHeartbeats 4000000
namespace PySem
open PySem.W PyProof.Rows PySem.Calls
end PySem
namespace L2
open PySem PySem.Spec PyProof.Rows
end L2
namespace QD
open PySem L2 PySem.Spec PyProof.Rows
end QD
namespace PySem
open Sem (wp)
end PySem
namespace L2
open PySem PySem.Spec PyProof.Rows
end L2
namespace QD
open PySem L2 PySem.Spec PyProof.Rows
end QD
set_option maxHeartbeats 1000000
namespace PySem
namespace F
end F
end PySem
namespace L2
open PySem PySem.Spec PyProof.Rows
structure Z3(z TI TO j1 j2 j3 t l m:Addr):Prop where
 TIz:TI≠z
 TOz:TO≠z
 j1z:j1≠z
 j2z:j2≠z
 j3z:j3≠z
 TITO:TI≠TO
 TIj1:TI≠j1
 TIj2:TI≠j2
 TIj3:TI≠j3
 TOj1:TO≠j1
 TOj2:TO≠j2
 TOj3:TO≠j3
 j12:j1≠j2
 j13:j1≠j3
 j23:j2≠j3
 out:∀ x,x=t \/ x=l \/ x=m->x≠z/\x≠TO/\x≠j1/\x≠j2/\x≠j3
end L2
namespace PySem
namespace F
end F
end PySem
namespace L2
open PySem PySem.Spec PyProof.Rows
end L2
namespace QD
open PySem L2 PySem.Spec PyProof.Rows
end QD
namespace QD
open PySem L2
end QD
namespace L2
open PySem PySem.Spec PyProof.Rows
end L2
namespace QD
open PySem L2
noncomputable def pD1(pk pv:PF):PF:=λρ=>(pk ρ).bind λx=>(ym x).bind λa=>(pv ρ).bind λd=>bif frz d then some (.dK true [a] [d]) else none
@[simp] theorem jev{pk pv:PF}{ρ:Rh}:pD1 pk pv ρ=(pk ρ).bind λx=>(ym x).bind λa=>(pv ρ).bind λd=>bif frz d then some (.dK true [a] [d]) else none:=rfl
theorem jdY{R:RC}{tk tv:TE}{pk pv:PF}(t:PB R tk pk)(w:PB R tv pv):PP R (ja0 [(tk,tv)]) (pD1 pk pv):=by
 intro σ ρ Z H O d z s e Q k;rw[jev] at e;cases e1:pk ρ with
 | none=>rw[e1] at e;cases e
 | some x =>
  rw[e1,L3] at e;cases e2:ym x with
  | none=>rw[e2] at e;cases e
  | some a =>
   rw[e2,L3] at e;cases e3:pv ρ with
   | none=>rw[e3] at e;cases e
   | some y =>
    rw[e3,L3] at e;cases hf:frz y with
    | false=>rw[hf] at e;cases e
    | true =>
     rw[hf] at e;cases e;intro p A;have g:Go Z H [] Z (upd H p (.dK [])) [p]:=Go.newO (wf0 z) A;have n:=g.slots z s;refine t g.wf.zd n e1 λ{v L M N} i B=>?_;refine w i.wf.zd (i.slots g.wf.zd n) e3 λ{u f c P} o C=>?_;have r:Go Z (upd H p (.dK [])) [] f c []:=(i.pair o).drop (λa h=>nomatch h) List.nodup_nil;have D:=o.rep i.wf.zd B;obtain⟨rfl,_⟩:=yC e2 D;have j:c p=some (.dK []):=by rw[r.fr p (by rw[jo];exact λz=>nomatch z) (λh=>nomatch h),jo]
     have E:WF Z (upd H p (.dK [])) ([p]++[]++[]):=by simpa using g.wf
     have l:Go Z (upd H p (.dK [])) [p] f c [p]:=by simpa using Go.frame E r
     have F:Go f c [p] f (upd c p (.dK [(kaV a,u)])) [p]:=Go.put l.wf (by simp);have m:∀ b,f b->upd c p (.dK [(kaV a,u)]) b=c b:=λb G=>jd λq=>l.wf.nz p (by simp) (q▸G);have I:Reps R f c [y] [u] []:=(Reps.one C).frozen (by rw[frzs,hf];rfl);have J:Reps R f (upd c p (.dK [(kaV a,u)])) [y] [u] []:=I.frame (λ_ z=>z) m λb K=>(nomatch K);refine⟨j,[(kaV a,u)],rfl,by show 1<=15;decide,k ((g.trans l).trans F) ?_⟩;rw[Rep];exact⟨p,[u],[],rfl,J,rfl,jo,rfl⟩
theorem je7(c:QB cl X a ta pa)(d:QB cl X b tb pb):QP cl X (.Dict [some a] [b] pos) (ja0 [(ta,tb)]) (pD1 pa pb) :=
 ⟨jaR (L2.pps_cons c.sem d.sem L2.pps_nil) rfl rfl (by simp) (by simp),jdY (R:=⟨X.K,cl⟩) c.den d.den⟩
end QD
namespace L2
open PySem PySem.Spec PyProof.Rows
end L2
namespace QD
open PySem L2 PySem.Spec PyProof.Rows
mutual
noncomputable def pln:D->Bool
 | .tup l=>jdD l
 | .non=>true | .bl _=>true | .int _=>true | .str _=>true
 | .lst _ _=>false | .dK _ _ _=>false | .dT _ _ _=>false | .ins _ _ _ _=>false | .dead=>false
noncomputable def jdD:List D->Bool
 | []=>true
 | d::l=>pln d&&jdD l
end
mutual
theorem Rep.cutA{a:Addr}(ha:∀ vs,¬ Rd H a (.tup vs))(hH:∀ b,b≠a->H' b=H b):∀{d:D}{v:V}{O:List Addr},pln d=true->Rep R Z H d v O->Rep R (λb=>Z b/\b≠a) H' d v O
 | .non,_,_,_,r=>by rw[Rep] at r ⊢;exact r
 | .bl _,_,_,_,r=>by rw[Rep] at r ⊢;exact r
 | .int _,_,_,_,r=>by rw[Rep] at r ⊢;exact r
 | .str _,_,_,_,r=>by rw[Rep] at r ⊢;exact r
 | .tup l,_,_,h,r=>by
  rw[pln] at h;rw[Rep] at r ⊢;obtain⟨p,vs,e,t,r⟩:=r;refine⟨p,vs,e,?_,Reps.cutA ha hH h r⟩;rcases t with⟨z,t⟩ | t
  ·have ne:p≠a:=λq=>ha vs (q▸t);exact .inl ⟨⟨z,ne⟩,Rd.agree (hH p ne) t⟩
  ·exact .inr t
 | .lst _ _,_,_,h,_=>by rw[pln] at h;cases h
 | .dK _ _ _,_,_,h,_=>by rw[pln] at h;cases h
 | .dT _ _ _,_,_,h,_=>by rw[pln] at h;cases h
 | .ins _ _ _ _,_,_,h,_=>by rw[pln] at h;cases h
 | .dead,_,_,h,_=>by rw[pln] at h;cases h
theorem Reps.cutA{a:Addr}(ha:∀ vs,¬ Rd H a (.tup vs))(hH:∀ b,b≠a->H' b=H b):∀{l:List D}{vs:List V}{O:List Addr},jdD l=true->Reps R Z H l vs O->Reps R (λb=>Z b/\b≠a) H' l vs O
 | [],_,_,_,r=>by rw[Reps] at r ⊢;exact r
 | d::l,_,_,h,r=>by
  rw[jdD,L9] at h;rw[Reps] at r ⊢;obtain⟨v,vs',O1,O2,e1,e2,r1,r2⟩:=r;exact⟨v,vs',O1,O2,e1,e2,Rep.cutA ha hH h.1 r1,Reps.cutA ha hH h.2 r2⟩
end
end QD
namespace PySem
open Sem (wp)
namespace F
end F
end PySem
namespace L2
open PySem PySem.Spec PyProof.Rows
end L2
namespace QD
open PySem L2 PySem.Spec PyProof.Rows
end QD
namespace L2
open PySem PySem.Spec PyProof.Rows
end L2
namespace QD
open PySem L2 PySem.Spec PyProof.Rows
def qm(K:PySem.W.Frag)(mg:Str->Option Value)(x:Str)(st:Stmt)(ps:List Str):Prop:=∃ f fd,FnFact K mg x x st f fd ps
def OkF(P:Program)(w:World)(K:PySem.W.Frag)(mg:Str->Option Value)(x:Str)(st:Stmt)(k:Nat)(ps:List Str)(sp:Sp):Prop:=∃ f fd,FnFact K mg x x st f fd ps/\∀ base,FnOk P w K mg base CX0 k f fd ps sp
section
variable {K:PySem.W.Frag}{mg:Str->Option Value}{h:Heap}{x qual:Str}{st:Stmt}{ps:List Str}{a C:Addr}{od an:Option Addr}{sl:Array (Option Value)}{oc kV dc pm cd ct:Value}
theorem hasF(X:K.In h)(G:h.Ns mainGlobals mg)(e:PySem.W.nsIn K mainGlobals x=some (some (.ref a)))(b:K.lookup a=some ⟨oc,od,.func (PySem.W.fnOf x x (ko st) (yS st) (jk st) .none kV dc pm an cd ct),sl⟩)(c:PySem.W.codeIn K cd x=true)(d:PySem.W.keepIn K (.ref a)=true)
  (f:∀(kV doc pm:Value) (an:Option Addr) (cdv ct:Value) (us:List Value),us.length=ps.length->bindArgs (PySem.W.fnOf x x (ko st) (yS st) (jk st) .none kV doc pm an cdv ct) ⟨us,[]⟩=pure (ps.zip us)):qm K mg x st ps:=⟨_,_,Qy b c d,PySem.W.mg_of X G e,(Qy b c d).binds f⟩
end
theorem fsc{N ps:List Str}{h:Scope}(a:h.kind=.function:=by rfl)(b:h.isCoroutine=false:=by rfl)(c:h.isGenerator=false:=by rfl)(d:N.Nodup:=by decide +kernel)(e:N.take ps.length=ps:=by rfl)
  (f:∀ x∈ps,h.names.lookup x=some .local \/ h.names.lookup x=some .cell:=by decide +kernel) (g:∀ y∈h.names,y.2≠.free:=by decide +kernel):FnScope N ps h:=⟨a,b,c,d,e,f,g⟩
theorem bkF{N ps:List Str}{a:Scope}(_:FnScope N ps a){X:Cx}{scope:Scope}{ix:List (Option Nat)}(N':List Str)(h1:X.env.scope=a:=by rfl)(h2:X.N=N:=by rfl)(h:qv a N scope N' ix=true:=by decide +kernel):BlockOk X scope N' ix:=xo a N h1 h2 h
section
variable {cl:Nat->Addr}{X:Cx}{pos:Pos}{x:Str}{scope:Scope}{N':List Str}{i:Nat}
theorem qS{j}{l:List Nat}(h:x=S l:=by decide +kernel):QP cl X (.Constant (.str x) j pos) (tC (.str x)) (pC (.str l)):=jdV l h
theorem cgN(a:N'.Nodup:=by decide +kernel)(hi:N'[i]?=some x:=by rfl)(b:∀ C s H fp,Loc (jP X scope N' C s H fp).env.scope x:=by first | exact λ_ _ _ _=>.inl rfl | exact λ_ _ _ _=>.inr rfl)
  (c:∀ C s H fp,(jP X scope N' C s H fp).fn x=true \/ (jP X scope N' C s H fp).env.scope.names.lookup x=some .local:=by first | exact λ_ _ _ _=>.inl rfl | exact λ_ _ _ _=>.inr rfl) :
  ∀ C s H fp,QG cl [] (jP X scope N' C s H fp) (.Name x pos) (qC i) (jl [] i):=λC s H fp=>jF a hi (b C s H fp) (c C s H fp)
theorem jeI:∀ C s H fp,QIf cl (jP X scope N' C s H fp) [] (λ_ H Q=>Q true H) qT:=λ_ _ _ _=>Yb
theorem qI{i:Int}{j}:QB cl X (.Constant (.int i) j pos) (tC (.int i)) (pC (.int i)):=QP.bb wL
end
end QD
namespace L2
open PySem PySem.Spec PyProof.Rows
end L2
namespace QD
open PySem L2 PySem.Spec PyProof.Rows
end QD
namespace L2
open PySem PySem.Spec PyProof.Rows
theorem Vals.takeD:∀(k:Nat),Vals xs us->Vals (xs.take k) (us.take k)/\Vals (xs.drop k) (us.drop k):=by
 intro k
 induction k generalizing xs us with
 | zero=>intro r;exact⟨by rw[List.take_zero,List.take_zero];exact .nil,r⟩
 | succ k a =>
  intro r;cases r with
  | nil=>exact⟨.nil,.nil⟩
  | cons h t=>exact⟨.cons h (a t).1,(a t).2⟩
def VP:V->List V->Hp->VK->Prop:=λx vs H Q=>∃ l xs y i,x=.ref l/\vs=[.int i,y]/\H l=some (.lst xs)/\0<=i/\i<=(xs.length:Int)/\xs.length < sizeLine/\Q .non (upd H l (.lst (xs.take i.toNat++y::xs.drop i.toNat)))
theorem zr:MtM X "list.insert" VP:=by
 intro f s σ H x C v D Q I k m h;obtain⟨l,E,y,i,rfl,rfl,g,G,J,K,q⟩:=h;cases k;cases m with
 | @cons a b L bs o p =>
  obtain⟨u,rfl,w⟩:=Vals.one p;obtain⟨t,rfl⟩:=o;obtain⟨z,c,n,r,M,e⟩:=I.lstM g;have d:¬ (!Builtin.List.listFitsIndex i)=true:=by
   have N:=sizeLine_eq;simp[Builtin.List.listFitsIndex];omega
  refine call_meets F.slot_list_insert ⟨_,e,rfl⟩ F.entry_list_insert (F.args_list_insert_3 _ _ _) (AutoSeq1.list_insert_list_int_val_1 l c.toArray n i t u d (by rw[N3];omega)) ⟨e,?_⟩;have j:=Vals.takeD i.toNat r;refine⟨.non,_,I.lset (its':=c.take i.toNat++u::c.drop i.toNat) g e ?_ (j.1.append (.cons w j.2)) ?_,rfl,q⟩
  ·have A:¬ i < 0:=by omega
   simp only[A,if_false];have B:min i.toNat c.toArray.size=i.toNat:=by rw[N3];omega
   rw[B];apply Array.ext';simp;exact List.take_of_length_le (by rw[List.length_drop];exact M8 _)
  ·rw[N4,M0,X6,List.length_drop];omega
end L2
namespace QD
open PySem L2 PySem.Spec PyProof.Rows
section
variable {R:RC}{Z Z':Zn}{H H':Hp}{pm:List Nat}
theorem JT{y:D}{n:Int}(h:kt y=some n):y=.int n:=by
 cases y with
 | int i=>cases h;rfl
 | _=>cases h
noncomputable def K2(i x:Nat)(pm:List Nat)(p1 p2:PF)(fB:FS):FS:=λρ=>match ρ[i]? with
 | some (some (.lst true l))=>(p1 ρ).bind λy1=>(kt y1).bind λn1=>(ixN l.length n1).bind λj1=>match l[j1]? with
  | some (.lst true l1)=>(p2 ρ).bind λy2=>(kt y2).bind λn2=>(ixN l1.length n2).bind λj2=>(l1[j2]?).bind λit=>bif decide (x < ρ.length)&&(!decide (x∈pm)&&!decide (x=i)) then(match fB ((ρ.set i none).set x (some it)) with
   | some (.nx ρ2)=>(match ρ2[x]? with
    | some (some d)=>bif decide (i < ρ2.length) then some (.nx ((ρ2.set x (some .dead)).set i (some (.lst true (l.set j1 (.lst true (l1.set j2 d))))))) else none
    | _=>none)
   | _=>none) else none
  | _=>none
 | _=>none
theorem uP{i x:Nat}{t1 t2:TE}{p1 p2:PF}{tB:TS}{fB:FS}(h1:PB R t1 p1)(h2:PB R t2 p2)(hB:DS R (i::x::pm) tB fB) :
  DS R pm (jcg (uX (tOp (rIx R.K) (tOp (rIx R.K) (vB i) t1) t2) (qC x)) tB) (K2 i x pm p1 p2 fB):=by
 intro σ ρ Z H O o w s e D' k;unfold K2 at e;split at e
 ·rename_i l hl;cases e1:p1 ρ with
  | none=>rw[e1] at e;cases e
  | some y1 =>
  rw[e1,L3] at e;cases W:kt y1 with
  | none=>rw[W] at e;cases e
  | some n1 =>
  rw[W,L3] at e;cases JT W;cases e2:ixN l.length n1 with
  | none=>rw[e2] at e;cases e
  | some j1 =>
  rw[e2,L3] at e;split at e
  ·rename_i l1 X;cases e3:p2 ρ with
   | none=>rw[e3] at e;cases e
   | some y2 =>
   rw[e3,L3] at e;cases Y:kt y2 with
   | none=>rw[Y] at e;cases e
   | some n2 =>
   rw[Y,L3] at e;cases JT Y;cases e4:ixN l1.length n2 with
   | none=>rw[e4] at e;cases e
   | some j2 =>
   rw[e4,L3] at e;cases hit:l1[j2]? with
   | none=>rw[hit] at e;cases e
   | some it =>
   rw[hit,L3] at e;cases hg:decide (x < ρ.length)&&(!decide (x∈pm)&&!decide (x=i)) with
   | false=>rw[hg] at e;cases e
   | true =>
    rw[hg,cond_true] at e;simp only[L9,decide_eq_true_eq,Bool.not_eq_true',decide_eq_false_iff_not] at hg;obtain⟨hx,hxp,j⟩:=hg;have hi:i < ρ.length:=(L8.mp hl).1;obtain⟨Ai,Pi,Bi,eOi,ki1,_,_⟩:=s.put hi;obtain⟨v0,ev,r⟩:=ki1 _ hl;rw[Rep] at r;obtain⟨a,M,Ol0,rfl,rs0,ea,_⟩:=r;have han:H a≠none:=by rw[ea];exact λz=>(nomatch z)
    obtain⟨u1,A0,P0,B0,p,_,ru1,_⟩:=rs0.at X;rw[Rep] at ru1;obtain⟨b,N,Ol1,rfl,rs1,eb,_⟩:=ru1;have hbn:H b≠none:=by rw[eb];exact λz=>(nomatch z)
    obtain⟨v,_,_,_,hv,_,_,_⟩:=rs1.at hit;have hat1:L2.atI M n1=some (.ref b):=z4 (i:=j1) (by rw[rs0.length];exact e2) p;have hat2:L2.atI N n2=some v:=z4 (i:=j2) (by rw[rs1.length];exact e4) hv;refine⟨.ref a,ev,h1 w.zd s e1 λ{u0 Z1 H1 P0} Q r0=>?_⟩;obtain⟨rfl,_⟩:=r0.int_of;have s1:=Q.slots w.zd s;have q:H1 a=some (.lst M):=by rw[Q.same a han];exact ea
    have eb1:H1 b=some (.lst N):=by rw[Q.same b hbn];exact eb
    refine .inl ⟨a,M,n1,.ref b,rfl,rfl,SqL.of q,hat1,?_⟩;refine h2 Q.wf.zd s1 e3 λ{u2 Z2 H2 P2} g2 r2=>?_;obtain⟨rfl,_⟩:=r2.int_of;have s2:=g2.slots Q.wf.zd s1;have ea2:H2 a=some (.lst M):=by rw[g2.same a (by rw[q];exact λz=>(nomatch z))];exact q
    have t:H2 b=some (.lst N):=by rw[g2.same b (by rw[eb1];exact λz=>(nomatch z))];exact eb1
    refine .inl ⟨b,N,n2,v,rfl,rfl,SqL.of t,hat2,?_⟩;have u:=Q.widen w;rw[X4] at u;have g2w:=g2.widen u.wf;rw[X4] at g2w;have gw:=u.trans g2w;obtain⟨Ax,Px,Bx,eO,kx1,kx2,_⟩:=s2.put hx;rw[eO] at gw;have y:Rep R Z2 H2 .dead v []:=by rw[Rep]
    have s3:=kx2 y (λ_ z=>z) (λ_ _=>rfl) (λ_ _=>rfl) (λ_ _=>rfl);have le2:∀ c,(Ax++[]++Bx).count c<=(Ax++Px++Bx).count c:=λc=>by simp only[U7,List.count_nil];omega
    have C:=gw.drop (YW le2) (qp le2 gw.wf.nd);rw[<- eO] at C;have kp2:Keep pm σ (σ.set x (some v)):=Keep.set hxp;have hi2:i < (ρ.set x (some D.dead)).length:=by rw[List.length_set];exact hi
    have hl2:(ρ.set x (some D.dead))[i]?=some (some (.lst true l)):=by rw[List.getElem?_set,if_neg j];exact hl
    obtain⟨A,P,B,eO3,k1,_,k3⟩:=s3.put hi2;obtain⟨v3,ev3,r3⟩:=k1 _ hl2;have evs:(σ.set x (some v))[i]?=some (some (.ref a)):=by rw[List.getElem?_set,if_neg j];exact ev
    rw[evs] at ev3;cases ev3;rw[Rep] at r3;obtain⟨a',vs',Ol,ea',rs3,eb3,rfl⟩:=r3;cases ea';rw[ea2] at eb3;cases eb3;obtain⟨v',S,P',T,ev',rfl,ri1,E⟩:=rs3.at X;rw[p] at ev';cases ev';rw[Rep] at ri1;obtain⟨b',us',Ol',eb',rs4,eb4,rfl⟩:=ri1;cases eb';rw[t] at eb4;cases eb4;obtain⟨v'',F,Q',G,n,rfl,ri,I⟩:=rs4.at hit;rw[hv] at n;cases n;have hx4:x < ((ρ.set x (some D.dead)).set i none).length:=by rw[List.length_set,List.length_set];exact hx
    obtain⟨A2,P2,B2,eO4,kk1,kk2,_⟩:=k3.put hx4;have hd4:((ρ.set x (some D.dead)).set i none)[x]?=some (some .dead):=by
     rw[List.getElem?_set,if_neg (λz=>j z.symm),List.getElem?_set,if_pos rfl,if_pos hx]
    obtain⟨v4,_,r4⟩:=kk1 _ hd4;have eP2:P2=[]:=by rw[Rep] at r4;exact r4
    subst eP2;have s4:=kk2 ri (λ_ z=>z) (λ_ _=>rfl) (λ_ _=>rfl) (λ_ _=>rfl);have eσ:(σ.set x (some v)).set x (some v)=σ.set x (some v):=by rw[List.set_set]
    rw[eσ] at s4;have eρ:((ρ.set x (some D.dead)).set i none).set x (some it)=(ρ.set i none).set x (some it):=by
     rw[List.set_comm _ _ (λz=>j z),List.set_set]
    rw[eρ] at s4;cases e5:fB ((ρ.set i none).set x (some it)) with
    | none=>rw[e5] at e;cases e
    | some o4 =>
     rw[e5] at e;cases o4 with
     | nx U =>
      dsimp only at e;have wO:=C.wf;rw[eO3] at wO;have cAB:∀ c,A.count c+B.count c=A2.count c+B2.count c:=λc=>by
       have:=congrArg (List.count c) eO4;simpa [U7] using this
      have J:∀ c,(a::(S++(b::(F++G))++T)++(A2++Q'++B2)++[]).count c<=(A++(a::(S++(b::(F++Q'++G))++T))++B).count c:=λc=>by
       have:=cAB c;simp only[U7,List.count_cons,List.count_nil];omega
      have wF:WF Z2 H2 (a::(S++(b::(F++G))++T)++(A2++Q'++B2)++[]):=wO.sub (YW J) (qp J wO.nd);refine hB wF.mid s4 e5 ?_;intro σ5 Z5 H5 O5 V s5 L;have g5f:=V.frame wF;have keep:=(Go.keepA wF V).1;split at e
      ·rename_i d hd5;cases f:decide (i < U.length) with
       | false=>rw[f] at e;cases e
       | true =>
        rw[f] at e;cases e;have f:=X2 f;have hx5:x < U.length:=(L8.mp hd5).1;obtain⟨A3,P3,B3,eO5,m1,m2,_⟩:=s5.put hx5;obtain⟨v5,ev5,r5⟩:=m1 _ hd5;have evx:σ5[x]?=some (some v):=by
         rw[L x (by simp),List.getElem?_set,if_pos rfl,if_pos (by rw[<- s.length] at hx;exact hx)]
        rw[evx] at ev5;cases ev5;have rd5:Rep R Z5 H5 .dead v []:=by rw[Rep]
        have s6:=m2 rd5 (λ_ z=>z) (λ_ _=>rfl) (λ_ _=>rfl) (λ_ _=>rfl);rw[jH evx] at s6;have g:=I r5 V.zz (λc z=>V.zH wF.mid c z) (λc m=>keep c (by simp[m])) (λc m=>keep c (by simp[m]));rw[jH hv] at g;have eb5:H5 b=some (.lst N):=by rw[keep b (by simp)];exact t
        have rb:Rep R Z5 H5 (.lst true (l1.set j2 d)) (.ref b) (b::(F++P3++G)):=by
         rw[Rep];exact⟨b,N,_,rfl,g,eb5,rfl⟩
        have h:=E rb V.zz (λc z=>V.zH wF.mid c z) (λc m=>keep c (by simp[m])) (λc m=>keep c (by simp[m]));rw[jH p] at h;have ea5:H5 a=some (.lst M):=by rw[keep a (by simp)];exact ea2
        have rl:Rep R Z5 H5 (.lst true (l.set j1 (.lst true (l1.set j2 d)))) (.ref a) (a::(S++(b::(F++P3++G))++T)):=by
         rw[Rep];exact⟨a,M,_,rfl,h,ea5,rfl⟩
        have hi6:i < (U.set x (some D.dead)).length:=by rw[List.length_set];exact f
        obtain⟨A4,P4,B4,eO6,_,n2',_⟩:=s6.put hi6;have s7:=n2' rl (λ_ z=>z) (λ_ _=>rfl) (λ_ _=>rfl) (λ_ _=>rfl);have evi:σ5[i]?=some (some (.ref a)):=by rw[L i (by simp)];exact evs
        rw[jH evi] at s7;have le7:∀ c,(A4++(a::(S++(b::(F++P3++G))++T))++B4).count c<=(a::(S++(b::(F++G))++T)++O5++[]).count c:=λc=>by
         have W:=congrArg (List.count c) eO5;have Y:=congrArg (List.count c) eO6;simp only[U7,List.count_nil] at W Y;simp only[U7,List.count_cons,List.count_nil];omega
        have g7:=(g5f.drop (YW le7) (qp le7 g5f.wf.nd)).from (YW J);rw[<- eO3] at g7;exact k (C.trans g7) s7 (kp2.trans (L.sub λc m=>by simp[m]))
      ·cases e
     | bk U=>cases e
     | ct U=>cases e
     | rt d U=>cases e
  ·cases e
 ·cases e
theorem Qn{n:Nat}{j:Int}(a:0<=j)(h1:j.toNat < n):ixN n j=some j.toNat:=by
 unfold ixN;rw[if_pos a,if_pos (by omega)]
theorem J7{i:Nat}{ρ:Rh}{t:D}(h:pV i ρ=some t):ρ[i]?=some (some t):=by
 rw[jbT] at h;cases q:ρ[i]? with
 | none=>rw[q] at h;cases h
 | some o=>cases o with
  | none=>rw[q] at h;cases h
  | some a=>rw[q] at h;cases h;rfl
theorem xZ{i x:Nat}{p1 p2:PF}{b:FS}{ρ a:Rh}{l l1:List D}{it d:D}{n1 n2:Int}(f:pV i ρ=some (.lst true l))(h1:p1 ρ=some (.int n1))(g:0<=n1)(c:l[n1.toNat]?=some (.lst true l1))(h2:p2 ρ=some (.int n2))(h:0<=n2)(e:l1[n2.toNat]?=some it)
  (j:(decide (x < ρ.length)&&(!decide (x∈pm)&&!decide (x=i)))=true) (k:b ((ρ.set i none).set x (some it))=some (.nx a)) (hd:pV x a=some d) (hi:i < a.length) :
  K2 i x pm p1 p2 b ρ=some (.nx ((a.set x (some .dead)).set i (some (.lst true (l.set n1.toNat (.lst true (l1.set n2.toNat d))))))):=by
 unfold K2;rw[J7 f];dsimp only;rw[h1,L3,show kt (.int n1)=some n1 from rfl,L3,Qn g (L8.mp c).1,L3,c];dsimp only;rw[h2,L3,show kt (.int n2)=some n2 from rfl,L3,Qn h (L8.mp e).1,L3,e,L3,j,cond_true,k];dsimp only;rw[J7 hd];dsimp only;rw[X0 hi,cond_true]
noncomputable def jaE(i:Nat)(pk p:PF):FS:=λρ=>(pk ρ).bind λy=>(kt y).bind λn=>(p ρ).bind λd=>match ρ[i]? with
 | some (some (.lst true l))=>bif decide (0<=n)&&decide (n<=(l.length:Int))&&(lim l.length&&(frzs l&&frz d)) then some (.nx (ρ.set i (some (.lst true (l.take n.toNat++d::l.drop n.toNat))))) else none
 | _=>none
theorem jdc{i:Nat}{tk te:TE}{pk p:PF}(hk:PB R tk pk)(h:PP R te p):DS R pm (qP (tBM R.K "list" VP (vB i) (y9 tk (y9 te Vn)))) (jaE i pk p):=by
 intro σ ρ Z H O o w s e D' k;unfold jaE at e;cases e1:pk ρ with
 | none=>rw[e1] at e;cases e
 | some y =>
 rw[e1,L3] at e;cases q1:kt y with
 | none=>rw[q1] at e;cases e
 | some n =>
 rw[q1,L3] at e;cases JT q1;cases e2:p ρ with
 | none=>rw[e2] at e;cases e
 | some d =>
 rw[e2,L3] at e;split at e
 ·rename_i l U;cases hg:decide (0<=n)&&decide (n<=(l.length:Int))&&(lim l.length&&(frzs l&&frz d)) with
  | false=>rw[hg] at e;cases e
  | true =>
   rw[hg] at e;cases e;simp only[L9,decide_eq_true_eq] at hg;obtain⟨⟨F,G⟩,q,fl,fd⟩:=hg;obtain⟨A,P,B,rfl,k1,k2,_⟩:=s.put (L8.mp U).1;obtain⟨v,V,r⟩:=k1 _ U;rw[Rep] at r;obtain⟨a,f,O',rfl,E,I,rfl⟩:=r;cases E.nil fl;refine⟨.ref a,V,.inl ⟨rfl,f,SqL.of I⟩,?_⟩;refine hk w.zd s e1 λ{u0 W J P0} b r0=>?_;obtain⟨rfl,_⟩:=r0.int_of;have s1:=b.slots w.zd s;refine h b.wf.zd s1 e2 λ{u L m P2} j X=>?_;cases X.nil fd;have t:J a=some (.lst f):=by rw[b.same a (by rw[I];exact λz=>(nomatch z))];exact I
   have M:m a=some (.lst f):=by rw[j.same a (by rw[t];exact λz=>(nomatch z))];exact t
   have x:Go Z H (A++[a]++B) W J (A++[a]++B):=by simpa using b.widen w
   have N:Go W J (A++[a]++B) L m (A++[a]++B):=by simpa using j.widen x.wf
   have Y:=x.trans N;have Q:=Y.wf;have C:=j.reps b.wf.zd (b.reps w.zd E);refine⟨a,f,u,n,rfl,rfl,M,F,by rw[E.length];exact G,by rw[E.length];exact Yk q,?_⟩;have nd:=Q.nd;simp only[U8,N2,List.nodup_cons,M4] at nd;obtain⟨⟨nA,⟨na,nO⟩,S⟩,nB,T⟩:=nd;have D:∀ c,L c->upd m a (.lst (f.take n.toNat++u::f.drop n.toNat)) c=m c:=λc z=>jd λe=>Q.nz a (by simp) (e▸z);have r3:Rep R L (upd m a (.lst (f.take n.toNat++u::f.drop n.toNat))) (.lst true (l.take n.toNat++d::l.drop n.toNat)) (.ref a) [a]:=by
    rw[Rep];refine⟨a,_,[],rfl,?_,jo,rfl⟩;have hr:=(C.take n.toNat).append (Reps.cons X (C.drop n.toNat));exact hr.frame (λ_ z=>z) D λc g=>(nomatch g)
   have sA:∀ c,c∈A->upd m a (.lst (f.take n.toNat++u::f.drop n.toNat)) c=H c:=λc g=>by
    rw[jd λe=>S c g a (.inl rfl) e,j.same c (by rw[b.same c (w.od c (by simp[g]))];exact w.od c (by simp[g]))];exact b.same c (w.od c (by simp[g]))
   have sB:∀ c,c∈B->upd m a (.lst (f.take n.toNat++u::f.drop n.toNat)) c=H c:=λc g=>by
    rw[jd λe=>T a (.inr (.inl rfl)) c g e.symm,j.same c (by rw[b.same c (w.od c (by simp[g]))];exact w.od c (by simp[g]))];exact b.same c (w.od c (by simp[g]))
   have s3:=k2 r3 (λc z=>j.zz c (b.zz c z)) (λc z=>by rw[D c (j.zz c (b.zz c z)),j.same c (by rw[b.same c (w.zd c z)];exact w.zd c z)];exact b.same c (w.zd c z)) sA sB;rw[jH V] at s3;exact k (Y.trans (Go.put Q (by simp))) s3 (Keep.refl _ _)
 ·cases e
theorem uO{i:Nat}{pk p:PF}{ρ:Rh}{l:List D}{n:Int}{d:D}(a:pV i ρ=some (.lst true l))(h1:pk ρ=some (.int n))(h2:p ρ=some d)(z:0<=n)(e:n.toNat<=l.length)(b:lim l.length=true)(c:frzs l=true)(fd:frz d=true) :
  jaE i pk p ρ=some (.nx (ρ.set i (some (.lst true (l.take n.toNat++d::l.drop n.toNat))))):=by
 unfold jaE;rw[h1,L3,show kt (.int n)=some n from rfl,L3,h2,L3,J7 a];dsimp only;rw[X0 z,X0 (by omega),b,c,fd];rfl
end
section
variable {cl:Nat->Addr}{pm:List Nat}{X:Cx}{e f j1 j2:Expr}{te tf t1 t2:TE}{pe pf p1 p2:PF}{tu:TS}{fe:FS}{pos:Pos}
theorem xT{i x:Nat}{e f:Str}{c a d b apos:Pos}{B:List Stmt}(k:X.N.Nodup)(l:QB cl X (.Name f a) (vB i) (pV i))(h1:QB cl X j1 t1 p1)(h2:QB cl X j2 t2 p2)(j:QSs cl (i::x::pm) X B tu fe)
  (hi:X.N[x]?=some e:=by rfl) (m:Loc X.env.scope e:=by first | exact Or.inl rfl | exact Or.inr rfl) (g:qZ j1:=by exact λ_ _=>rfl) (h:qZ j2:=by exact λ_ _=>rfl)
  (n:swapsWith (.Subscript (.Subscript (.Name f a) j1 d) j2 b) (some (.Name e c)) apos.line X.env=pure false:=by rfl)
  (o:X.fn e=true \/ X.env.scope.names.lookup e=some .local:=by first | exact .inl rfl | exact .inr rfl) :
  QSs cl pm X (.Assign [.Name e c] (.Subscript (.Subscript (.Name f a) j1 d) j2 b) apos::B) (jcg (uX (tOp (rIx X.K) (tOp (rIx X.K) (vB i) t1) t2) (qC x)) tu) (K2 i x pm p1 p2 fe) :=
 ⟨Kr (uv k hi m (jau xx (jau xx l.sem h1.sem g) h2.sem h) n o) j.sem,uP h1.den h2.den j.den⟩
theorem jdm{i:Nat}{x:Str}{a apos cpos:Pos}(n:QB cl X (.Name x a) (vB i) (pV i))(l:QB cl X e te pe)(h:QP cl X f tf pf)(c:attributeBase (.Name x a) "insert" X.env (eval (.Name x a) X.env)=eval (.Name x a) X.env:=by rfl)
  (g:((backTo cpos (starEach [e,f] X.env)).all (λx=>!x.1)&&(backToKw cpos (keywordEach [] X.env)).all (λx=>x.1.isSome)
   && decide ([e,f].length+([]:List Keyword).length+(if([]:List Keyword).isEmpty then 0 else 1) < 30))=true:=by rfl)
  (d:(apos.endLine==cpos.line)=true:=by rfl) (m:starEach [e,f] X.env=(false,eval e X.env)::starEach [f] X.env:=by rfl) (j:starEach [f] X.env=(false,eval f X.env)::starEach [] X.env:=by rfl) (b:(backTo cpos (starEach [f] X.env)).any (·.1)=false:=by rfl)
  (k:swapsWith (.Call (.Attribute (.Name x a) "insert" apos) [e,f] [] cpos) none pos.line X.env=pure false:=by rfl) :
  QS cl pm X (.Expr (.Call (.Attribute (.Name x a) "insert" apos) [e,f] [] cpos) pos) (qP (tBM X.K "list" VP (vB i) (y9 te (y9 tf Vn)))) (jaE i pe pf) :=
 ⟨qR (QM PySem.F.plainAttrs_list PySem.F.slot_list_insert PySem.F.type_list_insert zr n.sem (vo l.sem (vo h.sem Jd j) m) c g d m b) k,jdc l.den h.den⟩
end
section
variable {R:RC}{Z Z':Zn}{H H':Hp}{pm:List Nat}
noncomputable def Ks(i:Nat)(pk p:PF):FS:=λρ=>(pk ρ).bind λq=>(ym q).bind λc=>(p ρ).bind λe=>(Js e).bind λm=>match ρ[i]? with
 | some (some (.dK true ks l))=>(xI ks c).bind λj=>match l[j]? with
  | some (.lst true l')=>bif lim (l'.length+m.length) then some (.nx (ρ.set i (some (.dK true ks (l.set j (.lst true (l'++m))))))) else none
  | _=>none
 | _=>none
theorem jaN{i:Nat}{tk te:TE}{pk p:PF}(hk:PB R tk pk)(h:PB R te p):DS R pm (qP (tBM R.K "list" (zi R.K) (Q8 (vB i) tk) (y9 te Vn))) (Ks i pk p):=by
 intro σ ρ Z H O o w s e D' k;unfold Ks at e;cases e1:pk ρ with
 | none=>rw[e1] at e;cases e
 | some q =>
 rw[e1,L3] at e;cases e2:ym q with
 | none=>rw[e2] at e;cases e
 | some c =>
 rw[e2,L3] at e;cases e3:p ρ with
 | none=>rw[e3] at e;cases e
 | some d =>
 rw[e3,L3] at e;cases e4:Js d with
 | none=>rw[e4] at e;cases e
 | some m =>
 rw[e4,L3] at e;split at e
 ·rename_i S l hl;cases e5:xI S c with
  | none=>rw[e5] at e;cases e
  | some j =>
  rw[e5,L3] at e;split at e
  ·rename_i l' hj;cases hlim:lim (l'.length+m.length) with
   | false=>rw[hlim] at e;cases e
   | true =>
    rw[hlim] at e;cases e;obtain⟨A,P,B,rfl,k1,k2,_⟩:=s.put (L8.mp hl).1;obtain⟨v,ev,r⟩:=k1 _ hl;rw[Rep] at r;obtain⟨a,vs,O0,rfl,rs,T,U,rfl⟩:=r;have U:H a=some (.dK ((S.map kaV).zip vs)):=U;obtain⟨u,F,P',G,eu,rfl,ru,V⟩:=rs.at hj;rw[Rep] at ru;obtain⟨b,t,C,rfl,W,eb,rfl⟩:=ru;refine⟨.ref a,ev,hk w.zd s e1 λ{y Z1 H1 P1} D r1=>?_⟩;obtain⟨rfl,_⟩:=yC e2 r1;have s1:=D.slots w.zd s;have ea1:H1 a=some (.dK ((S.map kaV).zip vs)):=by rw[D.same a (by rw[U];exact λz=>(nomatch z))];exact U
    have J:H1 b=some (.lst t):=by rw[D.same b (by rw[eb];exact λz=>(nomatch z))];exact eb
    refine⟨a,.ref b,rfl,by rw[<- V8 e5 (by rw[rs.length];exact T) eu];exact DGet.r (.inl ea1),.inl ⟨rfl,t,SqL.of J⟩,?_⟩;refine h D.wf.zd s1 e3 λ{z N n P2} X r2=>?_;have hm:∃ E g,z=.ref E/\(SqL R.K n E g \/ SqT R.K n E g)/\Reps R N n m g []:=by
     cases d with
     | lst o' m' =>
      simp only[Js] at e4;cases hf:frzs m' with
      | false=>rw[hf] at e4;cases e4
      | true =>
       rw[hf] at e4;cases e4;rw[Rep] at r2;obtain⟨E,g,O'',rfl,rr,hx⟩:=r2;cases o' with
       | true=>exact⟨E,g,rfl,.inl (SqL.of hx.1),rr.frozen hf⟩
       | false=>exact⟨E,g,rfl,.inl (FL.sq hx.1),rr.frozen hf⟩
     | tup m' =>
      simp only[Js] at e4;cases hf:frzs m' with
      | false=>rw[hf] at e4;cases e4
      | true =>
       rw[hf] at e4;cases e4;obtain⟨E,g,rfl,hx,rr⟩:=r2.tup_of;exact⟨E,g,rfl,.inr hx,rr.frozen hf⟩
     | _=>cases e4
    obtain⟨E,g,rfl,hb,rm⟩:=hm;have eb2:n b=some (.lst t):=by rw[X.same b (by rw[J];exact λz=>(nomatch z))];exact J
    refine⟨b,E,t,g,rfl,rfl,eb2,hb,by rw[W.length,rm.length];exact vS hlim,?_⟩;have Y:Go Z H (A++(a::(F++(b::C)++G))++B) Z1 H1 (A++(a::(F++(b::C)++G))++B):=by have:=D.widen w;rw[X4] at this;exact this
    have gw2:Go Z1 H1 (A++(a::(F++(b::C)++G))++B) N n (A++(a::(F++(b::C)++G))++B):=by have:=X.widen Y.wf;rw[X4] at this;exact this
    have gw:=Y.trans gw2;have gB:=Go.put (o:=.lst (t++g)) gw.wf (show b∈A++(a::(F++(b::C)++G))++B by simp);have nd:=gw.wf.nd;have Q:∀ c,c∈A \/ c=a \/ c∈F \/ c∈C \/ c∈G \/ c∈B->c≠b:=λc f e=>by
     have q:=List.nodup_iff_count.mp nd b;simp only[U7,List.count_cons,beq_self_eq_true,if_true] at q;subst e;have pos:∀{m:List Addr},c∈m->0 < m.count c:=λh=>List.count_pos_iff.mpr h;rcases f with f | f | f | f | f | f
     ·have:=pos f;omega
     ·subst f;simp at q;omega
     ·have:=pos f;omega
     ·have:=pos f;omega
     ·have:=pos f;omega
     ·have:=pos f;omega
    have L:∀ c,N c->upd n b (.lst (t++g)) c=n c:=λc f=>jd λz=>gw.wf.nz b (by simp) (z▸f);have hs2:∀ c,H c≠none->n c=H c:=λc f=>by
     rw[X.same c (by rw[D.same c f];exact f)];exact D.same c f
    have M:∀ c,Z c->N c:=λc f=>X.zz c (D.zz c f);have hzH:∀ c,Z c->upd n b (.lst (t++g)) c=H c:=λc f=>by rw[L c (M c f)];exact hs2 c (w.zd c f)
    have x:∀ c,c∈A++(a::(F++(b::C)++G))++B->c≠b->upd n b (.lst (t++g)) c=H c:=λc f hn=>by
     rw[jd hn];exact hs2 c (w.od c f)
    have rus2:=X.reps D.wf.zd (D.reps w.zd W);have rnew:Rep R N (upd n b (.lst (t++g))) (.lst true (l'++m)) (.ref b) (b::C):=by
     rw[Rep];refine⟨b,t++g,C,rfl,?_,jo,rfl⟩;have q1:=rus2.frame (λ_ z=>z) L (λc f=>jd (Q c (.inr (.inr (.inr (.inl f))))));have q2:=rm.frame (λ_ z=>z) L (λc f=>(nomatch f));have:=q1.append q2;simpa using this
    have I:=V rnew M hzH (λc f=>x c (by simp[f]) (Q c (.inr (.inr (.inl f))))) (λc f=>x c (by simp[f]) (Q c (.inr (.inr (.inr (.inr (.inl f)))))));rw[jH eu] at I;have ea2:upd n b (.lst (t++g)) a=some (.dK ((S.map kaV).zip vs)):=by rw[x a (by simp) (Q a (.inr (.inl rfl)))];exact U
    have rt:Rep R N (upd n b (.lst (t++g))) (.dK true S (l.set j (.lst true (l'++m)))) (.ref a) (a::(F++(b::C)++G)):=by
     rw[Rep];exact⟨a,vs,_,rfl,I,by rw[List.length_set];exact T,ea2,rfl⟩
    have sl:=k2 rt M hzH (λc f=>x c (by simp[f]) (Q c (.inl f))) (λc f=>x c (by simp[f]) (Q c (.inr (.inr (.inr (.inr (.inr f)))))));rw[jH ev] at sl;exact k (gw.trans gB) sl (Keep.refl _ _)
  ·cases e
 ·cases e
theorem wv{i j:Nat}{pk p:PF}{ρ:Rh}{ks:List KA}{l l' m:List D}{q d:D}{c:KA}(a:pV i ρ=some (.dK true ks l))(h1:pk ρ=some q)(b:ym q=some c)(h2:p ρ=some d)(hd:Js d=some m)(f:xI ks c=some j)(e:l[j]?=some (.lst true l'))(g:lim (l'.length+m.length)=true) :
  Ks i pk p ρ=some (.nx (ρ.set i (some (.dK true ks (l.set j (.lst true (l'++m))))))):=by
 unfold Ks;rw[h1,L3,b,L3,h2,L3,hd,L3,J7 a];dsimp only;rw[f,L3,e];dsimp only;rw[g];rfl
end
section
variable {cl:Nat->Addr}{pm:List Nat}{X:Cx}{e f:Expr}{te tf:TE}{pe pf:PF}{pos:Pos}{k:Nat}
theorem jaf{i:Nat}{x:Str}{a apos cpos b:Pos}(p:Room k X.A)(q:QB cl X (.Name x a) (vB i) (pV i))(n:QB cl X f tf pf)(h:QB cl X e te pe)(l:jdz f:=by exact λ_ _=>rfl)
  (d:attributeBase (.Subscript (.Name x a) f b) "extend" X.env (eval (.Subscript (.Name x a) f b) X.env)=eval (.Subscript (.Name x a) f b) X.env:=by rfl)
  (j:((backTo cpos (starEach [e] X.env)).all (λx=>!x.1)&&(backToKw cpos (keywordEach [] X.env)).all (λx=>x.1.isSome)
   && decide ([e].length+([]:List Keyword).length+(if([]:List Keyword).isEmpty then 0 else 1) < 30))=true:=by rfl)
  (g:(apos.endLine==cpos.line)=true:=by rfl) (o:starEach [e] X.env=(false,eval e X.env)::starEach [] X.env:=by rfl) (c:(backTo cpos (starEach [] X.env)).any (·.1)=false:=by rfl)
  (m:swapsWith (.Call (.Attribute (.Subscript (.Name x a) f b) "extend" apos) [e] [] cpos) none pos.line X.env=pure false:=by rfl) :
  QS cl pm X (.Expr (.Call (.Attribute (.Subscript (.Name x a) f b) "extend" apos) [e] [] cpos) pos) (qP (tBM X.K "list" (zi X.K) (Q8 (vB i) tf) (y9 te Vn))) (Ks i pf pe) :=
 ⟨qR (QM PySem.F.plainAttrs_list PySem.F.slot_list_extend PySem.F.type_list_extend zB (zh (Qe p) q.sem n.sem l) (vo h.sem Jd o) d j g o c) m,jaN n.den h.den⟩
end
end QD
namespace PySem
open L2 PyProof.Rows
section
variable {prog:Program}{w:World}{K:Type} [DecidableEq K] {knd:KeyKind prog w K}{A:Around}{E:Value->Shared->Prop}{s:Shared}
noncomputable def kT(acc:List K):List K->List K
 | []=>acc
 | k::ks=>if k∈acc then kT acc ks else kT (acc++[k]) ks
theorem JP{S:K->Bool}{n:Nat}{x:Value}{Q:Bool->Shared->Prop}(b:knd.is k x=true)(c:x.scannable=true)(h:Heap.SetOf knd s.heap a S n)(hn:n+1 < scanBound)
  (q:∀ h':Heap,Heap.SameBut a s.heap h'->Heap.SetOf knd h' a (λk'=>S k'||decide (k'=k)) (if S k=true then n else n+1)->Q (!S k) { s with heap:=h',toks:=s.toks+1 }):wpAny (model prog w) A (setAdd a x) Q E s:=by
 unfold setAdd;refine wpAny_holding (L1 (knd.pyHash b ?_));exact wpAny_setAddHashed_of b c h hn λh' d e=>q h' d e
theorem wS{R:Result->Shared->Prop}(hh:A.handled=none)  (B:ax≠I) (l:S0≠I) (N:S0≠ax) {items:Array Value}{ks:List K}(C:items.size=ks.length) (O:∀(j:Nat) (v:Value),items[j]?=some v->∃ k,ks[j]?=some k/\knd.is k v=true/\v.scannable=true) :
  ∀(m i:Nat) (s:Shared) (acc:List K),items.size - i=m->i<=items.size->(s.heap.IsListIter I ax i/\s.heap.IsList ax items)->Heap.SetOf knd s.heap S0 (λk=>decide (k∈acc)) acc.length->acc.length+m+1 < scanBound ->
  (∀ h' tk,Heap.SetOf knd h' S0 (λk=>decide (k∈kT acc (ks.drop i))) (kT acc (ks.drop i)).length->(∀ b o,b≠I->b≠S0->s.heap.get? b=some o->h'.get? b=some o)->R (.ok (.ret .none)) { s with heap:=h',toks:=tk }) ->
  codeAny (model prog w) A (.builtin "set.update.loop" ⟨[.ref S0,.ref I],[]⟩) R s:=by
 intro m
 induction m with
 | zero =>
  intro i s acc hk hi n hd hz M;have P:i=items.size:=by omega
  subst P;have W:=Walks.list (prog:=prog) (w:=w) (A:=A.in1) (by exact hh) I ax B items;refine codeAny_builtin F.entry_set_update_loop ?_;rw[Around.under_plainId F.plain_set_update_loop _];show wpAny _ A.in1 (pyNext (.ref I) >>= _) _ _ s;refine L1 (W.done s _ _ n λh' tk c=>?_);have fin:=M h' tk (by
   rw[C,List.drop_length];obtain⟨o,Q,S,t,T,U⟩:=hd;exact⟨o,Q,S,t,c S0 o (by simpa using l) T,U⟩) (λb o d _ e=>c b o (by simpa using d) e)
  repeat (any_goals (first | assumption | wp_step))
 | succ m ih =>
  intro i s acc hk hi n hd hz M;have p:i < items.size:=by omega
  have W:=Walks.list (prog:=prog) (w:=w) (A:=A.in1) (by exact hh) I ax B items;refine codeAny_builtin F.entry_set_update_loop ?_;rw[Around.under_plainId F.plain_set_update_loop _];show wpAny _ A.in1 (pyNext (.ref I) >>= _) _ _ s;refine L1 (W.item i s _ _ p n λv h' tk hP D c=>?_);obtain⟨k,E,V,X⟩:=O i v hP;have Y:Heap.SetOf knd h' S0 (λk=>decide (k∈acc)) acc.length:=by
   obtain⟨o,Q,S,t,T,U⟩:=hd;exact⟨o,Q,S,t,c S0 o (by simpa using l) T,U⟩
  refine L1 (wpAny_holding (JP V X Y (by omega) λG Z y=>?_));refine M6 ⟨plainId_quiet F.plain_set_update_loop _,?_⟩;have H:ks.drop i=k::ks.drop (i+1):=by
   have J:i < ks.length:=by omega
   rw[List.drop_eq_getElem_cons J];rw[X5 J] at E;rw[X3 E]
  have g:G.IsListIter I ax (i+1)/\G.IsList ax items:=W.frame (i+1) h' G D λb d o e=>(Z.2 b (by
   rcases M4.mp d with rfl | d
   ·exact λz=>l z.symm
   ·rw[M7.mp d];exact λz=>N z.symm)).trans e
  by_cases L:k∈acc
  ·have q:Heap.SetOf knd G S0 (λk=>decide (k∈acc)) acc.length:=by
    rw[if_pos (X0 L)] at y;have e:(λa=>decide (a∈acc)||decide (a=k))=λa=>decide (a∈acc):=by
     funext a
     by_cases h:a=k
     ·subst h;simp[L]
     ·simp[h]
    rw[e] at y;exact y
   refine ih (i+1) _ acc (by omega) p g q (by omega) λh3 r u x=>?_;refine M h3 r ?_ λb o d f e=>x b o d f ((Z.2 b f).trans (c b o (by simpa using d) e));rw[H,kT,if_pos L];exact u
  ·have q:Heap.SetOf knd G S0 (λa=>decide (a∈acc++[k])) (acc++[k]).length:=by
    rw[if_neg (by simp[L])] at y;have e:(λa=>decide (a∈acc)||decide (a=k))=λa=>decide (a∈acc++[k]):=by
     funext a
     simp
    rw[e] at y;rw[N4];exact y
   refine ih (i+1) _ (acc++[k]) (by omega) p g q (by rw[N4];simp;omega) λh3 r u x=>?_;refine M h3 r ?_ λb o d f e=>x b o d f ((Z.2 b f).trans (c b o (by simpa using d) e));rw[H,kT,if_neg L];exact u
end
end PySem
namespace L2
open PySem PySem.Spec PyProof.Rows
section
variable {prog:Program}{w:World}{A:Around}{E:Value->Shared->Prop}{s:Shared}{K:Type} [DecidableEq K] {knd:KeyKind prog w K}
noncomputable abbrev YN(led:Bool):Obj:={ cls:=.type "set",dict:=none,data:=.set #[] 0 (.fresh 0 0 led) }
theorem xL(a:Value):Meets (Builtin.«set.__new__» ⟨[.type "set",a],[]⟩) (λ_ R s=>∀ led:Bool,R (.ok (.ret (.ref s.heap.objs.size))) { s with heap:=s.heap.push (YN led) }) :=
 .of_wp λprog w A R s h=>by
  obtain⟨c,g,d,e,os⟩:=s;have b:=sub_set_self;unfold Builtin.«set.__new__» Builtin.Frozenset.newClass
  wp_walk
  refine wpAny_askSetting (M6 ?_);dsimp only;refine L1 (wpAny_alloc (M6 ?_));exact M6 ⟨_,rfl,h _⟩
theorem jdd{T d it:String}{i j:Builtin}{xs:List Value}{a:List (Str×Value)}{k:PySem.Spec}{Q Q1:Value->Shared->Prop}(ft:TypeCalled T d it)
  (u:checkTypeCall T ⟨xs,a⟩=pure ()) (l:checkBuiltinCall d ⟨.type T::xs,a⟩=pure ()) (n1:entryFor table d=some i) (n2:entryFor table it=some j)
  (g:Meets (i ⟨.type T::xs,a⟩) k) (h:k A.in1 (wants Q1 E) s)
  (nx:∀ obj s1,Q1 obj s1->s1.TypeIs obj T/\(∀{B:Around}{C:Unit->Shared->Prop}{F:Value->Shared->Prop},C () s1->wpAny (model prog w) B (checkBuiltinCall it ⟨obj::xs,a⟩) C F s1)/\∃ Si,MeetsIn prog w (j ⟨obj::xs,a⟩) Si/\Si A.in1 (wants (λr s2=>r=.none/\Q obj s2) E) s1) :
  wpAny (model prog w) A (call (.type T) xs a) Q E s:=by
 obtain⟨c,v,x⟩:=ft.mro;have y:=ft.made;have z:=ft.sub;refine wpAny_call (codeAny_of_tree ?_);show wpAny _ _ (callAny (.type T) _) _ _ _;refine M6 ⟨Code.quiet_builtin _ (by decide +kernel),codeAny_builtin F.entry_type_call ?_⟩;rw[Around.under_plain (weight_type_call_type T xs a) (units_type_call_type T xs a)];have D:=ft.notType;have G:=ft.canCreate
 repeat (any_goals (first | assumption | wp_step))
 refine codeAny_mono (codeAny_call_builtin ft.plain n1 (wpAny_of_eq l (g prog w A.in1 _ s h))) λr s1 f=>?_;cases r with
 | error e=>exact f
 | ok m =>
  cases m with
  | ret obj =>
   obtain⟨H,n,Si,o,p⟩:=nx _ _ f;have I:=ft.init.lookup;have J:=ft.init.bind obj
   repeat (any_goals (first | assumption | wp_step))
   refine codeAny_mono (codeAny_call_builtin ft.init.plain n2 (n (o A.in1 _ s1 p))) λq s2 b=>?_;cases q with
   | error e=>exact b
   | ok t =>
    cases t with
    | ret r =>
     obtain⟨rfl,K⟩:=b
     repeat (any_goals (first | assumption | wp_step))
    | _=>exact b.elim
  | _=>exact f.elim
theorem K6{c l:Addr}{us:Array Value}{m:Nat}{dc:Option Addr}{sl:Array (Option Value)}{led:Bool}{ks:List K}(a:us.size=ks.length)(d:∀(j:Nat) (v:Value),us[j]?=some v->∃ k,ks[j]?=some k/\knd.is k v=true/\v.scannable=true)(f:ks.length+1 < scanBound)(hn:c≠l) :
  MeetsIn prog w (Builtin.«set.__init__» ⟨[.ref c,.ref l],[]⟩) (λA R s=>A.handled=none/\s.heap.get? c=some (YN led)/\s.heap.get? l=some { cls:=.type "list",dict:=dc,data:=.seq us m,slots:=sl } /\
   ∀ h' tk,Heap.SetOf knd h' c (λk=>decide (k∈kT [] ks)) (kT [] ks).length->(∀ b o,b < s.heap.objs.size->b≠c->s.heap.get? b=some o->h'.get? b=some o)->R (.ok (.ret .none)) { s with heap:=h',toks:=tk }):=by
 intro A R s ⟨r,g,p,go⟩;have q:s.heap.IsList l us:=⟨_,p,rfl,m,rfl⟩;have y:=F.sub_list_set;have z:=F.sub_list_frozenset;have B:(Value.type "list"==Value.type "dict")=false:=by decide
 have h:=N1 g;have i:=N1 p;have C:s.TypeIs (.ref c) "set":=⟨_,g,rfl⟩;unfold Builtin.«set.__init__» noKeywords Builtin.Frozenset.updateFrom;generalize n:pyIter=PI
 wp_walk
 subst n;refine wpAny_pyIter_list q ?_;refine L1 (wpAny_runValue ?_);have t:l≠s.heap.objs.size:=N6 i;have u:c≠s.heap.objs.size:=N6 h;refine wS (knd:=knd) (A:=A.in1) (by simp[r]) t u hn (items:=us) (ks:=ks) a d (us.size - 0) 0 { s with heap:=s.heap.push { cls:=.type "list_iterator",data:=.fields #[.ref l,.int 0 0] } } [] rfl (U5 _) ⟨⟨_,X7 _ rfl,rfl,rfl⟩,q.push _⟩ ?_ (by rw[a];simpa using f) λh' tk hd x=>?_
 ·exact(PyProof.Rows.setObjOf_fresh (knd:=knd) led).setOf (L7 _ g) (by unfold scanBound;omega)
 ·refine M6 ?_;refine M6 ?_;rw[List.drop_zero] at hd;exact go h' tk hd λb o f hn e=>x b o (N6 f) hn (L7 _ e)
theorem wM{l:Addr}{us:Array Value}{ks:List K}{Q:Value->Shared->Prop}(r:A.handled=none)(t:s.heap.IsList l us)(d:us.size=ks.length)(g:∀(j:Nat) (v:Value),us[j]?=some v->∃ k,ks[j]?=some k/\knd.is k v=true/\v.scannable=true)(u:ks.length+1 < scanBound)
  (go:∀ h' tk,Heap.SetOf knd h' s.heap.objs.size (λk=>decide (k∈kT [] ks)) (kT [] ks).length->(∀ b o,s.heap.get? b=some o->h'.get? b=some o)->Q (.ref s.heap.objs.size) { s with heap:=h',toks:=tk }) :
  wpAny (model prog w) A (call (.type "set") [.ref l] []) Q E s:=by
 obtain⟨⟨c,z,x,B⟩,n,h,m,hd⟩:=t;replace h:c=.type "list":=h;replace hd:x=.seq us m:=hd;subst h hd;refine jdd (Q1:=λobj p=>∃ a,obj=.ref s.heap.objs.size/\p={ s with heap:=s.heap.push (YN a) }) F.called_set (F.typeCall_set_1 _) (F.newCall_set_1 _) F.entry_set_new F.entry_set_init (xL _) (λa=>⟨a,rfl,rfl⟩) λobj p q=>?_;obtain⟨a,rfl,rfl⟩:=q;have i:(s.heap.push (YN a)).get? s.heap.objs.size=some (YN a):=X7 _ rfl;refine⟨⟨_,i,rfl⟩,λq=>check_set_init_1 ⟨_,i,rfl⟩ q,_,K6 (knd:=knd) (led:=a) d g u (Nat.ne_of_gt (N1 n)),by simp[r],i,L7 _ n,λh' tk hd y=>⟨rfl,go h' tk hd λb o e=>?_⟩⟩;have f:b < s.heap.objs.size:=N1 e;exact y b o (by show b < (s.heap.push _).objs.size;rw[Heap.size_push];exact Nat.lt_succ_of_lt f) (N6 f) (L7 _ e)
end
noncomputable def VB(K:PySem.W.Frag)(t:TE):TE:=λσ H Q=>t σ H λx H1=>∃ a ns,x=.ref a/\SqL K H1 a (ns.map V.str)/\ns.length<=1000/\Q (.int ((kT [] ns).length:Nat)) H1
section
variable {X:Cx}{a:Expr}{ta:TE}{p p2 pos pos2:Pos}
theorem qr{α β:Type} [DecidableEq α] [DecidableEq β] {f:β->α}(a:∀ x y,f x=f y->x=y):∀(l acc:List β),(kT (acc.map f) (l.map f)).length=(kT acc l).length
 | [],acc=>by rw[List.map_nil,kT,kT,L0]
 | b::l,acc=>by
  rw[L4,kT,kT];by_cases h:b∈acc
  ·rw[if_pos h,if_pos (M5.mpr ⟨b,h,rfl⟩)];exact qr a l acc
  ·rw[if_neg h,if_neg λz=>h (by obtain⟨c,d,e⟩:=M5.mp z;rw[<- a _ _ e];exact d)];have:=qr a l (acc++[b]);rw[N5] at this;exact this
theorem QY(E:X.calm=true)(F:Gl X "len")(G:X.mg "len" = none)(m:Gl X "set")(n:X.mg "set" = none)(J:PE X a ta)
  (L:starEach [.Call (.Name "set" p2) [a] [] pos2] X.env=(false,eval (.Call (.Name "set" p2) [a] [] pos2) X.env)::starEach [] X.env:=by rfl)
  (q:(backTo pos (starEach [] X.env)).any (·.1)=false:=by rfl)
  (r:backTo pos (starEach [.Call (.Name "set" p2) [a] [] pos2] X.env)=[(false,eval (.Call (.Name "set" p2) [a] [] pos2) X.env)]:=by rfl)
  (y:starEach [a] X.env=(false,eval a X.env)::starEach [] X.env:=by rfl) (d:(backTo pos2 (starEach [] X.env)).any (·.1)=false:=by rfl)
  (f:backTo pos2 (starEach [a] X.env)=[(false,eval a X.env)]:=by rfl) :
  PE X (.Call (.Name "len" p) [.Call (.Name "set" p2) [a] [] pos2] [] pos) (VB X.K ta):=by
 intro g s σ H Q I h;refine wpAny_Call_Name_kw (kK I F G (show bootBuiltins "len" = some (.builtin "len") from PySem.boot_len) ?_ (by decide) (by decide));refine PyProof.Rows.callWith_builtin1 ?_ L q;rw[r];refine Calls.spliced_cons (wpAny_Call_Name_kw (kK I m n (show bootBuiltins "set" = some (.type "set") by decide +kernel) ?_ (by decide) (by decide)));refine PyProof.Rows.callWith_type1 ?_ y d;rw[f];refine Calls.spliced_cons (thn (J g s σ H _ I h) λv s1 ⟨x,M,z,N,l,ns,ex,O,hn,P⟩=>Calls.spliced_nil ?_);subst ex;obtain rfl:v=Value.ref l:=N;obtain⟨R,C,S,hz⟩:=z.list O;have c:=C.length;rw[L0] at c;refine wM (knd:=jw X.prog X.w) (ks:=ns.map Sum.inr) (z.ok.hd E) S.isList (by rw[N3,L0];exact c.symm) (λj v A=>?_) (by rw[L0];unfold scanBound;omega) λh' tk T U=>Calls.spliced_nil ?_
 ·rw[List.getElem?_toArray] at A;have k:j < ns.length:=by have:=(L8.mp A).1;omega
  obtain⟨u,D,V⟩:=C.get (i:=j) (x:=.str ns[j]) (by rw[List.getElem?_map,X5 k];rfl);rw[A] at D;cases D;obtain⟨t,rfl⟩:=V;exact⟨Sum.inr ns[j],by rw[List.getElem?_map,X5 k];rfl,by rw[JC];exact Yw _ _,rfl⟩
 ·obtain⟨o,es,ep,t,W,Y,Z,_,_,e4,e5,e6⟩:=T;refine call_len_set W Y Z e5 (by unfold scanBound at e4;omega) ?_;have B:(kT [] (ns.map (Sum.inr:_->Key))).length=(kT [] ns).length:=qr (λ_ _ e=>Sum.inr.inj e) ns [];refine⟨.int ((kT [] ns).length:Nat),M,z.layAll U (λ_ _=>rfl) (λb o hb e=>by rw[hb] at e;cases e),?_,P⟩;rw[e6,B];exact⟨_,rfl⟩
end
end L2
namespace QD
open PySem L2 PySem.Spec PyProof.Rows
section
variable {R:RC}
noncomputable def J9:D->Option D
 | .lst _ l=>(J0 l).bind λws=>bif decide (ws.length<=1000) then some (.int ((kT [] ws).length:Nat)) else none
 | _=>none
@[simp] theorem qH(o:Bool)(l:List D):J9 (.lst o l)=(J0 l).bind λws=>bif decide (ws.length<=1000) then some (.int ((kT [] ws).length:Nat)) else none:=rfl
noncomputable def J1(p:PF):PF:=λρ=>(p ρ).bind J9
@[simp] theorem QV{p:PF}{ρ:Rh}:J1 p ρ=(p ρ).bind J9:=rfl
theorem zc{te:TE}{p:PF}(h:PB R te p):PP R (VB R.K te) (J1 p):=by
 intro σ ρ Z H O d z s e Q k;rw[QV] at e;cases e1:p ρ with
 | none=>rw[e1] at e;cases e
 | some x =>
  rw[e1,L3] at e;cases x with
  | lst o l =>
   rw[qH] at e;cases e2:J0 l with
   | none=>rw[e2] at e;cases e
   | some b =>
    rw[e2,L3] at e;cases hm:decide (b.length<=1000) with
    | false=>rw[hm] at e;cases e
    | true =>
     rw[hm] at e;cases e;refine h z s e1 λ{v j m P} g r=>?_;obtain⟨a,n,q,rfl,c,f⟩:=r.lst_of;have:=Kc e2 f;subst this;refine⟨a,b.map S,rfl,c.sq,by rw[L0];exact X2 hm,?_⟩;have i:(kT [] (b.map S)).length=(kT [] b).length:=qr (λ_ _ e=>jaU e) b [];rw[i];exact k g .int_mk
  | _=>cases e
end
section
variable {cl:Nat->Addr}{X:Cx}{a:Expr}{ta:TE}{pa:PF}{pos p p2 pos2:Pos}
theorem wQ(j:X.calm=true)(k:X.mg "len" = none)(d:X.mg "set" = none)(i:QB cl X a ta pa)(l:Gl X "len":=by rfl)(e:Gl X "set":=by rfl)
  (m:starEach [.Call (.Name "set" p2) [a] [] pos2] X.env=(false,eval (.Call (.Name "set" p2) [a] [] pos2) X.env)::starEach [] X.env:=by rfl)
  (f:(backTo pos (starEach [] X.env)).any (·.1)=false:=by rfl)
  (g:backTo pos (starEach [.Call (.Name "set" p2) [a] [] pos2] X.env)=[(false,eval (.Call (.Name "set" p2) [a] [] pos2) X.env)]:=by rfl)
  (h:starEach [a] X.env=(false,eval a X.env)::starEach [] X.env:=by rfl) (b:(backTo pos2 (starEach [] X.env)).any (·.1)=false:=by rfl)
  (c:backTo pos2 (starEach [a] X.env)=[(false,eval a X.env)]:=by rfl) :
  QP cl X (.Call (.Name "len" p) [.Call (.Name "set" p2) [a] [] pos2] [] pos) (VB X.K ta) (J1 pa):=⟨QY j l k e d i.sem m f g h b c,zc (R:=⟨X.K,cl⟩) i.den⟩
end
end QD
namespace K57
open PySem L2 QD
noncomputable def top(i:Nat):Stmt:=PySem.Challenge.pw_tranchefall_k57_ring_of_lenders.main.body.getD i (.Pass ⟨0,0,0,0⟩)
noncomputable abbrev kF:Stmt:=top 2
noncomputable abbrev ku:List Str:=["pool"]
theorem vJ:FnScope ["pool","names","order"] ku (jk kF):=fsc
noncomputable abbrev qw:Stmt:=top 4
noncomputable abbrev qz:List Str:=["come_from","last"]
theorem kJ:FnScope ["come_from","last","way","name"] qz (jk qw):=fsc
noncomputable abbrev yn:Stmt:=top 6
noncomputable abbrev yw:List Str:=["_law_script","_law_k"]
theorem Jr:FnScope ["_law_script","_law_k"] yw (jk yn):=fsc
noncomputable abbrev yU:Stmt:=top 7
noncomputable abbrev va:List Str:=["_law_cell","_law_k"]
theorem qf:FnScope ["_law_cell","_law_k","_law_number"] va (jk yU):=fsc
noncomputable abbrev yt:Stmt:=top 8
noncomputable abbrev yr:List Str:=["_law_number","_law_size"]
theorem jM:FnScope ["_law_number","_law_size","_law_some","_law_word","_law_k"] yr (jk yt):=fsc
noncomputable abbrev y4:Stmt:=top 9
noncomputable abbrev yW:List Str:=["_law_word"]
theorem vD:FnScope ["_law_word","_law_some","_law_kept"] yW (jk y4):=fsc
noncomputable abbrev vc:Stmt:=top 12
noncomputable abbrev yY:List Str:=["_law_deal_here"]
theorem jR:FnScope ["_law_deal_here","_law_lends_here","_law_pool","_law_name","_law_parts","_law_rules"] yY (jk vc):=fsc
noncomputable abbrev vf:Stmt:=top 3
noncomputable abbrev yT:List Str:=["lends","first"]
theorem jS:FnScope ["lends","first","come_from","names","at","lender","other"] yT (jk vf):=fsc
noncomputable abbrev vi:Stmt:=top 10
noncomputable abbrev ve:List Str:=["_law_cell","_law_many","_law_longest"]
theorem js:FnScope ["_law_cell","_law_many","_law_longest","_law_some","_law_number","_law_base","_law_size","_law_at","_law_words_here","_law_k","_law_sign","_law_word"] ve (jk vi):=fsc
noncomputable abbrev vg:Stmt:=top 1
noncomputable abbrev vm:List Str:=["deal"]
theorem yi:FnScope ["deal","lends","name","ring"] vm (jk vg):=fsc
noncomputable abbrev yy:Stmt:=top 11
noncomputable abbrev vK:List Str:=["_law_script"]
theorem ji:FnScope ["_law_script","_law_first","_law_many","_law_words_here","_law_rows","_law_k","_law_cell","_law_m","_law_one","_law_other","_law_rules","_law_rule","_law_deal_here","_law_claim","_law_orders"] vK (jk yy):=fsc
noncomputable abbrev Jv:Stmt:=top 13
noncomputable abbrev wT:List Str:=["_law_script"]
theorem vq:FnScope ["_law_script","_law_deal_here","_law_lends_here","_law_found","_law_left","_law_pool","_law_kept","_law_k","_law_after"] wT (jk Jv):=fsc
noncomputable def vb:FS:=(jbx 1 (yH (Yv (p2 jB (pV 2) (pC (.int 2)))) (jl [] 0) (jr (p2 k7 (p2 jB (pV 0) (pC (.int 0))) (pC (.str [108,101,110,100])))) (pF (p2 jB (pV 0) (pC (.int 1)))) [none]))
noncomputable def Jj:FS:=(jL (j7 (dP (kU pN)) (jl [] 1))
 (jL (Vf (pIt (pF (p2 jB (pV 0) (pC (.int 4))))) (jl [] 2) vb)
 (kB (dMv 1))))
noncomputable def yP:List D->Option D:=fnP 3 Jj
noncomputable def yA:FS:=(jL (x4 2 (pF (pV 3)))
 (j7 (dP (pF (p2 vN (pV 0) (pV 3)))) (jl [] 3)))
noncomputable def Yc:FS:=(jL (j7 (dP (kU pN)) (jl [] 2))
 (jL (j7 (dP (pF (pV 1))) (jl [] 3))
 (jL (Jo 1000 (jr (p2 yL (pV 3) (pC .non))) yA)
 (kB (dP (jaF (pV 2)))))))
noncomputable def qA:List D->Option D:=fnP 4 Yc
noncomputable def yq:FS:=(jL (sIf (dPT (jr (p2 KY (pV 1) (pCB kr (jc (pV 0) pN))))) (kB (dP (pF (p2 jB (pV 0) (pV 1)))))
 yX)
 (kB (dP (pC (.int 0)))))
noncomputable def jU:List D->Option D:=fnP 2 yq
noncomputable def v8:FS:=(jL (j7 (dP (p2 ju (p2 vw (p2 ju (pV 0) (pC (.int 2147483647))) (p2 jt (pC (.int 69621)) (p2 vw (p2 vw (pC (.int 1511)) (pV 1)) (pV 1)))) (pC (.int 2147483629)))) (jl [] 2))
 (kB (dP (p2 ju (p2 vw (p2 jt (pV 2) (pV 1)) (p2 jt (p2 jt (pV 2) (p2 vw (pC (.int 5)) (pV 1))) (pC (.int 1)))) (pC (.int 2147483587))))))
noncomputable def jE:List D->Option D:=fnP 3 v8
noncomputable def yF:FS:=(jL (j7 (dP (p2 jt (pV 3) (p2 jB (pV 2) (p2 ju (pV 0) (pC (.int 26)))))) (jl [] 3))
 (j7 (dP (p2 j6 (pV 0) (pC (.int 26)))) (jl [] 0)))
noncomputable def y6:FS:=(jL (j7 (dP (pC (.str [97,98,99,100,101,102,103,104,105,106,107,108,109,110,111,112,113,114,115,116,117,118,119,120,121,122]))) (jl [] 2))
 (jL (j7 (dP (pC (.str []))) (jl [] 3))
 (jL (Vf (k9 (jc (pV 1) pN)) (jl [] 4) yF)
 (kB (dP (pF (pV 3)))))))
noncomputable def jK:List D->Option D:=fnP 5 y6
noncomputable def yg:FS:=(jL (j7 (dP (pC (.str [97,98,99,100,101,102,103,104,105,106,107,108,109,110,111,112,113,114,115,116,117,118,119,120,121,122]))) (jl [] 1))
 (jL (j7 (dP (kU (jc (pC (.str [112,111,111,108])) (jc (pC (.str [99,108,97,105,109])) (jc (pC (.str [112,111,116])) (jc (pC (.str [101,97,116])) (jc (pC (.str [111,114,100,101,114])) (jc (pC (.str [112,97,114,116])) (jc (pC (.str [112,97,121])) (jc (pC (.str [115,104,97,114,101])) (jc (pC (.str [114,101,112,97,121])) (jc (pC (.str [102,105,108,108])) (jc (pC (.str [108,101,110,100])) (jc (pC (.str [98,97,99,107])) pN)))))))))))))) (jl [] 2))
 (jL (sIf (dPT (qOr (jr (p2 (Ve false) (pV 0) (pV 2))) (jr (p2 (Ve false) (pV 0) (kU (jc (pC (.str [114,101,115,116])) (jc (pC (.str [108,111,111,107])) (jc (pC (.str [103,117,97,114,100])) (jc (pC (.str [100,101,98,116])) (jc (pC (.str [111,110])) (jc (pC (.str [108,97,116,101])) (jc (pC (.str [101,97,114,108,121])) (jc (pC (.str [113,117,105,116])) pN))))))))))))) (kB (dP (p2 jt (pSl (pV 0) oN (oS (p1 Qk (pC (.int 1))))) (p2 jB (pV 1) (p2 ju (p2 jt (pBM "str" YJ (pV 1) (jc (p2 jB (pV 0) (p1 Qk (pC (.int 1)))) pN)) (pC (.int 13))) (pC (.int 26)))))))
 yX)
 (kB (dP (pF (pV 0)))))))
noncomputable def jZ:List D->Option D:=fnP 3 yg
noncomputable def y3:FS:=(Ks 1 (p2 jB (pV 2) (pC (.int 0))) (yH (Yv (pV 5)) (jl [] 0) (jr (p2 k7 (p2 jB (pV 0) (pC (.int 0))) (pC (.str [108,101,110,100])))) (pF (p2 jB (pV 0) (pC (.int 1)))) [none]))
noncomputable def yo:FS:=(jL (JM 1 jch (p2 jB (pV 2) (pC (.int 0))) (kU pN))
 (Vf (pIt (pF (p2 jB (pV 2) (pC (.int 4))))) (gT 3 (gC (jl [] 3) (gC (jl [] 4) (gC (jl [] 5) gN)))) y3))
noncomputable def kc:FS:=(jL (j7 (dP (pC (.dK true [] []))) (jl [] 1))
 (jL (Vf (pIt (pF (pV 0))) (jl [] 2) yo)
 (kB (dMv 1))))
noncomputable def vk:List D->Option D:=fnP 6 kc
noncomputable def jp:FS:=(jL (sIf (dPT (jr (p2 k7 (pV 6) (pV 1)))) (sFz 2 (kB (dP (yh qA (jc (pV 2) (jc (pV 5) pN))))))
 yX)
 (sIf (dPT (jr (p2 (JX true) (pV 6) (pV 2)))) (jL (K8 2 (pV 6) (pV 5))
 (x4 3 (pF (pV 6))))
 yX))
noncomputable def jG:FS:=(jL (j7 (dP (pF (p2 jB (pV 3) (pV 4)))) (jl [] 5))
 (jL (Vf (pIt (pF (p2 vN (pV 0) (pV 5)))) (jl [] 6) jp)
 (Kw [] 4 (λi j=>i+j) (pC (.int 1)))))
noncomputable def kj:FS:=(jL (j7 (dP (pD1 (pV 1) (pC .non))) (jl [] 2))
 (jL (j7 (dP (kU (jc (pF (pV 1)) pN))) (jl [] 3))
 (jL (j7 (dP (pC (.int 0))) (jl [] 4))
 (jL (Jo 1000 (jr (p2 KY (pV 4) (pCB kr (jc (pV 3) pN)))) jG)
 (kB (dP (pC .non)))))))
noncomputable def ye:List D->Option D:=fnP 7 kj
noncomputable def jT:FS:=(jL (j7 (dP (pF (p2 jB (pV 3) (p2 ju (p2 jt (p2 j6 (pV 4) (pC (.int 192))) (pV 9)) (pC (.int 26)))))) (jl [] 10))
 (jL (sIf (dPT (jr (p2 k7 (p2 ju (pV 4) (pC (.int 3))) (pC (.int 0))))) (j7 (dP (p2 jt (p2 jt (pSl (pV 5) oN (oS (pV 7))) (pV 10)) (pSl (pV 5) (oS (p2 jt (pV 7) (pC (.int 1)))) (oS (pV 6))))) (jl [] 11))
 (sIf (dPT (jr (p2 k7 (p2 ju (pV 4) (pC (.int 3))) (pC (.int 1))))) (j7 (dP (pSl (pV 5) oN (oS (p2 jt (pC (.int 1)) (p2 ju (p2 jt (p2 j6 (pV 4) (pC (.int 24))) (pV 9)) (pV 2)))))) (jl [] 11))
 (j7 (dP (pSl (p2 jt (pV 10) (yh jK (jc (yh jE (jc (pV 0) (jc (p2 jt (pV 9) (pC (.int 2))) pN))) (jc (pC (.int 7)) pN)))) oN (oS (p2 jt (pC (.int 1)) (p2 ju (yh jE (jc (pV 0) (jc (p2 jt (pV 9) (pC (.int 40))) pN))) (pV 2)))))) (jl [] 11))))
 (x4 8 (yh jZ (jc (pV 11) pN)))))
noncomputable def vj:FS:=(jL (j7 (dP (pC (.str [97,98,99,100,101,102,103,104,105,106,107,108,109,110,111,112,113,114,115,116,117,118,119,120,121,122]))) (jl [] 3))
 (jL (j7 (dP (yh jE (jc (pV 0) (jc (pC (.int 1)) pN)))) (jl [] 4))
 (jL (j7 (dP (yh jK (jc (p2 jt (p2 vw (pV 4) (pV 4)) (pV 4)) (jc (pC (.int 8)) pN)))) (jl [] 5))
 (jL (j7 (dP (p2 jt (pC (.int 1)) (p2 ju (p2 j6 (pV 4) (pC (.int 3))) (pV 2)))) (jl [] 6))
 (jL (j7 (dP (p2 ju (p2 j6 (pV 4) (pC (.int 24))) (pV 6))) (jl [] 7))
 (jL (j7 (dP (kU pN)) (jl [] 8))
 (jL (Vf (k9 (jc (pV 1) pN)) (jl [] 9) jT)
 (jL (sIf (dPT (jr (p2 k7 (p2 ju (p2 j6 (pV 4) (pC (.int 5000))) (pC (.int 2))) (pC (.int 1))))) (kB (dP (jaF (pV 8))))
 yX)
 (kB (dMv 8))))))))))
noncomputable def yG:List D->Option D:=fnP 12 vj
noncomputable def jy:FS:=(jL (j7 (dP (yh ye (jc (pV 1) (jc (pV 2) pN)))) (jl [] 3))
 (sIf (dPT (jr (p2 yL (pV 3) (pC .non)))) (kB (dMv 3))
 yX))
noncomputable def ki:FS:=(jL (j7 (dP (pCB KG (jc (pFz (yH (Yv (pV 0)) (jl [] 0) qT (qB (jc (pF (p2 jB (pV 0) (pC (.int 0)))) (jc (yh yP (jc (pV 0) pN)) pN))) [none])) pN))) (jl [] 1))
 (jL (Qp (qJ 1) (jl [] 2) jy)
 (kB (dP (pC .non)))))
noncomputable def j0:List D->Option D:=fnP 4 ki
noncomputable def yI:FS:=(jL (j7 (dP (yh jE (jc (pV 6) (jc (p2 jt (pV 5) (pC (.int 2))) pN)))) (jl [] 7))
 (jL (j7 (dP (p2 ju (pV 7) (pV 2))) (jl [] 8))
 (jL (j7 (dP (p2 ju (p2 jt (p2 jt (pV 8) (pC (.int 1))) (p2 ju (p2 j6 (pV 7) (pC (.int 6))) (p2 xM (pV 2) (pC (.int 1))))) (pV 2))) (jl [] 9))
 (K2 4 10 [] (pV 8) (p2 ju (p2 j6 (pV 7) (pC (.int 30))) (pCB kr (jc (p2 jB (pV 4) (pV 8)) pN)))
 (jL (j7 (dP (qB (jc (pC (.str [108,101,110,100])) (jc (p2 jt (p2 jB (pV 3) (pV 9)) (pC (.str [97]))) (jc (p2 jt (pC (.int 1)) (p2 ju (pV 7) (p2 KC (pC (.int 10)) (pC (.int 9))))) pN))))) (jl [4,10] 11))
 (jL (sIf (dPT (jr (p2 k7 (p2 ju (p2 j6 (pV 7) (pC (.int 90))) (pC (.int 3))) (pC (.int 0))))) (j7 (dP (qB (jc (pC (.str [98,97,99,107])) (jc (p2 jt (p2 jB (pV 3) (pV 9)) (pC (.str [97]))) pN)))) (jl [4,10] 11))
 yX)
 (sIf (dPT (ud (jr (p2 k7 (p2 ju (p2 j6 (pV 7) (pC (.int 270))) (pC (.int 4))) (pC (.int 0)))) (jr (p2 KY (pCB kr (jc (pV 10) pN)) (pC (.int 5)))))) (jaE 10 (p2 ju (p2 j6 (pV 7) (pC (.int 1080))) (pCB kr (jc (pV 10) pN))) (pF (pV 11)))
 yX)))))))
noncomputable def yJ:FS:=(jL (j7 (dP (p2 jt (p2 jB (pV 3) (pV 5)) (pC (.str [98])))) (jl [] 13))
 (jL (j7 (dP (yH (k9 (jc (pCB kr (jc (p2 jB (pV 4) (pV 5)) pN)) pN)) (jl [] 0) qT (qB (jc (pF (p2 jB (pC (.str [97,98,99])) (pV 0))) (jc (kU pN) (jc (pF (p2 jB (p2 jB (pV 1) (pV 2)) (pV 0))) pN)))) [none,some 4,some 5])) (jl [] 14))
 (sFz 14 (x4 12 (qB (jc (p2 jt (p2 jB (pV 3) (pV 5)) (pC (.str [97]))) (jc (kU (jc (qB (jc (pF (pV 13)) (jc (p2 jt (pC (.int 1)) (p2 ju (pV 1) (pC (.int 100)))) (jc (pC (.int 1)) pN)))) pN)) (jc (kU pN) (jc (kU pN) (jc (pF (pV 14)) (jc (kU pN) (jc (kU pN) pN))))))))))))
noncomputable def kY:FS:=(jL (j7 (dP (yh jE (jc (yh jU (jc (pV 0) (jc (pC (.int 0)) pN))) (jc (pC (.int 1)) pN)))) (jl [] 1))
 (jL (j7 (dP (p2 jt (pC (.int 2)) (p2 ju (pV 1) (pC (.int 5))))) (jl [] 2))
 (jL (j7 (dP (yh yG (jc (yh jU (jc (pV 0) (jc (pC (.int 0)) pN))) (jc (pV 2) (jc (pC (.int 7)) pN))))) (jl [] 3))
 (jL (j7 (dP (yH (Yv (pV 3)) (jl [] 0) qT (yH (k9 (jc (p2 jt (pC (.int 1)) (p2 ju (p2 j6 (pV 1) (pC (.int 5))) (pC (.int 3)))) pN)) (jl [] 0) qT (kU (jc (qB (jc (pC (.str [114,101,115,116])) (jc (p2 jt (pV 1) (pC (.str [98]))) pN))) pN)) [none,some 0]) [none,some 1])) (jl [] 4))
 (jL (Vf (K9 (jc (pSl (pV 0) oN (oS (pC (.int 64)))) pN)) (gT 2 (gC (jl [] 5) (gC (jl [] 6) gN))) yI)
 (jL (j7 (dP (kU pN)) (jl [] 12))
 (jL (sFz 4 (Vf (k9 (jc (pV 2) pN)) (jl [] 5) yJ))
 (kB (dMv 12)))))))))
noncomputable def yO:List D->Option D:=fnP 15 kY
noncomputable def J8:FS:=(j7 (dP (yH (Yv (pV 4)) (jl [] 0) (jr (p2 jcz (pCB kr (jc (yH (Yv (p2 vN (pV 1) (pV 0))) (jl [] 0) (jr (p2 (Ve false) (pV 0) (pV 1))) (pF (pV 0)) [none,some 2]) pN)) (pC (.int 0)))) (pF (pV 0)) [none,some 2,some 4])) (jl [1] 4))
noncomputable def JZ:FS:=(jL (j7 (dP (pF (p2 jB (pV 3) (p2 ju (p2 jt (pV 7) (pC (.int 1))) (pCB kr (jc (pV 3) pN)))))) (jl [] 8))
 (sIf (dPT (qOr (jaW (jr (jaj "str" (p2 jB (pV 3) (pV 7))))) (qOr (jr (p2 (JX true) (p2 jB (pV 3) (pV 7)) (pV 2))) (jr (p2 (Ve true) (pV 8) (p2 vN (pV 2) (p2 jB (pV 3) (pV 7)))))))) (kB (dP (pC (.bl false))))
 yX))
noncomputable def wI:FS:=(jL (j7 (dP (yh yO (jc (pV 0) pN))) (jl [] 1))
 (jL (j7 (dP (yh vk (jc (pV 1) pN))) (jl [] 2))
 (jL (j7 (dP (yh j0 (jc (pV 1) pN))) (jl [] 3))
 (jL (sIf (dPT (jr (p2 ua (pV 1) (yh yO (jc (pV 0) pN))))) (kB (dP (pC (.bl false))))
 yX)
 (jL (sIf (dPT (jr (p2 wX (pV 3) (pC .non)))) (jL (sFz 1 (j7 (dP (yH (Yv (pV 1)) (jl [] 0) qT (pF (p2 jB (pV 0) (pC (.int 0)))) [none])) (jl [] 4)))
 (jL (K5 1 (jl [1] 5) J8)
 (kB (dP (p2 k7 (pV 4) (kU pN))))))
 yX)
 (jL (sIf (dPT (qOr (jaW (jr (jaj "list" (pV 3)))) (qOr (jr (p2 KY (pCB kr (jc (pV 3) pN)) (pC (.int 2)))) (jr (p2 KY (J1 (pV 3)) (pCB kr (jc (pV 3) pN))))))) (kB (dP (pC (.bl false))))
 yX)
 (jL (j7 (dP (pCB xc (jc (pV 3) pN))) (jl [] 6))
 (jL (jby 3)
 (jL (sIf (dPT (jr (p2 ua (yh j0 (jc (pV 1) pN)) (pV 6)))) (kB (dP (pC (.bl false))))
 yX)
 (jL (sFz 6 (j7 (dP (pF (pV 6))) (jl [] 3)))
 (jL (Vf (k9 (jc (pCB kr (jc (pV 3) pN)) pN)) (jl [] 7) JZ)
 (kB (dP (pC (.bl true)))))))))))))))
noncomputable def Vs:List D->Option D:=fnP 9 wI
structure Txt(P:Program)(w:World)(K:PySem.W.Frag)(mg:Str->Option Value):Prop where
 n_dict:mg "dict" = none
 n_enumerate:mg "enumerate" = none
 n_isinstance:mg "isinstance" = none
 n_len:mg "len" = none
 n_list:mg "list" = none
 n_range:mg "range" = none
 n_reversed:mg "reversed" = none
 n_set:mg "set" = none
 n_str:mg "str" = none
section
variable (P:Program)(w:World)(K:PySem.W.Frag)(mg:Str->Option Value)(cl:Nat->Addr)
noncomputable abbrev Yu:Prop:=OkF P w K mg "lent_to" kF 1 ku (spP ⟨K,cl⟩ yP 1)
noncomputable abbrev V6:Prop:=OkF P w K mg "way_to" qw 1 qz (spP ⟨K,cl⟩ qA 2)
noncomputable abbrev kN:Prop:=OkF P w K mg "_law_cell_at" yn 1 yw (spP ⟨K,cl⟩ jU 2)
noncomputable abbrev vW:Prop:=OkF P w K mg "_law_mixed" yU 1 va (spP ⟨K,cl⟩ jE 2)
noncomputable abbrev kH:Prop:=OkF P w K mg "_law_letters" yt 1 yr (spP ⟨K,cl⟩ jK 2)
noncomputable abbrev qD:Prop:=OkF P w K mg "_law_spelt" y4 1 yW (spP ⟨K,cl⟩ jZ 1)
noncomputable abbrev Jm:Prop:=OkF P w K mg "_law_lends" vc 1 yY (spP ⟨K,cl⟩ vk 1)
noncomputable abbrev Je:Prop:=OkF P w K mg "ring_from" vf 2 yT (spP ⟨K,cl⟩ ye 2)
noncomputable abbrev Ja:Prop:=OkF P w K mg "_law_words" vi 2 ve (spP ⟨K,cl⟩ yG 3)
noncomputable abbrev Jf:Prop:=OkF P w K mg "lend_ring" vg 3 vm (spP ⟨K,cl⟩ j0 1)
noncomputable abbrev JH:Prop:=OkF P w K mg "_law_deal" yy 3 vK (spP ⟨K,cl⟩ yO 1)
noncomputable abbrev jeE:Prop:=OkF P w K mg "law" Jv 4 wT (spP ⟨K,cl⟩ Vs 1)
end
section
variable {P:Program}{w:World}{K:PySem.W.Frag}{mg:Str->Option Value}{cl:Nat->Addr}
theorem Qa(T:Txt P w K mg):qm K mg "lent_to" kF ku->Yu P w K mg cl
 | ⟨_,_,F⟩=>⟨_,_,F,λbase=>qi F.fn vJ rfl λa A outer s H E b=>⟨_,show QSs _ _ _ _ _ Jj from
  (jb (jm vJ.nd (QP.d (vM jO)))
  (jb (kG PassesOwn.never rfl (V5 (QB.f (Jp (ja 0) qI))) (jF vJ.nd)
  (jh (jb4 (ja 1) (QP.bb (k8 (bkF vJ ["rule"]) rfl (km (Jp (ja 2) qI)) cgN (λ_ _ _ _=>(qy (jQ (QK.c_eq (K:=K) rfl b) (QK.ix (K:=K) rfl (ja 0) qI) (QP.bb qS)))) (λ_ _ _ _=>(QB.f (QK.ix (K:=K) rfl (ja 0) qI))))))))
  (jh (jW (jb5 1)))))⟩⟩
theorem zE(T:Txt P w K mg):qm K mg "way_to" qw qz->V6 P w K mg cl
 | ⟨_,_,F⟩=>⟨_,_,F,λbase=>qi F.fn kJ rfl λa A outer s H E b=>⟨_,show QSs _ _ _ _ _ Yc from
  (jb (jm kJ.nd (QP.d (vM jO)))
  (jb (jm kJ.nd (QP.d (QB.f (ja 1))))
  (jb (V4 (n:=1000) PassesOwn.never (jQ QN (ja 3) (QP.bb K0))
  (jb (VU (ja 2) (QB.f (ja 3)))
  (jh (jm kJ.nd (QP.d (QB.f (V7 b (ja 0) (ja 3))))))))
  (jh (jW (QP.d (jcM rfl T.n_list T.n_reversed (ja 2))))))))⟩⟩
theorem Ju(T:Txt P w K mg):qm K mg "_law_cell_at" yn yw->kN P w K mg cl
 | ⟨_,_,F⟩=>⟨_,_,F,λbase=>qi F.fn Jr rfl λa A outer s H E b=>⟨_,show QSs _ _ _ _ _ yq from
  (jb (kl (jQ jcK (ja 1) (QP.bb (Jh T.n_len (je (ja 0) jq)))) (jh (jW (QP.d (QB.f (Jp (ja 0) (ja 1))))))
  yc)
  (jh (jW (QP.d wL))))⟩⟩
theorem Yy(T:Txt P w K mg):qm K mg "_law_mixed" yU va->vW P w K mg cl
 | ⟨_,_,F⟩=>⟨_,_,F,λbase=>qi F.fn qf rfl λa A outer s H E b=>⟨_,show QSs _ _ _ _ _ v8 from
  (jb (jm qf.nd (QP.d (yj (QP.bb (Qc (QP.bb (yj (ja 0) qI)) (QP.bb (jY qI (QP.bb (Qc (QP.bb (Qc qI (ja 1))) (ja 1))))))) qI)))
  (jh (jW (QP.d (yj (QP.bb (Qc (QP.bb (jY (ja 2) (ja 1))) (QP.bb (jY (QP.bb (jY (ja 2) (QP.bb (Qc qI (ja 1))))) qI)))) qI)))))⟩⟩
theorem Jq(T:Txt P w K mg):qm K mg "_law_letters" yt yr->kH P w K mg cl
 | ⟨_,_,F⟩=>⟨_,_,F,λbase=>qi F.fn jM rfl λa A outer s H E b=>⟨_,show QSs _ _ _ _ _ y6 from
  (jb (jm jM.nd (QP.d qS))
  (jb (jm jM.nd (QP.d qS))
  (jb (kG PassesOwn.never rfl (k5 T.n_range (je (ja 1) jq)) (jF jM.nd)
  (jb (jm jM.nd (QP.d (jY (ja 3) (Jp (ja 2) (QP.bb (yj (ja 0) qI))))))
  (jh (jm jM.nd (QP.d (qh (ja 0) qI))))))
  (jh (jW (QP.d (QB.f (ja 3))))))))⟩⟩
theorem Vb(T:Txt P w K mg):qm K mg "_law_spelt" y4 yW->qD P w K mg cl
 | ⟨_,_,F⟩=>⟨_,_,F,λbase=>qi F.fn vD rfl λa A outer s H E b=>⟨_,show QSs _ _ _ _ _ yg from
  (jb (jm vD.nd (QP.d qS))
  (jb (jm vD.nd (QP.d (vM (jf qS (jf qS (jf qS (jf qS (jf qS (jf qS (jf qS (jf qS (jf qS (jf qS (jf qS (jf qS jO)))))))))))))))
  (jb (kl (QW.t (zy (jQ (c_in (by with_unfolding_all rfl)) (ja 0) (ja 2)) (Qo (jQ (c_in (by with_unfolding_all rfl)) (ja 0) (QP.bb (vM (jf qS (jf qS (jf qS (jf qS (jf qS (jf qS (jf qS (jf qS jO)))))))))))))) (jh (jW (QP.d (jY (QP.bb (jbz (ja 0) Jl (ka (QP.bb (jbM qI))))) (Jp (ja 1) (QP.bb (yj (QP.bb (jY (QP.bb (je5 PySem.F.plainAttrs_str PySem.F.slot_str_index PySem.F.type_str_index we xQ (ja 1) (je (Jp (ja 0) (QP.bb (jbM qI))) jq))) qI)) qI)))))))
  yc)
  (jh (jW (QP.d (QB.f (ja 0))))))))⟩⟩
theorem YC(T:Txt P w K mg):qm K mg "_law_lends" vc yY->Jm P w K mg cl
 | ⟨_,_,F⟩=>⟨_,_,F,λbase=>qi F.fn jR rfl λb A outer s H E a=>⟨_,show QSs _ _ _ _ _ kc from
  (jb (jm jR.nd (QP.d jdo))
  (jb (kG PassesOwn.never rfl (V5 (QB.f (ja 0))) (jF jR.nd)
  (jb (wA a (jbH (ja 1)) (Jp (ja 2) qI) (vM jO))
  (jh (kG PassesOwn.never rfl (V5 (QB.f (Jp (ja 2) qI))) (uw rfl (kA (jF jR.nd) (kA (jF jR.nd) (kA (jF jR.nd) xD))))
  (jh (jaf a (ja 1) (Jp (ja 2) qI) (QP.bb (k8 (bkF jR ["_law_rule"]) rfl (km (ja 5)) cgN (λ_ _ _ _=>(qy (jQ (QK.c_eq (K:=K) rfl a) (QK.ix (K:=K) rfl (ja 0) qI) (QP.bb qS)))) (λ_ _ _ _=>(QB.f (QK.ix (K:=K) rfl (ja 0) qI)))))))))))
  (jh (jW (jb5 1)))))⟩⟩
theorem YO(T:Txt P w K mg):qm K mg "ring_from" vf yT->V6 P w K mg cl->Je P w K mg cl
 | ⟨_,_,F⟩,⟨_,_,b,c⟩=>⟨_,_,F,λbase=>qi F.fn jS rfl λe A outer s H E a=>⟨_,show QSs _ _ _ _ _ kj from
  (jb (jm jS.nd (QP.d (je7 (ja 1) (QP.bb K0))))
  (jb (jm jS.nd (QP.d (vM (jf (QB.f (ja 1)) jO))))
  (jb (jm jS.nd (QP.d wL))
  (jb (V4 (n:=1000) PassesOwn.never (jQ jcK (ja 4) (QP.bb (Jh T.n_len (je (ja 3) jq))))
  (jb (jm jS.nd (QP.d (QB.f (Jp (ja 3) (ja 4)))))
  (jb (kG PassesOwn.never rfl (V5 (QB.f (V7 a (ja 0) (ja 5)))) (jF jS.nd)
  (jb (kl (jQ (c_eq a) (ja 6) (ja 1)) (jh (QS.fz 2 (jW (QP.d (j8 b (c _) (a.mono (by decide)) (je (ja 2) (je (ja 5) jq)))))))
  yc)
  (jh (kl (Ys a (ja 6) (ja 2)) (jb (jaO a (ja 2) (ja 6) (ja 5))
  (jh (VU (ja 3) (QB.f (ja 6)))))
  yc))))
  (jh (jbl jS.nd jb7 qI)))))
  (jh (jW (QP.d K0)))))))⟩⟩
theorem YA(T:Txt P w K mg):qm K mg "_law_words" vi ve->kH P w K mg cl->vW P w K mg cl->qD P w K mg cl->Ja P w K mg cl
 | ⟨_,_,F⟩,⟨_,_,e,g⟩,⟨_,_,b,c⟩,⟨_,_,h,i⟩=>⟨_,_,F,λbase=>qi F.fn js rfl λj A outer s H E a=>⟨_,show QSs _ _ _ _ _ vj from
  (jb (jm js.nd (QP.d qS))
  (jb (jm js.nd (QP.d (j8 b (c _) (a.mono (by decide)) (je (ja 0) (je qI jq)))))
  (jb (jm js.nd (QP.d (j8 e (g _) (a.mono (by decide)) (je (QP.bb (jY (QP.bb (Qc (ja 4) (ja 4))) (ja 4))) (je qI jq)))))
  (jb (jm js.nd (QP.d (jY qI (QP.bb (yj (QP.bb (qh (ja 4) qI)) (ja 2))))))
  (jb (jm js.nd (QP.d (yj (QP.bb (qh (ja 4) qI)) (ja 6))))
  (jb (jm js.nd (QP.d (vM jO)))
  (jb (kG PassesOwn.never rfl (k5 T.n_range (je (ja 1) jq)) (jF js.nd)
  (jb (jm js.nd (QP.d (QB.f (Jp (ja 3) (QP.bb (yj (QP.bb (jY (QP.bb (qh (ja 4) qI)) (ja 9))) qI))))))
  (jb (kl (jQ (c_eq a) (QP.bb (yj (ja 4) qI)) qI) (jh (jm js.nd (QP.d (jY (QP.bb (jY (QP.bb (jbz (ja 5) Jl (ka (ja 7)))) (ja 10))) (QP.bb (jbz (ja 5) (ka (QP.bb (jY (ja 7) qI))) (ka (ja 6))))))))
  (jh (kl (jQ (c_eq a) (QP.bb (yj (ja 4) qI)) qI) (jh (jm js.nd (QP.d (jbz (ja 5) Jl (ka (QP.bb (jY qI (QP.bb (yj (QP.bb (jY (QP.bb (qh (ja 4) qI)) (ja 9))) (ja 2))))))))))
  (jh (jm js.nd (QP.d (jbz (QP.bb (jY (ja 10) (QP.bb (j8 e (g _) (a.mono (by decide)) (je (QP.bb (j8 b (c _) (a.mono (by decide)) (je (ja 0) (je (QP.bb (jY (ja 9) qI)) jq)))) (je qI jq)))))) Jl (ka (QP.bb (jY qI (QP.bb (yj (QP.bb (j8 b (c _) (a.mono (by decide)) (je (ja 0) (je (QP.bb (jY (ja 9) qI)) jq)))) (ja 2)))))))))))))
  (jh (VU (ja 8) (j8 h (i _) (a.mono (by decide)) (je (ja 11) jq)))))))
  (jb (kl (jQ (c_eq a) (QP.bb (yj (QP.bb (qh (ja 4) qI)) qI)) qI) (jh (jW (QP.d (jcM rfl T.n_list T.n_reversed (ja 8)))))
  yc)
  (jh (jW (jb5 8)))))))))))⟩⟩
theorem Yt(T:Txt P w K mg):qm K mg "lend_ring" vg vm->Yu P w K mg cl->Je P w K mg cl->Jf P w K mg cl
 | ⟨_,_,F⟩,⟨_,_,b,c⟩,⟨_,_,e,g⟩=>⟨_,_,F,λbase=>qi F.fn yi rfl λh A outer s H E a=>⟨_,show QSs _ _ _ _ _ ki from
  (jb (jm yi.nd (QP.d (xi (KH rfl) jbp T.n_dict KN (je (QP.fzb (k8 (bkF yi ["pool"]) rfl (km (ja 0)) cgN jeI (λ_ _ _ _=>(VA (jf (QB.f (QK.ix (K:=K) rfl (ja 0) qI)) (jf (QK.call (K:=K) rfl b (c _) (a.mono (by decide)) (je (ja 0) jq)) jO)))))) jq))))
  (jb (jcf PassesOwn.never rfl (wY (ja 1)) (jF yi.nd)
  (jb (jm yi.nd (QP.d (j8 e (g _) (a.mono (by decide)) (je (ja 1) (je (ja 2) jq)))))
  (jh (kl (jQ QN (ja 3) (QP.bb K0)) (jh (jW (jb5 3)))
  yc))))
  (jh (jW (QP.d K0)))))⟩⟩
theorem VI(T:Txt P w K mg):qm K mg "_law_deal" yy vK->kN P w K mg cl->vW P w K mg cl->Ja P w K mg cl->JH P w K mg cl
 | ⟨_,_,F⟩,⟨_,_,b,c⟩,⟨_,_,e,g⟩,⟨_,_,h,i⟩=>⟨_,_,F,λbase=>qi F.fn ji rfl λj A outer s H E a=>⟨_,show QSs _ _ _ _ _ kY from
  (jb (jm ji.nd (QP.d (j8 e (g _) (a.mono (by decide)) (je (QP.bb (j8 b (c _) (a.mono (by decide)) (je (ja 0) (je qI jq)))) (je qI jq)))))
  (jb (jm ji.nd (QP.d (jY qI (QP.bb (yj (ja 1) qI)))))
  (jb (jm ji.nd (QP.d (j8 h (i _) (a.mono (by decide)) (je (QP.bb (j8 b (c _) (a.mono (by decide)) (je (ja 0) (je qI jq)))) (je (ja 2) (je qI jq))))))
  (jb (jm ji.nd (QP.d (zI (Kg (N':=["_law_word","_law_first"]) (ix:=[none,some 1]) (jk yy) ["_law_script","_law_first","_law_many","_law_words_here","_law_rows","_law_k","_law_cell","_law_m","_law_one","_law_other","_law_rules","_law_rule","_law_deal_here","_law_claim","_law_orders"] rfl rfl (by decide +kernel)) rfl (km (ja 3)) (λ_ _ _ _=>(jF (show(["_law_word","_law_first"]:List Str).Nodup by decide +kernel))) (λ_ _ _ _=>Yb) (λ_ _ _ _=>(k8 (Kp (N':=["_law_k","_law_word"]) (ix:=[none,some 0]) (jk yy) rfl (by decide +kernel)) rfl (QI.b' (k5 T.n_range (je (QP.bb (QK.add (K:=K) rfl qI (QP.bb (yj (QP.bb (qh (ja 1) qI)) qI)))) jq))) (λ_ _ _ _=>(jF (show(["_law_k","_law_word"]:List Str).Nodup by decide +kernel))) (λ_ _ _ _=>Yb) (λ_ _ _ _=>(vM (jf (VA (jf qS (jf (QK.add (K:=K) rfl (ja 1) (QP.bb qS)) jO))) jO))))))))
  (jb (kG PassesOwn.never rfl (jbs T.n_enumerate (jf (jbz (ja 0) Jl (ka qI)) jO)) (uw rfl (kA (jF ji.nd) (kA (jF ji.nd) xD)))
  (jb (jm ji.nd (QP.d (j8 e (g _) (a.mono (by decide)) (je (ja 6) (je (QP.bb (jY (ja 5) qI)) jq)))))
  (jb (jm ji.nd (QP.d (yj (ja 7) (ja 2))))
  (jb (jm ji.nd (QP.d (yj (QP.bb (jY (QP.bb (jY (ja 8) qI)) (QP.bb (yj (QP.bb (qh (ja 7) qI)) (QP.bb (jd9 (ja 2) qI)))))) (ja 2))))
  (xT (x:=10) ji.nd (ja 4) (ja 8) (QP.bb (yj (QP.bb (qh (ja 7) qI)) (QP.bb (Jh T.n_len (je (Jp (ja 4) (ja 8)) jq)))))
  (jb (jm ji.nd (QP.d (VA (jf qS (jf (jY (Jp (ja 3) (ja 9)) (QP.bb qS)) (jf (jY qI (QP.bb (yj (ja 7) (QP.bb (jeJ qI qI))))) jO))))))
  (jb (kl (jQ (c_eq a) (QP.bb (yj (QP.bb (qh (ja 7) qI)) qI)) qI) (jh (jm ji.nd (QP.d (VA (jf qS (jf (jY (Jp (ja 3) (ja 9)) (QP.bb qS)) jO))))))
  yc)
  (jh (kl (QW.t (jc8 (jQ (c_eq a) (QP.bb (yj (QP.bb (qh (ja 7) qI)) qI)) qI) (jaP (jQ jcK (QP.bb (Jh T.n_len (je (ja 10) jq))) qI)))) (jh (jdm (ja 10) (QP.bb (yj (QP.bb (qh (ja 7) qI)) (QP.bb (Jh T.n_len (je (ja 10) jq))))) (QB.f (ja 11))))
  yc)))))))))
  (jb (jm ji.nd (QP.d (vM jO)))
  (jb (QS.fz 4 (kG PassesOwn.never rfl (k5 T.n_range (je (ja 2) jq)) (jF ji.nd)
  (jb (jm ji.nd (QP.d (jY (Jp (ja 3) (ja 5)) (QP.bb qS))))
  (jb (Vw (bkF ji ["_law_j","_law_rows","_law_k"]) rfl (QI.b' (k5 T.n_range (je (QP.bb (Jh T.n_len (je (Jp (ja 4) (ja 5)) jq))) jq))) cgN jeI (λ_ _ _ _=>(VA (jf (QB.f (QK.ix (K:=K) rfl (QP.bb qS) (ja 0))) (jf (vM jO) (jf (QB.f (QK.ix (K:=K) rfl (QK.ix (K:=K) rfl (ja 1) (ja 2)) (ja 0))) jO))))) ji.nd)
  (jh (QS.fz 14 (VU (ja 12) (VA (jf (jY (Jp (ja 3) (ja 5)) (QP.bb qS)) (jf (vM (jf (VA (jf (QB.f (ja 13)) (jf (jY qI (QP.bb (yj (ja 1) qI))) (jf wL jO)))) jO)) (jf (vM jO) (jf (vM jO) (jf (QB.f (ja 14)) (jf (vM jO) (jf (vM jO) jO)))))))))))))))
  (jh (jW (jb5 12))))))))))⟩⟩
theorem jcd(T:Txt P w K mg):qm K mg "law" Jv wT->JH P w K mg cl->Jm P w K mg cl->Jf P w K mg cl->jeE P w K mg cl
 | ⟨_,_,F⟩,⟨_,_,b,c⟩,⟨_,_,h,i⟩,⟨_,_,e,g⟩=>⟨_,_,F,λbase=>qi F.fn vq rfl λj A outer s H E a=>⟨_,show QSs _ _ _ _ _ wI from
  (jb (jm vq.nd (QP.d (j8 b (c _) (a.mono (by decide)) (je (ja 0) jq))))
  (jb (jm vq.nd (QP.d (j8 h (i _) (a.mono (by decide)) (je (ja 1) jq))))
  (jb (jm vq.nd (QP.d (j8 e (g _) (a.mono (by decide)) (je (ja 1) jq))))
  (jb (kl (jQ (jeV a) (ja 1) (QP.bb (j8 b (c _) (a.mono (by decide)) (je (ja 0) jq)))) (jh (jW (QP.d jbI)))
  yc)
  (jb (kl (jQ je0 (ja 3) (QP.bb K0)) (jb (QS.fz 1 (jm vq.nd (QP.d (k8 (bkF vq ["_law_pool"]) rfl (km (ja 1)) cgN jeI (λ_ _ _ _=>(QB.f (QK.ix (K:=K) rfl (ja 0) qI)))))))
  (jb (jac PassesOwn.never rfl (ja 1) (jF vq.nd)
  (jh (jm vq.nd (QP.d (zI (Kg (N':=["_law_name","_law_lends_here","_law_left"]) (ix:=[none,some 2,some 4]) (jk Jv) ["_law_script","_law_deal_here","_law_lends_here","_law_found","_law_left","_law_pool","_law_kept","_law_k","_law_after"] rfl rfl (by decide +kernel)) rfl (km (ja 4)) (λ_ _ _ _=>(jF (show(["_law_name","_law_lends_here","_law_left"]:List Str).Nodup by decide +kernel))) (λ_ _ _ _=>(qy (jQ je2 (QP.bb (QK.len (K:=K) rfl T.n_len (je (QP.bb (k8 (Kp (N':=["_law_other","_law_left"]) (ix:=[none,some 2]) (jk Jv) rfl (by decide +kernel)) rfl (QK.ib_any (K:=K) rfl (V7 a (ja 1) (ja 0))) (λ_ _ _ _=>(jF (show(["_law_other","_law_left"]:List Str).Nodup by decide +kernel))) (λ_ _ _ _=>(qy (jQ (QK.c_in (K:=K) rfl (by with_unfolding_all rfl)) (ja 0) (ja 1)))) (λ_ _ _ _=>(QB.f (ja 0))))) jq))) qI))) (λ_ _ _ _=>(QB.f (ja 0))))))))
  (jh (jW (QP.d (jeu (c_eq a) (ja 4) (QP.bb (vM jO))))))))
  yc)
  (jb (kl (QW.t (zy (uD (uf (QP.bb (jc6 (T:="list") (by decide) T.n_isinstance T.n_list JE (ja 3))))) (zy (jQ jcK (QP.bb (Jh T.n_len (je (ja 3) jq))) qI) (Qo (jQ jcK (QP.bb (wQ rfl T.n_len T.n_set (ja 3))) (QP.bb (Jh T.n_len (je (ja 3) jq)))))))) (jh (jW (QP.d jbI)))
  yc)
  (jb (jm vq.nd (QP.d (xi YL jbe T.n_list JE (je (ja 3) jq))))
  (jb (jck (ja 3))
  (jb (kl (jQ (jeV a) (QP.bb (j8 e (g _) (a.mono (by decide)) (je (ja 1) jq))) (ja 6)) (jh (jW (QP.d jbI)))
  yc)
  (jb (QS.fz 6 (jm vq.nd (QP.d (QB.f (ja 6)))))
  (jb (kG PassesOwn.never rfl (k5 T.n_range (je (QP.bb (Jh T.n_len (je (ja 3) jq))) jq)) (jF vq.nd)
  (jb (jm vq.nd (QP.d (QB.f (Jp (ja 3) (QP.bb (yj (QP.bb (jY (ja 7) qI)) (QP.bb (Jh T.n_len (je (ja 3) jq)))))))))
  (jh (kl (QW.t (zy (uD (uf (QP.bb (jc6 (T:="str") (by decide) T.n_isinstance T.n_str Qj (Jp (ja 3) (ja 7)))))) (zy (Ys a (Jp (ja 3) (ja 7)) (ja 2)) (Qo (jQ (uU (by with_unfolding_all rfl)) (ja 8) (V7 a (ja 2) (Jp (ja 3) (ja 7)))))))) (jh (jW (QP.d jbI)))
  yc))))
  (jh (jW (QP.d jbI))))))))))))))⟩⟩
end
noncomputable abbrev WN:=List Nat
noncomputable abbrev Tn:=List (WN×Option WN)
inductive Tr (L:WN->List WN) (f:WN):Tn->Prop
 | base:Tr L f [(f,none)]
 | add {S:Tn}{o m:WN}:Tr L f S->m∈S.map (·.1)->o∈L m->¬ o∈S.map (·.1)->Tr L f (S++[(o,some m)])
inductive Way (S:Tn):WN->List WN->Prop
 | top {n:WN}:lkp n S=some none->Way S n [n]
 | up {n m:WN}{W:List WN}:lkp n S=some (some m)->Way S m W->Way S n (n::W)
inductive Ch (L:WN->List WN) (f:WN):List WN->Prop
 | one:Ch L f [f]
 | more {n m:WN}{W:List WN}:Ch L f (m::W)->n∈L m->Ch L f (n::m::W)
section
variable {L:WN->List WN}{f:WN}
theorem J5{α:Type}{c:WN}:∀{S T:List (WN×α)},c∈S.map (·.1)->lkp c (S++T)=lkp c S
 | [],T,h=>by cases h
 | q::S,T,h=>by
  rw[List.cons_append,lkp,lkp];by_cases e:q.1=c
  ·rw[if_pos e,if_pos e]
  ·rw[if_neg e,if_neg e];exact J5 ((M4.mp h).resolve_left λz=>e z.symm)
theorem Qh{α:Type}{c:WN}{v:α}:∀{S:List (WN×α)},¬ c∈S.map (·.1)->lkp c (S++[(c,v)])=some v
 | [],_=>by rw[X4,lkp,if_pos rfl]
 | q::S,h=>by
  rw[List.cons_append,lkp,if_neg (λe=>h (by rw[<- e];exact L6))];exact Qh λz=>h (L5 _ z)
theorem Tr.nodup{S:Tn}(h:Tr L f S):(S.map (·.1)).Nodup:=by
 induction h with
 | base=>exact List.nodup_cons.mpr ⟨nofun,List.nodup_nil⟩
 | @add S o m h j k d g =>
  rw[N5,U8];exact⟨g,List.nodup_cons.mpr ⟨nofun,List.nodup_nil⟩,λa i b c e=>d (by have c:b=o:=M7.mp c;rw[<- c,<- e];exact i)⟩
theorem Tr.first{S:Tn}(h:Tr L f S):f∈S.map (·.1):=by
 induction h with
 | base=>exact L6
 | add _ _ _ _ a=>rw[N5];exact List.mem_append_left _ a
theorem Tr.from{S:Tn}(h:Tr L f S):∀ x∈S.map (·.1),x≠f->∃ k∈S.map (·.1),x∈L k:=by
 induction h with
 | base=>intro x a b;exact absurd (M7.mp a) b
 | @add S o m h c d b g =>
  intro x a i;rw[N5] at a ⊢;rcases N2.mp a with a | a
  ·obtain⟨k,j,e⟩:=g x a i;exact⟨k,List.mem_append_left _ j,e⟩
  ·rw[M7.mp a];exact⟨m,List.mem_append_left _ c,d⟩
theorem Tr.least{S:Tn}(h:Tr L f S){Z:WN->Prop}(c:Z f)(hz:∀ n,Z n->∀ o∈L n,Z o):∀ x∈S.map (·.1),Z x:=by
 induction h with
 | base=>intro x a;rw[M7.mp a];exact c
 | @add S o m h d e g b =>
  intro x a;rw[N5] at a;rcases N2.mp a with a | a
  ·exact b x a
  ·rw[M7.mp a];exact hz m (b m d) o e
theorem Way.grow{S:Tn}{o m:WN}(a:∀ n v,lkp n S=some v->n∈S.map (·.1)){n:WN}{W:List WN}(h:Way S n W):Way (S++[(o,some m)]) n W:=by
 induction h with
 | top e=>exact .top (by rw[J5 (a _ _ e)];exact e)
 | up e _ b=>exact .up (by rw[J5 (a _ _ e)];exact e) b
theorem Y2{α:Type}{c:WN}{v:α}:∀{S:List (WN×α)},lkp c S=some v->c∈S.map (·.1)
 | [],h=>by cases h
 | q::S,h=>by
  rw[lkp] at h;split at h
  ·rename_i e;rw[<- e];exact L6
  ·exact L5 _ (Y2 h)
theorem Tr.way{S:Tn}(h:Tr L f S):∀ n∈S.map (·.1),∃ W,Way S n W/\W.Nodup/\(∀ x∈W,x∈S.map (·.1))/\Ch L f W/\∃ V,W=n::V:=by
 induction h with
 | base =>
  intro n g;rw[M7.mp g];exact⟨[f],.top (by rw[lkp,if_pos rfl]),List.nodup_cons.mpr ⟨nofun,List.nodup_nil⟩,λx e=>e,.one,[],rfl⟩
 | @add S o m h j k g i =>
  intro n e;rw[N5] at e;rcases N2.mp e with e | e
  ·obtain⟨W,a,b,c,d⟩:=i n e;exact⟨W,a.grow λ_ _=>Y2,b,λx e=>by rw[N5];exact List.mem_append_left _ (c x e),d⟩
  ·rw[M7.mp e];obtain⟨W,a,b,c,d,V,rfl⟩:=i m j;refine⟨o::m::V,.up (Qh g) (a.grow λ_ _=>Y2),List.nodup_cons.mpr ⟨λz=>g (c o z),b⟩,λx e=>?_,.more d k,_,rfl⟩;rw[N5];rcases M4.mp e with rfl | e
   ·exact U3 _ L6
   ·exact List.mem_append_left _ (c x e)
theorem vy:∀{l m:List WN},l.Nodup->(∀ x∈l,x∈m)->l.length<=m.length
 | [],m,_,_=>U5 _
 | x::l,m,c,h=>by
  obtain⟨d,f⟩:=List.nodup_cons.mp c;have a:=h x L6;have:=vy (l:=l) (m:=m.erase x) f λy b=>(List.mem_erase_of_ne (λe=>d (by rw[<- e];exact b))).mpr (h y (L5 _ b));rw[List.length_erase_of_mem a] at this;have:=List.length_pos_of_mem a;rw[M0];omega
structure Cl(L:WN->List WN)(f:WN)(S:Tn):Prop where
 t:Tr L f S
 c:∀ n∈S.map (·.1),∀ o∈L n,o∈S.map (·.1)/\o≠f
theorem Cl.less{n m:WN}{S T:Tn}(h:Cl L n S)(k:Cl L m T)(f:m∈L n):T.length < S.length:=by
 have b:=h.t.first;have d:=(h.c n b m f).1;have sub:∀ x∈T.map (·.1),x∈S.map (·.1):=k.t.least (Z:=λx=>x∈S.map (·.1)) d λx a o g=>(h.c x a o g).1;have i:¬ n∈T.map (·.1):=λz=>by
  by_cases e:n=m
  ·exact(h.c n b m f).2 e.symm
  ·obtain⟨j,p,q⟩:=k.t.from n z e;exact(h.c j (sub j p) n q).2 rfl
 have:=vy (l:=n::T.map (·.1)) (m:=S.map (·.1)) (List.nodup_cons.mpr ⟨i,k.t.nodup⟩) λx a=>by
  rcases M4.mp a with rfl | a
  ·exact b
  ·exact sub x a
 rw[M0,L0,L0] at this;exact this
noncomputable def uh(L:WN->List WN)(X:List WN):List WN:=X.filter λn=>decide (0 < ((L n).filter λo=>decide (o∈X)).length)
theorem jaB{X:List WN}(d:∀ n∈X,∃ S,Cl L n S)(h:∀ n∈X,∃ m∈L n,m∈X):X=[]:=by
 have b:∀(k:Nat) (n:WN) (S:Tn),S.length<=k->n∈X->Cl L n S->False:=by
  intro k
  induction k with
  | zero =>
   intro n S e _ c;have:=List.length_pos_of_mem c.t.first;rw[L0] at this;omega
  | succ k f =>
   intro n S e g c;obtain⟨m,i,a⟩:=h n g;obtain⟨T,ct⟩:=d m a;have:=c.less ct i;exact f m T (by omega) a ct
 cases X with
 | nil=>rfl
 | cons n X =>
  obtain⟨S,c⟩:=d n L6;exact(b _ n S (M8 _) L6 c).elim
theorem Kb{X:List WN}:∀ n∈uh L X,n∈X:=λn h=>(List.mem_filter.mp h).1
theorem Qz{X:List WN}(a:∀ n∈X,∃ S,Cl L n S)(hn:X≠[]):(uh L X).length < X.length:=by
 rcases Nat.lt_or_ge (uh L X).length X.length with q | q
 ·exact q
 ·have e:(uh L X).length=X.length:=Nat.le_antisymm (List.length_filter_le ..) q;have:=List.length_filter_eq_length_iff.mp e;refine absurd (jaB a λn hn=>?_) hn;have h:=X2 (this n hn);obtain⟨m,b⟩:=List.exists_mem_of_length_pos h;obtain⟨c,d⟩:=List.mem_filter.mp b;exact⟨m,c,X2 d⟩
noncomputable def zX(L:WN->List WN):Nat->List WN->List WN
 | 0,X=>X
 | k+1,X=>zX L k (uh L X)
theorem Ji:∀(k:Nat) {X:List WN},X.length<=k->(∀ n∈X,∃ S,Cl L n S)->zX L k X=[]
 | 0,X,a,_=>List.length_eq_zero_iff.mp (Nat.le_zero.mp a)
 | k+1,X,a,b=>by
  rw[zX];by_cases e:X=[]
  ·subst e;exact Ji k (U5 _) λn h=>nomatch h
  ·have:=Qz b e;exact Ji k (by omega) λn h=>b n (Kb n h)
theorem Ch.next{W:List WN}(h:Ch L f W):∀(i:Nat) (x y:WN),W[i]?=some x->W[i+1]?=some y->x∈L y:=by
 induction h with
 | one=>intro i x y b a;cases i<;>simp at a
 | @more n m W h c d =>
  intro i x y b a;cases i with
  | zero=>simp at b a;subst b;subst a;exact c
  | succ i=>exact d i x y (by simpa using b) (by simpa using a)
theorem Ch.last{W:List WN}(h:Ch L f W):W[W.length - 1]?=some f/\0 < W.length:=by
 induction h with
 | one=>exact⟨rfl,Nat.one_pos⟩
 | @more n m W h b a =>
  refine⟨?_,by simp⟩;have:(n::m::W).length - 1=((m::W).length - 1)+1:=by simp
  rw[this,List.getElem?_cons_succ];exact a.1
end
abbrev jdB(ns:List Int):Prop:=∀ x∈ns,Builtin.Int.intBits x<=2 ^ 20
abbrev Lt(w:List Nat):Prop:=∀ c∈w,97<=c/\c<=122
theorem vR{a b:List Nat}(h1:Lt a)(h2:Lt b):Lt (a++b):=λc d=>(N2.mp d).elim (h1 c) (h2 c)
theorem vT{c:Nat}(h:97<=c/\c<=122):Lt [c]:=λd hd=>by rw[M7.mp hd];exact h
theorem Q3{α:Type}{l:List α}{lo hi:Option Int}{c:α}(h:c∈yB l lo hi):c∈l:=by
 unfold yB at h;exact List.mem_of_mem_drop (List.mem_of_mem_take h)
theorem kW{α:Type}(l:List α)(lo hi:Option Int):(yB l lo hi).length<=l.length:=by
 unfold yB;rw[X6,List.length_drop];omega
theorem Vc{w:List Nat}{lo hi:Option Int}(h:Lt w):Lt (yB w lo hi):=λc a=>h c (Q3 a)
noncomputable abbrev ABC:List Nat:=[97,98,99,100,101,102,103,104,105,106,107,108,109,110,111,112,113,114,115,116,117,118,119,120,121,122]
theorem jb1{i:Int}(a:0<=i)(h1:i < 26):∃ c,jB (.str ABC) (.int i)=some (.str [c])/\97<=c/\c<=122:=by
 have b:ABC.length=26:=rfl;refine⟨ABC.getD i.toNat 0,jeU (by decide) a (by omega),?_⟩;have:∀ c∈ABC,97<=c/\c<=122:=by decide
 exact this _ (wk (by omega))
theorem xP{c:Nat}(h:97<=c/\c<=122):0<=vO ABC [c]:=by
 obtain⟨a,b⟩:=h;have:c=97 \/ c=98 \/ c=99 \/ c=100 \/ c=101 \/ c=102 \/ c=103 \/ c=104 \/ c=105 \/ c=106 \/ c=107 \/ c=108 \/ c=109 \/ c=110 \/ c=111 \/ c=112 \/ c=113 \/ c=114 \/ c=115 \/ c=116 \/ c=117 \/ c=118 \/ c=119 \/ c=120 \/ c=121 \/ c=122:=by omega
 rcases this with rfl | rfl | rfl | rfl | rfl | rfl | rfl | rfl | rfl | rfl | rfl | rfl | rfl | rfl | rfl | rfl | rfl | rfl | rfl | rfl | rfl | rfl | rfl | rfl | rfl | rfl<;>decide +kernel
theorem kX(ns:List Int):frzs (ns.map D.int)=true:=vn λd hd=>by obtain⟨x,_,rfl⟩:=M5.mp hd;rfl
theorem Vu(ns:List Int):fzs (ns.map D.int)=ns.map D.int:=jx _ (kX ns)
theorem jaJ{ns:List Int}(c:jdB ns){k:Int}(d:0<=k):∃ z,jU [.lst false (ns.map D.int),.int k]=some (.int z)/\Builtin.Int.intBits z<=2 ^ 20:=by
 have e:=kX ns;have a:(ns.map D.int).length=ns.length:=L0 ..;by_cases h:k < (ns.length:Int)
 ·have b:k.toNat < ns.length:=by omega
  have ix:jB (.lst false (ns.map D.int)) (.int k)=some (.int ns[k.toNat]):=by
   rw[jbB d (by rw[a];exact h),List.getElem?_map,X5 b];rfl
  refine⟨ns[k.toNat],?_,c _ (List.getElem_mem b)⟩;generalize ns.map D.int=NS at *;simp[jU,vt,yq,a,h,ix]
 ·refine⟨0,?_,by decide⟩;generalize ns.map D.int=NS at *;simp[jU,vt,yq,a,h]
theorem xa{z k:Int}(a:0<=k)(h1:k<=1000):∃ m,jE [.int z,.int k]=some (.int m)/\0<=m/\m < 2147483587:=by
 have c:0<=k*k/\k*k<=1000*1000:=⟨Int.mul_nonneg a a,Int.mul_le_mul h1 h1 a (by decide)⟩;have d:1511*k*k=1511*(k*k):=by rw[Int.mul_assoc]
 generalize k*k=kk at *;have e:vw (.int 1511) (.int k)=some (.int (1511*k)):=Jz (by decide) (by omega);have f:vw (.int (1511*k)) (.int k)=some (.int (1511*kk)):=by rw[Jz (by omega) (by omega),d]
 have g:=U0 z (show(2147483647:Int)≠0 by decide);have h:=N9 z (show(0:Int) < 2147483647 by decide);generalize b:z % 2147483647=zz at *;have i:vw (.int zz) (.int (69621+1511*kk))=some (.int (zz*(69621+1511*kk))):=Jz (by omega) (by omega);have p:=U0 (zz*(69621+1511*kk)) (show(2147483629:Int)≠0 by decide);have q:=N9 (zz*(69621+1511*kk)) (show(0:Int) < 2147483629 by decide);generalize j:zz*(69621+1511*kk) % 2147483629=n at *;have l:vw (.int 5) (.int k)=some (.int (5*k)):=Jz (by decide) (by omega);have o:vw (.int (n+k)) (.int (n+5*k+1))=some (.int ((n+k)*(n+5*k+1))):=Jz (by omega) (by omega);refine⟨(n+k)*(n+5*k+1) % 2147483587,?_,U0 _ (by decide),N9 _ (by decide)⟩;simp(disch:=decide) [jE,vt,v8,jD,b,e,f,i,j,l,o]
theorem kL{z k:Int}(hz:Builtin.Int.intBits z<=2 ^ 20)(a:0<=k)(h1:k<=1000):∃ m,jE [.int z,.int k]=some (.int m)/\0<=m/\m < 2147483587:=xa a h1
theorem JJ{n:Int}{s:Nat}(hn:0<=n)(u:s<=8):∃ w,jK [.int n,.int (s:Int)]=some (.str w)/\w.length=s/\Lt w:=by
 have e:=vL (j:=(s:Int)) (by omega) (by omega);rw[N8] at e;obtain⟨v,o,d,w,g,rfl,h,k,l⟩:=vx (G:=jl [] 4) (f:=yF) (xs:=ql 0 s) (λi ρ=>∃(d:Int) (w:List Nat) (g:Option D),ρ=[some (.int d),some (.int (s:Int)),some (.str ABC),some (.str w),g]/\0<=d/\w.length=i/\Lt w) (by
  rintro i x ρ p ⟨d,w,g,rfl,h,k,l⟩;obtain⟨rfl,y⟩:=qu p;obtain⟨c,q,m⟩:=jb1 (i:=d % 26) (by omega) (by omega);refine⟨_,[some (.int (d / 26)),some (.int (s:Int)),some (.str ABC),some (.str (w++[c])),some (.int (0+(i:Int)))],rfl,.inl ?_,d / 26,w++[c],some (.int (0+(i:Int))),rfl,by omega,by simp[k],vR l (vT m)⟩;have r:=kS (a:=w) (b:=[c]) (by simp;omega);generalize ABC=AA at *;simp(disch:=omega) [yF,jD,vp,q,r,-Int.zero_add]) (ρ:=[some (.int n),some (.int (s:Int)),some (.str ABC),some (.str []),none]) ⟨n,[],none,rfl,hn,rfl,λc m=>(nomatch m)⟩
 rw[vH] at k;refine⟨w,?_,by omega,l⟩;generalize t:ABC=AA at *;simp[jK,vt,y6,e,o,t]
noncomputable def KA1:List (List Nat):=[[112,111,111,108],[99,108,97,105,109],[112,111,116],[101,97,116],[111,114,100,101,114],[112,97,114,116],[112,97,121],[115,104,97,114,101],[114,101,112,97,121],[102,105,108,108],[108,101,110,100],[98,97,99,107]]
noncomputable def KA2:List (List Nat):=[[114,101,115,116],[108,111,111,107],[103,117,97,114,100],[100,101,98,116],[111,110],[108,97,116,101],[101,97,114,108,121],[113,117,105,116]]
theorem zm(w:List Nat)(o:Bool)(l:List (List Nat)):Ve false (.str w) (.lst o (l.map D.str))=some (.bl (decide (w∈l))):=by
 show(bif Qd (.str w) (l.map D.str) then some (D.bl (false != inL (.str w) (l.map D.str))) else none)=_;rw[YX,V2];simp
noncomputable def rot(c:Nat):Nat:=97+(c - 97+13) % 26
structure Sp(u v:List Nat):Prop where
 l:v.length=u.length
 a:∀ i,i+1 < u.length->v[i]?=u[i]?
 b:∀ i,i+1=u.length->v[i]?=u[i]? \/ (2<=u.length/\∃ c,u[i]?=some c/\v[i]?=some (rot c))
theorem Sp.id(u:List Nat):Sp u u:=⟨rfl,λ_ _=>rfl,λ_ _=>.inl rfl⟩
theorem Sp.last{u:List Nat}{c:Nat}(h:1<=u.length):Sp (u++[c]) (u++[rot c]):=by
 refine⟨by simp,λi a=>?_,λi a=>.inr ⟨by simp;omega,c,?_,?_⟩⟩
 ·have:i < u.length:=by simp at a;exact a
  rw[List.getElem?_append_left this,List.getElem?_append_left this]
 ·have:i=u.length:=by simp at a;exact a
  subst this;simp
 ·have:i=u.length:=by simp at a;exact a
  subst this;simp
theorem ul:(∀ w∈KA1,2<=w.length)/\∀ w∈KA2,2<=w.length:=by decide
theorem uG{c:Nat}(h:97<=c/\c<=122):vO ABC [c]=(c:Int) - 97:=by
 obtain⟨a,b⟩:=h;have:c=97 \/ c=98 \/ c=99 \/ c=100 \/ c=101 \/ c=102 \/ c=103 \/ c=104 \/ c=105 \/ c=106 \/ c=107 \/ c=108 \/ c=109 \/ c=110 \/ c=111 \/ c=112 \/ c=113 \/ c=114 \/ c=115 \/ c=116 \/ c=117 \/ c=118 \/ c=119 \/ c=120 \/ c=121 \/ c=122:=by omega
 rcases this with rfl | rfl | rfl | rfl | rfl | rfl | rfl | rfl | rfl | rfl | rfl | rfl | rfl | rfl | rfl | rfl | rfl | rfl | rfl | rfl | rfl | rfl | rfl | rfl | rfl | rfl<;>decide +kernel
theorem uo{i:Int}(a:0<=i)(h1:i < 26):jB (.str ABC) (.int i)=some (.str [97+i.toNat]):=by
 have b:ABC.length=26:=rfl;have e:=jeU (s:=ABC) (by decide) a (by omega);have:∀ j,j < 26->ABC.getD j 0=97+j:=by decide
 rw[e,this i.toNat (by omega)]
theorem wd(u:List Nat)(c:Nat):yB (u++[c]) none (some (-1))=u:=by
 unfold yB HT.sIx;simp;rw[show(-1+((u.length:Int)+1)).toNat=u.length by omega];simp
theorem Qu{l:List Nat}{j:Int}(a:0<=j)(h1:j<=l.length):yB l none (some j)=l.take j.toNat:=by
 unfold yB HT.sIx;simp;rw[if_neg (by omega)];omega
theorem J2{w:List Nat}(m:Lt w)(L:w.length<=20):∃ v,jZ [.str w]=some (.str v)/\Lt v/\v.length<=21/\Sp w v:=by
 have j:=zm w true KA1;have n:=zm w true KA2;rw[show KA1.map D.str=[.str [112,111,111,108],.str [99,108,97,105,109],.str [112,111,116],.str [101,97,116],.str [111,114,100,101,114],.str [112,97,114,116],.str [112,97,121],.str [115,104,97,114,101],.str [114,101,112,97,121],.str [102,105,108,108],.str [108,101,110,100],.str [98,97,99,107]] from rfl] at j;rw[show KA2.map D.str=[.str [114,101,115,116],.str [108,111,111,107],.str [103,117,97,114,100],.str [100,101,98,116],.str [111,110],.str [108,97,116,101],.str [101,97,114,108,121],.str [113,117,105,116]] from rfl] at n;by_cases h:w∈KA1 \/ w∈KA2
 ·have k:w≠[]:=by
   intro z;subst z;revert h
   decide
  obtain⟨u,c,rfl⟩:∃ u c,w=u++[c]:=⟨w.dropLast,w.getLast k,(List.dropLast_concat_getLast k).symm⟩;have B:97<=c/\c<=122:=m c (by simp);have ix:jB (.str (u++[c])) (.int (-1))=some (.str [c]):=by
   show(bif lim (u++[c]).length then(match L2.atI (u++[c]) (-1) with | some c=>some (D.str [c]) | none=>none) else none)=_;rw[jg (by omega),z4 (i:=u.length) (x:=c) (by
    unfold ixN;rw[if_neg (by decide),if_pos (by simp;omega)];congr 1;simp;omega) (by simp)]
   rfl
  have E:=xP B;have o:=jcN (s:=u++[c]) (lo:=none) (hi:=some (-1)) (by omega);have F:=kW (u++[c]) none (some (-1));have p:=Vc (lo:=none) (hi:=some (-1)) m;have G:=U0 (vO ABC [c]+13) (show(26:Int)≠0 by decide);have H:=N9 (vO ABC [c]+13) (show(0:Int) < 26 by decide);have e:=uo G H;have q:97<=97+((vO ABC [c]+13) % 26).toNat/\97+((vO ABC [c]+13) % 26).toNat<=122:=by omega
  have d:97+((vO ABC [c]+13) % 26).toNat=rot c:=by rw[uG B];unfold rot;omega
  have r:1<=u.length:=by
   have:=h.elim (ul.1 _) (ul.2 _);simp at this;omega
  have t:Sp (u++[c]) (u++[97+((vO ABC [c]+13) % 26).toNat]):=by rw[d];exact Sp.last r
  have l:=wd u c;clear d;generalize 97+((vO ABC [c]+13) % 26).toNat=c' at *;generalize f:yB (u++[c]) none (some (-1))=cu at *;have y:=kS (a:=cu) (b:=[c']) (by simp;omega);have g:YJ (.str ABC) [.str [c]]=some (.int (vO ABC [c])):=by
   rw[xY,X0 E];rfl
  generalize vO ABC [c]=fi at *;refine⟨cu++[c'],?_,vR p (vT q),by simp;omega,by rw[l];exact t⟩;generalize A:ABC=AA at *;rcases h with h | h
  ·have I:=X0 h;generalize u++[c]=w at *;simp(disch:=decide) [jZ,vt,yg,jg,j,I,h,o,f,A,ix,g,jD,e,y]
  ·by_cases C:u++[c]∈KA1
   ·generalize u++[c]=w at *;simp(disch:=decide) [jZ,vt,yg,jg,j,C,o,f,A,ix,g,jD,e,y]
   ·generalize u++[c]=w at *;simp(disch:=decide) [jZ,vt,yg,jg,j,n,h,C,o,f,A,ix,g,jD,e,y]
 ·refine⟨w,?_,m,by omega,Sp.id w⟩;have J:¬ w∈KA1:=λz=>h (.inl z);have K:¬ w∈KA2:=λz=>h (.inr z);simp[jZ,vt,yg,jg,j,n,J,K]
structure Nm(w:List Nat):Prop where
 l:w.length<=21
 r:Lt w
noncomputable def xJ(n:Int)(i:Nat):Nat:=97+((n / 192+(0+(i:Int))) % 26).toNat
def Mk(n at' lo:Int)(i:Nat)(w:List Nat):Prop :=
 (n % 3=0/\∃ d,w[at'.toNat]?=some d/\(d=xJ n i \/ d=rot (xJ n i))) \/ (n % 3=1/\w.length=(1+(n / 24+(0+(i:Int))) % lo).toNat) \/ (n % 3=2/\w[0]?=some (xJ n i))
theorem Mk.ne{n at':Int}{i j:Nat}{w:List Nat}(hi:i < 7)(g:j < 7)(h1:Mk n at' 7 i w)(h2:Mk n at' 7 j w):i=j:=by
 rcases h1 with⟨c,h,b,e⟩ | ⟨c,b⟩ | ⟨c,b⟩<;>rcases h2 with⟨d,k,a,f⟩ | ⟨d,a⟩ | ⟨d,a⟩<;>try omega
 ·rw[b] at a;injection a with a;subst a;unfold rot xJ at e f;omega
 ·rw[b] at a;injection a with a;unfold xJ at a;omega
theorem KP{z:Int}(hz:Builtin.Int.intBits z<=2 ^ 20){n lo si at':Int}(hn:0<=n)(Z:1<=lo)(U:lo<=8){base:List Nat}(J:Lt base)(hbl:base.length=8)(K:0<=at')(ha7:at'<=7){W:List (List Nat)}(hW:W.length<=100){i:Nat}(hi:i<=100){a1 o10 o11:Option D} :
  ∃(w:List Nat) (r10 r11:Option D),jT [some (.int z),a1,some (.int lo),some (.str ABC),some (.int n),some (.str base),some (.int si),some (.int at'),some (.lst true (W.map D.str)),some (.int (0+(i:Int))),o10,o11] =
   some (.nx [some (.int z),a1,some (.int lo),some (.str ABC),some (.int n),some (.str base),some (.int si),some (.int at'),some (.lst true ((W++[w]).map D.str)),some (.int (0+(i:Int))),r10,r11])/\Nm w/\Mk n at' lo i w:=by
 have e1:=U0 (n / 192+(0+(i:Int))) (show(26:Int)≠0 by decide);have e2:=N9 (n / 192+(0+(i:Int))) (show(0:Int) < 26 by decide);have G:=uo e1 e2;have t:97+((n / 192+(0+(i:Int))) % 26).toNat=xJ n i:=rfl;have V:97<=xJ n i/\xJ n i<=122:=by unfold xJ;omega
 rw[t] at G;clear t;generalize x:xJ n i=c at *;have L:lim (W.map D.str).length=true:=jg (by rw[L0];omega);by_cases H:n % 3=0
 ·have y:=jcN (s:=base) (lo:=none) (hi:=some at') (by omega);have s2:=jcN (s:=base) (lo:=some (at'+1)) (hi:=some si) (by omega);have l1:=kW base none (some at');have l2:=kW base (some (at'+1)) (some si);have A:=Vc (lo:=none) (hi:=some at') J;have t2:=Vc (lo:=some (at'+1)) (hi:=some si) J;have B:(yB base none (some at')).length=at'.toNat:=by rw[Qu K (by omega),X6];omega
  generalize yB base none (some at')=u1,yB base (some (at'+1)) (some si)=u2 at *;have j:=kS (a:=u1) (b:=[c]) (by simp;omega);have M:=kS (a:=u1++[c]) (b:=u2) (by simp;omega);obtain⟨v,C,E,F,f⟩:=J2 (w:=u1++[c]++u2) (vR (vR A (vT V)) t2) (by simp;omega);have I:(u1++[c]++u2)[at'.toNat]?=some c:=by rw[<- B];simp
  have N:at'.toNat+1<=(u1++[c]++u2).length:=by simp;omega
  have d:Mk n at' lo i v:=by
   refine .inl ⟨H,?_⟩;rw[x];by_cases e:at'.toNat+1=(u1++[c]++u2).length
   ·rcases f.b _ e with h | ⟨_,c',r,X⟩
    ·exact⟨c,by rw[h,I],.inl rfl⟩
    ·rw[I] at r;cases r;exact⟨_,X,.inr rfl⟩
   ·exact⟨c,by rw[f.a _ (by omega),I],.inl rfl⟩
  refine⟨v,some (.str [c]),some (.str (u1++[c]++u2)),?_,⟨F,E⟩,d⟩;clear d I N f B;rw[N5];show _=some (Out.nx [_,_,_,_,_,_,_,_,some (.lst true (W.map D.str++[.str v])),_,_,_]);generalize W.map D.str=WW,u1++[c]++u2=uu at *;generalize Y:ABC=AA at *;simp(disch:=omega) [jT,vp,jD,G,H,y,s2,j,M,C,L,-Int.zero_add]
 by_cases r:n % 3=1
 ·have y:=jcN (s:=base) (lo:=none) (hi:=some (1+(n / 24+(0+(i:Int))) % lo)) (by omega);have l1:=kW base none (some (1+(n / 24+(0+(i:Int))) % lo));have A:=Vc (lo:=none) (hi:=some (1+(n / 24+(0+(i:Int))) % lo)) J;have O:ju (.int (n / 24+(0+(i:Int)))) (.int lo)=some (.int ((n / 24+(0+(i:Int))) % lo)):=jD (by omega);have q0:=U0 (n / 24+(0+(i:Int))) (show lo≠0 by omega);have q1:=N9 (n / 24+(0+(i:Int))) (show 0 < lo by omega);have B:(yB base none (some (1+(n / 24+(0+(i:Int))) % lo))).length=(1+(n / 24+(0+(i:Int))) % lo).toNat:=by rw[Qu (by omega) (by omega),X6];omega
  obtain⟨v,C,E,F,f⟩:=J2 A (by omega);have d:Mk n at' lo i v:=.inr (.inl ⟨r,by rw[f.l,B]⟩);clear f B;generalize(n / 24+(0+(i:Int))) % lo=q at *;generalize yB base none (some (1+q))=u1 at *;refine⟨v,some (.str [c]),some (.str u1),?_,⟨F,E⟩,d⟩;clear d;rw[N5];show _=some (Out.nx [_,_,_,_,_,_,_,_,some (.lst true (W.map D.str++[.str v])),_,_,_]);generalize W.map D.str=WW at *;generalize Y:ABC=AA at *;simp(disch:=omega) [jT,vp,jD,G,H,r,O,y,C,L,-Int.zero_add]
 ·obtain⟨m1,P,Q,_⟩:=kL (k:=0+(i:Int)+2) hz (by omega) (by omega);obtain⟨g,R,hm2,_⟩:=kL (k:=0+(i:Int)+40) hz (by omega) (by omega);obtain⟨u,eu,lu,tu⟩:=JJ (s:=7) Q (by decide);have j:=kS (a:=[c]) (b:=u) (by simp;omega);have tc:Lt ([c]++u):=vR (vT V) tu;have y:=jcN (s:=[c]++u) (lo:=none) (hi:=some (1+g % lo)) (by simp;omega);have l1:=kW ([c]++u) none (some (1+g % lo));have A:=Vc (lo:=none) (hi:=some (1+g % lo)) tc;have O:ju (.int g) (.int lo)=some (.int (g % lo)):=jD (by omega);have m:([c]++u).length=8:=by simp[lu]
  rw[m] at l1;have q0:=U0 g (show lo≠0 by omega);have q1:=N9 g (show 0 < lo by omega);have o:yB ([c]++u) none (some (1+g % lo))=([c]++u).take (1+g % lo).toNat:=Qu (by omega) (by rw[m];omega);generalize g % lo=q at *;have p:(yB ([c]++u) none (some (1+q)))[0]?=some c:=by rw[o,List.getElem?_take_of_lt (by omega)];rfl
  have S:1<=(yB ([c]++u) none (some (1+q))).length:=by rw[o,X6,m];omega
  obtain⟨v,C,E,F,f⟩:=J2 A (by omega);have d:Mk n at' lo i v:=by
   refine .inr (.inr ⟨by omega,?_⟩);rw[x];by_cases e:0+1=(yB ([c]++u) none (some (1+q))).length
   ·rcases f.b _ e with h | ⟨X,_⟩
    ·rw[h,p]
    ·omega
   ·rw[f.a _ (by omega),p]
  clear f p S o;generalize [c]++u=cu at *;generalize yB cu none (some (1+q))=u1 at *;refine⟨v,some (.str [c]),some (.str u1),?_,⟨F,E⟩,d⟩;clear d;rw[N5];show _=some (Out.nx [_,_,_,_,_,_,_,_,some (.lst true (W.map D.str++[.str v])),_,_,_]);have T:jK [.int m1,.int 7]=some (.str u):=eu;generalize W.map D.str=WW at *;generalize Y:ABC=AA at *;simp(disch:=omega) [jT,vp,jD,G,H,r,P,R,T,j,O,y,C,L,-Int.zero_add]
theorem wa{z:Int}(hz:Builtin.Int.intBits z<=2 ^ 20){many:Nat}(hm:many<=6) :
  ∃ W:List (List Nat),yG [.int z,.int (many:Int),.int 7]=some (.lst true (W.map D.str))/\W.length=many/\(∀ w∈W,Nm w)/\W.Nodup:=by
 have A:(1:Int)<=7:=by decide
 have o:(7:Int)<=8:=by decide
 obtain⟨n,L,B,Q⟩:=kL (k:=1) hz (by decide) (by decide);have M:vw (.int n) (.int n)=some (.int (n*n)):=Jz (by omega) (by omega);have R:0<=n*n:=Int.mul_nonneg B B;obtain⟨base,S,T,U⟩:=JJ (n:=n*n+n) (s:=8) (by omega) (by decide);have p:jK [.int (n*n+n),.int 8]=some (.str base):=S;generalize n*n=nn at *;have V:=N9 (n / 3) (show(0:Int) < 7 by decide);have hd:=U0 (n / 3) (show(7:Int)≠0 by decide);have r:ju (.int (n / 3)) (.int 7)=some (.int (n / 3 % 7)):=jD (by omega);generalize n / 3 % 7=q at *;have t:ju (.int (n / 24)) (.int (1+q))=some (.int (n / 24 % (1+q))):=jD (by omega);have C:=U0 (n / 24) (show 1+q≠0 by omega);have X:=N9 (n / 24) (show 0 < 1+q by omega);generalize n / 24 % (1+q)=at' at *;have g:=vL (j:=(many:Int)) (by omega) (by omega);rw[N8] at g;obtain⟨ρ',u,W,E,a,b,rfl,m,y,c⟩:=vx (G:=jl [] 9) (f:=jT) (xs:=ql 0 many) (λi ρ=>∃(W:List (List Nat)) (E a b:Option D),ρ=[some (.int z),some (.int (many:Int)),some (.int 7),some (.str ABC),some (.int n),some (.str base),some (.int (1+q)),some (.int at'),some (.lst true (W.map D.str)),E,a,b]/\W.length=i/\(∀ w∈W,Nm w)/\∀ j w,W[j]?=some w->Mk n at' 7 j w) (by
  rintro i x ρ Y ⟨W,E,a,b,rfl,m,y,c⟩;obtain⟨rfl,N⟩:=qu Y;obtain⟨w,F,H,e,Z,hM⟩:=KP hz (n:=n) (lo:=7) (si:=1+q) (at':=at') B A o U T C (by omega) (W:=W) (by omega) (i:=i) (by omega) (a1:=some (.int (many:Int))) (o10:=a) (o11:=b);exact⟨_,_,rfl,.inl e,W++[w],some (.int (0+(i:Int))),F,H,rfl,by simp[m],λv l=>(N2.mp l).elim (y v) λl=>by rw[M7.mp l];exact Z,λj v d=>by
   by_cases I:j < W.length
   ·rw[List.getElem?_append_left I] at d;exact c j v d
   ·have J:j < (W++[w]).length:=(L8.mp d).1;have:j=W.length:=by simp at J;omega
    subst this;rw[List.getElem?_concat_length] at d;cases d;rw[m];exact hM⟩) (ρ:=[some (.int z),some (.int (many:Int)),some (.int 7),some (.str ABC),some (.int n),some (.str base),some (.int (1+q)),some (.int at'),some (.lst true []),none,none,none]) ⟨[],none,none,none,rfl,rfl,λv l=>(nomatch l),λj v d=>by simp at d⟩
 rw[vH] at m;have nd:W.Nodup:=by
  unfold List.Nodup;rw[List.pairwise_iff_getElem];intro i j N d hij e;have e2:W[j]?=some W[j]:=X5 d;have u:W[i]?=some W[j]:=by rw[X5 N,e]
  have:=Mk.ne (by omega) (by omega) (c i _ u) (c j _ e2);omega
 have O:=jC W;have hr:(W.map D.str).reverse=W.reverse.map D.str:=by rw[List.map_reverse]
 by_cases P:n / 5000 % 2=1
 ·refine⟨W.reverse,?_,by simp[m],λv l=>y v (List.mem_reverse.mp l),by unfold List.Nodup at *;rw[List.pairwise_reverse];exact nd.imp λh=>h.symm⟩;rw[<- hr];generalize W.map D.str=WW at *;generalize K:ABC=AA at *;simp(disch:=omega) [yG,vt,vj,K,L,M,p,vp,r,t,g,u,jD,P,O,jg]
 ·refine⟨W,?_,m,y,nd⟩;generalize W.map D.str=WW at *;generalize K:ABC=AA at *;simp(disch:=omega) [yG,vt,vj,K,L,M,p,vp,r,t,g,u,jD,P,O,jg]
noncomputable abbrev z5:List Nat:=[114,101,115,116]
noncomputable abbrev z8:List Nat:=[108,101,110,100]
noncomputable abbrev xq:List Nat:=[98,97,99,107]
inductive Rl where
 | rest (w:WN)
 | lend (n:WN) (v:Int)
 | back (n:WN)
noncomputable def yR:Rl->D
 | .rest w=>.tup [.str z5,.str w]
 | .lend n v=>.tup [.str z8,.str n,.int v]
 | .back n=>.tup [.str xq,.str n]
noncomputable def yk(o:Bool)(l:List Rl):D:=.lst o (l.map yR)
noncomputable def Jw(o:Bool)(p:List (List Rl)):D:=.lst o (p.map (yk o))
noncomputable def kR(o:Bool)(r:List (List (List Rl))):D:=.lst o (r.map (Jw o))
theorem Yh(r:Rl):frz (yR r)=true:=by cases r<;>rfl
theorem vC(l:List Rl):frzs (l.map yR)=true:=vn λd hd=>by obtain⟨x,_,rfl⟩:=M5.mp hd;exact Yh x
theorem Qt(o:Bool)(l:List Rl):fz (yk o l)=yk false l:=by
 show D.lst false (fzs _)=_;rw[jx _ (vC l)];rfl
theorem uV(o:Bool)(l:List (List Rl)):fz (Jw o l)=Jw false l:=by
 show D.lst false (fzs _)=_;rw[yE,U1];exact congrArg (D.lst false) (List.map_congr_left λx _=>Qt o x)
theorem uS(o:Bool)(l:List (List (List Rl))):fz (kR o l)=kR false l:=by
 show D.lst false (fzs _)=_;rw[yE,U1];exact congrArg (D.lst false) (List.map_congr_left λx _=>uV o x)
def jdE(W:List WN)(j:Nat):Rl->Prop
 | .rest w=>Lt w
 | .lend n _=>Lt n/\∃ i w,i≠j/\W[i]?=some w/\n=w++[97]
 | .back n=>Lt n
structure RuOk(W:List WN)(j:Nat)(r:List Rl):Prop where
 l1:1<=r.length
 l5:r.length<=5
 k:∀ x∈r,jdE W j x
structure RwOk(W:List WN)(r:List (List (List Rl))):Prop where
 l:r.length=W.length
 p1:∀ p∈r,1<=p.length/\p.length<=3
 k:∀ j p,r[j]?=some p->∀ u∈p,RuOk W j u
theorem Q4{α:Type}{l:List α}{i:Nat}{a x:α}(h:x∈l.set i a):x∈l \/ x=a:=List.mem_or_eq_of_mem_set h
theorem RwOk.put{W:List WN}{r:List (List (List Rl))}(h:RwOk W r){j i:Nat}{p:List (List Rl)}{u:List Rl}(f:r[j]?=some p)(g:RuOk W j u):RwOk W (r.set j (p.set i u)):=by
 have c:=List.mem_of_getElem? f;refine⟨by rw[List.length_set];exact h.l,λq d=>?_,λk q a v b=>?_⟩
 ·rcases Q4 d with d | rfl
  ·exact h.p1 q d
  ·rw[List.length_set];exact h.p1 p c
 ·rw[List.getElem?_set] at a;split at a
  ·rename_i e;subst e;split at a
   ·cases a;rcases Q4 b with b | rfl
    ·exact h.k j p f v b
    ·exact g
   ·cases a
  ·exact h.k k q a v b
theorem RuOk.ins{W:List WN}{j:Nat}{r:List Rl}(h:RuOk W j r)(c:r.length < 5){x:Rl}(b:jdE W j x)(n:Nat):RuOk W j (r.take n++x::r.drop n):=by
 refine⟨by rw[N4,M0];omega,?_,λy a=>?_⟩
 ·rw[N4,M0,X6,List.length_drop];omega
 ·rcases N2.mp a with a | a
  ·exact h.k y (List.mem_of_mem_take a)
  ·rcases M4.mp a with rfl | a
   ·exact b
   ·exact h.k y (List.mem_of_mem_drop a)
theorem qF{o:Bool}{W:List WN}{i:Nat}{w:WN}(h:W[i]?=some w):jB (.lst o (W.map D.str)) (.int (i:Int))=some (.str w):=by
 have a:=(L8.mp h).1;rw[jbB (by omega) (by rw[L0];omega),N8,List.getElem?_map,h];rfl
theorem z7{W:List WN}(N:∀ w∈W,Nm w)(h2:2<=W.length)(h6:W.length<=6){r:List (List (List Rl))}(h:RwOk W r){z:Int}(hz:Builtin.Int.intBits z<=2 ^ 20){i:Nat}(hi:i<=100){a0 a1 a7 a8 a9 a10 a11 a12 a13 a14:Option D} :
  ∃(r':List (List (List Rl))) (q7 q8 q9 q11:Option D),RwOk W r'/\yI [a0,a1,some (.int (W.length:Int)),some (.lst true (W.map D.str)),some (kR true r),some (.int (i:Int)),some (.int z),a7,a8,a9,a10,a11,a12,a13,a14] =
   some (.nx [a0,a1,some (.int (W.length:Int)),some (.lst true (W.map D.str)),some (kR true r'),some (.int (i:Int)),some (.int z),q7,q8,q9,some .dead,q11,a12,a13,a14]):=by
 obtain⟨m,Z,hm0,hm1⟩:=kL (k:=(i:Int)+2) hz (by omega) (by omega);have hl:=h.l;have b1:=U0 m (show(W.length:Int)≠0 by omega);have b2:=N9 m (show 0 < (W.length:Int) by omega);have O:ju (.int m) (.int (W.length:Int))=some (.int (m % (W.length:Int))):=jD (by omega);have c1:=U0 (m / 6) (show(W.length:Int) - 1≠0 by omega);have c2:=N9 (m / 6) (show 0 < (W.length:Int) - 1 by omega);have o2:ju (.int (m / 6)) (.int ((W.length:Int) - 1))=some (.int (m / 6 % ((W.length:Int) - 1))):=jD (by omega);generalize m / 6 % ((W.length:Int) - 1)=t at *;obtain⟨a,ha⟩:∃ a:Nat,m % (W.length:Int)=(a:Int):=⟨(m % (W.length:Int)).toNat,by omega⟩;rw[ha] at b1 b2 O;have P:ju (.int ((a:Int)+1+t)) (.int (W.length:Int))=some (.int (((a:Int)+1+t) % (W.length:Int))):=jD (by omega);have d1:=U0 ((a:Int)+1+t) (show(W.length:Int)≠0 by omega);have d2:=N9 ((a:Int)+1+t) (show 0 < (W.length:Int) by omega);have G:((a:Int)+1+t) % (W.length:Int)≠(a:Int):=by
  rcases Int.lt_or_le ((a:Int)+1+t) (W.length:Int) with q | q
  ·rw[Int.emod_eq_of_lt (by omega) q];omega
  ·have:((a:Int)+1+t) % (W.length:Int)=(a:Int)+1+t - (W.length:Int):=by
    rw[<- Int.sub_emod_right,Int.emod_eq_of_lt (by omega) (by omega)]
   omega
 obtain⟨b,hb⟩:∃ b:Nat,((a:Int)+1+t) % (W.length:Int)=(b:Int):=⟨(((a:Int)+1+t) % (W.length:Int)).toNat,by omega⟩;rw[hb] at d1 d2 P G;have H:a < r.length:=by omega
 obtain⟨p,y⟩:∃ p,r[a]?=some p:=⟨r[a],X5 H⟩;have hpl:=h.p1 p (List.mem_of_getElem? y);obtain⟨w,C⟩:∃ w,W[b]?=some w:=⟨W[b]'(by omega),X5 (by omega)⟩;have A:=U0 (m / 30) (show(p.length:Int)≠0 by omega);have E:=N9 (m / 30) (show 0 < (p.length:Int) by omega);have o4:ju (.int (m / 30)) (.int (p.length:Int))=some (.int (m / 30 % (p.length:Int))):=jD (by omega);generalize m / 30 % (p.length:Int)=s at *;obtain⟨u,Q⟩:∃ u,p[s.toNat]?=some u:=⟨p[s.toNat]'(by omega),X5 (by omega)⟩;have F:=h.k a p y u (List.mem_of_getElem? Q);have u1:=F.l1;have u5:=F.l5;have R:=qF (o:=true) C;have S:jB (kR true r) (.int (a:Int))=some (Jw true p):=by
  unfold kR;rw[jbB (by omega) (by rw[L0];omega),N8,List.getElem?_map,y];rfl
 have B:=vR (N w (List.mem_of_getElem? C)).r (vT (c:=97) (by omega));have lV:(((p.map (yk true)).length:Nat):Int)=(p.length:Int):=by rw[L0]
 have I:(((u.map yR).length:Nat):Int)=(u.length:Int):=by rw[L0]
 have g1:=U0 (m / 1080) (show(u.length:Int)≠0 by omega);have g2:=N9 (m / 1080) (show 0 < (u.length:Int) by omega);have o5:ju (.int (m / 1080)) (.int (u.length:Int))=some (.int (m / 1080 % (u.length:Int))):=jD (by omega);generalize m / 1080 % (u.length:Int)=v at *;have T:KC (.int 10) (.int 9)=some (.int 1000000000):=by with_unfolding_all rfl
 -- the block behind the name
 obtain⟨g,q11,J,hB⟩:∃(g:List Rl) (q11:Option D),RuOk W a g/\(jL (j7 (dP (qB (jc (pC (.str [108,101,110,100])) (jc (p2 jt (p2 jB (pV 3) (pV 9)) (pC (.str [97]))) (jc (p2 jt (pC (.int 1)) (p2 ju (pV 7) (p2 KC (pC (.int 10)) (pC (.int 9))))) pN))))) (jl [4,10] 11))
   (jL (sIf (dPT (jr (p2 k7 (p2 ju (p2 j6 (pV 7) (pC (.int 90))) (pC (.int 3))) (pC (.int 0))))) (j7 (dP (qB (jc (pC (.str [98,97,99,107])) (jc (p2 jt (p2 jB (pV 3) (pV 9)) (pC (.str [97]))) pN)))) (jl [4,10] 11))
   yX)
   (sIf (dPT (ud (jr (p2 k7 (p2 ju (p2 j6 (pV 7) (pC (.int 270))) (pC (.int 4))) (pC (.int 0)))) (jr (p2 KY (pCB kr (jc (pV 10) pN)) (pC (.int 5)))))) (jaE 10 (p2 ju (p2 j6 (pV 7) (pC (.int 1080))) (pCB kr (jc (pV 10) pN))) (pF (pV 11)))
   yX))) [a0,a1,some (.int (W.length:Int)),some (.lst true (W.map D.str)),none,some (.int (i:Int)),some (.int z),some (.int m),some (.int (a:Int)),some (.int (b:Int)),some (yk true u),a11,a12,a13,a14] =
   some (.nx [a0,a1,some (.int (W.length:Int)),some (.lst true (W.map D.str)),none,some (.int (i:Int)),some (.int z),some (.int m),some (.int (a:Int)),some (.int (b:Int)),some (yk true g),q11,a12,a13,a14]):=by
  obtain⟨x,hx,ex⟩:∃ x:Rl,jdE W a x/\∀ k:FS,(jL (j7 (dP (qB (jc (pC (.str [108,101,110,100])) (jc (p2 jt (p2 jB (pV 3) (pV 9)) (pC (.str [97]))) (jc (p2 jt (pC (.int 1)) (p2 ju (pV 7) (p2 KC (pC (.int 10)) (pC (.int 9))))) pN))))) (jl [4,10] 11))
    (jL (sIf (dPT (jr (p2 k7 (p2 ju (p2 j6 (pV 7) (pC (.int 90))) (pC (.int 3))) (pC (.int 0))))) (j7 (dP (qB (jc (pC (.str [98,97,99,107])) (jc (p2 jt (p2 jB (pV 3) (pV 9)) (pC (.str [97]))) pN)))) (jl [4,10] 11))
    yX) k)) [a0,a1,some (.int (W.length:Int)),some (.lst true (W.map D.str)),none,some (.int (i:Int)),some (.int z),some (.int m),some (.int (a:Int)),some (.int (b:Int)),some (yk true u),a11,a12,a13,a14] =
    k [a0,a1,some (.int (W.length:Int)),some (.lst true (W.map D.str)),none,some (.int (i:Int)),some (.int z),some (.int m),some (.int (a:Int)),some (.int (b:Int)),some (yk true u),some (yR x),a12,a13,a14]:=by
   have V:ju (.int m) (.int 1000000000)=some (.int (m % 1000000000)):=jD (by decide);have j:ju (.int (m / 90)) (.int 3)=some (.int (m / 90 % 3)):=jD (by decide);have f:j6 (.int m) (.int 90)=some (.int (m / 90)):=vp (by omega) (by decide);have X:jt (.str w) (.str [97])=some (.str (w++[97])):=kS (by have:=(N w (List.mem_of_getElem? C)).l;simp;omega);by_cases e:m / 90 % 3=0
   ·refine⟨.back (w++[97]),B,λk=>?_⟩;show _=k [_,_,_,_,_,_,_,_,_,_,_,some (.tup [.str xq,.str (w++[97])]),_,_,_];generalize yk true u=U,W.map D.str=WW at *;simp[R,X,T,V,j,f,e,jg]
   ·refine⟨.lend (w++[97]) (1+m % 1000000000),⟨B,b,w,by omega,C,rfl⟩,λk=>?_⟩;show _=k [_,_,_,_,_,_,_,_,_,_,_,some (.tup [.str z8,.str (w++[97]),.int (1+m % 1000000000)]),_,_,_];generalize yk true u=U,W.map D.str=WW at *;simp[R,X,T,V,j,f,e,jg]
  have j:ju (.int (m / 270)) (.int 4)=some (.int (m / 270 % 4)):=jD (by decide);have f:j6 (.int m) (.int 270)=some (.int (m / 270)):=vp (by omega) (by decide);have K:j6 (.int m) (.int 1080)=some (.int (m / 1080)):=vp (by omega) (by decide);by_cases e:m / 270 % 4=0/\u.length < 5
  ·refine⟨u.take v.toNat++x::u.drop v.toNat,some (yR x),F.ins e.2 hx _,?_⟩;rw[ex];have hi:=uO (i:=10) (pk:=p2 ju (p2 j6 (pV 7) (pC (.int 1080))) (pCB kr (jc (pV 10) pN))) (p:=pF (pV 11)) (ρ:=[a0,a1,some (.int (W.length:Int)),some (.lst true (W.map D.str)),none,some (.int (i:Int)),some (.int z),some (.int m),some (.int (a:Int)),some (.int (b:Int)),some (yk true u),some (yR x),a12,a13,a14]) (l:=u.map yR) (n:=v) (d:=yR x) rfl
    (by unfold yk;generalize u.map yR=UU at *;generalize yR x=Y at *;generalize W.map D.str=WW at *;simp[K,I,o5]) (by have:=Yh x;generalize yR x=Y at *;generalize yk true u=UU at *;generalize W.map D.str=WW at *;simp[this]) g1 (by rw[L0];omega) (jg (by rw[L0];omega)) (vC u) (Yh x)
   have e':(u.take v.toNat++x::u.drop v.toNat).map yR=(u.map yR).take v.toNat++yR x::(u.map yR).drop v.toNat:=by
    rw[N5,L4,List.map_take,List.map_drop]
   have t:(dPT (ud (jr (p2 k7 (p2 ju (p2 j6 (pV 7) (pC (.int 270))) (pC (.int 4))) (pC (.int 0)))) (jr (p2 KY (pCB kr (jc (pV 10) pN)) (pC (.int 5)))))) [a0,a1,some (.int (W.length:Int)),some (.lst true (W.map D.str)),none,some (.int (i:Int)),some (.int z),some (.int m),some (.int (a:Int)),some (.int (b:Int)),some (yk true u),some (yR x),a12,a13,a14]=some (true,[a0,a1,some (.int (W.length:Int)),some (.lst true (W.map D.str)),none,some (.int (i:Int)),some (.int z),some (.int m),some (.int (a:Int)),some (.int (b:Int)),some (yk true u),some (yR x),a12,a13,a14]):=by
    have E:(u.length:Int) < 5:=by omega
    unfold yk;generalize u.map yR=UU,yR x=Y,W.map D.str=WW at *;simp[f,j,e.1,I,E]
   rw[jej,t,L3];dsimp only;rw[hi];show _=some (Out.nx [_,_,_,_,_,_,_,_,_,_,some (.lst true _),_,_,_,_]);rw[e'];rfl
  ·refine⟨u,some (yR x),F,?_⟩;rw[ex];by_cases A:m / 270 % 4=0
   ·have E:¬ (u.length:Int) < 5:=λq=>e ⟨A,by omega⟩;unfold yk;generalize u.map yR=UU,yR x=Y,W.map D.str=WW at *;simp[f,j,A,I,E]
   ·generalize yk true u=UU,yR x=Y,W.map D.str=WW at *;simp[f,j,A]
 have L:=xZ (pm:=[]) (i:=4) (x:=10) (p1:=pV 8) (p2:=p2 ju (p2 j6 (pV 7) (pC (.int 30))) (pCB kr (jc (p2 jB (pV 4) (pV 8)) pN))) (ρ:=[a0,a1,some (.int (W.length:Int)),some (.lst true (W.map D.str)),some (kR true r),some (.int (i:Int)),some (.int z),some (.int m),some (.int (a:Int)),some (.int (b:Int)),a10,a11,a12,a13,a14]) (l:=r.map (Jw true)) (l1:=p.map (yk true)) (n1:=(a:Int)) (n2:=s) (it:=yk true u) (d:=yk true g) rfl rfl (by omega) (by rw[N8,List.getElem?_map,y];rfl)
  (by
   have f:j6 (.int m) (.int 30)=some (.int (m / 30)):=vp (by omega) (by decide);unfold Jw at S;generalize p.map (yk true)=PP,kR true r=RR,W.map D.str=WW at *;simp[f,S,lV,o4]) A (by rw[List.getElem?_map,Q];rfl) rfl hB rfl (by simp)
 refine⟨r.set a (p.set s.toNat g),some (.int m),some (.int (a:Int)),some (.int (b:Int)),q11,h.put y J,?_⟩;have M:j6 (.int m) (.int 6)=some (.int (m / 6)):=vp (by omega) (by decide);have e9:kR true (r.set a (p.set s.toNat g))=.lst true ((r.map (Jw true)).set a (.lst true ((p.map (yk true)).set s.toNat (yk true g)))):=by
  unfold kR;rw[List.map_set];show D.lst true (_:List D)=_;congr 2;show D.lst true _=_;rw[List.map_set]
 rw[e9];unfold yI;generalize W.map D.str=WW,kR true r=RR at *;simp[Z,O,M,o2,P,L,-Int.zero_add]
noncomputable def j9(b:Bool):Nat->List (List Rl)->List D
 | _,[]=>[]
 | j,u::os=>.tup [.str [97+j],.lst b [],yk false u]::j9 b (j+1) os
structure Po where
 nm:WN
 cl:WN
 n:Int
 os:List (List Rl)
noncomputable def jn(b:Bool)(p:Po):D:=.tup [.str p.nm,.lst b [.tup [.str p.cl,.int p.n,.int 1]],.lst b [],.lst b [],.lst false (j9 false 0 p.os),.lst b [],.lst b []]
structure PoOk(W:List WN)(k:Nat)(p:Po):Prop where
 nm:∃ w,W[k]?=some w/\p.nm=w++[97]
 cl:Lt p.cl
 l:p.os.length<=3
 k:∀ u∈p.os,RuOk W k u
theorem VZ(b:Bool):∀(j:Nat) (os:List (List Rl)),fzs (j9 b j os)=j9 false j os
 | _,[]=>rfl
 | j,u::os=>by
  rw[j9,fzs,VZ b (j+1) os,j9];have:=Qt false u;show D.tup [_,.lst false [],fz (yk false u)]::_=_;rw[this];rfl
theorem Km(u:List Rl):frz (yk false u)=true:=by
 show(true&&_)=true;rw[vC u];rfl
theorem yN:∀(j:Nat) (os:List (List Rl)),frzs (j9 false j os)=true
 | _,[]=>rfl
 | j,u::os=>by
  rw[j9,frzs,yN (j+1) os];have:=Km u;simp[this]
theorem wm(p:Po):fz (jn true p)=jn false p:=by
 unfold jn;have:=jx _ (yN 0 p.os);generalize j9 false 0 p.os=O at *;simp[this]
theorem kE(p:Po):frz (jn false p)=true:=by
 unfold jn;have:=yN 0 p.os;generalize j9 false 0 p.os=O at *;simp[this]
theorem Yq{w:WN}(a:w.length<=100):∀{xs:List D}{o0:Option D},(∀ x∈xs,frz x=true)->jX (jl [] 0) qT (kU (jc (qB (jc (pC (.str [114,101,115,116])) (jc (p2 jt (pV 1) (pC (.str [98]))) pN))) pN)) xs [o0,some (.str w)]=some (List.replicate xs.length (yk true [.rest (w++[98])]))
 | [],_,_=>rfl
 | x::xs,o0,h=>by
  have e:=Yq a (xs:=xs) (o0:=some x) λy b=>h y (L5 _ b);have c:jl [] 0 x [o0,some (.str w)]=some [some x,some (.str w)]:=rfl;have d:jt (.str w) (.str [98])=some (.str (w++[98])):=kS (by simp;omega);rw[j5,c,L3,M0,List.replicate_succ];generalize f:List.replicate xs.length (yk true [.rest (w++[98])])=RR at *;show _=some (D.lst true [.tup [.str z5,.str (w++[98])]]::RR);simp[d,e,jg]
theorem YY{f:Int}(a:0<=f):∀{W:List WN}{o0:Option D},(∀ w∈W,Nm w)->jX (jl [] 0) qT (yH (k9 (jc (p2 jt (pC (.int 1)) (p2 ju (p2 j6 (pV 1) (pC (.int 5))) (pC (.int 3)))) pN)) (jl [] 0) qT (kU (jc (qB (jc (pC (.str [114,101,115,116])) (jc (p2 jt (pV 1) (pC (.str [98]))) pN))) pN)) [none,some 0]) (W.map D.str) [o0,some (.int f)] =
  some ((W.map λw=>List.replicate (1+f / 5 % 3).toNat [Rl.rest (w++[98])]).map (Jw true))
 | [],_,_=>rfl
 | w::W,o0,h=>by
  have e:=YY a (W:=W) (o0:=some (.str w)) λy b=>h y (L5 _ b);have d:jl [] 0 (.str w) [o0,some (.int f)]=some [some (.str w),some (.int f)]:=rfl;have q:=(h w L6).l;have g:j6 (.int f) (.int 5)=some (.int (f / 5)):=vp (by omega) (by decide);have k:ju (.int (f / 5)) (.int 3)=some (.int (f / 5 % 3)):=jD (by decide);have m:=vL (j:=1+f / 5 % 3) (by omega) (by omega);have c:=Yq (w:=w) (by omega) (xs:=ql 0 (1+f / 5 % 3).toNat) (o0:=none) λx n=>by obtain⟨i,_,rfl⟩:=M5.mp n;rfl
  rw[vH] at c;have l:lim (ql 0 (1+f / 5 % 3).toNat).length=true:=jg (by rw[vH];omega);rw[L4,j5,d,L3,L4,L4];have o:Jw true (List.replicate (1+f / 5 % 3).toNat [Rl.rest (w++[98])])=.lst true (List.replicate (1+f / 5 % 3).toNat (yk true [.rest (w++[98])])):=by
   unfold Jw;rw[List.map_replicate]
  rw[o];generalize List.replicate (1+f / 5 % 3).toNat (yk true [.rest (w++[98])])=RR at *;generalize((W.map λw=>List.replicate (1+f / 5 % 3).toNat [Rl.rest (w++[98])]).map (Jw true))=R2 at *;generalize ql 0 (1+f / 5 % 3).toNat=RG at *;have p:jX (jl [] 0) qT (kU (jc (qB (jc (pC (.str [114,101,115,116])) (jc (p2 jt (pV 1) (pC (.str [98]))) pN))) pN)) RG (j4 [none,some 0] [some (.str w),some (.int f)])=some RR:=c;simp[g,k,m,l,p,e]
theorem jbb{W:List WN}(b:∀ w∈W,Nm w){n:Nat}(h1:1<=n)(c:n<=3):RwOk W (W.map λw=>List.replicate n [Rl.rest (w++[98])]):=by
 refine⟨L0 ..,λp d=>?_,λj p a u e=>?_⟩
 ·obtain⟨w,_,rfl⟩:=M5.mp d;rw[List.length_replicate];exact⟨h1,c⟩
 ·rw[List.getElem?_map] at a;cases q:W[j]? with
  | none=>rw[q] at a;cases a
  | some w =>
   rw[q] at a;cases a;rw[(List.mem_replicate.mp e).2];refine⟨M8 _,by show 1<=5;decide,λx f=>?_⟩;rw[M7.mp f];exact vR (b w (List.mem_of_getElem? q)).r (vT (by omega))
theorem Ym{r:List (List (List Rl))}{k:Nat}{p:List (List Rl)}(a:r[k]?=some p)(c:p.length<=3):∀{S:List (List Rl)}{j:Nat}{o0:Option D},p.drop j=S->jX (jl [] 0) qT (qB (jc (pF (p2 jB (pC (.str [97,98,99])) (pV 0))) (jc (kU pN) (jc (pF (p2 jB (p2 jB (pV 1) (pV 2)) (pV 0))) pN)))) (ql (j:Int) S.length) [o0,some (kR false r),some (.int (k:Int))]=some (j9 true j S)
 | [],j,o0,_=>rfl
 | u::S,j,o0,hd=>by
  have d:j < p.length:=by
   rcases Nat.lt_or_ge j p.length with q | q
   ·exact q
   ·rw[List.drop_eq_nil_of_le q] at hd;cases hd
  have f:p[j]?=some u:=by
   have:=congrArg (λl=>l[0]?) hd;simpa [List.getElem?_drop] using this
  have b:p.drop (j+1)=S:=by
   have:=congrArg (λl=>l.drop 1) hd;simpa [List.drop_drop] using this
  have e:=Ym a c (S:=S) (j:=j+1) (o0:=some (.int (j:Int))) b;have g:ql (j:Int) (S.length+1)=.int (j:Int)::ql ((j+1:Nat):Int) S.length:=by
   unfold ql;rw[List.range_succ_eq_map,L4,U1];refine congr (congrArg _ (by simp)) (List.map_congr_left λi _=>?_);simp only[Function.comp];congr 1
   push_cast
   omega
  have h:=(L8.mp a).1;have m:jB (kR false r) (.int (k:Int))=some (Jw false p):=by
   unfold kR;rw[jbB (by omega) (by rw[L0];omega),N8,List.getElem?_map,a];rfl
  have n:jB (Jw false p) (.int (j:Int))=some (yk false u):=by
   unfold Jw;rw[jbB (by omega) (by rw[L0];omega),N8,List.getElem?_map,f];rfl
  have o:jB (.str [97,98,99]) (.int (j:Int))=some (.str [97+j]):=by
   rcases(by omega:j=0 \/ j=1 \/ j=2) with rfl | rfl | rfl<;>with_unfolding_all rfl
  have s:=Km u;have t:jl [] 0 (.int (j:Int)) [o0,some (kR false r),some (.int (k:Int))]=some [some (.int (j:Int)),some (kR false r),some (.int (k:Int))]:=rfl;rw[M0,g,j5,t,L3,j9];generalize ql ((j+1:Nat):Int) S.length=RG,j9 true (j+1) S=OS,yk false u=U,Jw false p=PP,kR false r=RW at *;simp[m,n,o,s,e,jg]
theorem K7{W:List WN}(q:∀ w∈W,Nm w){r:List (List (List Rl))}(h:RwOk W r){f:Int}(F:0<=f){k:Nat}{w:WN}(i:W[k]?=some w){p:List (List Rl)}(b:r[k]?=some p){A:List Po}(G:A.length<=50){a0 a6 a7 a8 a9 a10 a11 a13 a14:Option D} :
  ∃ q13 q14,yJ [a0,some (.int f),some (.int (W.length:Int)),some (.lst true (W.map D.str)),some (kR false r),some (.int (k:Int)),a6,a7,a8,a9,a10,a11,some (.lst true (A.map (jn true))),a13,a14] =
   some (.nx [a0,some (.int f),some (.int (W.length:Int)),some (.lst true (W.map D.str)),some (kR false r),some (.int (k:Int)),a6,a7,a8,a9,a10,a11,some (.lst true ((A++[Po.mk (w++[97]) (w++[98]) (1+f % 100) p]).map (jn true))),q13,q14]):=by
 have c:=h.p1 p (List.mem_of_getElem? b);have s:=(q w (List.mem_of_getElem? i)).l;have t:=qF (o:=true) i;have d:jt (.str w) (.str [97])=some (.str (w++[97])):=kS (by simp;omega);have e:jt (.str w) (.str [98])=some (.str (w++[98])):=kS (by simp;omega);have u:=(L8.mp b).1;have m:jB (kR false r) (.int (k:Int))=some (Jw false p):=by
  unfold kR;rw[jbB (by omega) (by rw[L0];omega),N8,List.getElem?_map,b];rfl
 have v:(((p.map (yk false)).length:Nat):Int)=(p.length:Int):=by rw[L0]
 have a:=vL (j:=(p.length:Int)) (by omega) (by omega);rw[N8] at a;have x:lim (ql 0 p.length).length=true:=jg (by rw[vH];omega);have y:=Ym b c.2 (S:=p) (j:=0) (o0:=none) rfl;have of:=VZ true 0 p;have n:=yN 0 p;have z:=jx _ n;have B:ju (.int f) (.int 100)=some (.int (f % 100)):=jD (by decide);have C:lim (A.map (jn true)).length=true:=jg (by rw[L0];omega);have E:(A++[Po.mk (w++[97]) (w++[98]) (1+f % 100) p]).map (jn true)=A.map (jn true)++[.tup [.str (w++[97]),.lst true [.tup [.str (w++[98]),.int (1+f % 100),.int 1]],.lst true [],.lst true [],.lst false (j9 false 0 p),.lst true [],.lst true []]]:=by
  rw[N5];rfl
 refine⟨some (.str (w++[98])),some (.lst false (j9 false 0 p)),?_⟩;rw[E];unfold Jw at m;generalize p.map (yk false)=PP,A.map (jn true)=AA,j9 false 0 p=O1,j9 true 0 p=O2,kR false r=RW,W.map D.str=WW,ql 0 p.length=RG at *;have g:∀ q13 q14:Option D,jX (jl [] 0) qT (qB (jc (pF (p2 jB (pC (.str [97,98,99])) (pV 0))) (jc (kU pN) (jc (pF (p2 jB (p2 jB (pV 1) (pV 2)) (pV 0))) pN)))) RG (j4 [none,some 4,some 5] [a0,some (.int f),some (.int (W.length:Int)),some (.lst true WW),some RW,some (.int (k:Int)),a6,a7,a8,a9,a10,a11,some (.lst true AA),q13,q14])=some O2:=λ_ _=>y;simp(maxSteps:=400000) [yJ,t,d,e,m,v,a,x,g,of,n,z,B,C,jg]
theorem uZ(o:Bool)(l:List Int)(lo hi:Option Int):uA lo hi (.lst o (l.map D.int))=some (.lst true ((yB l lo hi).map D.int)):=by
 rw[jeW (kX l),x9]
structure DlOk(W:List WN)(ps:List Po):Prop where
 nm:∀ w∈W,Nm w
 nd:W.Nodup
 l2:2<=W.length
 l6:W.length<=6
 l:ps.length=W.length
 k:∀ k p,ps[k]?=some p->PoOk W k p
theorem jaX{ns:List Int}(Z:jdB ns)(hl:ns.length<=63):∃ W ps,yO [.lst false (ns.map D.int)]=some (.lst true (ps.map (jn true)))/\DlOk W ps:=by
 obtain⟨z,ez,s⟩:=jaJ Z (k:=0) (by decide);obtain⟨f,ef,f0,f1⟩:=kL s (k:=1) (by decide) (by decide);obtain⟨n,hn⟩:∃ n:Nat,2+f % 5=(n:Int):=⟨(2+f % 5).toNat,by omega⟩;have n2:2<=n:=by omega
 have L:n<=6:=by omega
 obtain⟨W,eW,M,E,dW⟩:=wa s (many:=n) L;subst M;have N:=kX ns;have O:=Vu ns;have P:jdB (yB ns none (some 64)):=λx Q=>Z x (Q3 Q);have hlc:(yB ns none (some 64)).length<=63:=N7 (kW _ _ _) hl;have sN:=uZ false ns none (some 64);generalize yB ns none (some 64)=cs at *;have rc:=YY f0 (W:=W) (o0:=none) E;have r0:=jbb E (n:=(1+f / 5 % 3).toNat) (by omega) (by omega);generalize(W.map λw=>List.replicate (1+f / 5 % 3).toNat [Rl.rest (w++[98])])=R0 at *;obtain⟨ρ1,e1,r,K,F,t,y,B,a,b,rfl,H⟩:=vx (G:=gT 2 (gC (jl [] 5) (gC (jl [] 6) gN))) (f:=yI) (xs:=vZ 0 (cs.map D.int)) (λi ρ=>∃(r:List (List (List Rl))) (K F t y B a b:Option D),ρ=[some (.lst false (ns.map D.int)),some (.int f),some (.int (W.length:Int)),some (.lst true (W.map D.str)),some (kR true r),K,F,t,y,B,a,b,none,none,none]/\RwOk W r) (by
  rintro i x ρ Q ⟨r,K,F,t,y,B,a,b,rfl,H⟩;obtain⟨d,hd,rfl⟩:=qM 0 _ i x Q;rw[List.getElem?_map] at hd;cases s:cs[i]? with
  | none=>rw[s] at hd;cases hd
  | some c =>
   rw[s] at hd;cases hd;have hi:i < cs.length:=(L8.mp s).1;obtain⟨r',q7,q8,q9,q11,R,e⟩:=z7 E n2 L H (P c (List.mem_of_getElem? s)) (i:=i) (by omega) (a0:=some (.lst false (ns.map D.int))) (a1:=some (.int f)) (a7:=t) (a8:=y) (a9:=B) (a10:=a) (a11:=b) (a12:=none) (a13:=none) (a14:=none);refine⟨_,_,?_,.inl e,r',_,_,_,_,_,_,_,rfl,R⟩;rw[Nat.zero_add];rfl) (ρ:=[some (.lst false (ns.map D.int)),some (.int f),some (.int (W.length:Int)),some (.lst true (W.map D.str)),some (kR true R0),none,none,none,none,none,none,none,none,none,none]) ⟨R0,_,_,_,_,_,_,_,rfl,r0⟩
 have hrl:=H.l;obtain⟨ρ2,e2,ps,S,m,o,rfl,g,C⟩:=vx (G:=jl [] 5) (f:=yJ) (xs:=ql 0 W.length) (λi ρ=>∃(ps:List Po) (S m o:Option D),ρ=[some (.lst false (ns.map D.int)),some (.int f),some (.int (W.length:Int)),some (.lst true (W.map D.str)),some (kR false r),S,F,t,y,B,a,b,some (.lst true (ps.map (jn true))),m,o]/\ps.length=i/\∀ k p,ps[k]?=some p->PoOk W k p) (by
  rintro i v ρ hv ⟨ps,S,m,o,rfl,g,C⟩;obtain⟨rfl,hi⟩:=qu hv;obtain⟨w,T⟩:∃ w,W[i]?=some w:=⟨W[i],X5 hi⟩;obtain⟨p,U⟩:∃ p,r[i]?=some p:=⟨r[i]'(by omega),X5 (by omega)⟩;obtain⟨q13,q14,e⟩:=K7 E H f0 T U (A:=ps) (by omega) (a0:=some (.lst false (ns.map D.int))) (a6:=F) (a7:=t) (a8:=y) (a9:=B) (a10:=a) (a11:=b) (a13:=m) (a14:=o);have V:=H.p1 p (List.mem_of_getElem? U);refine⟨_,_,?_,.inl e,_,_,_,_,rfl,by rw[N4,g];rfl,λk q I=>?_⟩
  ·rw[Int.zero_add];rfl
  ·rcases Nat.lt_or_ge k ps.length with h | h
   ·rw[List.getElem?_append_left h] at I;exact C k q I
   ·rw[List.getElem?_append_right h] at I;have X:=(L8.mp I).1;have:k=i:=by rw[List.length_singleton] at X;omega
    subst this;rw[g,Nat.sub_self] at I;cases I;exact⟨⟨w,T,rfl⟩,vR (E w (List.mem_of_getElem? T)).r (vT (by omega)),V.2,λu hu=>H.k k p U u hu⟩) (ρ:=[some (.lst false (ns.map D.int)),some (.int f),some (.int (W.length:Int)),some (.lst true (W.map D.str)),some (kR false r),K,F,t,y,B,a,b,some (.lst true []),none,none]) ⟨[],_,_,_,rfl,rfl,λk p h=>by simp at h⟩
 rw[vH] at g;refine⟨W,ps,?_,⟨E,dW,n2,L,g,C⟩⟩;have md:ju (.int f) (.int 5)=some (.int (f % 5)):=jD (by decide);have en:xu [.lst true (cs.map D.int)]=some (vZ 0 (cs.map D.int)):=by
  show some (vZ 0 (fzs (cs.map D.int)))=_;rw[Vu]
 have fq:=kX cs;have le:lim (vZ 0 (cs.map D.int)).length=true:=jg (by rw[qV,L0];omega);have J:=vL (j:=(W.length:Int)) (by omega) (by omega);rw[N8] at J;have fW:=jC W;have M:lim (W.map D.str).length=true:=jg (by rw[L0];omega);have cW:jN (W.map D.str)=true:=by rw[jV,List.all_map,List.all_eq_true];intro x _;rfl
 have zW:=uS true r;change jX _ _ _ _ _=some (R0.map (Jw true)) at rc;have eR:kR true R0=.lst true (R0.map (Jw true)):=rfl;rw[eR] at e1;generalize R0.map (Jw true)=RR0,kR true r=RWt,kR false r=RWf,W.map D.str=WW,ps.map (jn true)=PS,vZ 0 (cs.map D.int)=EN at *;generalize cs.map D.int=CS,ns.map D.int=NS at *;have Y:∀ q4:Option D,jX (jl [] 0) qT (yH (k9 (jc (p2 jt (pC (.int 1)) (p2 ju (p2 j6 (pV 1) (pC (.int 5))) (pC (.int 3)))) pN)) (jl [] 0) qT (kU (jc (qB (jc (pC (.str [114,101,115,116])) (jc (p2 jt (pV 1) (pC (.str [98]))) pN))) pN)) [none,some 0]) WW (j4 [none,some 1] [some (.lst false NS),some (.int f),some (.int (W.length:Int)),some (.lst true WW),q4,none,none,none,none,none,none,none,none,none,none])=some RR0:=λ_=>rc;simp(maxSteps:=400000) [yO,vt,kY,N,O,ez,ef,md,hn,eW,cW,fW,M,Y,sN,en,fq,le,e1,zW,J,e2,jg]
theorem jc4{i:Nat}{p:PF}{ρ:Rh}{e:D}{m l:List D}(h1:p ρ=some e)(h2:Js e=some m)(a:ρ[i]?=some (some (.lst true l)))(b:l.length+m.length<=1000):jbx i p ρ=some (.nx (ρ.set i (some (.lst true (l++m))))):=by
 unfold jbx;rw[h1,L3,h2,L3,a];dsimp only;rw[jg (by omega)];rfl
noncomputable def jz:Rl->Option WN
 | .lend n _=>some n
 | _=>none
noncomputable def yD(p:Po):List WN:=p.os.flatMap λu=>u.filterMap jz
theorem qO:∀{u:List Rl}{o0:Option D},jX (jl [] 0) (jr (p2 k7 (p2 jB (pV 0) (pC (.int 0))) (pC (.str [108,101,110,100])))) (pF (p2 jB (pV 0) (pC (.int 1)))) (u.map yR) [o0]=some ((u.filterMap jz).map D.str)
 | [],_=>rfl
 | r::u,o0=>by
  have e:=qO (u:=u) (o0:=some (yR r));have b:jl [] 0 (yR r) [o0]=some [some (yR r)]:=rfl;rw[L4,j5,b,L3];cases r with
  | rest w =>
   have a:jB (yR (.rest w)) (.int 0)=some (.str z5):=rfl;rw[show(Rl.rest w::u).filterMap jz=u.filterMap jz from rfl];generalize yR (.rest w)=Y at *;generalize(u.filterMap jz).map D.str=UU at *;simp[a,e]
  | lend n v =>
   have a:jB (yR (.lend n v)) (.int 0)=some (.str z8):=rfl;have c:jB (yR (.lend n v)) (.int 1)=some (.str n):=rfl;rw[show(Rl.lend n v::u).filterMap jz=n::u.filterMap jz from rfl,L4];generalize yR (.lend n v)=Y at *;generalize(u.filterMap jz).map D.str=UU at *;simp[a,c,e]
  | back n =>
   have a:jB (yR (.back n)) (.int 0)=some (.str xq):=rfl;rw[show(Rl.back n::u).filterMap jz=u.filterMap jz from rfl];generalize yR (.back n)=Y at *;generalize(u.filterMap jz).map D.str=UU at *;simp[a,e]
theorem Yg(u:List Rl):(u.filterMap jz).length<=u.length:=List.length_filterMap_le ..
theorem YD{a0:Option D}:∀{os:List (List Rl)}{j:Nat}{A:List WN}{o2:Option D},(∀ u∈os,u.length<=5)->A.length+5*os.length<=500 ->
  ∃ q2,yf (jl [] 2) vb (j9 false j os) [a0,some (.lst true (A.map D.str)),o2]=some (.nx [a0,some (.lst true ((A++os.flatMap λu=>u.filterMap jz).map D.str)),q2])
 | [],j,A,o2,_,_=>⟨o2,by rw[List.flatMap_nil,M9];rfl⟩
 | u::os,j,A,o2,h,a=>by
  rw[M0] at a;have n:=h u L6;have b:=Yg u;obtain⟨q2,e⟩:=YD (a0:=a0) (os:=os) (j:=j+1) (A:=A++u.filterMap jz) (o2:=some (.tup [.str [97+j],.lst false [],yk false u])) (λv d=>h v (L5 _ d)) (by rw[N4];omega);have f:jl [] 2 (.tup [.str [97+j],.lst false [],yk false u]) [a0,some (.lst true (A.map D.str)),o2]=some [a0,some (.lst true (A.map D.str)),some (.tup [.str [97+j],.lst false [],yk false u])]:=rfl;have g:vb [a0,some (.lst true (A.map D.str)),some (.tup [.str [97+j],.lst false [],yk false u])]=some (.nx [a0,some (.lst true ((A++u.filterMap jz).map D.str)),some (.tup [.str [97+j],.lst false [],yk false u])]):=by
   have i:jB (.tup [.str [97+j],.lst false [],yk false u]) (.int 2)=some (.lst false (u.map yR)):=rfl;have c:=qO (u:=u) (o0:=none);have k:=vC u;have l1:lim (u.map yR).length=true:=jg (by rw[L0];omega);have l:=jC (u.filterMap jz);rw[N5];have l2:(A.map D.str).length+((u.filterMap jz).map D.str).length<=1000:=by rw[L0,L0];omega
   generalize(u.filterMap jz).map D.str=UU at *;generalize A.map D.str=AA,u.map yR=RR at *;generalize(D.tup [.str [97+j],.lst false [],yk false u])=Y at *;have m:jX (jl [] 0) (jr (p2 k7 (p2 jB (pV 0) (pC (.int 0))) (pC (.str [108,101,110,100])))) (pF (p2 jB (pV 0) (pC (.int 1)))) RR (j4 [none] [a0,some (.lst true AA),some Y])=some UU:=c;unfold vb;refine jc4 (e:=.lst true UU) ?_ (by show(bif frzs UU then some UU else none)=_;rw[l];rfl) rfl l2;simp[i,k,l1,m]
  refine⟨q2,?_⟩;rw[j9,yx,f,L3,g,L3,k6,e,List.flatMap_cons,List.append_assoc]
theorem jaI{W:List WN}{k:Nat}{p:Po}(h:PoOk W k p):yP [jn false p]=some (.lst true ((yD p).map D.str)):=by
 have g:=h.l;obtain⟨i,e⟩:=YD (a0:=some (jn false p)) (os:=p.os) (j:=0) (A:=[]) (o2:=none) (λu b=>(h.k u b).l5) (by simp;omega);have c:jB (jn false p) (.int 4)=some (.lst false (j9 false 0 p.os)):=rfl;have a:=yN 0 p.os;have d:=jx _ a;have f:=kE p;have m:=Y3 _ f;rw[X4,List.map_nil] at e;show _=some (D.lst true ((p.os.flatMap λu=>u.filterMap jz).map D.str));generalize(p.os.flatMap λu=>u.filterMap jz).map D.str=LL at *;generalize j9 false 0 p.os=OO,jn false p=PP at *;simp[yP,vt,Jj,c,a,d,e,jg]
theorem Q9{i:Nat}{pk pv:PF}{ρ:Rh}{ks:List KA}{l:List D}{q d:D}{c:KA}(a:pV i ρ=some (.dK true ks l))(b:pv ρ=some d)(e:pk ρ=some q)(f:ym q=some c)(g:lim ks.length=true)(hn:¬ c∈ks) :
  JM i jch pk pv ρ=some (.nx (ρ.set i (some (.dK true (ks++[c]) (l++[d]))))):=by
 unfold JM jch;rw[b,L3,a,L3,L3];dsimp only;rw[e,L3,f,L3,g,X1 hn,Bool.not_false,Bool.or_true];unfold yM;rw[if_neg hn];rfl
theorem Kd{c:KA}:∀{ks:List KA},¬ c∈ks->xI (ks++[c]) c=some ks.length
 | [],_=>by rw[X4,xI,if_pos rfl];rfl
 | k::ks,h=>by
  rw[List.cons_append,xI,if_neg (λe=>h (by rw[e];exact L6)),Kd λz=>h (L5 _ z)];rfl
theorem VW{a0 a2:Option D}{ks:List KA}{l:List D}{c:KA}(b:ks.length=l.length)(f:¬ c∈ks){a:D}(h2:a2=some a){nm:D}(hn:jB a (.int 0)=some nm)(g:ym nm=some c):∀{os:List (List Rl)}{j:Nat}{A:List WN}{o3 o4 o5:Option D},(∀ u∈os,u.length<=5)->A.length+5*os.length<=500 ->
  ∃ q3 q4 q5,yf (gT 3 (gC (jl [] 3) (gC (jl [] 4) (gC (jl [] 5) gN)))) y3 (j9 false j os) [a0,some (.dK true (ks++[c]) (l++[.lst true (A.map D.str)])),a2,o3,o4,o5]=some (.nx [a0,some (.dK true (ks++[c]) (l++[.lst true ((A++os.flatMap λu=>u.filterMap jz).map D.str)])),a2,q3,q4,q5])
 | [],j,A,o3,o4,o5,_,_=>⟨o3,o4,o5,by rw[List.flatMap_nil,M9];rfl⟩
 | u::os,j,A,o3,o4,o5,h,k=>by
  rw[M0] at k;have z:=h u L6;have n:=Yg u;obtain⟨q3,q4,q5,e⟩:=VW (a0:=a0) b f h2 hn g (os:=os) (j:=j+1) (A:=A++u.filterMap jz) (o3:=some (.str [97+j])) (o4:=some (.lst false [])) (o5:=some (yk false u)) (λv o=>h v (L5 _ o)) (by rw[N4];omega);have r:(gT 3 (gC (jl [] 3) (gC (jl [] 4) (gC (jl [] 5) gN)))) (.tup [.str [97+j],.lst false [],yk false u]) [a0,some (.dK true (ks++[c]) (l++[.lst true (A.map D.str)])),a2,o3,o4,o5]=some [a0,some (.dK true (ks++[c]) (l++[.lst true (A.map D.str)])),a2,some (.str [97+j]),some (.lst false []),some (yk false u)]:=rfl;have s:y3 [a0,some (.dK true (ks++[c]) (l++[.lst true (A.map D.str)])),a2,some (.str [97+j]),some (.lst false []),some (yk false u)]=some (.nx [a0,some (.dK true (ks++[c]) (l++[.lst true ((A++u.filterMap jz).map D.str)])),a2,some (.str [97+j]),some (.lst false []),some (yk false u)]):=by
   subst h2;have t:=qO (u:=u) (o0:=none);have w:=vC u;have l1:lim (u.map yR).length=true:=jg (by rw[L0];omega);have x:=jC (u.filterMap jz);have:=wv (i:=1) (pk:=p2 jB (pV 2) (pC (.int 0))) (p:=yH (Yv (pV 5)) (jl [] 0) (jr (p2 k7 (p2 jB (pV 0) (pC (.int 0))) (pC (.str [108,101,110,100])))) (pF (p2 jB (pV 0) (pC (.int 1)))) [none]) (ρ:=[a0,some (.dK true (ks++[c]) (l++[.lst true (A.map D.str)])),some a,some (.str [97+j]),some (.lst false []),some (yk false u)]) (q:=nm) (d:=.lst true ((u.filterMap jz).map D.str)) (m:=(u.filterMap jz).map D.str) (c:=c) (l':=A.map D.str) (j:=ks.length) rfl
    (by simp[hn]) g (by
     unfold yk;generalize(u.filterMap jz).map D.str=UU at *;generalize u.map yR=RR at *;generalize(D.dK true (ks++[c]) (l++[.lst true (A.map D.str)]))=DD at *;have y:jX (jl [] 0) (jr (p2 k7 (p2 jB (pV 0) (pC (.int 0))) (pC (.str [108,101,110,100])))) (pF (p2 jB (pV 0) (pC (.int 1)))) RR (j4 [none] [a0,some DD,some a,some (.str [97+j]),some (.lst false []),some (.lst false RR)])=some UU:=t;simp[w,l1,y]) (by show(bif frzs _ then some _ else none)=_;rw[x];rfl) (Kd f) (by rw[b,List.getElem?_concat_length]) (jg (by rw[L0,L0];omega))
   refine this.trans ?_;rw[b,N5,List.set_append_right _ _ (M8 _),Nat.sub_self];rfl
  refine⟨q3,q4,q5,?_⟩;rw[j9,yx,r,L3,s,L3,k6,e,List.flatMap_cons,List.append_assoc]
theorem Qb{W:List WN}{k:Nat}{p:Po}(h:PoOk W k p){ks:List KA}{l:List D}(a:ks.length=l.length)(b:¬ KA.str p.nm∈ks)(s:ks.length<=100){a0 o3 o4 o5:Option D} :
  ∃ q3 q4 q5,yo [a0,some (.dK true ks l),some (jn false p),o3,o4,o5]=some (.nx [a0,some (.dK true (ks++[.str p.nm]) (l++[.lst true ((yD p).map D.str)])),some (jn false p),q3,q4,q5]):=by
 have t:=h.l;have f:jB (jn false p) (.int 0)=some (.str p.nm):=rfl;have m:jB (jn false p) (.int 4)=some (.lst false (j9 false 0 p.os)):=rfl;obtain⟨q3,q4,q5,e⟩:=VW (a0:=a0) a b (a2:=some (jn false p)) rfl f rfl (os:=p.os) (j:=0) (A:=[]) (o3:=o3) (o4:=o4) (o5:=o5) (λu n=>(h.k u n).l5) (by simp;omega);have o:=Q9 (i:=1) (pk:=p2 jB (pV 2) (pC (.int 0))) (pv:=kU pN) (ρ:=[a0,some (.dK true ks l),some (jn false p),o3,o4,o5]) (ks:=ks) (l:=l) (q:=.str p.nm) (d:=.lst true []) (c:=.str p.nm) rfl (by simp[jg]) (by simp[f]) rfl (jg (by omega)) b;have g:=yN 0 p.os;have r:=jx _ g;refine⟨q3,q4,q5,?_⟩;unfold yo;rw[jbQ,o,L3,ui];rw[X4,List.map_nil] at e;show Vf _ _ _ [a0,some (.dK true (ks++[.str p.nm]) (l++[.lst true []])),some (jn false p),o3,o4,o5]=_;unfold yD;generalize(D.dK true (ks++[KA.str p.nm]) (l++[.lst true []]))=D1 at *;generalize(D.dK true (ks++[KA.str p.nm]) (l++[.lst true ((p.os.flatMap λu=>u.filterMap jz).map D.str)]))=D2 at *;generalize j9 false 0 p.os=OO,jn false p=PP at *;simp[m,g,r,e]
noncomputable def nms(ps:List Po):List WN:=ps.map (·.nm)
noncomputable def Lf(ps:List Po)(n:WN):List WN:=(lkp n (ps.map λp=>(p.nm,yD p))).getD []
theorem Qw{W:List WN}{ps:List Po}(h:DlOk W ps):nms ps=W.map (·++[97]):=by
 refine List.ext_getElem? λi=>?_;unfold nms;rw[List.getElem?_map,List.getElem?_map];cases q:ps[i]? with
 | none =>
  have:W[i]?=none:=by rw[List.getElem?_eq_none_iff] at q ⊢;rw[<- h.l];exact q
  rw[this];rfl
 | some p =>
  obtain⟨w,a,e⟩:=(h.k i p q).nm;rw[a];exact congrArg some e
theorem zO{W:List WN}{ps:List Po}(h:DlOk W ps):(nms ps).Nodup:=by
 rw[Qw h];have:=h.nd;unfold List.Nodup at *;rw[List.pairwise_map];exact this.imp λa e=>a (List.append_cancel_right e)
theorem jdt{ps:List Po}(h:(nms ps).Nodup){p:Po}(a:p∈ps):Lf ps p.nm=yD p:=by
 unfold Lf;have:=YG (l:=ps.map λp=>(p.nm,yD p)) (by rw[U1];exact h) (p.nm,yD p) (M5.mpr ⟨p,a,rfl⟩);rw[this];rfl
theorem jeA{W:List WN}{ps:List Po}(h:DlOk W ps):∀ n∈nms ps,∀ o∈Lf ps n,o∈nms ps/\o≠n:=by
 intro n l o f;obtain⟨p,g,rfl⟩:=M5.mp l;rw[jdt (zO h) g] at f;obtain⟨k,q⟩:=List.mem_iff_getElem?.mp g;have j:=h.k k p q;obtain⟨u,s,b⟩:=List.mem_flatMap.mp f;obtain⟨r,t,c⟩:=List.mem_filterMap.mp b;have x:=(j.k u s).k r t;cases r with
 | rest w=>cases c
 | back w=>cases c
 | lend m v =>
  cases c;obtain⟨_,i,w,y,d,rfl⟩:=x;rw[Qw h];refine⟨M5.mpr ⟨w,List.mem_of_getElem? d,rfl⟩,λe=>y ?_⟩;obtain⟨z,a,A⟩:=j.nm;have B:w=z:=List.append_cancel_right (e.trans A);subst B;have C:=(L8.mp d).1;have D:=(L8.mp a).1;exact(List.getElem?_inj C h.nd).mp (d.trans a.symm)
noncomputable def dL(o b:Bool)(N:List WN)(L:WN->List WN):D:=.dK o (N.map KA.str) (N.map λn=>.lst b ((L n).map D.str))
theorem zF(f:WN->D)(c:WN):∀ N:List WN,JI (N.map KA.str) (N.map f) (.str c)=if c∈N then some (f c) else none
 | []=>rfl
 | n::N=>by
  rw[L4,L4,JI];by_cases h:n=c
  ·subst h;simp
  ·rw[if_neg (λz=>h (KA.str.inj z)),zF f c N];by_cases q:c∈N
   ·rw[if_pos q,if_pos (L5 _ q)]
   ·rw[if_neg q,if_neg λz=>(M4.mp z).elim (λz=>h z.symm) q]
theorem jab{o b:Bool}{N:List WN}{L:WN->List WN}{c:WN}(h:c∈N):vN (dL o b N L) (.str c)=some (.lst b ((L c).map D.str)):=by
 show JI _ _ _=_;rw[zF,if_pos h]
theorem jdG{o b neg:Bool}{N:List WN}{L:WN->List WN}{c:WN}:JX neg (.str c) (dL o b N L)=some (.bl (neg != decide (c∈N))):=by
 show some (D.bl (neg != (JI _ _ _).isSome))=_;rw[zF];by_cases h:c∈N<;>simp[h]
theorem Y6{a0:Option D}:∀{qs:List Po}{ks:List KA}{l:List D}{o2 o3 o4 o5:Option D},(∀ p∈qs,∃ W k,PoOk W k p)->ks.length=l.length->(ks++qs.map λp=>KA.str p.nm).Nodup->ks.length+qs.length<=100 ->
  ∃ q2 q3 q4 q5,yf (jl [] 2) yo (qs.map (jn false)) [a0,some (.dK true ks l),o2,o3,o4,o5]=some (.nx [a0,some (.dK true (ks++qs.map λp=>KA.str p.nm) (l++qs.map λp=>.lst true ((yD p).map D.str))),q2,q3,q4,q5])
 | [],ks,l,o2,o3,o4,o5,_,_,_,_=>⟨o2,o3,o4,o5,by simp only[List.map_nil,M9];rfl⟩
 | p::qs,ks,l,o2,o3,o4,o5,h,b,a,c=>by
  obtain⟨W,k,d⟩:=h p L6;rw[M0] at c;have f:¬ KA.str p.nm∈ks:=λz=>by
   rw[L4,U8] at a;exact a.2.2 _ z _ L6 rfl
  obtain⟨q3,q4,q5,g⟩:=Qb d b f (by omega) (a0:=a0) (o3:=o3) (o4:=o4) (o5:=o5);obtain⟨i,j,m,n,e⟩:=Y6 (a0:=a0) (qs:=qs) (ks:=ks++[.str p.nm]) (l:=l++[.lst true ((yD p).map D.str)]) (o2:=some (jn false p)) (o3:=q3) (o4:=q4) (o5:=q5) (λz o=>h z (L5 _ o)) (by rw[N4,N4,b];rfl) (by rw[List.append_assoc];exact a) (by rw[N4];show ks.length+1+_<=_;omega);have q:jl [] 2 (jn false p) [a0,some (.dK true ks l),o2,o3,o4,o5]=some [a0,some (.dK true ks l),some (jn false p),o3,o4,o5]:=rfl;refine⟨i,j,m,n,?_⟩;rw[L4,yx,q,L3,g,L3,k6,e,List.append_assoc,List.append_assoc];rfl
theorem jdi{N:List WN}(h:N.Nodup):(N.map KA.str).Nodup:=by
 unfold List.Nodup at *;rw[List.pairwise_map];exact h.imp λa e=>a (KA.str.inj e)
theorem QH{ps:List Po}(h:(nms ps).Nodup)(b:Bool):(ps.map λp=>D.lst b ((yD p).map D.str))=(nms ps).map λn=>.lst b ((Lf ps n).map D.str):=by
 unfold nms;rw[U1];exact List.map_congr_left λp a=>by show _=D.lst b ((Lf ps p.nm).map D.str);rw[jdt h a]
theorem Yd(ps:List Po):frzs (ps.map (jn false))=true:=vn λd hd=>by obtain⟨x,_,rfl⟩:=M5.mp hd;exact kE x
theorem Yz{W:List WN}{ps:List Po}(h:DlOk W ps):vk [.lst false (ps.map (jn false))]=some (dL true true (nms ps) (Lf ps)):=by
 have d:=h.l;have f:=h.l6;have nd:=zO h;obtain⟨g,i,j,m,e⟩:=Y6 (a0:=some (.lst false (ps.map (jn false)))) (qs:=ps) (ks:=[]) (l:=[]) (o2:=none) (o3:=none) (o4:=none) (o5:=none) (λp a=>by obtain⟨k,b⟩:=List.mem_iff_getElem?.mp a;exact⟨W,k,h.k k p b⟩) rfl (by rw[X4];have:=jdi nd;unfold nms at this;rw[U1] at this;exact this) (by simp;omega);rw[X4,X4,QH nd] at e;have c:(ps.map λp=>KA.str p.nm)=(nms ps).map KA.str:=by unfold nms;rw[U1];rfl
 rw[c] at e;have fd:=Yd ps;have zd:=jx _ fd;unfold dL;generalize(nms ps).map KA.str=K1 at *;generalize((nms ps).map λn=>D.lst true ((Lf ps n).map D.str))=V1 at *;generalize ps.map (jn false)=PP at *;simp[vk,vt,kc,fd,zd,e]
noncomputable def xK:Option WN->D
 | none=>.non
 | some m=>.str m
noncomputable def dS(o:Bool)(S:Tn):D:=.dK o (S.map λq=>KA.str q.1) (S.map λq=>xK q.2)
theorem VS(m:Option WN):frz (xK m)=true:=by cases m<;>rfl
theorem jcL(c:WN)(S:Tn):JI (S.map λq=>KA.str q.1) (S.map λq=>xK q.2) (.str c)=(lkp c S).map xK:=by
 have:=Yr c (S.map λq=>(q.1,xK q.2));rw[U1,U1,QA] at this;exact this
theorem jcv{o:Bool}{S:Tn}{c:WN}{m:Option WN}(h:lkp c S=some m):vN (dS o S) (.str c)=some (xK m):=by
 show JI _ _ _=_;rw[jcL,h];rfl
theorem jcV{α:Type}{c:WN}{S:List (WN×α)}(h:¬ c∈S.map (·.1)):lkp c S=none:=by
 cases e:lkp c S with
 | none=>rfl
 | some v=>exact absurd (Y2 e) h
theorem jem{o:Bool}{S:Tn}{c:WN}:JX true (.str c) (dS o S)=some (.bl (!decide (c∈S.map (·.1)))):=by
 show some (D.bl (true != (JI _ _ _).isSome))=_;rw[jcL];by_cases h:c∈S.map (·.1)
 ·obtain⟨v,e,_⟩:=J3 h;rw[e,X0 h];rfl
 ·rw[jcV h,X1 h];rfl
theorem jex{S:Tn}{c m:WN}(h:¬ c∈S.map (·.1)):D.dK true (yM (S.map λq=>KA.str q.1) (S.map λq=>xK q.2) (.str c) (.str m)).1 (yM (S.map λq=>KA.str q.1) (S.map λq=>xK q.2) (.str c) (.str m)).2=dS true (S++[(c,some m)]):=by
 unfold yM dS;rw[if_neg (λz=>h (by obtain⟨q,a,e⟩:=M5.mp z;injection e with e;rw[<- e];exact M5.mpr ⟨q,a,rfl⟩)),N5,N5];rfl
theorem jaG{q:PTf}{f:FS}{n:Nat}{ρ a:Rh}(b:q ρ=some true)(c:f ρ=some (.nx a)):vE q f (n+1) ρ=vE q f n a:=by rw[vE,b,L3,cond_true,c];rfl
theorem uc{q:PTf}{f:FS}{n:Nat}{ρ:Rh}(a:q ρ=some false):vE q f (n+1) ρ=some (.nx ρ):=by rw[vE,a];rfl
theorem jet{q:PTf}{f:FS}{n:Nat}{ρ a:Rh}{d:D}(b:q ρ=some true)(c:f ρ=some (.rt d a)):vE q f (n+1) ρ=some (.rt d a):=by rw[vE,b,L3,cond_true,c];rfl
theorem wj{S:Tn}{a1:Option D}{n:WN}{W:List WN}(h:Way S n W):∀{A:List WN}{k:Nat},A.length+W.length<=900->W.length < k ->
  vE (jr (p2 yL (pV 3) (pC .non))) yA k [some (dS false S),a1,some (.lst true (A.map D.str)),some (.str n)]=some (.nx [some (dS false S),a1,some (.lst true ((A++W).map D.str)),some .non]):=by
 induction h with
 | @top n e =>
  intro A k c a
  match k,a with
  | k+2,_ =>
   have b:=jcv (o:=false) e;have d:lim (A.map D.str).length=true:=jg (by rw[L0];simp at c;omega);have f:yA [some (dS false S),a1,some (.lst true (A.map D.str)),some (.str n)]=some (.nx [some (dS false S),a1,some (.lst true ((A++[n]).map D.str)),some .non]):=by
    rw[N5];show _=some (Out.nx [_,_,some (.lst true (A.map D.str++[.str n])),_]);change vN _ _=some D.non at b;generalize A.map D.str=AA,dS false S=DD at *;simp[yA,b,d]
   rw[jaG (by simp) f,uc (by simp)]
 | @up n m W e h g =>
  intro A k c a
  match k,a with
  | k+1,a =>
   have b:=jcv (o:=false) e;rw[M0] at c a;have d:lim (A.map D.str).length=true:=jg (by rw[L0];omega);have f:yA [some (dS false S),a1,some (.lst true (A.map D.str)),some (.str n)]=some (.nx [some (dS false S),a1,some (.lst true ((A++[n]).map D.str)),some (.str m)]):=by
    rw[N5];show _=some (Out.nx [_,_,some (.lst true (A.map D.str++[.str n])),_]);change vN _ _=some (D.str m) at b;generalize A.map D.str=AA,dS false S=DD at *;simp[yA,b,d]
   have r:=g (A:=A++[n]) (k:=k) (by rw[N4];show A.length+1+_<=_;omega) (by omega);rw[List.append_assoc] at r;change _=some (Out.nx [_,_,some (.lst true ((A++(n::W)).map D.str)),_]) at r;rw[jaG (by simp) f,r]
theorem jcs{S:Tn}{n:WN}{W:List WN}(h:Way S n W)(a:W.length<=100):qA [dS false S,.str n]=some (.lst true (W.reverse.map D.str)):=by
 have e:=wj (a1:=some (.str n)) h (A:=[]) (k:=1000) (by simp;omega) (by omega);rw[X4,List.map_nil] at e;have f:=jC W;rw[List.map_reverse];generalize W.map D.str=WW,dS false S=DD at *;simp[qA,vt,Yc,Jo,e,f,jg]
structure Rg(L:WN->List WN)(N R:List WN):Prop where
 l2:2<=R.length
 l:R.length<=N.length
 nd:R.Nodup
 m:∀ x∈R,x∈N
 k:∀ i x y,R[i]?=some x->R[(i+1) % R.length]?=some y->y∈L x
noncomputable abbrev rf(N:List WN)(L:WN->List WN)(f:WN)(S:Tn)(at':Int)(o5 o6:Option D):Rh:=[some (dL false false N L),some (.str f),some (dS true S),some (.lst true ((S.map (·.1)).map D.str)),some (.int at'),o5,o6]
section
variable {L:WN->List WN}{N:List WN}{f:WN}
theorem jbi(p:∀ n∈N,∀ o∈L n,o∈N/\o≠n){W:List WN}{ln:WN}(nd:W.Nodup)(c:∀ x∈W,x∈N)(j:Ch L f W)(r:∃ V,W=ln::V)(k:f∈L ln):Rg L N W.reverse:=by
 obtain⟨d,s⟩:=j.last;obtain⟨V,l⟩:=r;have m:W[0]?=some ln:=by rw[l];rfl
 have g:ln∈N:=c ln (by rw[l];exact L6);have l2:2<=W.length:=by
  rcases Nat.lt_or_ge W.length 2 with q | q
  ·have:W.length - 1=0:=by omega
   rw[this,m] at d;cases d;exact absurd rfl (p _ g _ k).2
  ·exact q
 refine⟨by rw[List.length_reverse];exact l2,by rw[List.length_reverse];exact vy nd c,by unfold List.Nodup at *;rw[List.pairwise_reverse];exact nd.imp λh=>h.symm,λx a=>c x (List.mem_reverse.mp a),λi x y a b=>?_⟩;rw[List.length_reverse] at b;have t:i < W.length:=by have:=(L8.mp a).1;rw[List.length_reverse] at this;exact this
 rw[List.getElem?_reverse t] at a;rcases Nat.lt_or_ge (i+1) W.length with q | q
 ·rw[Nat.mod_eq_of_lt q,List.getElem?_reverse q] at b;exact j.next (W.length - 1 - (i+1)) y x b (by rw[show W.length - 1 - (i+1)+1=W.length - 1 - i by omega];exact a)
 ·have e:i+1=W.length:=by omega
  rw[e,Nat.mod_self,List.getElem?_reverse s,Nat.sub_zero,d] at b;cases b;rw[show W.length - 1 - i=0 by omega,m] at a;cases a;exact k
theorem Tr.len{S:Tn}(h:Tr L f S)(a:∀ x∈S.map (·.1),x∈N):S.length<=N.length:=by
 have:=vy h.nodup a;rw[L0] at this;exact this
theorem J4(s:∀ n∈N,∀ o∈L n,o∈N/\o≠n)(u:N.length<=6){ln:WN}{at':Int}:∀{os:List WN}{S:Tn}{o6:Option D},Tr L f S->(∀ x∈S.map (·.1),x∈N)->ln∈S.map (·.1)->(∀ o∈os,o∈L ln) ->
  (∃ R ρ',yf (jl [] 6) jp (os.map D.str) (rf N L f S at' (some (.str ln)) o6)=some (.rt (.lst true (R.map D.str)) ρ')/\Rg L N R) \/
  ∃ S' o6',yf (jl [] 6) jp (os.map D.str) (rf N L f S at' (some (.str ln)) o6)=some (.nx (rf N L f S' at' (some (.str ln)) o6'))/\Tr L f S'/\(∀ x∈S'.map (·.1),x∈N)/\(∀ o∈os,o∈S'.map (·.1)/\o≠f)/\∃ T,S'=S++T
 | [],S,o6,h,b,_,_=>.inr ⟨S,o6,rfl,h,b,(λo k=>nomatch k),[],(M9 _).symm⟩
 | o::os,S,o6,h,b,l,k=>by
  have g:=k o L6;have E:=h.len b;have F:jl [] 6 (.str o) (rf N L f S at' (some (.str ln)) o6)=some (rf N L f S at' (some (.str ln)) (some (.str o))):=rfl;rw[L4,yx,F,L3];by_cases e:o=f
  ·subst e;obtain⟨W,G,B,C,H,V,I⟩:=h.way ln l;have J:W.length<=6:=N7 (vy B λx i=>b x (C x i)) u;have K:=jcs G (by omega);have M:fz (dS true S)=dS false S:=by
    show D.dK false _ (fzs _)=_;rw[jx _ (vn λd hd=>by obtain⟨q,_,rfl⟩:=M5.mp hd;exact VS _)];rfl
   have O:frz (dS false S)=true:=by
    show(true&&frzs _)=true;rw[vn λd hd=>by obtain⟨q,_,rfl⟩:=M5.mp hd;exact VS _];rfl
   have P:jN (W.reverse.map D.str)=true:=by rw[jV,List.all_map,List.all_eq_true];intro x _;rfl
   have v:=Y3 _ O;refine .inl ⟨W.reverse,[some (dL false false N L),some (.str o),some (dS false S),some (.lst true ((S.map (·.1)).map D.str)),some (.int at'),some (.str ln),some (.str o)],?_,jbi s B (λx i=>b x (C x i)) H ⟨V,I⟩ g⟩;have p:jp (rf N L o S at' (some (.str ln)) (some (.str o)))=some (.rt (.lst true (W.reverse.map D.str)) [some (dL false false N L),some (.str o),some (dS false S),some (.lst true ((S.map (·.1)).map D.str)),some (.int at'),some (.str ln),some (.str o)]):=by
    unfold rf;generalize dS true S=D1,dS false S=D2,dL false false N L=D3 at *;generalize(S.map (·.1)).map D.str=KK at *;generalize W.reverse.map D.str=WW at *;simp[jp,M,v,K,P]
   rw[p];rfl
  ·have ne:k7 (.str o) (.str f)=some (.bl false):=by rw[uL,U2.mpr e]
   have hd:=jem (o:=true) (S:=S) (c:=o);by_cases m:o∈S.map (·.1)
   ·have p:jp (rf N L f S at' (some (.str ln)) (some (.str o)))=some (.nx (rf N L f S at' (some (.str ln)) (some (.str o)))):=by
     rw[X0 m] at hd;unfold rf;generalize dS true S=D1,dL false false N L=D3 at *;generalize(S.map (·.1)).map D.str=KK at *;simp[jp,ne,hd,-uL]
    rw[p,L3,k6];rcases J4 s u (ln:=ln) (at':=at') (os:=os) (S:=S) (o6:=some (.str o)) h b l (λz a=>k z (L5 _ a)) with q | ⟨S',o6',w,t,y,c,T,r⟩
    ·exact .inl q
    ·refine .inr ⟨S',o6',w,t,y,λz a=>?_,T,r⟩;rcases M4.mp a with rfl | a
     ·exact⟨by rw[r,N5];exact List.mem_append_left _ m,e⟩
     ·exact c z a
   ·have A:=(s ln (b ln l) o g).1;have p:jp (rf N L f S at' (some (.str ln)) (some (.str o)))=some (.nx (rf N L f (S++[(o,some ln)]) at' (some (.str ln)) (some (.str o)))):=by
     rw[X1 m] at hd;have Q:=jex (S:=S) (c:=o) (m:=ln) m;have U:jdy (dS true S)=some (S.map λq=>KA.str q.1,S.map λq=>xK q.2):=rfl;have X:lim (S.map λq=>KA.str q.1).length=true:=jg (by rw[L0];omega);have Y:lim ((S.map (·.1)).map D.str).length=true:=jg (by rw[L0,L0];omega);unfold rf;rw[N5,N5];show _=some (Out.nx [_,_,_,some (.lst true ((S.map (·.1)).map D.str++[.str o])),_,_,_]);generalize dS true (S++[(o,some ln)])=D2,dS true S=D1,dL false false N L=D3 at *;generalize(S.map (·.1)).map D.str=KK at *;generalize(S.map λq=>KA.str q.1)=K1 at *;generalize(S.map λq=>xK q.2)=V1 at *;simp[jp,ne,hd,U,X,Y,Q,-uL]
    rw[p,L3,k6];have j:∀ x,x∈(S++[(o,some ln)]).map (·.1)↔x∈S.map (·.1) \/ x=o:=λx=>by
     rw[N5,N2];exact or_congr_right M7
    rcases J4 s u (ln:=ln) (at':=at') (os:=os) (S:=S++[(o,some ln)]) (o6:=some (.str o)) (.add h l g m) (λx i=>by rcases(j x).mp i with i | rfl;exact b x i;exact A) ((j ln).mpr (.inl l)) (λz a=>k z (L5 _ a)) with q | ⟨S',o6',w,t,y,c,T,r⟩
    ·exact .inl q
    ·refine .inr ⟨S',o6',w,t,y,λz a=>?_,(o,some ln)::T,by rw[r,List.append_assoc];rfl⟩;rcases M4.mp a with rfl | a
     ·exact⟨by rw[r,N5];exact List.mem_append_left _ ((j z).mpr (.inr rfl)),e⟩
     ·exact c z a
end
section
variable {L:WN->List WN}{N:List WN}{f:WN}
theorem YZ(y:∀ n∈N,∀ o∈L n,o∈N/\o≠n)(A:N.length<=6):∀{n:Nat}{S:Tn}{i:Nat}{o5 o6:Option D},Tr L f S->(∀ x∈S.map (·.1),x∈N)->i<=S.length->(∀(j:Nat) q,j < i->S[j]?=some q->∀ o∈L q.1,o∈S.map (·.1)/\o≠f)->N.length < i+n ->
  (∃ R ρ',vE (jr (p2 KY (pV 4) (pCB kr (jc (pV 3) pN)))) jG n (rf N L f S (i:Int) o5 o6)=some (.rt (.lst true (R.map D.str)) ρ')/\Rg L N R) \/
  ∃ S' ρ',vE (jr (p2 KY (pV 4) (pCB kr (jc (pV 3) pN)))) jG n (rf N L f S (i:Int) o5 o6)=some (.nx ρ')/\Cl L f S'
 | 0,S,i,o5,o6,h,d,F,_,G=>by have:=h.len d;omega
 | n+1,S,i,o5,o6,h,d,F,m,G=>by
  have H:=h.len d;have B:(((S.map (·.1)).map D.str).length:Int)=(S.length:Int):=by rw[L0,L0]
  rcases Nat.lt_or_ge i S.length with q | q
  ·have l:jr (p2 KY (pV 4) (pCB kr (jc (pV 3) pN))) (rf N L f S (i:Int) o5 o6)=some true:=by
    have s:(i:Int) < (S.length:Int):=by omega
    unfold rf;generalize(S.map (·.1)).map D.str=KK at *;generalize dS true S=D1,dL false false N L=D3 at *;simp[B,s]
   obtain⟨t,u⟩:∃ t,S[i]?=some t:=⟨S[i],X5 q⟩;have g:t.1∈S.map (·.1):=M5.mpr ⟨t,List.mem_of_getElem? u,rfl⟩;have ix:jB (.lst true ((S.map (·.1)).map D.str)) (.int (i:Int))=some (.str t.1):=qF (by rw[List.getElem?_map,u];rfl);have I:=jab (o:=false) (b:=false) (L:=L) (d t.1 g);have C:=jC (L t.1);have J:=jx _ C;have E:∀ k:FS,(jL (j7 (dP (pF (p2 jB (pV 3) (pV 4)))) (jl [] 5)) (jL (Vf (pIt (pF (p2 vN (pV 0) (pV 5)))) (jl [] 6) jp) k)) (rf N L f S (i:Int) o5 o6)=(yf (jl [] 6) jp ((L t.1).map D.str) (rf N L f S (i:Int) (some (.str t.1)) o6)).bind λo=>o.thn k:=λk=>by
    unfold rf;generalize(S.map (·.1)).map D.str=KK at *;generalize dS true S=D1,dL false false N L=D3 at *;generalize(L t.1).map D.str=LL at *;simp[ix,I,C,J]
   rcases J4 y A (f:=f) (ln:=t.1) (at':=(i:Int)) (os:=L t.1) (S:=S) (o6:=o6) h d g (λo c=>c) with⟨R,ρ',e,r⟩ | ⟨S',v,e,K,M,O,T,P⟩
   ·refine .inl ⟨R,ρ',?_,r⟩;refine jet l ?_;unfold jG;rw[E,e];rfl
   ·have Q:jG (rf N L f S (i:Int) o5 o6)=some (.nx (rf N L f S' ((i+1:Nat):Int) (some (.str t.1)) v)):=by
     unfold jG;rw[E,e,L3,ui];unfold rf;generalize(S'.map (·.1)).map D.str=KK at *;generalize dS true S'=D1,dL false false N L=D3 at *;simp
    rw[jaG l Q];subst P;refine YZ y A K M (by rw[N4];omega) (λj z w a=>?_) (by omega);rcases Nat.lt_or_ge j i with p | p
    ·rw[List.getElem?_append_left (by omega)] at a;exact λo c=>⟨by rw[N5];exact List.mem_append_left _ (m j z p a o c).1,(m j z p a o c).2⟩
    ·have:j=i:=by omega
     subst this;rw[List.getElem?_append_left q,u] at a;cases a;exact O
  ·have l:jr (p2 KY (pV 4) (pCB kr (jc (pV 3) pN))) (rf N L f S (i:Int) o5 o6)=some false:=by
    have s:¬ (i:Int) < (S.length:Int):=by omega
    unfold rf;generalize(S.map (·.1)).map D.str=KK at *;generalize dS true S=D1,dL false false N L=D3 at *;simp[B,s]
   refine .inr ⟨S,_,uc l,h,λx U o c=>?_⟩;obtain⟨z,a,rfl⟩:=M5.mp U;obtain⟨j,w⟩:=List.mem_iff_getElem?.mp a;exact m j z (by have:=(L8.mp w).1;omega) w o c
theorem YB(a:∀ n∈N,∀ o∈L n,o∈N/\o≠n)(b:N.length<=6)(d:f∈N) :
  (ye [dL false false N L,.str f]=some .non/\∃ S,Cl L f S) \/ ∃ R,ye [dL false false N L,.str f]=some (.lst true (R.map D.str))/\Rg L N R:=by
 have h:=YZ (f:=f) a b (n:=1000) (S:=[(f,none)]) (i:=0) (o5:=none) (o6:=none) .base (λx g=>by rw[M7.mp g];exact d) (U5 _) (λj q k=>absurd k (Nat.not_lt_zero _)) (by omega);have l:ye [dL false false N L,.str f]=((vE (jr (p2 KY (pV 4) (pCB kr (jc (pV 3) pN)))) jG 1000 (rf N L f [(f,none)] ((0:Nat):Int) none none)).bind λo=>o.thn (kB (dP (pC .non)))).bind Out.val:=by
  have m:dS true [(f,none)]=.dK true [.str f] [.non]:=rfl;have p:(([(f,(none:Option WN))].map (·.1)).map D.str)=[.str f]:=rfl;unfold rf;rw[m,p];generalize dL false false N L=D3 at *;simp[ye,vt,kj,Jo,jg]
 rw[l];rcases h with⟨R,s,e,r⟩ | ⟨t,s,e,c⟩
 ·exact .inr ⟨R,by rw[e];rfl,r⟩
 ·exact .inl ⟨by rw[e];rfl,t,c⟩
theorem Kj(f:∀ n∈N,∀ o∈L n,o∈N/\o≠n)(g:N.length<=6){a0:Option D}:∀{M:List WN}{o2 o3:Option D},(∀ n∈M,n∈N) ->
  (∃ R ρ',yf (jl [] 2) jy (M.map D.str) [a0,some (dL false false N L),o2,o3]=some (.rt (.lst true (R.map D.str)) ρ')/\Rg L N R) \/
  ∃ ρ',yf (jl [] 2) jy (M.map D.str) [a0,some (dL false false N L),o2,o3]=some (.nx ρ')/\∀ n∈M,∃ S,Cl L n S
 | [],o2,o3,_=>.inr ⟨_,rfl,λn h=>nomatch h⟩
 | n::M,o2,o3,h=>by
  have j:jl [] 2 (.str n) [a0,some (dL false false N L),o2,o3]=some [a0,some (dL false false N L),some (.str n),o3]:=rfl;rw[L4,yx,j,L3];have l:frzs (N.map λn=>D.lst false ((L n).map D.str))=true:=vn λd hd=>by
   obtain⟨x,_,rfl⟩:=M5.mp hd;show(true&&frzs _)=true;rw[jC];rfl
  have m:frz (dL false false N L)=true:=by
   show(true&&frzs _)=true;rw[l];rfl
  have i:=Y3 _ m;rcases YB f g (h n L6) with⟨e,c⟩ | ⟨R,e,r⟩
  ·have b:jy [a0,some (dL false false N L),some (.str n),o3]=some (.nx [a0,some (dL false false N L),some (.str n),some .non]):=by
    generalize dL false false N L=D3 at *;simp[jy,i,e]
   rw[b,L3,k6];rcases Kj f g (M:=M) (o2:=some (.str n)) (o3:=some .non) (λz a=>h z (L5 _ a)) with q | ⟨ρ',p,k⟩
   ·exact .inl q
   ·refine .inr ⟨ρ',p,λz a=>?_⟩;rcases M4.mp a with rfl | a
    ·exact c
    ·exact k z a
  ·have s:jN (R.map D.str)=true:=by rw[jV,List.all_map,List.all_eq_true];intro x _;rfl
   have b:jy [a0,some (dL false false N L),some (.str n),o3]=some (.rt (.lst true (R.map D.str)) [a0,some (dL false false N L),some (.str n),none]):=by
    have t:yL (.lst true (R.map D.str)) .non=some (.bl true):=rfl;generalize dL false false N L=D3,R.map D.str=RR at *;simp[jy,i,e,s,t]
   exact .inl ⟨R,_,by rw[b];rfl,r⟩
end
theorem YQ{W:List WN}:∀{qs:List Po}{o0:Option D},(∀ p∈qs,∃ W k,PoOk W k p)->jX (jl [] 0) qT (qB (jc (pF (p2 jB (pV 0) (pC (.int 0)))) (jc (yh yP (jc (pV 0) pN)) pN))) (qs.map (jn false)) [o0]=some (qs.map λp=>.tup [.str p.nm,.lst true ((yD p).map D.str)])
 | [],_,_=>rfl
 | p::qs,o0,h=>by
  have e:=YQ (W:=W) (qs:=qs) (o0:=some (jn false p)) λz a=>h z (L5 _ a);obtain⟨j,k,b⟩:=h p L6;have c:=jaI b;have d:=kE p;have f:=Y3 _ d;have g:jB (jn false p) (.int 0)=some (.str p.nm):=rfl;have cl:jN ((yD p).map D.str)=true:=by rw[jV,List.all_map,List.all_eq_true];intro x _;rfl
  have i:jl [] 0 (jn false p) [o0]=some [some (jn false p)]:=rfl;rw[L4,j5,i,L3,L4];generalize(qs.map λp=>D.tup [.str p.nm,.lst true ((yD p).map D.str)])=QQ at *;generalize qs.map (jn false)=Q2 at *;generalize(yD p).map D.str=LL at *;generalize jn false p=PP at *;simp[g,c,f,cl,e,jg]
theorem YM{W:List WN}{ps:List Po}(h:DlOk W ps) :
  (j0 [.lst false (ps.map (jn false))]=some .non/\∀ n∈nms ps,∃ S,Cl (Lf ps) n S) \/ ∃ R,j0 [.lst false (ps.map (jn false))]=some (.lst true (R.map D.str))/\Rg (Lf ps) (nms ps) R:=by
 have nd:=zO h;have z:=h.l;have A:=h.l6;have b:(nms ps).length<=6:=by unfold nms;rw[L0];omega
 have c:=YQ (W:=W) (qs:=ps) (o0:=none) (λp f=>by obtain⟨k,g⟩:=List.mem_iff_getElem?.mp f;exact⟨W,k,h.k k p g⟩);have a:fzs (ps.map λp=>D.tup [.str p.nm,.lst true ((yD p).map D.str)])=(ps.map λp=>D.tup [.str p.nm,.lst false ((yD p).map D.str)]):=by
  rw[yE,U1];refine List.map_congr_left λp _=>?_;show D.tup [.str p.nm,.lst false (fzs _)]=_;rw[jx _ (jC _)]
 have fd:KG [.lst false (ps.map λp=>D.tup [.str p.nm,.lst false ((yD p).map D.str)])]=some (dL true false (nms ps) (Lf ps)):=by
  have:=KU (o:=false) (l:=ps.map λp=>(p.nm,D.lst false ((yD p).map D.str))) (by rw[U1];exact nd) (λq i=>by
   obtain⟨x,_,rfl⟩:=M5.mp i;show(true&&frzs _)=true;rw[jC];rfl) (by rw[L0];omega)
  rw[U1,U1,U1] at this;refine this.trans ?_;unfold dL;rw[<- QH nd];unfold nms;rw[U1];rfl
 have j:frzs ((nms ps).map λn=>D.lst false ((Lf ps n).map D.str))=true:=vn λd hd=>by
  obtain⟨x,_,rfl⟩:=M5.mp hd;show(true&&frzs _)=true;rw[jC];rfl
 have m:qJ 1 [some (.lst false (ps.map (jn false))),some (dL true false (nms ps) (Lf ps)),none,none]=some ((nms ps).map D.str,[some (.lst false (ps.map (jn false))),some (dL false false (nms ps) (Lf ps)),none,none]):=by
  show(bif frzs ((nms ps).map λn=>D.lst false ((Lf ps n).map D.str)) then some (((nms ps).map KA.str).map kaD,_) else none)=_;rw[j,U1];rfl
 have s:=Yd ps;have t:lim (ps.map (jn false)).length=true:=jg (by rw[L0];omega);have u:j0 [.lst false (ps.map (jn false))]=((yf (jl [] 2) jy ((nms ps).map D.str) [some (.lst false (ps.map (jn false))),some (dL false false (nms ps) (Lf ps)),none,none]).bind λo=>o.thn (kB (dP (pC .non)))).bind Out.val:=by
  generalize dL true false (nms ps) (Lf ps)=D1,dL false false (nms ps) (Lf ps)=D2 at *;generalize(nms ps).map D.str=NN at *;generalize(ps.map λp=>D.tup [.str p.nm,.lst true ((yD p).map D.str)])=T1 at *;generalize(ps.map λp=>D.tup [.str p.nm,.lst false ((yD p).map D.str)])=T2 at *;generalize ps.map (jn false)=PP at *;have v:∀ q,jX (jl [] 0) qT (qB (jc (pF (p2 jB (pV 0) (pC (.int 0)))) (jc (yh yP (jc (pV 0) pN)) pN))) PP (j4 [none] [some (.lst false PP),q,none,none])=some T1:=λ_=>c;simp[j0,vt,ki,s,t,v,a,fd,m,-jag,-x0]
 rw[u];rcases Kj (L:=Lf ps) (N:=nms ps) (jeA h) b (a0:=some (.lst false (ps.map (jn false)))) (M:=nms ps) (o2:=none) (o3:=none) (λn w=>w) with⟨R,y,e,r⟩ | ⟨y,e,k⟩
 ·exact .inr ⟨R,by rw[e];rfl,r⟩
 ·exact .inl ⟨by rw[e];rfl,k⟩
theorem okw{n:Nat}{w:List Nat}(h:Lt w):okE n (.str w)=true:=jam λc a=>by have:=h c a;omega
theorem jeY{W:List WN}{j:Nat}{r:Rl}(h:jdE W j r)(n:Nat):okE (n+2) (yR r)=true:=by
 have i (n:Nat) (v:Int):okE (n+1) (.int v)=true:=rfl;cases r with
 | rest w =>
  show y8 (n+1) [.str z5,.str w]=true;simp only[y8,okw (n:=n+1) (w:=z5) (by decide),okw (n:=n+1) h,Bool.and_self]
 | lend w v =>
  show y8 (n+1) [.str z8,.str w,.int v]=true;simp only[y8,okw (n:=n+1) (w:=z8) (by decide),okw (n:=n+1) h.1,i n,Bool.and_self]
 | back w =>
  show y8 (n+1) [.str xq,.str w]=true;simp only[y8,okw (n:=n+1) (w:=xq) (by decide),okw (n:=n+1) h,Bool.and_self]
theorem jdu{W:List WN}{k:Nat}:∀{os:List (List Rl)}{j:Nat},(∀ u∈os,RuOk W k u)->j+os.length<=20->y8 17 (j9 false j os)=true
 | [],_,_,_=>rfl
 | u::os,j,h,e=>by
  rw[M0] at e;have a:okE 16 (yk false u)=true:=Vm λd hd=>by
   obtain⟨r,f,rfl⟩:=M5.mp hd;exact jeY ((h u L6).k r f) 13
  have b:=jdu (os:=os) (j:=j+1) (λv g=>h v (L5 _ g)) (by omega);have c:okE 16 (.str [97+j])=true:=okw (vT (by omega));rw[j9,y8,b];show(y8 16 [.str [97+j],.lst false [],yk false u]&&true)=true;rw[y8,y8,y8,c,a];rfl
theorem Q7{W:List WN}{ps:List Po}(h:DlOk W ps)(b:Bool):okE 20 (.lst b (ps.map (jn b)))=true:=Vm λd hd=>by
 obtain⟨p,c,rfl⟩:=M5.mp hd;obtain⟨k,f⟩:=List.mem_iff_getElem?.mp c;have a:=h.k k p f;obtain⟨w,g,e⟩:=a.nm;have t:=a.l;have i:okE 18 (.str p.nm)=true:=okw (by rw[e];exact vR (h.nm w (List.mem_of_getElem? g)).r (vT (by omega)));have m:okE 16 (.str p.cl)=true:=okw a.cl;have o:=jdu (j:=0) a.k (by omega);show y8 18 [.str p.nm,.lst b [.tup [.str p.cl,.int p.n,.int 1]],.lst b [],.lst b [],.lst false (j9 false 0 p.os),.lst b [],.lst b []]=true;have q:okE 18 (.lst b [.tup [.str p.cl,.int p.n,.int 1]])=true:=by
  show(y8 16 [.str p.cl,.int p.n,.int 1]&&true)=true;rw[y8,m];rfl
 have s:okE 18 (.lst false (j9 false 0 p.os))=true:=o;rw[y8,y8,y8,y8,y8,i,q,s];rfl
section
variable {L:WN->List WN}{N:List WN}
theorem zt{b:Bool}{X:List WN}:∀{M:List WN}{o0:Option D},jX (jl [] 0) (jr (p2 (Ve false) (pV 0) (pV 1))) (pF (pV 0)) (M.map D.str) [o0,some (.lst b (X.map D.str))]=some ((M.filter λo=>decide (o∈X)).map D.str)
 | [],_=>rfl
 | n::M,o0=>by
  have e:=zt (b:=b) (X:=X) (M:=M) (o0:=some (.str n));have c:jl [] 0 (.str n) [o0,some (.lst b (X.map D.str))]=some [some (.str n),some (.lst b (X.map D.str))]:=rfl;have a:=zm n b X;rw[L4,j5,c,L3,List.filter_cons];by_cases q:n∈X
  ·rw[if_pos (X0 q),L4];rw[X0 q] at a;generalize(M.filter λo=>decide (o∈X)).map D.str=MM at *;generalize X.map D.str=XX at *;simp[a,e]
  ·rw[if_neg (by rw[X1 q];exact M3)];rw[X1 q] at a;generalize(M.filter λo=>decide (o∈X)).map D.str=MM at *;generalize X.map D.str=XX at *;simp[a,e]
theorem Yo{o b c:Bool}{X:List WN}(d:∀ n,(L n).length<=1000):∀{M:List WN}{o0:Option D},(∀ n∈M,n∈N)->jX (jl [] 0) (jr (p2 jcz (pCB kr (jc (yH (Yv (p2 vN (pV 1) (pV 0))) (jl [] 0) (jr (p2 (Ve false) (pV 0) (pV 1))) (pF (pV 0)) [none,some 2]) pN)) (pC (.int 0)))) (pF (pV 0)) (M.map D.str) [o0,some (dL o b N L),some (.lst c (X.map D.str))]=some ((M.filter λn=>decide (0 < ((L n).filter λo=>decide (o∈X)).length)).map D.str)
 | [],_,_=>rfl
 | n::M,o0,h=>by
  have e:=Yo (o:=o) (b:=b) (c:=c) (X:=X) d (M:=M) (o0:=some (.str n)) λz f=>h z (L5 _ f);have g:jl [] 0 (.str n) [o0,some (dL o b N L),some (.lst c (X.map D.str))]=some [some (.str n),some (dL o b N L),some (.lst c (X.map D.str))]:=rfl;have i:=jab (o:=o) (b:=b) (L:=L) (h n L6);have j:=jC (L n);have l:lim ((L n).map D.str).length=true:=jg (by have:=d n;rw[L0];omega);have m:=zt (b:=c) (X:=X) (M:=L n) (o0:=none);have p:(((((L n).filter λo=>decide (o∈X)).map D.str).length:Nat):Int)=(((L n).filter λo=>decide (o∈X)).length:Int):=by rw[L0]
  rw[L4,j5,g,L3,List.filter_cons];have r:jr (p2 jcz (pCB kr (jc (yH (Yv (p2 vN (pV 1) (pV 0))) (jl [] 0) (jr (p2 (Ve false) (pV 0) (pV 1))) (pF (pV 0)) [none,some 2]) pN)) (pC (.int 0))) [some (.str n),some (dL o b N L),some (.lst c (X.map D.str))]=some (decide (0 < ((L n).filter λo=>decide (o∈X)).length)):=by
   generalize((L n).filter λo=>decide (o∈X)).length=k at *;generalize((L n).filter λo=>decide (o∈X)).map D.str=FF at *;generalize(L n).map D.str=LL at *;generalize X.map D.str=XX,dL o b N L=DD at *;have a:jX (jl [] 0) (jr (p2 (Ve false) (pV 0) (pV 1))) (pF (pV 0)) LL (j4 [none,some 2] [some (.str n),some DD,some (.lst c XX)])=some FF:=m;have s:decide (0 < (k:Int))=decide (0 < k):=decide_eq_decide.mpr (by omega);simp[i,j,l,a,p,s]
  rw[r,L3,e];by_cases q:0 < ((L n).filter λo=>decide (o∈X)).length
  ·rw[X0 q];rfl
  ·rw[X1 q];rfl
theorem xB{X:List WN}(e:∀ n∈X,n∈N)(f:X.length<=100)(g:∀ n,(L n).length<=1000){a0 a1 a a5 a6 a7 a8:Option D} :
  J8 [a0,a1,some (dL true true N L),a,some (.lst true (X.map D.str)),a5,a6,a7,a8]=some (.nx [a0,a1,some (dL true true N L),a,some (.lst true ((uh L X).map D.str)),a5,a6,a7,a8]):=by
 have h:=Yo (o:=true) (b:=true) (c:=true) (N:=N) (X:=X) g (M:=X) (o0:=none) e;have i:=jC X;have j:lim (X.map D.str).length=true:=jg (by rw[L0];omega);unfold uh;generalize(X.filter λn=>decide (0 < ((L n).filter λo=>decide (o∈X)).length)).map D.str=PP at *;generalize X.map D.str=XX,dL true true N L=DD at *;have d:jX (jl [] 0) (jr (p2 jcz (pCB kr (jc (yH (Yv (p2 vN (pV 1) (pV 0))) (jl [] 0) (jr (p2 (Ve false) (pV 0) (pV 1))) (pF (pV 0)) [none,some 2]) pN)) (pC (.int 0)))) (pF (pV 0)) XX (j4 [none,some 2,some 4] [a0,a1,some DD,a,some (.lst true XX),a5,a6,a7,a8])=some PP:=h;simp[J8,i,j,d]
theorem zj{R:List WN}(r:Rg L N R){i:Nat}(hi:i < R.length){a0 a1 a4 a5 a6 a8:Option D} :
  ∃ q8,JZ [a0,a1,some (dL true true N L),some (.lst false (R.map D.str)),a4,a5,a6,some (.int (i:Int)),a8]=some (.nx [a0,a1,some (dL true true N L),some (.lst false (R.map D.str)),a4,a5,a6,some (.int (i:Int)),q8]):=by
 obtain⟨x,e⟩:∃ x,R[i]?=some x:=⟨R[i],X5 hi⟩;have j:(i+1) % R.length < R.length:=Nat.mod_lt _ (by omega);obtain⟨y,g⟩:∃ y,R[(i+1) % R.length]?=some y:=⟨R[(i+1) % R.length],X5 j⟩;have f:=r.k i x y e g;have a:=r.m x (List.mem_of_getElem? e);have l:=qF (o:=false) e;have n:=qF (o:=false) g;have p:ju (.int ((i:Int)+1)) (.int (R.length:Int))=some (.int (((i+1) % R.length:Nat):Int)):=by
  rw[jD (by omega)]
  push_cast
  rfl
 have q:(((R.map D.str).length:Nat):Int)=(R.length:Int):=by rw[L0]
 have h:=jdG (o:=true) (b:=true) (neg:=true) (N:=N) (L:=L) (c:=x);have s:=jab (o:=true) (b:=true) (L:=L) a;have d:=uQ true true y (L x);rw[X0 a] at h;rw[X0 f] at d;refine⟨some (.str y),?_⟩;generalize(i+1) % R.length=m at *;generalize(L x).map D.str=LL at *;generalize R.map D.str=RR,dL true true N L=DD at *;have t:K4 "str" "str" = true:=by with_unfolding_all rfl
 simp[JZ,l,n,p,q,h,s,d,t]
end
theorem YT:∀{ps:List Po}{o0:Option D},jX (jl [] 0) qT (pF (p2 jB (pV 0) (pC (.int 0)))) (ps.map (jn false)) [o0]=some ((nms ps).map D.str)
 | [],_=>rfl
 | p::ps,o0=>by
  have e:=YT (ps:=ps) (o0:=some (jn false p));have a:jl [] 0 (jn false p) [o0]=some [some (jn false p)]:=rfl;have b:jB (jn false p) (.int 0)=some (.str p.nm):=rfl;rw[L4,j5,a,L3,show(nms (p::ps)).map D.str=.str p.nm::(nms ps).map D.str from rfl];generalize(nms ps).map D.str=NN at *;generalize jn false p=PP at *;simp[b,e]
theorem um:∀{l acc:List WN},l.Nodup->(∀ x∈l,¬ x∈acc)->(kT acc l).length=acc.length+l.length
 | [],acc,_,_=>by rw[kT];rfl
 | x::l,acc,b,h=>by
  obtain⟨c,d⟩:=List.nodup_cons.mp b;rw[kT,if_neg (h x L6),um d (λy a z=>by
   rcases N2.mp z with z | z
   ·exact h y (L5 _ a) z
   ·rw[M7.mp z] at a;exact c a)]
  simp only[N4,M0,List.length_nil];omega
theorem xk{W:List WN}{ps:List Po}(h:DlOk W ps)(n:WN):(Lf ps n).length<=1000:=by
 unfold Lf;cases e:lkp n (ps.map λp=>(p.nm,yD p)) with
 | none=>exact U5 _
 | some l =>
  have a:=Y2 e;obtain⟨v,c,g⟩:=J3 a;rw[e] at c;cases c;obtain⟨p,i,j⟩:=M5.mp g;cases j;obtain⟨k,m⟩:=List.mem_iff_getElem?.mp i;have d:=h.k k p m;have b:∀ os:List (List Rl),(∀ u∈os,RuOk W k u)->(os.flatMap λu=>u.filterMap jz).length<=5*os.length:=by
   intro os
   induction os with
   | nil=>intro _;exact M8 _
   | cons u os o =>
    intro f;have s:=o λv q=>f v (L5 _ q);have t:=Yg u;have r:=(f u L6).l5;rw[List.flatMap_cons,N4,M0];omega
  have:=b p.os d.k;have r:=d.l;show(yD p).length<=1000;unfold yD;omega
theorem wJ(ns:List Int)(Y:ns.length<=63)(A:∀ x∈ns,Builtin.Int.intBits x<=2 ^ 20):Vs [.lst false (ns.map D.int)]=some (.bl true):=by
 have A:jdB ns:=A;obtain⟨W,a,M,h⟩:=jaX A Y;have c:=kX ns;have g:=Vu ns;have N:=Yz h;have B:=YM h;have zd:fzs (a.map (jn true))=a.map (jn false):=by
  rw[yE,U1];exact List.map_congr_left λp _=>wm p
 have fd:=Yd a;have O:=jx _ fd;have ne:=Qm (Q7 h true) (Q7 h true) rfl;have P:∀ l:List WN,jN (l.map D.str)=true:=λl=>by rw[jV,List.all_map,List.all_eq_true];intro x _;rfl
 have cl:yZ (dL true true (nms a) (Lf a))=true:=by
  show(true&&jN _)=true;rw[jV,List.all_map,List.all_eq_true.mpr λn _=>?_]
  ·rfl
  ·show(true&&jN _)=true;rw[P];rfl
 have Z:=h.l6;have hpl:=h.l;have hn6:(nms a).length=a.length:=by unfold nms;rw[L0]
 rcases B with⟨C,hc⟩ | ⟨R,C,r⟩
 ·have lc:=YT (ps:=a) (o0:=none);have lp:lim (a.map (jn false)).length=true:=jg (by rw[L0];omega);have pn:=Ji a.length (L:=Lf a) (X:=nms a) (by omega) hc;obtain⟨ρ',u,X,y,rfl,Q⟩:=zK (i:=1) (G:=jl [1] 5) (f:=J8) (o:=false) (l:=a.map (jn false)) (λi ρ=>∃(X:List WN) (y:Option D),ρ=[some (.lst false (ns.map D.int)),some (.lst false (a.map (jn false))),some (dL true true (nms a) (Lf a)),some .non,some (.lst true (X.map D.str)),y,none,none,none]/\((∀ n∈X,n∈nms a)/\X.length<=6/\zX (Lf a) (a.length - i) X=[])) (by
   rintro j ρ ⟨X,y,rfl,_⟩;rfl) (by
   rintro i x ρ b ⟨X,y,rfl,S,h2,T⟩;have U:i < a.length:=by have:=(L8.mp b).1;rw[L0] at this;exact this
   rw[List.getElem?_map] at b;refine⟨?_,_,_,rfl,.inl (xB S (by omega) (xk h)),uh (Lf a) X,_,rfl,λn E=>S n (Kb n E),N7 (List.length_filter_le ..) h2,?_⟩
   ·cases q:a[i]? with
    | none=>rw[q] at b;cases b
    | some p=>rw[q] at b;cases b;exact kE p
   ·rw[show a.length - i=(a.length - (i+1))+1 by omega,zX] at T;exact T) (ρ:=[some (.lst false (ns.map D.int)),some (.lst false (a.map (jn false))),some (dL true true (nms a) (Lf a)),some .non,some (.lst true ((nms a).map D.str)),none,none,none,none]) ⟨_,_,rfl,λn E=>E,by omega,pn⟩
  rw[L0,Nat.sub_self] at Q;have F:X=[]:=Q.2.2;subst F;have ee:k7 (.lst true []) (.lst true [])=some (.bl true):=jaZ rfl rfl rfl;rw[List.map_nil] at u;have is:wX .non .non=some (.bl true):=rfl;generalize dL true true (nms a) (Lf a)=DD at *;generalize(nms a).map D.str=NN at *;generalize a.map (jn true)=PT,a.map (jn false)=PF',ns.map D.int=NS at *;have H:∀ q4:Option D,jX (jl [] 0) qT (pF (p2 jB (pV 0) (pC (.int 0)))) PF' (j4 [none] [some (.lst false NS),some (.lst false PF'),some DD,some .non,q4,none,none,none,none])=some NN:=λ_=>lc;simp(maxSteps:=400000) [Vs,vt,wI,c,g,M,N,C,zd,O,fd,ne,cl,is,lp,H,u,ee,jg]
 ·have l2:=r.l2;have lR:=r.l;have I:(((R.map D.str).length:Nat):Int)=(R.length:Int):=by rw[L0]
  have sR:=KI R;have mR:(kT [] R).length=R.length:=by rw[um r.nd λx _=>List.not_mem_nil];exact Nat.zero_add _
  have V:=jC R;have zR:=jx _ V;have cR:=P R;have k:=vL (j:=(R.length:Int)) (by omega) (by omega);rw[N8] at k;have s:okE 20 (.lst true (R.map D.str))=true:=Vm λd hd=>by
   obtain⟨x,b,rfl⟩:=M5.mp hd;have t:=r.m x b;rw[Qw h] at t;obtain⟨w,hw,rfl⟩:=M5.mp t;exact okw (vR (h.nm w hw).r (vT (by omega)))
  have J:=Qm s s rfl;have ls:J9 (.lst true (R.map D.str))=some (.int (R.length:Int)):=by
   rw[qH,sR,L3,X0 (by omega),cond_true,mR]
  obtain⟨ρ',u,K,z,rfl⟩:=vx (G:=jl [] 7) (f:=JZ) (xs:=ql 0 R.length) (λi ρ=>∃ K z:Option D,ρ=[some (.lst false (ns.map D.int)),some (.lst true (a.map (jn true))),some (dL true true (nms a) (Lf a)),some (.lst false (R.map D.str)),none,none,some (.lst false (R.map D.str)),K,z]) (by
   rintro i v ρ hv ⟨K,z,rfl⟩;obtain⟨rfl,U⟩:=qu hv;obtain⟨q8,e⟩:=zj r U (a0:=some (.lst false (ns.map D.int))) (a1:=some (.lst true (a.map (jn true)))) (a4:=none) (a5:=none) (a6:=some (.lst false (R.map D.str))) (a8:=z);refine⟨_,_,?_,.inl e,_,_,rfl⟩;rw[Int.zero_add];rfl) (ρ:=[some (.lst false (ns.map D.int)),some (.lst true (a.map (jn true))),some (dL true true (nms a) (Lf a)),some (.lst false (R.map D.str)),none,none,some (.lst false (R.map D.str)),none,none]) ⟨_,_,rfl⟩
  have is:wX (.lst true (R.map D.str)) .non=some (.bl false):=rfl;have t1:K4 "list" "list" = true:=by with_unfolding_all rfl
  have g2:¬ (R.length:Int) < 2:=by omega
  generalize dL true true (nms a) (Lf a)=DD,R.map D.str=RR,a.map (jn true)=PT,a.map (jn false)=PF',ns.map D.int=NS at *;simp(maxSteps:=400000) [Vs,vt,wI,c,g,M,N,C,zd,O,fd,ne,cl,is,t1,I,g2,ls,V,zR,cR,J,k,u,jg,-qH]
end K57
set_option maxHeartbeats 0
namespace K57
open PySem L2 QD
theorem all_mk{l:PySem.W.OpenLaw}{w:World}{K:PySem.W.Frag}{h:Heap}{mg:Str->Option Value}{fa:Addr}(X:K.In h)(G:h.Ns mainGlobals mg)(hfa:mg "law" = some (.ref fa))
  {uM:Addr}{jce jcO:Option Addr}{jcS:Array (Option Value)}{jc5 jcP jcQ jbP ur jbN:Value}
  (qW:qm K mg "lent_to" kF ku)
  (Yfq:qm K mg "way_to" qw qz)
  (vd:qm K mg "_law_cell_at" yn yw)
  (vV:qm K mg "_law_mixed" yU va)
  (vh:qm K mg "_law_letters" yt yr)
  (v9:qm K mg "_law_spelt" y4 yW)
  (vU:qm K mg "_law_lends" vc yY)
  (kf:qm K mg "ring_from" vf yT)
  (kn:qm K mg "_law_words" vi ve)
  (vY:qm K mg "lend_ring" vg vm)
  (qc:qm K mg "_law_deal" yy vK)
  (YK:PySem.W.nsIn K mainGlobals "law" = some (some (.ref uM))) (QC:K.lookup uM=some ⟨jc5,jce,.func (PySem.W.fnOf "law" "law" (ko Jv) (yS Jv) (jk Jv) .none jcP jcQ jbP jcO ur jbN),jcS⟩) (Qi:PySem.W.codeIn K ur "law" = true) (zY:PySem.W.keepIn K (.ref uM)=true)
  (zV:PySem.W.nsIn K mainGlobals "dict" = some none)
  (ke:PySem.W.nsIn K mainGlobals "enumerate" = some none)
  (vF:PySem.W.nsIn K mainGlobals "isinstance" = some none)
  (jay:PySem.W.nsIn K mainGlobals "len" = some none)
  (ze:PySem.W.nsIn K mainGlobals "list" = some none)
  (Vx:PySem.W.nsIn K mainGlobals "range" = some none)
  (kZ:PySem.W.nsIn K mainGlobals "reversed" = some none)
  (ja4:PySem.W.nsIn K mainGlobals "set" = some none)
  (ja8:PySem.W.nsIn K mainGlobals "str" = some none)
  : ∃ fd:FuncData,(∀(s:Shared) (v:Value),BindsTo s fd ⟨[v],[]⟩ [("_law_script",v)])/\∀ base:Heap,K.In base->base.Ns mainGlobals mg->FnOk l.prog w K mg base CX0 4 fa fd ["_law_script"] (spP ⟨K,λ_=>0⟩ Vs 1):=by
 have e:=hfa.symm.trans (PySem.W.mg_of X G YK);cases e;have T:Txt l.prog w K mg:=⟨PySem.W.mg_none_of X G zV,PySem.W.mg_none_of X G ke,PySem.W.mg_none_of X G vF,PySem.W.mg_none_of X G jay,PySem.W.mg_none_of X G ze,PySem.W.mg_none_of X G Vx,PySem.W.mg_none_of X G kZ,PySem.W.mg_none_of X G ja4,PySem.W.mg_none_of X G ja8⟩;have F:Fun K "law" "law" Jv _ _:=Qy QC Qi zY;have jd3:qm K mg "law" Jv wT:=⟨_,_,F,PySem.W.mg_of X G YK,F.binds λ_ _ _ _ _ _ us hl=>match us,hl with | [_],_=>rfl⟩;have Jk:=Qa (cl:=λ_=>0) T qW;have JU:=zE (cl:=λ_=>0) T Yfq;have yp:=Ju (cl:=λ_=>0) T vd;have jJ:=Yy (cl:=λ_=>0) T vV;have yu:=Jq (cl:=λ_=>0) T vh;have kg:=Vb (cl:=λ_=>0) T v9;have kh:=YC (cl:=λ_=>0) T vU;have vX:=YO T kf JU;have v7:=YA T kn yu jJ kg;have yV:=Yt T vY Jk vX;have vI:=VI T qc yp jJ v7;have jdP:=jcd T jd3 vI kh yV;obtain⟨f',fd',F',G'⟩:=jdP;cases(PySem.W.mg_of X G YK).symm.trans F'.mgf;obtain⟨⟨oc,od,kV,doc,pm,an,cdv,ct,osl,rfl,_,_⟩,_⟩:=F'.fn;exact⟨_,λs v=>.of_eq rfl,λbase _ _=>G' base⟩
theorem walk{l:PySem.W.OpenLaw}{q:Program}{loose:List Str}{XP:(Str->Option Value)->Heap->Prop}{YP:World->Heap->Prop}{d:DefRec}{K:Params->PySem.W.Frag}(hn:l.most=some 63)(hdf:d.params.defaults=[])
  (hY:∀(w:World) (h:Heap),YP w h->(K w.params).In h)
  (F:∀(w:World) (mg:Str->Option Value) (fa:Addr) (h:Heap),(K w.params).In h->h.Ns mainGlobals mg->mg d.name=some (.ref fa) ->
   ∃ fd:FuncData,(∀(s:Shared) (u:Value),BindsTo s fd ⟨[u],[]⟩ [("_law_script",u)])/\∀ base:Heap,(K w.params).In base->base.Ns mainGlobals mg->FnOk l.prog w (K w.params) mg base CX0 4 fa fd ["_law_script"] (spP ⟨K w.params,λ_=>0⟩ Vs 1)) :
  PySem.W.WalkO q loose XP YP l.row.toRowW d [] (λf vs=>PySem.call f vs) :=
 L2.walk_ofB (n:=63) (k:=4) (x:="_law_script") (CX:=λ_=>CX0) (sp:=λw=>(spP ⟨K w.params,λ_=>0⟩ Vs 1)) hn (by decide) hdf ⟨rfl,by decide,by decide⟩ hY F (λ_ H a ns hl hb _ hS=>jc0 (wJ ns hl hb) hS) λ_ _ _ _ _ z=>z
end K57
namespace PySem.W.Fast
def tw14843450862231086765:=0
def tw8360303176684116065:=0
def tw13976732356170314860:=0
def tw10166756674101628968:=0
def tw13875247243644515618:=0
def tw1384851446444300226:=0
def tw9006004993513653009:=0
def tw2629885382279411630:=0
def tw14505735346469969984:=0
def tw7873344077667118624:=0
def tw14989510071806183754:=0
def tw4747411701306262329:=0
def tw12977190647095357417:=0
def tw15615544152635259532:=0
def tw8338480073718137393:=0
def tw2147393678753978913:=0
def tw15383081240876385332:=0
def tw17505839935969193680:=0
def tw13475803522752182435:=0
def tw2766084675583908933:=0
def tw3861246847674096342:=0
def tw13521191466221762945:=0
def tw4619907766316748102:=0
def tw9521345037914985773:=0
def tw12233699870062503616:=0
def tw14751672414393007521:=0
def tw17756326074177463738:=0
def tw8258072835724274118:=0
end PySem.W.Fast
set_option maxHeartbeats 0
open PySem PySem.W PyProof.Rows
set_option maxRecDepth 100000 in
set_option maxHeartbeats 0 in
theorem PySem.Challenge.cw_tranchefall_k57_ring_of_lenders_holds : PySem.Challenge.rw_tranchefall_k57_ring_of_lenders.Holds := by
 w_on;o_law;k_head;(case hw=>w_witness2)
 k_fill
 refine K57.walk (l:=PySem.Challenge.rw_tranchefall_k57_ring_of_lenders) rfl rfl (λw h Y=>PySem.W.kIn_of Y) ?F
 case F =>
  intro w mg fa h KX G hmg;refine' K57.all_mk KX G hmg ?qW ?Yfq ?vd ?vV ?vh ?v9 ?vU ?kf ?kn ?vY ?qc ?YK ?QC ?Qi ?zY ?zV ?ke ?vF ?jay ?ze ?Vx ?kZ ?ja4 ?ja8
  (case YK | QC | Qi | zY | zV | ke | vF | jay | ze | Vx | kZ | ja4 | ja8=>k_is)
  (case qW | Yfq | vd | vV | vh | v9 | vU | kf | kn | vY | qc =>
   first | exact QD.hasF KX G (by k_is) (by k_is) (by k_is) (by k_is) (by first | exact λ_ _ _ _ _ _ us hl=>(match us,hl with | [_],_=>rfl) | exact λ_ _ _ _ _ _ us hl=>(match us,hl with | [_,_],_=>rfl) | exact λ_ _ _ _ _ _ us hl=>(match us,hl with | [_,_,_],_=>rfl)))
