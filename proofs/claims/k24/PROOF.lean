import PyProof.Rows.All
import Wide.All
import OpenK.AllK
import Wide.FinOn
import Lean
import PyProof.EqAt
import PyProof.EqKinds
import PyProof.TupleCall
import KE.KItemsList
import KE.KRevIter
import PyProof.CollectIter
import PyProof.DictWalks
import PyProof.WalksMore
import PyProof.SumWalkG
import KE.KSortTup
import PyProof.Draws
import PySem.Challenge.RW_tranchefall_k24_shares_in_a_fall
set_option Elab.async false
set_option linter.all false
set_option maxRecDepth 100000
noncomputable section
section
open PySem PySem.Spec PyProof.Rows
abbrev L0:=@List.length_map
abbrev L1:=@wpAny_bind
abbrev L3:=@Option.bind_some
abbrev L4:=@List.map_cons
abbrev L5:=@List.mem_cons_of_mem
abbrev L6:=@List.mem_cons_self
abbrev L7:=@Heap.get?_push_of_some
abbrev L8:=@List.getElem?_eq_some_iff
abbrev L9:=@Bool.and_eq_true
abbrev M0:=@List.length_cons
abbrev M3:=@Bool.false_ne_true
abbrev M4:=@List.mem_cons
abbrev M5:=@List.mem_map
abbrev M6:=@wpAny_pure
abbrev M7:=@List.mem_singleton
abbrev M8:=@Nat.le_refl
abbrev M9:=@List.append_nil
abbrev N0:=@Heap.lt_size
abbrev N1:=@List.mem_append
abbrev N2:=@List.size_toArray
abbrev N3:=@List.length_append
abbrev N4:=@List.map_append
abbrev N5:=@Nat.ne_of_lt
abbrev N6:=@Nat.le_trans
abbrev N7:=@Int.toNat_natCast
abbrev N8:=@Int.emod_lt_of_pos
abbrev N9:=@Int.emod_nonneg
abbrev U0:=@List.map_map
abbrev U1:=@beq_eq_false_iff_ne
abbrev U2:=@List.mem_append_right
abbrev U3:=@Nat.lt_of_lt_of_le
abbrev U4:=@Nat.zero_le
abbrev U5:=@wpAny_field
abbrev U6:=@List.zip_cons_cons
abbrev U7:=@List.count_append
abbrev U8:=@List.nodup_append
abbrev U9:=@List.foldl_cons
abbrev X4:=@decide_eq_true
abbrev X5:=@decide_eq_false
abbrev X6:=@of_decide_eq_true
abbrev X7:=@Option.some.inj
abbrev X8:=@List.nil_append
abbrev X9:=@List.getElem?_eq_getElem
abbrev E1:=@List.length_take
abbrev E4:=@Heap.get?_push_size
abbrev E5:=@Nat.lt_of_le_of_lt
end
namespace L2
open PySem PySem.Spec PyProof.Rows
noncomputable abbrev Key:=Sum Int Str
noncomputable def xf:Key->Value->Bool
 | .inl k,v=>Value.isInt k v
 | .inr x,v=>Value.isStrOf x v
noncomputable def jlW(w:World):Key->Int
 | .inl k=>hashInt k
 | .inr x=>hashStr w x
theorem jT:∀{k:Key}{v:Value},xf k v=true->(∃ i t,k=Sum.inl i/\v=Value.int i t) \/ (∃ x t,k=Sum.inr x/\v=Value.str x t)
 | .inl i,v,h=>by
  obtain⟨t,e⟩:=Value.isInt_shape (k:=i) (v:=v) h;exact .inl ⟨i,t,rfl,e⟩
 | .inr x,v,h=>by
  obtain⟨t,e⟩:=Value.isStrOf_shape (x:=x) (v:=v) h;exact .inr ⟨x,t,rfl,e⟩
theorem jbb(i:Int)(t:Tok):xf (.inl i) (.int i t)=true:=by simp[xf,Value.isInt]
theorem jaY(x:Str)(t:Tok):xf (.inr x) (.str x t)=true:=by simp[xf,Value.isStrOf]
theorem jh2(a b:Int):decide ((Sum.inl a:Key)=Sum.inl b)=(a==b):=by
 by_cases e:a=b
 ·subst e;simp
 ·have h:¬ (Sum.inl a:Key)=Sum.inl b:=λq=>e (Sum.inl.inj q);rw[X5 h];exact(U1.mpr e).symm
theorem jie(a b:Str):decide ((Sum.inr a:Key)=Sum.inr b)=decide (a=b):=by
 by_cases e:a=b
 ·subst e;simp
 ·have h:¬ (Sum.inr a:Key)=Sum.inr b:=λq=>e (Sum.inr.inj q);rw[X5 h,X5 e]
theorem jjA(a:Int)(b:Str):decide ((Sum.inl a:Key)=Sum.inr b)=false:=X5 (λq=>nomatch q)
theorem jjf(a:Str)(b:Int):decide ((Sum.inr a:Key)=Sum.inl b)=false:=X5 (λq=>nomatch q)
def jJ(prog:Program)(w:World):PySem.KeyKind prog w Key where
 is:=xf
 hash:=jlW w
 inj:=λv a b ha hb=>by
  rcases jT ha with⟨i,t,rfl,rfl⟩ | ⟨x,t,rfl,rfl⟩
  ·rcases jT hb with⟨j,u,rfl,e⟩ | ⟨y,u,rfl,e⟩
   ·injection e with e1 _;rw[e1]
   ·exact nomatch e
  ·rcases jT hb with⟨j,u,rfl,e⟩ | ⟨y,u,rfl,e⟩
   ·exact nomatch e
   ·injection e with e1 _;rw[e1]
 byValue:=λk v h=>by
  rcases jT h with⟨i,t,rfl,rfl⟩ | ⟨x,t,rfl,rfl⟩<;>rfl
 pyHash:=λhv h=>by
  rcases jT hv with⟨i,t,rfl,rfl⟩ | ⟨x,t,rfl,rfl⟩
  ·exact wpAny_pyHash_int h
  ·exact wpAny_pyHash_str h
 eqBool:=λhu hv h=>by
  rcases jT hu with⟨i,t,rfl,rfl⟩ | ⟨x,t,rfl,rfl⟩
  ·rcases jT hv with⟨j,u,rfl,rfl⟩ | ⟨y,u,rfl,rfl⟩
   ·rw[jh2] at h;exact wpAny_eqBool_int h
   ·rw[jjA] at h;exact SeqAt.EqAt.int_str i t y u _ _ _ _ h
  ·rcases jT hv with⟨j,u,rfl,rfl⟩ | ⟨y,u,rfl,rfl⟩
   ·rw[jjf] at h;exact SeqAt.EqAt.str_int x t j u _ _ _ _ h
   ·rw[jie] at h;exact wpAny_eqBool_str h
 «strs»:=λk x t v h=>by
  rcases jT h with⟨i,u,rfl,e⟩ | ⟨y,u,rfl,e⟩
  ·exact nomatch e
  ·injection e with e1 _;subst e1;cases v<;>rfl
theorem ub(prog:Program)(w:World)(k:Key)(v:Value):(jJ prog w).is k v=xf k v:=rfl
theorem zj(prog:Program)(w:World)(i:Int)(t:Tok):(jJ prog w).is (.inl i) (.int i t)=true:=jbb i t
theorem Q5(prog:Program)(w:World)(x:Str)(t:Tok):(jJ prog w).is (.inr x) (.str x t)=true:=jaY x t
inductive V where
 | non | bl (b:Bool) | int (i:Int) | str (x:Str) | byt (b:Array UInt8) | flt (b:UInt64) | ref (a:Addr) | ty (n:String)
 deriving DecidableEq
def RelV:V->Value->Prop
 | .non,u=>u=Value.none
 | .bl b,u=>u=Value.bool b
 | .int i,u=>∃ t,u=Value.int i t
 | .str x,u=>∃ t,u=Value.str x t
 | .byt b,u=>∃ t,u=Value.bytes b t
 | .flt b,u=>∃ t,u=Value.float b t
 | .ref a,u=>u=Value.ref a
 | .ty n,u=>u=Value.type n
abbrev Vals:List V->List Value->Prop:=Paired RelV
theorem Vals.length(r:Vals xs us):xs.length=us.length:=Paired.length r
theorem Vals.get:∀{xs:List V}{us:List Value}{i:Nat}{x:V},Vals xs us->xs[i]?=some x->∃ u,us[i]?=some u/\RelV x u
 | _,_,_,_,.nil,e=>by simp at e
 | _,_,0,_,.cons r _,e=>by simp at e;subst e;exact⟨_,rfl,r⟩
 | _,_,i+1,x,.cons _ t,e=>by
  obtain⟨u,a,b⟩:=Vals.get (i:=i) (x:=x) t (by simpa using e);exact⟨u,by simpa using a,b⟩
theorem Vals.set(r:RelV x u):∀{xs:List V}{us:List Value}(i:Nat),Vals xs us->Vals (xs.set i x) (us.set i u)
 | _,_,_,.nil=>.nil
 | _,_,0,.cons _ t=>.cons r t
 | _,_,i+1,.cons q t=>.cons q (Vals.set r i t)
theorem Vals.append:∀{xs ys:List V}{us ws:List Value},Vals xs us->Vals ys ws->Vals (xs++ys) (us++ws)
 | _,_,_,_,.nil,s=>s
 | _,_,_,_,.cons r t,s=>.cons r (Vals.append t s)
theorem Vals.take:∀{xs:List V}{us:List Value}(n:Nat),Vals xs us->Vals (xs.take n) (us.take n)
 | _,_,0,_=>.nil
 | _,_,_+1,.nil=>.nil
 | _,_,n+1,.cons r t=>.cons r (Vals.take n t)
theorem Vals.drop:∀{xs:List V}{us:List Value}(n:Nat),Vals xs us->Vals (xs.drop n) (us.drop n)
 | _,_,0,r=>r
 | _,_,_+1,.nil=>.nil
 | _,_,n+1,.cons _ t=>Vals.drop n t
def RelO:Option V->Option Value->Prop
 | some v,some u=>RelV v u
 | none,none=>True
 | _,_=>False
def KV{κ:Type}:List (κ×V)->List (κ×Value)->Prop:=Paired λ(p:κ×V) (q:κ×Value)=>p.1=q.1/\RelV p.2 q.2
noncomputable def kV:Key->V
 | .inl i=>.int i
 | .inr x=>.str x
inductive HO where
  | lst (xs:List V)
  | tup (xs:List V)
  | dK (kvs:List (Key×V)) | dT (kvs:List (List Key×V))
  | set (S:Int->Bool) (n:Nat)
  | ins (C dx:Addr) (fs:List (Str×V))
  | own (x:Addr)
  | xd (fs:List (Str×V))
  | met (f x:Addr)
  | rng (lo hi:Int)
  | frz (o:Obj) (u:HO)
  | tbl (ps:Array Value)
  | ext (φ:Heap->Prop)
noncomputable abbrev Hp:=Addr->Option HO
noncomputable def upd(H:Hp)(a:Addr)(o:HO):Hp:=λb=>if b=a then some o else H b
theorem jr:upd H a o a=some o:=by unfold upd;rw[if_pos rfl]
theorem jf(h:b≠a):upd H a o b=H b:=by unfold upd;rw[if_neg h]
theorem jk2{H:Hp}{a b:Addr}{o u:HO}(h:H a=some o)(h':H b=some u)(d:o≠u):a≠b:=by
 intro e;subst e;rw[h] at h';exact d (X7 h')
theorem kf{H:Hp}{a b:Addr}{o:HO}(h:H a=some o)(h':H b=none):a≠b:=by
 intro e;subst e;rw[h] at h';cases h'
def IsTupN(h:Heap)(a:Addr)(its:Array Value):Prop:=IsTup h a its/\∃ o,h.get? a=some o/\o.dict=none
theorem IsTupN.new(h:Heap)(its:Array Value):IsTupN (h.push { cls:=.type "tuple",data:=.seq its }) h.objs.size its:=⟨IsTup.new h its,_,E4 _ rfl,rfl⟩
theorem IsTupN.lt(x:IsTupN h a its):a < h.objs.size:=x.1.lt
section
variable (P:Program)(w:World)
def ObjOk(H:Hp)(h:Heap)(a:Addr):HO->Prop
 | .lst xs=>xs.length<=sizeLine/\∃(its:List Value) (n:Nat),Vals xs its/\h.get? a=some { cls:=.type "list",data:=.seq its.toArray n }
 | .tup xs=>xs.length<=sizeLine/\∃ its:List Value,Vals xs its/\IsTupN h a its.toArray
 | .dK kvs=>kvs.length<=sizeLine/\(a==sysModules)=false/\∃ vs,KV kvs vs/\h.DictOf (jJ P w) a vs
 | .dT kvs=>kvs.length<=sizeLine/\(a==sysModules)=false/\∃ xs:List (List Key×Addr×Value),
   Paired (λ(p:List Key×V) (q:List Key×Addr×Value)=>p.1=q.1/\H q.2.1=some (.tup (p.1.map kV))/\RelV p.2 q.2.2) kvs xs /\
   ∃ o es ep,h.get? a=some o/\o.ExactDict/\o.data=.dict es ep/\es.toList=xs.map (entryOfKey (tupleKind (jJ P w)))/\(xs.map (·.1)).Nodup
 | .set S n=>h.SetOf (intKind P w) a S n
 | .ins C dx fs=>H dx=some (.own a)/\fs.length<=1000/\dx≠a/\h.get? a=some (PySem.W.instObj C dx) /\
   ∃ mA,h.Ns1 dx mA/\(∀ f,RelO (fs.lookup f) (mA f))/\PySem.Within mA (fs.map (·.1))
 | .own _=>∃ o,h.get? a=some o
 | .xd fs=>∃ mA,h.Ns1 a mA/\∀ f,RelO (fs.lookup f) (mA f)
 | .rng lo hi=>∃ t u v,h.get? a=some { cls:=.type "range",data:=.fields #[.int lo t,.int hi u,.int 1 v] }
 | .frz o u=>h.get? a=some o/\ObjOk H h a u
 | .tbl ps=>h.get? a=some { cls:=.none,data:=.fields ps }
 | .met f x=>h.get? a=some (PySem.W.methodObj (.ref f) (.ref x))
 | .ext φ=>φ h/\(∃ o,h.get? a=some o)/\∀ h1 h2:Heap,φ h1->(∀ o,h1.get? a=some o->h2.get? a=some o)->φ h2
def HOk(H:Hp)(h:Heap):Prop:=∀ a o,H a=some o->ObjOk P w H h a o
end
section
variable {P:Program}{w:World}{H H':Hp}{h h':Heap}{a:Addr}{o:HO}
theorem ObjOk.lt(x:ObjOk P w H h a o):a < h.objs.size:=by
 cases o with
 | lst c=>obtain⟨_,_,_,_,e⟩:=x;exact N0 e
 | tup c=>obtain⟨_,_,_,p⟩:=x;exact p.lt
 | dK b=>obtain⟨_,_,_,_,o,_,_,e,_⟩:=x;exact N0 e
 | dT b=>obtain⟨_,_,_,_,o,_,_,e,_⟩:=x;exact N0 e
 | set S n=>obtain⟨o,_,_,_,e,_⟩:=x;exact N0 e
 | ins C d fs=>obtain⟨_,_,_,e,_⟩:=x;exact N0 e
 | own y=>obtain⟨_,e⟩:=x;exact N0 e
 | xd fs=>obtain⟨_,⟨_,_,_,e,_⟩,_⟩:=x;exact N0 e
 | rng lo hi=>obtain⟨_,_,_,e⟩:=x;exact N0 e
 | frz ob u=>obtain⟨e,_⟩:=x;exact N0 e
 | tbl g=>exact N0 (show h.get? a=some _ from x)
 | met f y=>exact N0 (show h.get? a=some _ from x)
 | ext φ=>obtain⟨_,⟨_,e⟩,_⟩:=x;exact N0 e
theorem Paired.mapP:∀{l₁:List α}{l₂:List β},Paired F l₁ l₂->(∀ a b,F a b->G a b)->Paired G l₁ l₂
 | _,_,.nil,_=>.nil
 | _,_,.cons r t,f=>.cons (f _ _ r) (Paired.mapP t f)
theorem ObjOk.stay(x:ObjOk P w H h a o)(k:∀ b u,(b=a \/ H b=some (.own a))->h.get? b=some u->h'.get? b=some u)
  (D:∀ b,H b=some (.own a)->H' b=some (.own a)) (E:∀ b xs,H b=some (.tup xs)->H' b=some (.tup xs)):ObjOk P w H' h' a o:=by
 induction o with
 | lst xs=>obtain⟨z,j,n,r,e⟩:=x;exact⟨z,j,n,r,k _ _ (.inl rfl) e⟩
 | tup xs=>obtain⟨z,j,r,⟨ob,e,c⟩,l,e2,F⟩:=x;exact⟨z,j,r,⟨ob,k _ _ (.inl rfl) e,c⟩,l,k _ _ (.inl rfl) e2,F⟩
 | dK m=>obtain⟨z,y,G,r,ob,g,i,e,c⟩:=x;exact⟨z,y,G,r,ob,g,i,k _ _ (.inl rfl) e,c⟩
 | dT m =>
  obtain⟨z,y,xs,r,ob,g,i,e,c⟩:=x;exact⟨z,y,xs,Paired.mapP r λp q z=>⟨z.1,E _ _ z.2.1,z.2.2⟩,ob,g,i,k _ _ (.inl rfl) e,c⟩
 | set S n=>obtain⟨ob,g,i,t,e,c⟩:=x;exact⟨ob,g,i,t,k _ _ (.inl rfl) e,c⟩
 | ins C J fs =>
  obtain⟨d,z,ne,e,s,⟨od,g,i,e2,c⟩,r⟩:=x;exact⟨D _ d,z,ne,k _ _ (.inl rfl) e,s,⟨od,g,i,k _ _ (.inr d) e2,c⟩,r⟩
 | own y=>obtain⟨ob,e⟩:=x;exact⟨ob,k _ _ (.inl rfl) e⟩
 | xd fs=>obtain⟨s,⟨od,g,i,e,c⟩,r⟩:=x;exact⟨s,⟨od,g,i,k _ _ (.inl rfl) e,c⟩,r⟩
 | rng lo hi=>obtain⟨t,u,v,e⟩:=x;exact⟨t,u,v,k _ _ (.inl rfl) e⟩
 | frz ob u I=>obtain⟨e,q⟩:=x;exact⟨k _ _ (.inl rfl) e,I q⟩
 | tbl A =>
  have e:h.get? a=some { cls:=.none,data:=.fields A }:=x;show h'.get? a=some { cls:=.none,data:=.fields A };exact k a _ (.inl rfl) e
 | met f y =>
  have e:h.get? a=some (PySem.W.methodObj (.ref f) (.ref y)):=x;show h'.get? a=some (PySem.W.methodObj (.ref f) (.ref y));exact k a _ (.inl rfl) e
 | ext φ=>obtain⟨p,⟨o,e⟩,B⟩:=x;exact⟨B _ _ p λo q=>k _ _ (.inl rfl) q,⟨o,k _ _ (.inl rfl) e⟩,B⟩
theorem HOk.lt(x:HOk P w H h)(e:H a=some o):a < h.objs.size:=(x a o e).lt
theorem HOk.fresh(x:HOk P w H h)(e:h.objs.size<=a):H a=none:=by
 cases q:H a with
 | none=>rfl
 | some u=>exact absurd (U3 (x.lt q) e) (Nat.lt_irrefl _)
theorem HOk.kept(x:HOk P w H h)(k:∀ b u,h.get? b=some u->h'.get? b=some u):HOk P w H h':=λa o e =>
 (x a o e).stay (λb u _ q=>k b u q) (λ_ q=>q) λ_ _ q=>q
theorem HOk.laid(x:HOk P w H h)(k:∀ b u,h.get? b=some u->h'.get? b=some u)(g:h.objs.size<=a)(new:ObjOk P w (upd H a o) h' a o):HOk P w (upd H a o) h':=λb u e=>by
 have d:=x.fresh g;by_cases f:b=a
 ·subst f;rw[jr] at e;cases e;exact new
 ·rw[jf f] at e;exact(x b u e).stay (λc v _ q=>k c v q) (λc q=>by rw[jf (kf q d)];exact q) λc i q=>by rw[jf (kf q d)];exact q
end
def Rd(H:Hp)(a:Addr)(u:HO):Prop:=H a=some u \/ ∃ o,H a=some (.frz o u)
theorem Rd.ok(r:Rd H a u)(x:HOk P w H h):ObjOk P w H h a u:=by
 rcases r with r | ⟨o,r⟩
 ·exact x a u r
 ·obtain⟨_,q⟩:=x a _ r;exact q
def Mut:Option HO->Prop
 | some (.lst _)=>True
 | some (.dK _)=>True
 | some (.dT _)=>True
 | some (.set _ _)=>True
 | some (.ins _ _ _)=>True
 | some (.ext _)=>True
 | _=>False
section
variable {P:Program}{w:World}{H:Hp}{h h':Heap}{x e:Addr}{o':HO}
theorem HOk.write(ok:HOk P w H h)(g:Mut (H x))(n:e=x \/ H e=some (.own x))(k:∀ b u,b≠e->h.get? b=some u->h'.get? b=some u)(m:∃ u,h'.get? e=some u)
  (new:ObjOk P w (upd H x o') h' x o'):HOk P w (upd H x o') h':=λb u q=>by
 have d:∀ c y,H c=some (.own y)->c≠x:=λc y r z=>by subst z;rw[r] at g;exact g
 have f:∀ c i,H c=some (.tup i)->c≠x:=λc i r z=>by subst z;rw[r] at g;exact g
 by_cases j:b=x
 ·subst j;rw[jr] at q;cases q;exact new
 ·rw[jf j] at q;by_cases a:b=e
  ·have o:H b=some (.own x):=by
    rcases n with z | z
    ·exact absurd (a.trans z) j
    ·rw[a];exact z
   rw[q] at o;cases o;obtain⟨v,p⟩:=m;exact⟨v,by rw[a];exact p⟩
  ·refine(ok b u q).stay (λc v l r=>k c v ?_ r) (λc r=>by rw[jf (d c b r)];exact r) λc i r=>by rw[jf (f c i r)];exact r
   rcases l with rfl | l
   ·exact a
   ·rintro rfl;rcases n with z | z
    ·exact d c b l z
    ·rw[l] at z;cases z;exact j rfl
end
structure Un(fs ex:List Addr)(H H':Hp)(h h':Heap):Prop where
 keep:∀ b o,h.get? b=some o->H b=none->b∉fs->b∉ex->h'.get? b=some o
 slot:∀ b o,h.get? b=some o->H b=none->b∈fs->b∉ex->∃ sl,h'.get? b=some { o with slots:=sl }
 free:∀ b o,h.get? b=some o->H b=none->b∉ex->H' b=none
 there:∀ b o,h.get? b=some o->b∉ex->∃ o',h'.get? b=some o'
 tups:∀ b xs,H b=some (.tup xs)->H' b=some (.tup xs)
 frzs:∀ b o u,H b=some (.frz o u)->H' b=some (.frz o u)
 tbls:∀ b ps,H b=some (.tbl ps)->∃ more,H' b=some (.tbl (ps++more))
section
variable {fs fs' ex ex':List Addr}{H H1 H2:Hp}{h h1 h2 h':Heap}{a x e:Addr}{o:HO}
theorem Un.any(u:Un fs ex H H1 h h1)  (q:h.get? b=some ob) (n:H b=none) (a:b∉ex):∃ sl,h1.get? b=some { ob with slots:=sl }:=by
 by_cases c:b∈fs
 ·exact u.slot b ob q n c a
 ·exact⟨ob.slots,u.keep b ob q n c a⟩
theorem Un.kept(k:∀ b u,h.get? b=some u->h'.get? b=some u):Un fs ex H H h h' :=
 ⟨λb ob q _ _ _=>k b ob q,λb ob q _ _ _=>⟨ob.slots,k b ob q⟩,λ_ _ _ n _=>n,λb ob q _=>⟨ob,k b ob q⟩,λ_ _ q=>q,λ_ _ _ q=>q,λ_ a q=>⟨#[],by rw[q];simp⟩⟩
theorem Un.refl:Un fs ex H H h h:=Un.kept λ_ _ q=>q
theorem Un.laid(k:∀ b u,h.get? b=some u->h'.get? b=some u)(d:h.objs.size<=a)(c:H a=none):Un fs ex H (upd H a o) h h' where
 keep:=λb u q _ _ _=>k b u q
 slot:=λb u q _ _ _=>⟨u.slots,k b u q⟩
 free:=λb u q n _=>by rw[jf (N5 (U3 (N0 q) d))];exact n
 there:=λb u q _=>⟨u,k b u q⟩
 tups:=λb e q=>by rw[jf (kf q c)];exact q
 frzs:=λb u e q=>by rw[jf (kf q c)];exact q
 tbls:=λb f q=>⟨#[],by rw[jf (kf q c),q];simp⟩
theorem Un.write(c:Mut (H x))(j:e=x \/ H e=some (.own x))(k:∀ b u,b≠e->h.get? b=some u->h'.get? b=some u)(d:∃ u,h'.get? e=some u):Un fs ex H (upd H x o) h h':=by
 have g:∀ b,H b=none->b≠x:=λb n z=>by subst z;rw[n] at c;exact c
 have i:∀ b,H b=none->b≠e:=λb n z=>by
  subst z;rcases j with r | r
  ·exact g b n r
  ·rw[n] at r;cases r
 have f:∀ b u,H b=some u->¬ Mut (some u)->b≠x:=λb u q nm z=>by subst z;rw[q] at c;exact nm c
 refine⟨λb u q n _ _=>k b u (i b n) q,λb u q n _ _=>⟨u.slots,k b u (i b n) q⟩,λb u q n _=>by rw[jf (g b n)];exact n,λb u q _=>?_,
  λb l q=>by rw[jf (f b _ q λz=>z)];exact q,λb u l q=>by rw[jf (f b _ q λz=>z)];exact q,λb m q=>⟨#[],by rw[jf (f b _ q λz=>z),q];simp⟩⟩
 by_cases a:b=e
 ·subst a;exact d
 ·exact⟨u,k b u a q⟩
end
noncomputable def trk(h:Heap)(H:Hp):List Addr:=(List.range h.objs.size).filter λa=>(H a).isSome
def jc0(h:Heap)(H:Hp):Heap:=PySem.W.hideAll h (trk h H)
theorem uJ(h:Heap)(H:Hp):(jc0 h H).objs.size=h.objs.size:=PySem.W.hideAll_size _ _
theorem jdE(e:h.get? b=some o)(n:H b=none):(jc0 h H).get? b=some o :=
 PySem.W.hideAll_get _ e λa=>by
  have q:(H b).isSome=true:=(List.mem_filter.mp a).2;rw[n] at q;simp at q
theorem jfi(e:(jc0 h H).get? b=some o):h.get? b=some o/\H b=none:=by
 have a:h.get? b=some o:=PySem.W.of_hideAll (trk h H) e;refine⟨a,?_⟩;cases q:H b with
 | none=>rfl
 | some x =>
  have c:b∈trk h H:=List.mem_filter.mpr ⟨List.mem_range.mpr (N0 a),by simp[q]⟩;have z:(jc0 h H).get? b=none:=PySem.W.hideAll_none (trk h H) c;rw[z] at e;cases e
noncomputable def jfM(g h:Heap)(L:Addr):List (Addr×Obj):=(List.range h.objs.size).filterMap λa=>if a=L \/ (g.get? a).isSome=true then none else(h.get? a).map λo=>(a,o)
def rest(g h:Heap)(L d:Addr):List (Addr×Obj):=(jfM g h L).filter λp=>decide (p.1≠d)
structure Mod(K:PySem.W.Frag)(mg:Str->Option Value)(base:Heap):Prop where
 kin:K.In base
 glob:base.Ns mainGlobals mg
 blt:∃ mb,base.Ns builtinsNs mb/\∀ x:Str,x≠"__name__"->mb x=bootBuiltins x
 nolimit:base.NoLimit
structure Cx where
 prog:Program
 w:World
 K:PySem.W.Frag
 mg:Str->Option Value
 base:Heap
 A:Around
 N:List Str
 s₀:Shared
 H₀:Hp
 env:Env
 outer:List Env
 stack:List Env
 ex:List Addr
 fn:Str->Bool
 calm:Bool
 pn:List (Addr×Obj)
 xe:Value->Shared->Prop
noncomputable def frs(l:List Env):List Addr:=l.filterMap (·.frame)
abbrev Cx.fs(X:Cx):List Addr:=frs X.outer
def Vis(sc:Scope)(x:Str):Prop:=sc.names.lookup x=some .local \/ sc.names.lookup x=some .cell \/ sc.names.lookup x=some .free
def Loc(sc:Scope)(x:Str):Prop:=sc.names.lookup x=some .local \/ sc.names.lookup x=some .cell
def jl4(env:Env)(h:Heap)(m:Str->Option Value)(x:Str)(u:Value):Prop :=
 (env.kindOf x=some .local/\m x=some u) \/ ((env.kindOf x=some .cell \/ env.kindOf x=some .free)/\∃ c,env.cells.lookup x=some c/\h.IsCell c (some u))
structure Cx.Ok(X:Cx):Prop where
 mod:Mod X.K X.mg X.base
 kind:X.env.scope.kind=.function
 glob:X.env.globals=mainGlobals
 blt:X.env.builtins=builtinsNs
 above:X.s₀.heap.objs.size<=X.env.locals
 inj:∀ x y c,X.env.cells.lookup x=some c->X.env.cells.lookup y=some c->x=y
 has:∀ x,(X.env.kindOf x=some .cell \/ X.env.kindOf x=some .free)->∃ c,X.env.cells.lookup x=some c
 cab:∀ x c,X.fn x=true->X.env.cells.lookup x=some c->X.s₀.heap.objs.size<=c
 hd:X.calm=true->X.A.handled=none
 frames:X.A.frames=some X.stack
 stk:X.stack=X.outer \/ (X.stack=X.env::X.outer/\X.env.frame=some X.env.locals)
 exf:∀ b∈X.ex,b≠X.env.locals/\∀ x c,X.env.cells.lookup x=some c->c≠b
 bs:∀ b o,X.base.get? b=some o->X.s₀.heap.get? b=some o/\X.H₀ b=none
 bsz:X.base.objs.size<=X.s₀.heap.objs.size
 noex:∀ b o,X.base.get? b=some o->b∉X.ex
 exfs:∀ b∈X.ex,b∉X.fs
 funs:X.s₀.heap.FunFrames X.base X.outer
 frf:∀ b∈X.fs,X.H₀ b=none
structure Inv(X:Cx)(pins:List (Addr×Obj))(σ:List (Option V))(H:Hp)(s:Shared):Prop where
 ok:X.Ok
 os:s.os=X.s₀.os
 bare:AllBare s.gens
 base:Un X.fs X.ex X.H₀ H X.s₀.heap s.heap
 loc:∃ m,s.heap.Ns X.env.locals m/\∀(i:Nat) (x:Str) (v:V),X.N[i]?=some x->σ[i]?=some (some v)->Vis X.env.scope x->∃ u,RelV v u/\jl4 X.env s.heap m x u
 cell:∀ x c,X.env.cells.lookup x=some c->∃ v,s.heap.IsCell c v
 free:H X.env.locals=none
 freeC:∀ x c,X.env.cells.lookup x=some c->H c=none
 pin:∀ p∈X.pn++pins,s.heap.get? p.1=some p.2/\H p.1=none/\p.1≠X.env.locals/\p.1∉X.fs/\∀ v,p.2.data≠.cell v
 hok:HOk X.prog X.w H s.heap
 len:σ.length=X.N.length
section
variable {X:Cx}{pins:List (Addr×Obj)}{σ:List (Option V)}{H H':Hp}{s:Shared}{h':Heap}
theorem Cx.Ok.nofr(ok:X.Ok)  {o:Obj}(e:X.base.get? b=some o):b∉X.fs:=λa=>by
 have:=(ok.funs.mem a).1;rw[e] at this;cases this
theorem Inv.bs(I:Inv X pins σ H s):∀ b o,X.base.get? b=some o->s.heap.get? b=some o/\H b=none:=λb o e =>
 ⟨I.base.keep b o (I.ok.bs b o e).1 (I.ok.bs b o e).2 (I.ok.nofr e) (I.ok.noex b o e),I.base.free b o (I.ok.bs b o e).1 (I.ok.bs b o e).2 (I.ok.noex b o e)⟩
theorem Inv.bk(I:Inv X pins σ H s):∀ b o,X.base.get? b=some o->s.heap.get? b=some o:=λb o e=>(I.bs b o e).1
theorem Inv.mod(I:Inv X pins σ H s):Mod X.K X.mg X.base:=I.ok.mod
theorem Inv.kIn(I:Inv X pins σ H s):X.K.In s.heap:=I.ok.mod.kin.keeps I.bk
theorem Inv.lt(I:Inv X pins σ H s):X.env.locals < s.heap.objs.size:=let ⟨_,hn,_⟩:=I.loc;hn.lt
theorem Inv.sz(I:Inv X pins σ H s):X.s₀.heap.objs.size<=s.heap.objs.size:=N6 I.ok.above (Nat.le_of_lt I.lt)
theorem Inv.nofs(I:Inv X pins σ H s)  (h:s.heap.objs.size<=a):a∉X.fs:=λb=>by
 obtain⟨_,o,c,_⟩:=I.ok.funs.mem b;exact absurd (U3 (N0 c) (N6 I.sz h)) (Nat.lt_irrefl _)
theorem Inv.cne(I:Inv X pins σ H s):∀ x c,X.env.cells.lookup x=some c->c≠X.env.locals:=λx c e z=>by
 obtain⟨v,o,d,hd⟩:=I.cell x c e;obtain⟨m,⟨f,g,h,a,b,_⟩,_⟩:=I.loc;rw[z,a] at d;cases d;rw[b] at hd;cases hd
theorem Inv.funs(I:Inv X pins σ H s):s.heap.FunFrames X.base X.outer:=by
 have all:∀(l:List Env),(∀ b∈frs l,b∈X.fs)->X.s₀.heap.FunFrames X.base l->s.heap.FunFrames X.base l:=by
  intro l
  induction l with
  | nil=>intro _ _;trivial
  | cons env r g =>
   intro f h;obtain⟨i,⟨L,o,a,j,k,hd⟩,m⟩:=h;have c:L∈X.fs:=f L (by unfold frs;rw[List.filterMap_cons,a];exact L6);obtain⟨n,e⟩:=I.base.slot L o k (I.ok.frf L c) c λz=>I.ok.exfs L z c;exact⟨i,⟨L,_,a,j,e,hd⟩,g (λb d=>f b (by unfold frs;rw[List.filterMap_cons,a];exact L5 _ d)) m⟩
 exact all X.outer (λ_ d=>d) I.ok.funs
theorem Inv.stack(I:Inv X pins σ H s):s.heap.FunFrames X.base X.stack:=by
 rcases I.ok.stk with e | ⟨e,a⟩
 ·rw[e];exact I.funs
 ·rw[e];obtain⟨m,b,_⟩:=I.loc;refine .cons (by rw[I.ok.kind];decide) a b ?_ I.funs;exact Heap.get?_none_of_le (N6 I.ok.bsz I.ok.above)
theorem Inv.stkSub(I:Inv X pins σ H s):∀ b∈frs X.stack,b∈X.env.locals::X.fs:=λb a=>by
 rcases I.ok.stk with e | ⟨e,c⟩
 ·rw[e] at a;exact L5 _ a
 ·rw[e] at a;unfold frs at a;rw[List.filterMap_cons,c] at a;exact a
theorem Inv.stkFree(I:Inv X pins σ H s):∀ b∈frs X.stack,H b=none:=λb a=>by
 rcases M4.mp (I.stkSub b a) with e | a
 ·rw[e];exact I.free
 ·obtain⟨_,o,c,_⟩:=I.ok.funs.mem a;exact I.base.free b o c (I.ok.frf b a) λz=>I.ok.exfs b z a
theorem Inv.step{g':Array GenState}{t':Nat}{ch:List Addr}(I:Inv X pins σ H s)
  (f:∀ b∈ch,(b∈X.ex \/ X.s₀.heap.objs.size<=b)/\b≠X.env.locals/\(∀ x c,X.env.cells.lookup x=some c->c≠b)/\∀ p∈X.pn++pins,p.1≠b)
  (keep:∀ b o,b≠X.env.locals->b∉X.fs->b∉ch->s.heap.get? b=some o->H b=none->h'.get? b=some o)
  (slot:∀ b o,b≠X.env.locals->b∈X.fs->b∉ch->s.heap.get? b=some o->H b=none->∃ sl,h'.get? b=some { o with slots:=sl }) (free:∀ b o,b∉ch->s.heap.get? b=some o->H b=none->H' b=none)
  (there:∀ b o,b∉ch->s.heap.get? b=some o->∃ o',h'.get? b=some o')
  (tups:∀ b xs,H b=some (.tup xs)->H' b=some (.tup xs)) (frzs:∀ b o u,H b=some (.frz o u)->H' b=some (.frz o u)) (tbls:∀ b ps,H b=some (.tbl ps)->∃ more,H' b=some (.tbl (ps++more)))
  (ns:∀ m,s.heap.Ns X.env.locals m->h'.Ns X.env.locals m) (hok:HOk X.prog X.w H' h') (G:AllBare g') :
  Inv X pins σ H' { s with heap:=h',gens:=g',drawn:=d',toks:=t' }:=by
 have B:∀ b o,X.s₀.heap.get? b=some o->b≠X.env.locals:=λb o e=>N5 (U3 (N0 e) I.ok.above);have j:∀ b o,X.s₀.heap.get? b=some o->b∉X.ex->b∉ch:=λb o e a y=>by
  rcases(f b y).1 with z | z
  ·exact a z
  ·exact absurd (U3 (N0 e) z) (Nat.lt_irrefl _)
 have g:∀ x c,X.env.cells.lookup x=some c->∀ v,s.heap.IsCell c v->h'.IsCell c v:=λx c e v ⟨o,A,hd⟩=>by
  have h:c∉ch:=λz=>(f c z).2.2.1 x c e rfl;by_cases D:c∈X.fs
  ·obtain⟨sl,q⟩:=slot c o (I.cne x c e) D h A (I.freeC x c e);exact⟨_,q,hd⟩
  ·exact⟨o,keep c o (I.cne x c e) D h A (I.freeC x c e),hd⟩
 refine⟨I.ok,I.os,G,⟨λb o e n y a=>?_,λb o e n y a=>?_,λb o e n a=>?_,λb o e a=>?_,λb xs e=>tups b xs (I.base.tups b xs e),λb o xs e=>frzs b o xs (I.base.frzs b o xs e),λb ps e=>?_⟩,?_,λx c e=>?_,?_,λx c e=>?_,λp E=>?_,hok,I.len⟩
 ·exact keep b o (B b o e) y (j b o e a) (I.base.keep b o e n y a) (I.base.free b o e n a)
 ·obtain⟨sl,t⟩:=I.base.slot b o e n y a;obtain⟨C,e2⟩:=slot b _ (B b o e) y (j b o e a) t (I.base.free b o e n a);exact⟨C,e2⟩
 ·obtain⟨o',t⟩:=I.base.there b o e a;exact free b o' (j b o e a) t (I.base.free b o e n a)
 ·obtain⟨o',t⟩:=I.base.there b o e a;exact there b o' (j b o e a) t
 ·obtain⟨J,t⟩:=I.base.tbls b ps e;obtain⟨K,e2⟩:=tbls b _ t;exact⟨J++K,by rw[e2,Array.append_assoc]⟩
 ·obtain⟨m,L,M⟩:=I.loc;refine⟨m,ns m L,λi x v t e2 e3=>?_⟩;obtain⟨u,r,l⟩:=M i x v t e2 e3;refine⟨u,r,?_⟩;rcases l with l | ⟨k,c,e,z⟩
  ·exact .inl l
  ·exact .inr ⟨k,c,e,g x c e _ z⟩
 ·obtain⟨v,z⟩:=I.cell x c e;exact⟨v,g x c e v z⟩
 ·obtain⟨m,⟨o,_,_,A,_⟩,_⟩:=I.loc;exact free _ o (λz=>(f _ z).2.1 rfl) A I.free
 ·obtain⟨v,o,A,hd⟩:=I.cell x c e;exact free c o (λz=>(f c z).2.2.1 x c e rfl) A (I.freeC x c e)
 ·obtain⟨e,n,ne,F,d⟩:=I.pin p E;have h:p.1∉ch:=λz=>(f p.1 z).2.2.2 p E rfl;exact⟨keep p.1 p.2 ne F h e n,free p.1 p.2 h e n,ne,F,d⟩
theorem Inv.un{t':Nat}(I:Inv X pins σ H s)(u:Un X.fs [] H H' s.heap h')(hok:HOk X.prog X.w H' h'):Inv X pins σ H' { s with heap:=h',toks:=t' }:=by
 obtain⟨m,⟨o,k,l,g,r⟩,_⟩:=id I.loc;obtain⟨p,h⟩:=u.any g I.free (by simp);exact I.step (g':=s.gens) (d':=s.drawn) (ch:=[]) (λ_ z=>nomatch z) (λb o _ c _ e n=>u.keep b o e n c (by simp)) (λb o _ c _ e n=>u.slot b o e n c (by simp)) (λb o _ e n=>u.free b o e n (by simp)) (λb o _ e=>u.there b o e (by simp)) u.tups u.frzs u.tbls (λq i=>by
  obtain⟨t,d,f,a,j⟩:=i;rw[g] at a;cases a;exact⟨_,d,f,h,j⟩) hok I.bare
theorem Inv.call{g':Array GenState}{t':Nat}{ch:List Addr}(I:Inv X pins σ H s)(u:Un (frs X.stack) ch H H' s.heap h')(hok:HOk X.prog X.w H' h')(k:AllBare g')
  (d:∀ b∈ch,(b∈X.ex \/ X.s₀.heap.objs.size<=b)/\b≠X.env.locals/\(∀ x c,X.env.cells.lookup x=some c->c≠b)/\∀ p∈X.pn++pins,p.1≠b) :
  Inv X pins σ H' { s with heap:=h',gens:=g',drawn:=d',toks:=t' }:=by
 obtain⟨m,⟨o,v,y,j,r⟩,_⟩:=id I.loc;obtain⟨A,g⟩:=u.any j I.free λz=>(d _ z).2.1 rfl;exact I.step (ch:=ch) d (λb o g l a e n=>u.keep b o e n (λz=>(M4.mp (I.stkSub b z)).elim g l) a) (λb o _ _ a e n=>u.any e n a) (λb o a e n=>u.free b o e n a) (λb o a e=>u.there b o e a) u.tups u.frzs u.tbls (λB q=>by
  obtain⟨C,h,i,f,t⟩:=q;rw[j] at f;cases f;exact⟨_,h,i,g,t⟩) hok k
theorem Inv.turned{t':Nat}(I:Inv X pins σ H s)(k:∀ b o,b≠it->s.heap.get? b=some o->h'.get? b=some o)(g:H it=none)(f:it≠X.env.locals)
  (h1:it∈X.ex \/ X.s₀.heap.objs.size<=it) (h2:∀ x c,X.env.cells.lookup x=some c->c≠it) (h:∀ p∈X.pn++pins,p.1≠it):Inv X pins σ H { s with heap:=h',toks:=t' }:=by
 have d:∀ b u,H b=some u->b≠it:=λb u e z=>by rw[z,g] at e;cases e
 refine I.step (g':=s.gens) (d':=s.drawn) (ch:=[it]) (λb i=>?_) (λb o _ _ a e _=>k b o (λz=>a (by simp[z])) e) (λb o _ _ a e _=>⟨o.slots,k b o (λz=>a (by simp[z])) e⟩) (λ_ _ _ _ n=>n)
  (λb o a e=>⟨o,k b o (λz=>a (by simp[z])) e⟩) (λ_ _ e=>e) (λ_ _ _ e=>e) (λb y e=>⟨#[],by rw[e];simp⟩) (λm j=>?_) (λb u e=>?_) I.bare
 ·have e:b=it:=by simpa using i
  subst e;exact⟨h1,f,h2,h⟩
 ·obtain⟨o,l,t,w,r⟩:=j;exact⟨o,l,t,k _ o (Ne.symm f) w,r⟩
 ·refine(I.hok b u e).stay (λc v a q=>k c v ?_ q) (λ_ q=>q) λ_ _ q=>q;rcases a with z | z
  ·rw[z];exact d b u e
  ·exact d c _ z
theorem Inv.tok(I:Inv X pins σ H s)(t:Nat):Inv X pins σ H { s with toks:=t }:=I.un (h':=s.heap) (t':=t) Un.refl I.hok
theorem Inv.kept(I:Inv X pins σ H s)(k:∀ b u,s.heap.get? b=some u->h'.get? b=some u):Inv X pins σ H { s with heap:=h',toks:=t' }:=I.un (Un.kept k) (I.hok.kept k)
theorem Inv.laid(I:Inv X pins σ H s)(k:∀ b u,s.heap.get? b=some u->h'.get? b=some u)(c:s.heap.objs.size<=a)(new:ObjOk X.prog X.w (upd H a o) h' a o) :
  Inv X pins σ (upd H a o) { s with heap:=h',toks:=t' }:=I.un (Un.laid k c (I.hok.fresh c)) (I.hok.laid k c new)
theorem Inv.write(I:Inv X pins σ H s)(c:Mut (H x))(d:e=x \/ H e=some (.own x))(k:∀ b u,b≠e->s.heap.get? b=some u->h'.get? b=some u)(a:∃ u,h'.get? e=some u)
  (new:ObjOk X.prog X.w (upd H x o) h' x o):Inv X pins σ (upd H x o) { s with heap:=h',toks:=t' }:=I.un (Un.write c d k a) (I.hok.write c d k a new)
theorem Inv.pins_of(I:Inv X pins σ H s)(h:∀ p∈pins',s.heap.get? p.1=some p.2/\H p.1=none/\p.1≠X.env.locals/\p.1∉X.fs/\∀ v,p.2.data≠.cell v):Inv X pins' σ H s :=
 ⟨I.ok,I.os,I.bare,I.base,I.loc,I.cell,I.free,I.freeC,λp a=>(N1.mp a).elim (λz=>I.pin p (List.mem_append_left _ z)) (h p),I.hok,I.len⟩
theorem xw{N:List Str}(c:N.Nodup){i j:Nat}(a:N[i]?=some x)(b:N[j]?=some x):i=j:=by
 obtain⟨e,d⟩:=L8.mp a;obtain⟨f,e2⟩:=L8.mp b;exact(List.getElem_inj c).mp (d.trans e2.symm)
theorem jbF(I:Inv X pins σ H s)(hN:X.N.Nodup)(hi:X.N[i]?=some x)(B:Loc X.env.scope x)(r:RelV v u)
  (h:∀ s',Inv X pins (σ.set i (some v)) H s'->(∃ a,Heap.SameBut a s.heap s'.heap/\(a=X.env.locals \/ X.env.cells.lookup x=some a))->Q () s') (hf:X.fn x=true \/ X.env.scope.names.lookup x=some .local:=by first | exact .inl rfl | exact .inr rfl | assumption):wpAny M A (storeName X.env x u) Q E s:=by
 obtain⟨m,W,hl⟩:=id I.loc;have L:(X.env.scope.kind==.class||(X.env.scope.kind==.module&&X.env.locals != X.env.globals))=false:=by rw[I.ok.kind];rfl
 have O:i < σ.length:=by rw[I.len];exact(L8.mp hi).1
 have cne:=I.cne;have g:∀{a:Addr}{K:Heap},(∃ o,s.heap.get? a=some o/\H a=none)->Heap.SameBut a s.heap K->HOk X.prog X.w H K:=λ{a K} ha f b ob e=>by
  obtain⟨_,_,C⟩:=ha;refine(I.hok b ob e).stay (λc U t q=>(f.2 c ?_).trans q) (λ_ q=>q) λ_ _ q=>q;rintro rfl;rcases t with rfl | t
  ·rw[C] at e;cases e
  ·rw[C] at t;cases t
 rcases B with D | D
 ·refine wpAny_storeName_local D W (λK Y f=>?_) L;obtain⟨oL,_,_,Z,_⟩:=id W;refine h _ ⟨I.ok,I.os,I.bare,⟨λb o e n F B=>?_,λb o e n F B=>?_,I.base.free,λb o e B=>?_,I.base.tups,I.base.frzs,I.base.tbls⟩,⟨_,Y,λj y v' l e2 e3=>?_⟩,λy c e=>?_,I.free,I.freeC,λp hp=>?_,g ⟨oL,Z,I.free⟩ f,by simpa using I.len⟩ ⟨_,f,.inl rfl⟩
  ·exact(f.2 b (N5 (U3 (N0 e) I.ok.above))).trans (I.base.keep b o e n F B)
  ·obtain⟨sl,l⟩:=I.base.slot b o e n F B;exact⟨sl,(f.2 b (N5 (U3 (N0 e) I.ok.above))).trans l⟩
  ·obtain⟨o',l⟩:=I.base.there b o e B;exact⟨o',(f.2 b (N5 (U3 (N0 e) I.ok.above))).trans l⟩
  ·by_cases G:j=i
   ·subst G;rw[hi] at l;cases l;rw[List.getElem?_set_self O] at e2;cases e2;exact⟨u,r,.inl ⟨D,by simp⟩⟩
   ·rw[List.getElem?_set_ne (Ne.symm G)] at e2;obtain⟨u',r',q⟩:=hl j y v' l e2 e3;refine⟨u',r',?_⟩;rcases q with⟨k,e⟩ | ⟨k,c,e,z⟩
    ·refine .inl ⟨k,?_⟩;have:y≠x:=λe=>G (xw hN l (e▸hi));simp[this,e]
    ·exact .inr ⟨k,c,e,z.sameBut f (cne y c e)⟩
  ·obtain⟨U,z⟩:=I.cell y c e;exact⟨U,z.sameBut f (cne y c e)⟩
  ·obtain⟨e,n,ne,nf,d⟩:=I.pin p hp;exact⟨(f.2 p.1 ne).trans e,n,ne,nf,d⟩
 ·have J:X.fn x=true:=by
   rcases hf with z | z
   ·exact z
   ·rw[z] at D;cases D
  obtain⟨c,t⟩:=I.ok.has x (.inl D);obtain⟨U,z⟩:=I.cell x c t;refine wpAny_storeName_cell I.ok.kind D t z (λK P f=>?_);obtain⟨oc,R,S⟩:=id z;refine h { s with heap:=K } ⟨I.ok,I.os,I.bare,⟨λb o e n F B=>?_,λb o e n F B=>?_,I.base.free,λb o e B=>?_,I.base.tups,I.base.frzs,I.base.tbls⟩,⟨m,W.sameBut f (Ne.symm (cne x c t)),λj y v' l e2 e3=>?_⟩,λy V e=>?_,I.free,I.freeC,λp hp=>?_,g ⟨oc,R,I.freeC x c t⟩ f,by simpa using I.len⟩ ⟨c,f,.inr t⟩
  ·exact(f.2 b (N5 (U3 (N0 e) (I.ok.cab x c J t)))).trans (I.base.keep b o e n F B)
  ·obtain⟨sl,l⟩:=I.base.slot b o e n F B;exact⟨sl,(f.2 b (N5 (U3 (N0 e) (I.ok.cab x c J t)))).trans l⟩
  ·obtain⟨o',l⟩:=I.base.there b o e B;exact⟨o',(f.2 b (N5 (U3 (N0 e) (I.ok.cab x c J t)))).trans l⟩
  ·by_cases G:j=i
   ·subst G;rw[hi] at l;cases l;rw[List.getElem?_set_self O] at e2;cases e2;exact⟨u,r,.inr ⟨.inl D,c,t,P⟩⟩
   ·rw[List.getElem?_set_ne (Ne.symm G)] at e2;obtain⟨u',r',q⟩:=hl j y v' l e2 e3;refine⟨u',r',?_⟩;rcases q with q | ⟨k,V,e,z'⟩
    ·exact .inl q
    ·refine .inr ⟨k,V,e,z'.sameBut f ?_⟩;rintro rfl;exact G (xw hN l (I.ok.inj _ _ _ e t▸hi))
  ·by_cases T:V=c
   ·subst T;exact⟨_,P⟩
   ·obtain⟨w2,z2⟩:=I.cell y V e;exact⟨w2,z2.sameBut f T⟩
  ·obtain⟨e,n,ne,nf,d⟩:=I.pin p hp;refine⟨(f.2 p.1 ?_).trans e,n,ne,nf,d⟩;intro q;rw[q,R] at e;have q':oc=p.2:=X7 e;exact d U (by rw[<- q'];exact S)
theorem Yb(I:Inv X pins σ H s)(a:X.N.Nodup)(hi:X.N[i]?=some x)(b:Loc X.env.scope x)(r:RelV v u)
  (h:∀ s',Inv X pins (σ.set i (some v)) H s'->Q () s') (c:X.fn x=true \/ X.env.scope.names.lookup x=some .local:=by first | exact .inl rfl | exact .inr rfl | assumption):wpAny M A (storeName X.env x u) Q E s :=
 jbF I a hi b r (λs' d _=>h s' d) c
end
abbrev XK:=Value->Option Addr->Hp->Prop
noncomputable abbrev St:=List (Option V)
abbrev VK:=V->Hp->Prop
abbrev TE:=St->Hp->VK->Prop
abbrev TT:=St->Hp->(Bool->Hp->Prop)->Prop
abbrev TA:=St->Hp->(List V->Hp->Prop)->Prop
structure Ends where
 nx:St->Hp->Prop
 rt:VK
 bk:St->Hp->Prop:=λ_ _=>False
 ct:St->Hp->Prop:=λ_ _=>False
abbrev TS:=Ends->St->Hp->Prop
def EP(X:Cx)(pins:List (Addr×Obj))(σ:St)(Q:VK)(u:Value)(s':Shared):Prop:=∃ v H',Inv X pins σ H' s'/\RelV v u/\Q v H'
def TP(X:Cx)(pins:List (Addr×Obj))(σ:St)(Q:Bool->Hp->Prop)(b:Bool)(s':Shared):Prop:=∃ H',Inv X pins σ H' s'/\Q b H'
def AP(X:Cx)(pins:List (Addr×Obj))(σ:St)(Q:List V->Hp->Prop)(us:List Value)(s':Shared):Prop:=∃ vs H',Inv X pins σ H' s'/\Vals vs us/\Q vs H'
def SP(X:Cx)(pins:List (Addr×Obj))(D:Ends)(f:Flow)(s':Shared):Prop :=
 match f with
 | .next=>∃ σ' H',Inv X pins σ' H' s'/\D.nx σ' H'
 | .brk=>∃ σ' H',Inv X pins σ' H' s'/\D.bk σ' H'
 | .cont=>∃ σ' H',Inv X pins σ' H' s'/\D.ct σ' H'
 | .ret u=>∃ v σ' H',Inv X pins σ' H' s'/\RelV v u/\D.rt v H'
def PE(X:Cx)(e:Expr)(t:TE):Prop :=
 ∀(pins:List (Addr×Obj)) (s:Shared) (σ:St) (H:Hp) (Q:VK),Inv X pins σ H s->t σ H Q->wpAny (model X.prog X.w) X.A (eval e X.env) (EP X pins σ Q) X.xe s
def PT(X:Cx)(e:Expr)(t:TT):Prop :=
 ∀(pins:List (Addr×Obj)) (s:Shared) (σ:St) (H:Hp) (Q:Bool->Hp->Prop),Inv X pins σ H s->t σ H Q->wpAny (model X.prog X.w) X.A (isTrue e X.env (eval e X.env)) (TP X pins σ Q) X.xe s
def PW(X:Cx)(e:Expr)(t:TT):Prop :=
 ∀(whole:Sem Value) (pins:List (Addr×Obj)) (s:Shared) (σ:St) (H:Hp) (Q:Bool->Hp->Prop),Inv X pins σ H s->t σ H Q->wpAny (model X.prog X.w) X.A (isTrue e X.env whole) (TP X pins σ Q) X.xe s
theorem PW.pt(h:PW X e t):PT X e t:=h _
def PA(X:Cx)(es:List Expr)(t:TA):Prop :=
 ∀(pos:Pos) (pins:List (Addr×Obj)) (s:Shared) (σ:St) (H:Hp) (Q:List V->Hp->Prop),Inv X pins σ H s->t σ H Q->wpAny (model X.prog X.w) X.A (spliced (backTo pos (starEach es X.env))) (AP X pins σ Q) X.xe s
def PS(X:Cx)(st:Stmt)(t:TS):Prop :=
 ∀(pins:List (Addr×Obj)) (s:Shared) (σ:St) (H:Hp) (D:Ends),Inv X pins σ H s->t D σ H->wpAny (model X.prog X.w) X.A (exec st X.env) (SP X pins D) X.xe s
def PSs(X:Cx)(st:List Stmt)(t:TS):Prop :=
 ∀(pins:List (Addr×Obj)) (s:Shared) (σ:St) (H:Hp) (D:Ends),Inv X pins σ H s->t D σ H->wpAny (model X.prog X.w) X.A (execs st X.env) (SP X pins D) X.xe s
theorem thn(h:wpAny M A t Q E s)(b:∀ a s,Q a s->Q' a s):wpAny M A t Q' E s:=wpAny_mono h b λ_ _ x=>x
section
variable {X:Cx}
noncomputable def kX(i:Nat):TE:=λσ H Q=>∃ v,σ[i]?=some (some v)/\Q v H
noncomputable def tC(v:V):TE:=λ_ H Q=>Q v H
theorem jej(k:X.N[i]?=some x)(n:Vis X.env.scope x)(hd:(x==("__debug__" : Str))=false:=by decide)(g:(x==("__classdict__" : Str))=false:=by decide):PE X (.Name x pos) (kX i):=by
 intro f s σ H Q I h;obtain⟨v,e,h⟩:=h;obtain⟨m,o,p⟩:=I.loc;obtain⟨u,r,l⟩:=p i x v k e n;have b:EP X f σ Q u s:=⟨v,H,I,r,h⟩;rcases l with⟨d,q⟩ | ⟨d,c,j,a⟩
 ·exact wpAny_Name (wpAny_loadName_local I.ok.kind d o q b) hd
 ·rcases d with d | d
  ·exact wpAny_Name (wpAny_loadName_cell I.ok.kind d j a b) hd
  ·exact wpAny_Name (wpAny_loadName_free I.ok.kind d j a b g) hd
theorem jdS{i j pos}:PE X (.Constant (.int i) j pos) (tC (.int i)):=λ_ _ _ H _ I h=>wpAny_Constant_int ⟨.int i,H,I.tok _,⟨_,rfl⟩,h⟩
theorem jkC{b j pos}:PE X (.Constant (.bool b) j pos) (tC (.bl b)):=λ_ _ _ H _ I h=>Constant_bool ⟨.bl b,H,I,rfl,h⟩
theorem jhI{j pos}:PE X (.Constant .none j pos) (tC .non):=λ_ _ _ H _ I h=>Constant_none ⟨.non,H,I,rfl,h⟩
theorem jhE{x j pos}:PE X (.Constant (.str x) j pos) (tC (.str x)):=λ_ _ _ H _ I h=>Calls.Constant_str ⟨.str x,H,I.tok _,⟨_,rfl⟩,h⟩
def Gl(X:Cx)(x:Str):Prop:=X.env.kindOf x=some .globalImplicit
theorem uU(I:Inv X pins σ H s)(a:Gl X x)(b:X.mg x=some u)(h:Q u s)
  (hd:(x==("__debug__" : Str))=false:=by decide):wpAny (model X.prog X.w) X.A (eval (.Name x pos) X.env) Q E s :=
 Calls.Name_function_global I.ok.kind a (Calls.loadGlobal_global (by rw[I.ok.glob];exact I.mod.glob.keeps I.bk) b h) hd
theorem JY(I:Inv X pins σ H s)(a:Gl X x)(b:X.mg x=none)(c:bootBuiltins x=some u)(h:Q u s)
  (d:x≠"__name__":=by decide) (hd:(x==("__debug__" : Str))=false:=by decide):wpAny (model X.prog X.w) X.A (eval (.Name x pos) X.env) Q E s:=by
 obtain⟨g,e,f⟩:=I.mod.blt;exact Calls.Name_function_global I.ok.kind a (Calls.loadGlobal_builtin (by rw[I.ok.glob];exact I.mod.glob.keeps I.bk) b (by rw[I.ok.blt];exact e.keeps I.bk) ((f x d).trans c) h) hd
theorem jgL(a:Gl X x)(b:X.mg x=none)(c:bootBuiltins x=some u)(r:RelV v u)(d:x≠"__name__":=by decide)(hd:(x==("__debug__" : Str))=false:=by decide):PE X (.Name x pos) (tC v) :=
 λ_ _ _ H _ I h=>JY I a b c ⟨v,H,I,r,h⟩ d hd
variable {a b:Expr}{ta tb:TE}{pos:Pos}
def PC(X:Cx)(op:CmpOp)(a b:Expr)(t:TE):Prop :=
 ∀(pins:List (Addr×Obj)) (s:Shared) (σ:St) (H:Hp) (Q:VK),Inv X pins σ H s->t σ H Q ->
  wpAny (model X.prog X.w) X.A (eval a X.env) (λv s₁=>wpAny (model X.prog X.w) X.A (eval b X.env) (λu s₂=>wpAny (model X.prog X.w) X.A (compareOp op v u) (EP X pins σ Q) X.xe s₂) X.xe s₁) X.xe s
theorem jcC(b:Expr)  (h:op≠.In) (h2:op≠.NotIn):behindInMarks op b=false:=by
 have a:(op==CmpOp.In)=false:=by cases op<;>first | rfl | exact absurd rfl h
 have e2:(op==CmpOp.NotIn)=false:=by cases op<;>first | rfl | exact absurd rfl h2
 cases b<;>simp[behindInMarks,a,e2]
noncomputable def tB(t:TE):TT:=λσ H Q=>t σ H λx H1=>∃ c,x=.bl c/\Q c H1
theorem jjE(h:PC X op a b t)(h1:behindInMarks op b=false:=by first | exact jcC _ (by decide) (by decide) | rfl):PE X (.Compare a [op] [b] pos) t:=λc s σ H Q I d=>wpAny_Compare1 (h c s σ H Q I d) h1
theorem jiq(h:PE X e t)(b:∀ whole,isTrue e X.env whole=(do let v <- whole;standAt e.pos;holding [v] (truthy v)):=by intro _;rfl):PT X e (tB t):=by
 intro a s σ H Q I c;refine isTrue_plain (thn (h a s σ H _ I c) λv s1 ⟨x,f,g,i,j⟩=>?_) (b _);obtain⟨d,rfl,q⟩:=j;cases i;exact wpAny_truthy_bool ⟨f,g,q⟩
variable {tA tB':TT}{rest:List Expr}
noncomputable def jkK(t u:TT):TT:=λσ H Q=>t σ H λc H1=>if c=true then u σ H1 Q else Q false H1
noncomputable def jly(t:TT):TT:=λσ H Q=>t σ H λc H1=>Q (!c) H1
theorem jfT(d:PT X a tA):PW X (.BoolOp .And [a] pos) tA:=by
 intro f b s σ H Q I h;refine isTrue_and (thn (d b s σ H Q I h) λc s1 e=>?_);cases c with
 | true=>exact isTrue_and_nil e
 | false=>exact e
theorem jjI(i:PT X a tA)(j:PW X (.BoolOp .And (b::rest) pos) tB'):PW X (.BoolOp .And (a::b::rest) pos) (jkK tA tB'):=by
 intro k d s σ H Q I h;refine isTrue_and (thn (i d s σ H _ I h) λc s1 ⟨e,f,g⟩=>?_);cases c with
 | true=>exact j k d s1 σ e Q f g
 | false=>exact⟨e,f,g⟩
theorem jhk(d:PT X a tA):PT X (.UnaryOp .Not a pos) (jly tA):=by
 intro b s σ H Q I h;exact isTrue_not (d b s σ H (λc e=>Q (!c) e) I h)
noncomputable def jfK(ta tb:TE):TE:=λσ H Q=>ta σ H λx H1=>∃ c,x=.bl c/\if c=true then tb σ H1 Q else Q (.bl false) H1
noncomputable def jfq(ta:TE):TE:=λσ H Q=>ta σ H λx H1=>∃ c,x=.bl c/\Q (.bl (!c)) H1
theorem jiN{op}(h:PE X a t):PE X (.BoolOp op [a] pos) t:=λb s σ H Q I c=>BoolOp_one (h b s σ H Q I c)
theorem jjJ(i:PE X a ta)(j:PE X (.BoolOp .And (b::rest) pos) tb):PE X (.BoolOp .And (a::b::rest) pos) (jfK ta tb):=by
 intro d s σ H Q I h;refine BoolOp_and (thn (i d s σ H _ I h) λv s1 k=>?_);obtain⟨x,f,g,l,e⟩:=k;obtain⟨c,rfl,e⟩:=e;cases l;refine wpAny_truthy_bool ?_;cases c with
 | true=>exact j d s1 σ f Q g e
 | false=>exact⟨.bl false,f,g,rfl,e⟩
theorem jhZ(e:PE X a ta):PE X (.UnaryOp .Not a pos) (jfq ta):=by
 intro b s σ H Q I h;refine UnaryOp_ (thn (e b s σ H _ I h) λv s1 f=>?_);obtain⟨x,g,i,j,d⟩:=f;obtain⟨c,rfl,d⟩:=d;cases j;exact not_of (wpAny_truthy_bool ⟨.bl (!c),g,i,rfl,d⟩)
noncomputable def tIf(t:TT)(ta tb:TE):TE:=λσ H Q=>t σ H λc H1=>if c=true then ta σ H1 Q else tb σ H1 Q
theorem jdM(j:PT X c tA)(k:PE X a ta)(l:PE X b tb):PE X (.IfExp c a b pos) (tIf tA ta tb):=by
 intro e s σ H Q I h;refine wpAny_IfExp (thn (j e s σ H _ I h) λd s1 ⟨f,g,i⟩=>?_);cases d with
 | true=>exact k e s1 σ f Q g i
 | false=>exact l e s1 σ f Q g i
end
def SqL(K:PySem.W.Frag)(H:Hp)(a:Addr)(xs:List V):Prop :=
 Rd H a (.lst xs) \/
  ∃(o:Obj) (its:Array Value) (n:Nat),K.lookup a=some o/\o.cls=.type "list"/\o.dict=none/\o.data=.seq its n/\its.size<=sizeLine/\Vals xs its.toList
def SqT(K:PySem.W.Frag)(H:Hp)(a:Addr)(xs:List V):Prop :=
 Rd H a (.tup xs) \/
  ∃(o:Obj) (its:Array Value) (n:Nat),K.lookup a=some o/\o.cls=.type "tuple"/\o.data=.seq its n/\its.size<=sizeLine/\Vals xs its.toList
noncomputable def jlV:Value->Option V
 | .none=>some .non
 | .bool b=>some (.bl b)
 | .int i _=>some (.int i)
 | .str x _=>some (.str x)
 | .bytes b _=>some (.byt b)
 | .float b _=>some (.flt b)
 | .ref a=>some (.ref a)
 | .type n=>some (.ty n)
 | _=>none
theorem RelV.abs(r:RelV x u):jlV u=some x:=by
 cases x with
 | non=>cases r;rfl
 | bl _=>cases r;rfl
 | int _=>obtain⟨t,rfl⟩:=r;rfl
 | str _=>obtain⟨t,rfl⟩:=r;rfl
 | byt _=>obtain⟨t,rfl⟩:=r;rfl
 | flt _=>obtain⟨t,rfl⟩:=r;rfl
 | ref _=>cases r;rfl
 | ty _=>cases r;rfl
theorem RelV.inj(r:RelV x u)(q:RelV y u):x=y:=X7 (r.abs.symm.trans q.abs)
theorem Vals.inj:∀{xs ys:List V}{us:List Value},Vals xs us->Vals ys us->xs=ys
 | _,_,_,.nil,.nil=>rfl
 | _,_,_,.cons r t,.cons a b=>by rw[r.inj a,Vals.inj t b]
section
variable {X:Cx}{pins:List (Addr×Obj)}{σ:St}{H:Hp}{s:Shared}{a:Addr}{xs ys:List V}
theorem SqL.of{K:PySem.W.Frag}(h:H a=some (.lst xs)):SqL K H a xs:=.inl (.inl h)
theorem SqT.of{K:PySem.W.Frag}(h:H a=some (.tup xs)):SqT K H a xs:=.inl (.inl h)
theorem Inv.list(I:Inv X pins σ H s)(h:SqL X.K H a xs):∃ its:List Value,Vals xs its/\PlainL s.heap a its.toArray/\xs.length<=sizeLine:=by
 rcases h with h | ⟨o,its,n,b,c,hd,d,f,r⟩
 ·obtain⟨z,its,n,r,e⟩:=h.ok I.hok;exact⟨its,r,⟨_,n,e,rfl,rfl,rfl⟩,z⟩
 ·refine⟨its.toList,r,⟨o,n,I.kIn a o b,c,hd,by simpa using d⟩,?_⟩;have e:=r.length;simp only[Array.length_toList] at e
  lia
theorem Inv.tuple(I:Inv X pins σ H s)(h:SqT X.K H a xs):∃ its:List Value,Vals xs its/\IsTup s.heap a its.toArray/\xs.length<=sizeLine:=by
 rcases h with h | ⟨o,its,n,b,c,d,f,r⟩
 ·obtain⟨z,its,r,p⟩:=h.ok I.hok;exact⟨its,r,p.1,z⟩
 ·refine⟨its.toList,r,⟨o,I.kIn a o b,c,n,by simpa using d⟩,?_⟩;have e:=r.length;simp only[Array.length_toList] at e
  lia
theorem Inv.list_inj(I:Inv X pins σ H s)(h:SqL X.K H a xs)(h':SqL X.K H a ys):xs=ys:=by
 obtain⟨c,r,⟨o,n,e,_,_,d⟩,_⟩:=I.list h;obtain⟨b,i,⟨j,k,f,_,_,g⟩,_⟩:=I.list h';rw[e] at f;cases f;rw[d] at g;injection g with d1 _;have:c=b:=by simpa using congrArg Array.toList d1
 subst this;exact r.inj i
theorem Inv.tuple_inj(I:Inv X pins σ H s)(h:SqT X.K H a xs)(h':SqT X.K H a ys):xs=ys:=by
 obtain⟨c,r,⟨o,e,_,n,d⟩,_⟩:=I.tuple h;obtain⟨b,i,⟨j,f,_,k,g⟩,_⟩:=I.tuple h';rw[e] at f;cases f;rw[d] at g;injection g with d1 _;have:c=b:=by simpa using congrArg Array.toList d1
 subst this;exact r.inj i
end
noncomputable abbrev Cx.wish(X:Cx)(E:Value->Shared->Prop):Cx:={ X with xe:=E }
noncomputable abbrev Cx.nox(X:Cx):Cx:=X.wish λ_ _=>False
theorem Cx.Ok.wish{X:Cx}(ok:X.Ok)(E:Value->Shared->Prop):(X.wish E).Ok :=
 ⟨ok.mod,ok.kind,ok.glob,ok.blt,ok.above,ok.inj,ok.has,ok.cab,ok.hd,ok.frames,ok.stk,ok.exf,ok.bs,ok.bsz,ok.noex,ok.exfs,ok.funs,ok.frf⟩
theorem Cx.Ok.unwish{X:Cx}{E:Value->Shared->Prop}(ok:(X.wish E).Ok):X.Ok :=
 ⟨ok.mod,ok.kind,ok.glob,ok.blt,ok.above,ok.inj,ok.has,ok.cab,ok.hd,ok.frames,ok.stk,ok.exf,ok.bs,ok.bsz,ok.noex,ok.exfs,ok.funs,ok.frf⟩
section
variable {X:Cx}{pins:List (Addr×Obj)}{σ:St}{H:Hp}{s:Shared}{E:Value->Shared->Prop}
theorem Inv.wish(I:Inv X pins σ H s)(E:Value->Shared->Prop):Inv (X.wish E) pins σ H s:=⟨I.ok.wish E,I.os,I.bare,I.base,I.loc,I.cell,I.free,I.freeC,I.pin,I.hok,I.len⟩
theorem Inv.unwish(I:Inv (X.wish E) pins σ H s):Inv X pins σ H s:=⟨I.ok.unwish,I.os,I.bare,I.base,I.loc,I.cell,I.free,I.freeC,I.pin,I.hok,I.len⟩
theorem SP.unwish(h:SP (X.wish E) pins D f s'):SP X pins D f s':=by
 cases f with
 | next=>obtain⟨a,b,I,q⟩:=h;exact⟨a,b,I.unwish,q⟩
 | brk=>obtain⟨a,b,I,q⟩:=h;exact⟨a,b,I.unwish,q⟩
 | cont=>obtain⟨a,b,I,q⟩:=h;exact⟨a,b,I.unwish,q⟩
 | ret u=>obtain⟨v,a,b,I,r,q⟩:=h;exact⟨v,a,b,I.unwish,r,q⟩
theorem PSs.nox{st:List Stmt}{t:TS}(h:PSs X.nox st t):PSs X st t:=λa s σ H D I b =>
 wpAny_mono (h a s σ H D (I.wish _) b) (λ_ _ q=>q.unwish) λ_ _ z=>False.elim z
end
section
variable {X:Cx}{st:Stmt}{rest:List Stmt}{t u:TS}{e:Expr}{te:TE}{pos:Pos}
noncomputable def jgF:TS:=λD σ H=>D.nx σ H
noncomputable def jke(t u:TS):TS:=λD σ H=>t { D with nx:=u D } σ H
theorem jgs:PSs X [] jgF:=λ_ _ σ H _ I h=>wpAny_execs_nil ⟨σ,H,I,h⟩
theorem jct(h1:PS X st t)(h2:PSs X rest u):PSs X (st::rest) (jke t u):=by
 intro a s σ H D I h;refine wpAny_execs_cons (thn (h1 a s σ H { D with nx:=u D } I h) λf s1 q=>?_);cases f with
 | next =>
  obtain⟨b,c,d,q⟩:=q;exact h2 a s1 b c D d q
 | ret v=>exact q
 | brk=>exact q
 | cont=>exact q
theorem jfk(h1:PS X st t):PSs X [st] t:=by
 intro a s σ H D I h;refine wpAny_execs_cons (thn (h1 a s σ H D I h) λf s1 q=>?_);cases f with
 | next=>exact wpAny_execs_nil q
 | ret v=>exact q
 | brk=>exact q
 | cont=>exact q
theorem Inv.quiet(I:Inv X pins σ H s):interactive X.env=false:=by simp[interactive,I.ok.kind]
noncomputable def Yr(te:TE):TS:=λD σ H=>te σ H λ_ H1=>D.nx σ H1
theorem Vf(b:PE X e te)(c:swapsWith e none pos.line X.env=pure false:=by rfl):PS X (.Expr e pos) (Yr te):=by
 intro a s σ H D I h;exact wpAny_Expr_any (thn (b a s σ H _ I h) λv s1 ⟨x,d,f,i,g⟩=>⟨σ,d,f,g⟩) I.quiet c
noncomputable def jlD(te:TE):TS:=λD σ H=>te σ H D.rt
theorem ji1(b:PE X e te):PS X (.Return (some e) pos) (jlD te):=by
 intro a s σ H D I h;exact wpAny_Return_some (thn (b a s σ H _ I h) λv s1 ⟨x,c,d,f,g⟩=>⟨x,σ,c,d,f,g⟩)
noncomputable def jkD(c:TT)(t u:TS):TS:=λD σ H=>c σ H λb H1=>if b=true then t D σ H1 else u D σ H1
theorem jlk(j:PT X c tc)(k:PSs X a t)(l:PSs X b u):PS X (.If c a b pos) (jkD tc t u):=by
 intro e s σ H D I h;refine wpAny_If (thn (j e s σ H _ I h) λd s1 ⟨f,g,i⟩=>?_);cases d with
 | true=>exact k e s1 σ f D g i
 | false=>exact l e s1 σ f D g i
noncomputable def jai:TS:=λ_ _ _=>False
theorem jc3:PS X st jai:=λ_ _ _ _ _ _ h=>h.elim
end
abbrev TG:=V->St->Hp->(St->Hp->Prop)->Prop
abbrev TGs:=List V->St->Hp->(St->Hp->Prop)->Prop
def PG(X:Cx)(target:Expr)(t:TG):Prop :=
 ∀(pins:List (Addr×Obj)) (s:Shared) (σ:St) (H:Hp) (v:V) (u:Value) (Q:St->Hp->Prop),Inv X pins σ H s->RelV v u->t v σ H Q ->
  wpAny (model X.prog X.w) X.A (assign target X.env u) (λ_ s'=>∃ σ' H',Inv X pins σ' H' s'/\Q σ' H') X.xe s
def PGs(X:Cx)(ts:List Expr)(t:TGs):Prop :=
 ∀(pins:List (Addr×Obj)) (s:Shared) (σ:St) (H:Hp) (vs:List V) (us:List Value) (Q:St->Hp->Prop),Inv X pins σ H s->Vals vs us->t vs σ H Q ->
  wpAny (model X.prog X.w) X.A (assignInOrder ((assignEach ts X.env).map (·.2)) us) (λ_ s'=>∃ σ' H',Inv X pins σ' H' s'/\Q σ' H') X.xe s
abbrev jlh:=V->V->V->Hp->(Hp->Prop)->Prop
def jkn(X:Cx)(t:jlh):Prop :=
 ∀(pins:List (Addr×Obj)) (s:Shared) (σ:St) (H:Hp) (o i v:V) (ov iv u:Value) (Q:Hp->Prop),Inv X pins σ H s->RelV o ov->RelV i iv->RelV v u->t o i v H Q ->
  wpAny (model X.prog X.w) X.A (setItem ov iv u) (λ_ s'=>∃ H',Inv X pins σ H' s'/\Q H') X.xe s
abbrev TIp:=V->V->Hp->VK->Prop
def PIp(X:Cx)(op:Operator)(t:TIp):Prop :=
 ∀(pins:List (Addr×Obj)) (s:Shared) (σ:St) (H:Hp) (x y:V) (v u:Value) (Q:VK),Inv X pins σ H s->RelV x v->RelV y u->t x y H Q ->
  wpAny (model X.prog X.w) X.A (inplaceOp op v u) (EP X pins σ Q) X.xe s
section
variable {X:Cx}{pos:Pos}
noncomputable def Ky(i:Nat):TG:=λv σ H Q=>Q (σ.set i (some v)) H
theorem jbm(b:X.N.Nodup)(hi:X.N[i]?=some x)(c:Loc X.env.scope x)(d:X.fn x=true \/ X.env.scope.names.lookup x=some .local:=by first | exact .inl rfl | exact .inr rfl | assumption):PG X (.Name x pos) (Ky i):=by
 intro a s σ H v u Q I r h;exact wpAny_assign_Name (Yb I b hi c r (λf e=>⟨_,H,e,h⟩) d)
noncomputable def jlp:TGs:=λvs σ H Q=>vs=[]/\Q σ H
noncomputable def jer(t:TG)(u:TGs):TGs:=λvs σ H Q=>∃ v r,vs=v::r/\t v σ H λσ' H'=>u r σ' H' Q
theorem jeH:PGs X [] jlp:=by
 intro a s σ H b c Q I r h;obtain⟨e,h⟩:=h;subst e;cases r;exact assignInOrder_nil ⟨σ,H,I,h⟩
theorem jcL(h1:PG X e t)(h2:PGs X es u)
  (b:(assignEach (e::es) X.env).map (·.2)=assign e X.env::(assignEach es X.env).map (·.2):=by rfl):PGs X (e::es) (jer t u):=by
 intro a s σ H l m Q I r h;obtain⟨v,n,c,h⟩:=h;subst c;cases r with
 | cons r d =>
  rw[b];refine assignInOrder_cons (thn (h1 a s σ H _ _ _ I r h) λ_ s1 f=>?_);obtain⟨g,i,j,k⟩:=f;exact h2 a s1 g i _ _ Q j d k
noncomputable def jjT(K:PySem.W.Frag)(n:Nat)(t:TGs):TG:=λv σ H Q=>∃ a xs,v=.ref a/\SqT K H a xs/\xs.length=n/\t xs σ H Q
theorem jhP(i:X.calm=true)(h:PGs X es t)
  (j:(assignEach es X.env).length=n:=by rfl) (d:(assignEach es X.env).findIdx? (·.1)=none:=by rfl):PG X (.Tuple es k pos) (jjT X.K n t):=by
 intro c s σ H v u Q I r f;obtain⟨a,l,m,p,q,f⟩:=f;subst m;cases r;obtain⟨w,g,x,B⟩:=I.tuple p;refine assign_Tuple_tuple (I.ok.hd i) x (by simp[j,<- q,g.length]) d λy z=>?_;have A:Inv X c σ H { s with heap:=y }:=I.kept (t':=s.toks) λb o e=>z b o (N5 (N0 e)) e;exact h c _ σ H l _ Q A (by simpa using g) f
noncomputable def jkg(to ti:TE)(t:jlh):TG:=λv σ H Q=>to σ H λo H1=>ti σ H1 λi H2=>t o i v H2 λH3=>Q σ H3
theorem jiS(c:PE X o to)(hi:PE X i ti)(d:jkn X t)
  (e:∀ v,assign (.Subscript o i pos) X.env v=(do
   let ov <- holding [v] (eval o X.env)
   let iv <- holding [v,ov] (eval i X.env)
   standAt pos
   holding [v,ov,iv] (setItem ov iv v)
   release [v,ov,iv] []):=by intro _;rfl):PG X (.Subscript o i pos) (jkg to ti t):=by
 intro a s σ H v u Q I r h;rw[e];refine L1 (wpAny_holding (thn (c a s σ H _ I h) λov s1 b=>?_));obtain⟨x,f,g,j,k⟩:=b;refine L1 (wpAny_holding (thn (hi a s1 σ f _ g k) λiv l b=>?_));obtain⟨y,m,n,p,q⟩:=b;refine L1 (wpAny_standAt (L1 (wpAny_holding (thn (d a l σ m x y v ov iv u _ n j p r q) λ_ B ⟨w,z,A⟩=>?_))));exact wpAny_release ⟨σ,w,z,A⟩
noncomputable def je8(te:TE)(g:TG):TS:=λD σ H=>te σ H λx H1=>g x σ H1 D.nx
theorem jhi(b:PE X e te)(c:PG X tg g)(d:swapsWithSole [tg] e pos.line X.env=pure false:=by rfl)(f:swappedStores [tg] e X.env=pure none:=by rfl)
  (h1:(assignEach [tg] X.env).map (·.2)=[assign tg X.env]:=by rfl):PS X (.Assign [tg] e pos) (je8 te g):=by
 intro a s σ H D I h;refine wpAny_Assign_stores (thn (b a s σ H _ I h) λv s1 i=>?_) d f;obtain⟨x,j,k,l,m⟩:=i;rw[h1];exact thn (c a s1 σ j x v _ k l m) λ_ n q=>q
theorem jjh(b:X.N.Nodup)(hi:X.N[i]?=some x)(c:Loc X.env.scope x)(d:PE X e te)(f:swapsWith e (some (.Name x pos')) pos.line X.env=pure false:=by rfl)(g:X.fn x=true \/ X.env.scope.names.lookup x=some .local:=by first | exact .inl rfl | exact .inr rfl | assumption) :
  PS X (.Assign [.Name x pos'] e pos) (je8 te (Ky i)):=by
 intro a s σ H D I h;refine wpAny_Assign_Name (thn (d a s σ H _ I h) λv s1 j=>?_) f;obtain⟨y,k,l,m,n⟩:=j;exact Yb l b hi c m (λp o=>⟨_,k,o,n⟩) g
noncomputable def jli(i:Nat)(te:TE)(ti:TIp):TS:=λD σ H=>∃ x,σ[i]?=some (some x)/\te σ H λy H1=>ti x y H1 λz H2=>D.nx (σ.set i (some z)) H2
theorem jhq(n:X.N.Nodup)(hi:X.N[i]?=some x)(f:Loc X.env.scope x)(o:PE X e te)(p:PIp X op ti)(q:X.fn x=true \/ X.env.scope.names.lookup x=some .local:=by first | exact .inl rfl | exact .inr rfl | assumption) :
  PS X (.AugAssign (.Name x pos') op e pos) (jli i te ti):=by
 intro a s σ H D I h;obtain⟨v,t,h⟩:=h;obtain⟨m,B,C⟩:=I.loc;have g:Vis X.env.scope x:=by rcases f with k | k;exact .inl k;exact .inr (.inl k)
 obtain⟨u,r,l⟩:=C i x v hi t g;refine wpAny_AugAssign_Name ?_;have go:wpAny (model X.prog X.w) X.A (eval e X.env) (λw E=>wpAny (model X.prog X.w) X.A (inplaceOp op u w) (λr F=>wpAny (model X.prog X.w) X.A (storeName X.env x r) (λ_=>SP X a D .next) X.xe F) X.xe E) X.xe s:=by
  refine thn (o a s σ H _ I h) λw s1 j=>?_;obtain⟨y,G,J,K,L⟩:=j;refine thn (p a s1 σ G v y u w _ J r K L) λz U j=>?_;obtain⟨V,M,O,P,Q⟩:=j;exact Yb O n hi f P (λW R=>⟨_,M,R,Q⟩) q
 rcases l with⟨b,S⟩ | ⟨b,c,T,d⟩
 ·exact wpAny_loadName_local I.ok.kind b B S go
 ·rcases b with b | b
  ·exact wpAny_loadName_cell I.ok.kind b T d go
  ·rcases f with k | k
   ·have:X.env.scope.names.lookup x=some .free:=b;rw[k] at this;cases this
   ·have:X.env.scope.names.lookup x=some .free:=b;rw[k] at this;cases this
noncomputable def jfL(to ti te:TE)(tget:V->V->Hp->VK->Prop)(tip:TIp)(tset:jlh):TS:=λD σ H=>to σ H λo H1=>ti σ H1 λi H2=>tget o i H2 λx H3=>te σ H3 λy H4=>tip x y H4 λz H5=>tset o i z H5 λH6=>D.nx σ H6
def jlL(X:Cx)(t:V->V->Hp->VK->Prop):Prop :=
 ∀(pins:List (Addr×Obj)) (s:Shared) (σ:St) (H:Hp) (o i:V) (ov iv:Value) (Q:VK),Inv X pins σ H s->RelV o ov->RelV i iv->t o i H Q ->
  wpAny (model X.prog X.w) X.A (getItem ov iv) (EP X pins σ Q) X.xe s
theorem jfD(k:PE X o to)(hi:PE X i ti)(l:jlL X tget)(m:PE X e te)(n:PIp X op tip)(p:jkn X tset)
  (q:∀ ov iv new,augStore i ov iv new=(do holding [new,ov,iv] (setItem ov iv new);release [new,ov,iv] [];pure .next):=by intros;rfl):PS X (.AugAssign (.Subscript o i tpos) op e pos) (jfL to ti te tget tip tset):=by
 intro a s σ H D I h;refine wpAny_AugAssign_SubscriptAny (thn (k a s σ H _ I h) λov s1 b=>?_) q;obtain⟨d,r,t,f,u⟩:=b;refine thn (hi a s1 σ r _ t u) λiv w b=>?_;obtain⟨g,x,y,j,z⟩:=b;refine thn (l a w σ x d g ov iv _ y f j z) λc A b=>?_;obtain⟨B,C,E,F,G⟩:=b;refine thn (m a A σ C _ E G) λv J b=>?_;obtain⟨K,L,M,N,O⟩:=b;refine thn (n a J σ L B K c v _ M F N O) λnew P b=>?_;obtain⟨Q,R,S,T,U⟩:=b;exact thn (p a P σ R d g Q ov iv new _ S f j T U) λ_ Z ⟨V,W,Y⟩=>⟨σ,V,W,Y⟩
noncomputable def ipI(f:Int->Int->Int):TIp:=λx y H Q=>∃ i j,x=.int i/\y=.int j/\Q (.int (f i j)) H
theorem jhg:PIp X .Add (ipI λi j=>i+j):=by
 intro a s σ H x y v u Q I b c h;obtain⟨i,j,d,e2,q⟩:=h;subst d;subst e2;obtain⟨t,rfl⟩:=b;obtain⟨e,rfl⟩:=c;exact iadd_int ⟨.int _,H,I.tok _,⟨_,rfl⟩,q⟩
theorem jjm:PIp X .Sub (ipI λi j=>i - j):=by
 intro a s σ H x y v u Q I b c h;obtain⟨i,j,d,e2,q⟩:=h;subst d;subst e2;obtain⟨t,rfl⟩:=b;obtain⟨e,rfl⟩:=c;exact isub_int ⟨.int _,H,I.tok _,⟨_,rfl⟩,q⟩
end
structure It where
 go:Nat->Hp->Prop
 yld:Nat->Hp->V->Hp->Prop
 stop:Nat->Hp->Prop
def wB(X:Cx)(pins:List (Addr×Obj))(H:Hp)(b:Addr):Prop :=
 H b=none/\b≠X.env.locals/\b∉X.fs/\(b∈X.ex \/ X.s₀.heap.objs.size<=b)/\(∀ x c,X.env.cells.lookup x=some c->c≠b)/\∀ p∈X.pn++pins,p.1≠b
theorem Inv.fpOk(I:Inv X pins σ H s)(a:s.heap.objs.size<=b)(d:H' b=none):wB X pins H' b:=by
 refine⟨d,Nat.ne_of_gt (U3 I.lt a),I.nofs a,.inr (N6 I.sz a),λx c e z=>?_,λp f z=>?_⟩
 ·obtain⟨v,q⟩:=I.cell x c e;exact absurd (U3 q.lt (by rw[z];exact a)) (Nat.lt_irrefl _)
 ·exact absurd (U3 (N0 (I.pin p f).1) (by rw[z];exact a)) (Nat.lt_irrefl _)
structure Turn(P:Program)(w:World)(K:PySem.W.Frag)(tg:Expr)(J:It)(fp:List Addr)(it:Addr)(tn:Nat->Heap->Prop):Prop where
 mem:it∈fp
 obj:∀ i h,tn i h->∀ b∈fp,∃ o,h.get? b=some o/\∀ v,o.data≠.cell v
 keep:∀ i h h',tn i h->(∀ b∈fp,∀ o,h.get? b=some o->h'.get? b=some o)->tn i h'
 item:∀(X:Cx),X.prog=P->X.w=w->X.K=K->X.calm=true->∀(i:Nat) (pins:List (Addr×Obj)) (s:Shared) (σ:St) (H:Hp) (E:Value->Shared->Prop),Inv X pins σ H s->(∀ b∈fp,wB X pins H b)->tn i s.heap->J.go i H ->
  wpAny (model P w) X.A (pyNext (.ref it)) (λr s1=>∃ u,r=some u /\
   wpAny (model P w) X.A (letOwnedTupleGo tg (.ref it) u) (λ_ s2=>∃ x H',Inv X pins σ H' s2/\RelV x u/\J.yld i H x H'/\tn (i+1) s2.heap/\∀ b∈fp,H' b=none) E s1) E s
 done:∀(X:Cx),X.prog=P->X.w=w->X.K=K->X.calm=true->∀(i:Nat) (pins:List (Addr×Obj)) (s:Shared) (σ:St) (H:Hp) (E:Value->Shared->Prop),Inv X pins σ H s->(∀ b∈fp,wB X pins H b)->tn i s.heap->J.stop i H ->
  wpAny (model P w) X.A (pyNext (.ref it)) (λr s1=>r=none/\Inv X pins σ H s1) E s
 self:∀(A:Around) (i:Nat) (s:Shared) (Q:Value->Shared->Prop) (E:Value->Shared->Prop),tn i s.heap->Q (.ref it) s->wpAny (model P w) A (pyIter (.ref it)) Q E s
abbrev TI:=St->Hp->(It->Hp->Prop)->Prop
def PIE(X:Cx)(pins:List (Addr×Obj))(σ:St)(tg:Expr)(R:It->Hp->Prop)(itv:Value)(s2:Shared):Prop :=
 ∃(it:Addr) (fp:List Addr) (tn:Nat->Heap->Prop) (J:It) (H':Hp),itv=.ref it/\Inv X pins σ H' s2/\Turn X.prog X.w X.K tg J fp it tn/\tn 0 s2.heap/\(∀ b∈fp,wB X pins H' b)/\R J H'
def PI(X:Cx)(tg iter:Expr)(wi:TI):Prop :=
 ∀(pins:List (Addr×Obj)) (s:Shared) (σ:St) (H:Hp) (R:It->Hp->Prop),Inv X pins σ H s->wi σ H R ->
  wpAny (model X.prog X.w) X.A (eval iter X.env) (λv s1=>wpAny (model X.prog X.w) X.A (pyIter v) (PIE X pins σ tg R) X.xe s1) X.xe s
theorem jcH(b:s.heap.get? it=some o)(c:o.cls=.type n)(hd:o.data=.fields vs)
  (d:["enumerate","zip","dict_itemiterator","dict_reverseitemiterator","odict_iterator","itertools.zip_longest","itertools.pairwise"].contains n=false) (a:Q () s):wpAny M A (letOwnedTupleGo tg (.ref it) u) Q E s:=by
 unfold letOwnedTupleGo;cases tg<;>first
  | exact M6 a
  | (cases u<;>first
    | exact M6 a
    | (refine L1 (wpAny_load b ?_)
       rw[c,hd];show wpAny M A (if(["enumerate","zip","dict_itemiterator","dict_reverseitemiterator","odict_iterator","itertools.zip_longest","itertools.pairwise"].contains n&&vs[0]?==some (rawInt _))=true then _ else _) Q E s;rw[if_neg (by intro h;rw[d,Bool.false_and] at h;cases h)];exact M6 a))
noncomputable def Itl(K:PySem.W.Frag)(a:Addr):It :=
 ⟨λi H=>∃ xs x,SqL K H a xs/\xs[i]?=some x,λi H x H'=>H'=H/\∀ xs,SqL K H a xs->xs[i]?=some x,λi H=>∃ xs,SqL K H a xs/\xs.length<=i⟩
noncomputable def Itt(K:PySem.W.Frag)(a:Addr):It :=
 ⟨λi H=>∃ xs x,SqT K H a xs/\xs[i]?=some x,λi H x H'=>H'=H/\∀ xs,SqT K H a xs->xs[i]?=some x,λi H=>∃ xs,SqT K H a xs/\xs.length<=i⟩
noncomputable def Itr(lo:Int)(n:Nat):It:=⟨λi _=>i < n,λi H x H'=>H'=H/\x=.int (lo+i),λi _=>n<=i⟩
theorem jbC{P:Program}{w:World}{K:PySem.W.Frag}{tg:Expr}(a j:Addr):Turn P w K tg (Itl K a) [j] j (λi h=>h.IsListIter j a i) where
 mem:=by simp
 obj:=λi h f b l=>by
  have e:b=j:=by simpa using l
  subst e;obtain⟨o,e,c,d⟩:=f;exact⟨o,e,λv z=>by rw[d] at z;cases z⟩
 keep:=λi h n f k=>f.at λo e=>k j (by simp) o e
 item:=by
  intro X t y A O i g s σ H E I q f B;subst t y A;obtain⟨Q,x,r,C⟩:=B;obtain⟨D,F,p,R⟩:=I.list r;obtain⟨u,S,T⟩:=F.get C;obtain⟨G,J,U,L,M,N⟩:=q j (by simp);refine wpAny_pyNext_list_item f p.isList (x:=u) (by simpa using S) λn m V=>?_;have Y:Inv X g σ H { s with heap:=n }:=I.turned (t':=s.toks) (λb o l e=>(V.2 b l).trans e) G J L M N;obtain⟨o,e,c,d⟩:=id m;exact⟨u,rfl,jcH (s:={ s with heap:=n }) e c d (by decide) ⟨x,H,Y,T,⟨rfl,λys Z=>by rw[I.list_inj Z r];exact C⟩,m,λb l=>(q b l).1⟩⟩
 done:=by
  intro X t y A O i g s σ H E I q f B;subst t y A;obtain⟨Q,r,C⟩:=B;obtain⟨D,F,p,R⟩:=I.list r;obtain⟨G,J,U,L,M,N⟩:=q j (by simp);have hl:=F.length;exact wpAny_pyNext_list_end (I.ok.hd O) f p.isList (by simp;lia) λn eb=>⟨rfl,I.turned (t':=s.toks) (λb o l e=>eb b o l e) G J L M N⟩
 self:=λ_ _ _ _ _ f h=>wpAny_pyIter_listiter f h
theorem uy{P:Program}{w:World}{K:PySem.W.Frag}{tg:Expr}(a j:Addr):Turn P w K tg (Itt K a) [j] j (λi h=>h.IsTupleIter j a i) where
 mem:=by simp
 obj:=λi h f b l=>by
  have e:b=j:=by simpa using l
  subst e;obtain⟨o,e,c,d⟩:=f;exact⟨o,e,λv z=>by rw[d] at z;cases z⟩
 keep:=λi h q f k=>f.at λo e=>k j (by simp) o e
 item:=by
  intro X y A B O i g s σ H E I r f C;subst y A B;obtain⟨Q,x,t,D⟩:=C;obtain⟨m,F,p,R⟩:=I.tuple t;obtain⟨u,S,T⟩:=F.get D;obtain⟨G,J,U,L,M,N⟩:=r j (by simp);refine wpAny_pyNext_tuple_item f (show s.heap.IsTuple a m.toArray from p) (x:=u) (by simpa using S) λq n V=>?_;have Y:Inv X g σ H { s with heap:=q }:=I.turned (t':=s.toks) (λb o l e=>(V.2 b l).trans e) G J L M N;obtain⟨o,e,c,d⟩:=id n;exact⟨u,rfl,jcH (s:={ s with heap:=q }) e c d (by decide) ⟨x,H,Y,T,⟨rfl,λys Z=>by rw[I.tuple_inj Z t];exact D⟩,n,λb l=>(r b l).1⟩⟩
 done:=by
  intro X y A B O i g s σ H E I r f C;subst y A B;obtain⟨Q,t,D⟩:=C;obtain⟨m,F,p,R⟩:=I.tuple t;obtain⟨G,J,U,L,M,N⟩:=r j (by simp);have hl:=F.length;exact wpAny_pyNext_tuple_end (I.ok.hd O) f (show s.heap.IsTuple a m.toArray from p) (by simp;lia) λq eb=>⟨rfl,I.turned (t':=s.toks) (λb o l e=>eb b o l e) G J L M N⟩
 self:=λ_ _ _ _ _ f h=>wpAny_pyIter_tupleiter f h
theorem wZ{P:Program}{w:World}{K:PySem.W.Frag}{tg:Expr}(c:Addr)(lo:Int)(n:Nat):Turn P w K tg (Itr lo n) [c] c (λi h=>IsRangeIter h c (lo+(i:Nat)*1) ((n:Int) - (i:Nat)) 1) where
 mem:=by simp
 obj:=λi h a b f=>by
  have e:b=c:=by simpa using f
  subst e;exact⟨_,a,λv z=>by
   have F:Data.fields _=Data.cell v:=z;cases F⟩
 keep:=λi h j a k=>k c (by simp) _ a
 item:=by
  intro X m p q r i d s σ H E I l a u;subst m p q;obtain⟨x,y,G,A,B,C⟩:=l c (by simp);have W:=Walks.range (prog:=X.prog) (w:=X.w) (I.ok.hd r) c lo 1 n;refine W.item i s _ _ u a λv j D J g L=>?_;obtain⟨t,rfl⟩:=J;have M:Inv X d σ H { s with heap:=j,toks:=D }:=I.turned (λb o f e=>L b o (by simpa using f) e) x y A B C;refine⟨_,rfl,jcH (s:={ s with heap:=j,toks:=D }) (n:="range_iterator") g rfl rfl (by decide) ⟨.int (lo+i),H,M,⟨t,?_⟩,⟨rfl,rfl⟩,g,λb f=>(l b f).1⟩⟩;rw[Int.mul_one]
 done:=by
  intro X m p q r i d s σ H E I l a u;subst m p q;obtain⟨x,y,G,A,B,C⟩:=l c (by simp);exact wpAny_pyNext_range_end (I.ok.hd r) a (by have:n<=i:=u;lia) λj N=>⟨rfl,I.turned (t':=s.toks) (λb o f e=>N b o f e) x y A B C⟩
 self:=λ_ _ _ _ _ a h=>wpAny_pyIter_rangeiter a h
section
variable {X:Cx}{tg:Expr}
theorem jci{pins:List (Addr×Obj)}{s:Shared}{R:It->Hp->Prop}{E:Value->Shared->Prop}{lo hi:Int}{tk:Nat}(I:Inv X pins σ H s)(h1:-(2 ^ 62)<=lo)(h2:lo < 2 ^ 62)(c:-(2 ^ 62)<=hi)(d:hi < 2 ^ 62)
  (q:R (Itr lo (hi - lo).toNat) H):wpAny (model X.prog X.w) X.A (pyIter (.ref s.heap.objs.size)) (PIE X pins σ tg R) E { s with heap:=s.heap.push { cls:=.type "range",data:=.fields #[.int lo t,.int hi u,.int 1 v] },toks:=tk }:=by
 refine wpAny_pyIter_range (IsRange.new ..) (small_one h1 h2 c d) ?_;have a:Inv X pins σ H { s with heap:=s.heap.push { cls:=.type "range",data:=.fields #[.int lo t,.int hi u,.int 1 v] },toks:=tk }:=I.kept λb o e=>L7 _ e;refine⟨(s.heap.push { cls:=.type "range",data:=.fields #[.int lo t,.int hi u,.int 1 v] }).objs.size,[(s.heap.push { cls:=.type "range",data:=.fields #[.int lo t,.int hi u,.int 1 v] }).objs.size],_,_,H,rfl,
  a.kept (t':=tk) λb o e=>L7 _ e,wZ _ lo (hi - lo).toNat,?_,λb f=>?_,q⟩
 ·have g:lo+((0:Nat):Int)*1=lo:=by simp
  have e2:(((hi - lo).toNat:Nat):Int) - ((0:Nat):Int)=Builtin.Range.rangeSize lo hi 1:=by rw[rangeSize_one];split<;>lia
  show IsRangeIter _ _ (lo+((0:Nat):Int)*1) ((((hi - lo).toNat:Nat):Int) - ((0:Nat):Int)) 1;rw[g,e2];exact E4 _ rfl
 ·have e:b=(s.heap.push { cls:=.type "range",data:=.fields #[.int lo t,.int hi u,.int 1 v] }).objs.size:=by simpa using f
  subst e;exact a.fpOk (M8 _) (a.hok.fresh (M8 _))
def jeS(ta:TA):TI:=λσ H R=>ta σ H λvs H1=>∃ j:Int,vs=[.int j]/\-(2 ^ 62)<=j/\j < 2 ^ 62/\R (Itr 0 j.toNat) H1
theorem jaI(d:Gl X "range")(f:X.mg "range" = none)(g:PA X [a] ta)(i:starEach [a] X.env=[(false,eval a X.env)]:=by rfl):PI X tg (.Call (.Name "range" p) [a] [] pos) (jeS ta):=by
 intro b s σ H R I h;refine Call_ (JY I d f boot_range (PyProof.Rows.callWith_type1 (thn (g pos b s σ H _ I h) λo s1 ⟨u,v,k,l,c⟩=>?_) i rfl));obtain⟨j,e,c,m,q⟩:=c;subst e;cases l with
 | cons r n =>
  cases n;obtain⟨t,rfl⟩:=r;exact call_range_1 (jci k (by lia) (by lia) c m (by simpa using q))
def jiG(wi:TI)(g:TG)(tb:TS):TS:=λD σ H=>wi σ H λJ H1=>∃ W:Nat->Nat->St->Hp->Prop,(∃ m,W 0 m σ H1)/\∀ i m σ H,W i m σ H ->
 (J.stop i H/\D.nx σ H) \/ (J.go i H/\∃ N:St->Hp->Prop,(∀ σ' H',N σ' H'->∃ m',m' < m/\W (i+1) m' σ' H')/\∀ x H',J.yld i H x H'->g x σ H' λσ2 H2=>tb { D with nx:=N,ct:=N,bk:=D.nx } σ2 H2)
noncomputable def VQ(fp:List Addr)(h:Heap):List (Addr×Obj):=fp.filterMap λb=>(h.get? b).map λo=>(b,o)
theorem qx(a:b∈fp)(e:h.get? b=some o):(b,o)∈VQ fp h:=List.mem_filterMap.mpr ⟨b,a,by rw[e];rfl⟩
theorem jb0(a:p∈VQ fp h):p.1∈fp/\h.get? p.1=some p.2:=by
 obtain⟨b,c,e⟩:=List.mem_filterMap.mp a;cases q:h.get? b with
 | none=>rw[q] at e;cases e
 | some o =>
  rw[q] at e;have d:(b,o)=p:=X7 e;subst d;exact⟨c,q⟩
theorem Inv.pinned(I:Inv X pins σ H s)(f:∀ b∈fp,wB X pins H b)(g:∀ b∈fp,∃ o,s.heap.get? b=some o/\∀ v,o.data≠.cell v):Inv X (pins++VQ fp s.heap) σ H s :=
 I.pins_of λp h=>(N1.mp h).elim (λz=>I.pin p (U2 _ z)) λz=>by
  obtain⟨a,e⟩:=jb0 z;obtain⟨i,j,k,_⟩:=f p.1 a;obtain⟨o,c,d⟩:=g p.1 a;rw[e] at c;cases c;exact⟨e,i,j,k,d⟩
theorem Inv.unpinned(I:Inv X (pins++pl) σ H s):Inv X pins σ H s:=I.pins_of λp a=>I.pin p (U2 _ (List.mem_append_left _ a))
theorem jdV(B:PassesOwn (model X.prog X.w) X.A X.env X.xe)(V:X.calm=true)(hi:PI X tg iter wi)(hg:PG X tg g)(c:PSs X body tb)
  (hs:∀ x,foldedSetIterable iter X.env x=pure x:=by intro _;rfl):PS X (.For tg iter body [] pos) (jiG wi g tb):=by
 intro a s σ H D I h;refine wpAny_For (thn (hi a s σ H _ I h) λv s1 h1=>thn h1 λitv s2 h2=>?_) hs;obtain⟨it,C,Y,J,H2,e,I2,T,O,Z,W,⟨m0,w0⟩,turn⟩:=h2;subst e
 -- what stays true of the iterator's objects through the loop
 have j:∀{t:Hp},(∀ b∈C,t b=none)->∀ b∈C,wB X a t b:=λhn b c=>⟨hn b c,(Z b c).2⟩;refine codeAny_forLoop_any (λn s'=>∃ i E t,Inv X a E t s'/\Y i s'.heap/\(∀ b∈C,t b=none)/\W i n E t) ?_ m0 ⟨0,σ,H2,I2,O,λb c=>(Z b c).1,w0⟩;rintro n s3 ⟨i,F,M,I3,G,K,w3⟩;rcases turn i n F M w3 with⟨stop,qn⟩ | ⟨go,N,hN,step⟩
 ·refine wpAny_passesOwn B (thn (T.done X rfl rfl rfl V i a s3 F M X.xe I3 (j K) G stop) λr s4 ⟨P,I4⟩=>?_);subst P;exact wpAny_execs_nil ⟨F,M,I4,qn⟩
 ·refine wpAny_passesOwn B (thn (T.item X rfl rfl rfl V i a s3 F M X.xe I3 (j K) G go) λr s4 ⟨u,P,h4⟩=>?_);subst P;refine wpAny_passesOwn B (thn h4 λ_ s5 Q=>?_);obtain⟨x,H5,I5,r5,y5,z,R⟩:=Q;have S:=I5.pinned (j R) (T.obj _ _ z);refine wpAny_passesOwn B (thn (hg _ s5 F H5 x u _ S r5 (step x H5 y5)) λ_ s6 Q=>?_);obtain⟨σ6,H6,I6,q6⟩:=Q;refine wpAny_passesOwn B (thn (c _ s6 σ6 H6 _ I6 q6) λf U y=>?_);have k:∀{l:St}{p:Hp},Inv X (a++VQ C s5.heap) l p U->N l p->∃ m,m < n/\∃ i E t,Inv X a E t U/\Y i U.heap/\(∀ b∈C,t b=none)/\W i m E t:=λ{l p} q L=>by
   obtain⟨m',hm,w7⟩:=hN l p L;refine⟨m',hm,i+1,l,p,q.unpinned,T.keep _ _ _ z λb c o e=>(q.pin (b,o) (U2 _ (U2 _ (qx c e)))).1,λb c=>?_,w7⟩;obtain⟨o,e,d⟩:=T.obj _ _ z b c;exact(q.pin (b,o) (U2 _ (U2 _ (qx c e)))).2.1
  cases f with
  | next=>obtain⟨l,p,q,L⟩:=y;exact k q L
  | cont=>obtain⟨l,p,q,L⟩:=y;exact k q L
  | brk=>obtain⟨l,p,q,y⟩:=y;exact⟨l,p,q.unpinned,y⟩
  | ret v=>obtain⟨x7,l,p,q,r7,y⟩:=y;exact⟨x7,l,p,q.unpinned,r7,y⟩
end
abbrev R2:=V->V->Hp->VK->Prop
def OpR(X:Cx)(f:Value->Value->Sem Value)(r:R2):Prop :=
 ∀(pins:List (Addr×Obj)) (s:Shared) (σ:St) (H:Hp) (x y:V) (v u:Value) (Q:VK),Inv X pins σ H s->RelV x v->RelV y u->r x y H Q ->
  wpAny (model X.prog X.w) X.A (f v u) (EP X pins σ Q) X.xe s
def UnR(X:Cx)(f:Value->Sem Value)(r:V->Hp->VK->Prop):Prop :=
 ∀(pins:List (Addr×Obj)) (s:Shared) (σ:St) (H:Hp) (x:V) (v:Value) (Q:VK),Inv X pins σ H s->RelV x v->r x H Q ->
  wpAny (model X.prog X.w) X.A (f v) (EP X pins σ Q) X.xe s
def JM(X:Cx)(f:Value)(r:List V->Hp->VK->Prop):Prop :=
 ∀(pins:List (Addr×Obj)) (s:Shared) (σ:St) (H:Hp) (xs:List V) (us:List Value) (Q:VK),Inv X pins σ H s->Vals xs us->r xs H Q ->
  wpAny (model X.prog X.w) X.A (call f us) (EP X pins σ Q) X.xe s
noncomputable def tOp(r:R2)(ta tb:TE):TE:=λσ H Q=>ta σ H λx H1=>tb σ H1 λy H2=>r x y H2 Q
noncomputable def tUn(r:V->Hp->VK->Prop)(ta:TE):TE:=λσ H Q=>ta σ H λx H1=>r x H1 Q
noncomputable def rI(C:Int->Int->Prop)(g:Int->Int->V):R2:=λx y H Q=>∃ i j,x=.int i/\y=.int j/\C i j/\Q (g i j) H
noncomputable def rI0(g:Int->Int->V):R2:=λx y H Q=>∃ i j,x=.int i/\y=.int j/\Q (g i j) H
def rU(g:Int->V):V->Hp->VK->Prop:=λx H Q=>∃ i,x=.int i/\Q (g i) H
section
variable {X:Cx}{a b c:Expr}{ta tb tc:TE}{pos:Pos}
theorem jkH(d:PE X a ta)(e:PE X b tb){pins:List (Addr×Obj)}{s:Shared}{R:V->V->Hp->Prop}(I:Inv X pins σ H s)
  (h:ta σ H λx H1=>tb σ H1 λy H2=>R x y H2) {Q:Value->Shared->Prop}{f:Value->Value->Sem Value}
  (g:∀ v u s2 x y H2,Inv X pins σ H2 s2->RelV x v->RelV y u->R x y H2->wpAny (model X.prog X.w) X.A (f v u) Q X.xe s2) :
  wpAny (model X.prog X.w) X.A (eval a X.env) (λv s₁=>wpAny (model X.prog X.w) X.A (eval b X.env) (λu s₂=>wpAny (model X.prog X.w) X.A (f v u) Q X.xe s₂) X.xe s₁) X.xe s:=by
 refine thn (d pins s σ H _ I h) λv s1 c=>?_;obtain⟨x,H1,i,j,k⟩:=c;refine thn (e pins s1 σ H1 _ i k) λu s2 c=>?_;obtain⟨y,H2,l,m,n⟩:=c;exact g v u s2 x y H2 l j m n
theorem ux(d:OpR X (binaryOp op) r)(e:PE X a ta)(f:PE X b tb):PE X (.BinOp a op b pos) (tOp r ta tb):=by
 intro c s σ H Q I h;exact wpAny_BinOp (jkH e f I h λv u g x y i j k l q=>d c g σ i x y v u Q j k l q)
theorem jkN(c:UnR X (unaryOp op) r)(d:PE X a ta):PE X (.UnaryOp op a pos) (tUn r ta):=by
 intro b s σ H Q I h;exact UnaryOp_ (thn (d b s σ H _ I h) λv s1 ⟨x,e,f,g,i⟩=>c b s1 σ e x v Q f g i)
theorem opI{f:Value->Value->Sem Value}{C:Int->Int->Prop}{g:Int->Int->Int}
  (a:∀(i j:Int) (t u:Tok) (s:Shared) (Q:Value->Shared->Prop) (E:Value->Shared->Prop),C i j->Q (.int (g i j) s.toks) { s with toks:=s.toks+1 }->wpAny (model X.prog X.w) X.A (f (.int i t) (.int j u)) Q E s) :
  OpR X f (rI C λi j=>.int (g i j)):=by
 intro b s σ H x y v u Q I c d h;obtain⟨i,j,rfl,rfl,e,q⟩:=h;obtain⟨t,rfl⟩:=c;obtain⟨k,rfl⟩:=d;exact a i j t k s _ _ e ⟨.int (g i j),H,I.tok _,⟨_,rfl⟩,q⟩
theorem jlP{f:Value->Value->Sem Value}{g:Int->Int->Int}
  (a:∀(i j:Int) (t u:Tok) (s:Shared) (Q:Value->Shared->Prop) (E:Value->Shared->Prop),Q (.int (g i j) s.toks) { s with toks:=s.toks+1 }->wpAny (model X.prog X.w) X.A (f (.int i t) (.int j u)) Q E s) :
  OpR X f (rI0 λi j=>.int (g i j)):=by
 intro b s σ H x y v u Q I c d h;obtain⟨i,j,rfl,rfl,q⟩:=h;obtain⟨t,rfl⟩:=c;obtain⟨e,rfl⟩:=d;exact a i j t e s _ _ ⟨.int (g i j),H,I.tok _,⟨_,rfl⟩,q⟩
theorem jkB{f:Value->Value->Sem Value}{g:Int->Int->Bool}
  (a:∀(i j:Int) (t u:Tok) (s:Shared) (Q:Value->Shared->Prop) (E:Value->Shared->Prop),Q (.bool (g i j)) s->wpAny (model X.prog X.w) X.A (f (.int i t) (.int j u)) Q E s) :
  OpR X f (rI0 λi j=>.bl (g i j)):=by
 intro b s σ H x y v u Q I c d h;obtain⟨i,j,rfl,rfl,q⟩:=h;obtain⟨t,rfl⟩:=c;obtain⟨e,rfl⟩:=d;exact a i j t e s _ _ ⟨.bl (g i j),H,I,rfl,q⟩
def jkb(i j:Int):Prop:=0<=j/\j<=1000000/\i.natAbs < 2 ^ 64
theorem jhu:OpR X (binaryOp .Add) (rI0 λi j=>.int (i+j)):=jlP λ_ _ _ _ _ _ _ q=>add_int q
theorem jjn:OpR X (binaryOp .Sub) (rI0 λi j=>.int (i - j)):=jlP λ_ _ _ _ _ _ _ q=>sub_int q
theorem jhQ:OpR X (binaryOp .Mod) (rI (λ_ j=>0 < j) λi j=>.int (i % j)):=opI λi j _ _ _ _ _ a q=>by
 have b:(0:Int) < j:=a;exact mod_int' (by lia) (by rw[Int.fmod_eq_emod_of_nonneg i (by lia)];exact q)
theorem jjF:OpR X (binaryOp .Pow) (rI jkb λi j=>.int (i ^ j.toNat)):=opI λ_ _ _ _ _ _ _ a q=>pow_int_small a.1 a.2.1 a.2.2 q
theorem unI{f:Value->Sem Value}{g:Int->Int}
  (a:∀(i:Int) (t:Tok) (s:Shared) (Q:Value->Shared->Prop) (E:Value->Shared->Prop),Q (.int (g i) s.toks) { s with toks:=s.toks+1 }->wpAny (model X.prog X.w) X.A (f (.int i t)) Q E s) :
  UnR X f (rU λi=>.int (g i)):=by
 intro b s σ H x v Q I c h;obtain⟨i,rfl,q⟩:=h;obtain⟨t,rfl⟩:=c;exact a i t s _ _ ⟨.int (g i),H,I.tok _,⟨_,rfl⟩,q⟩
theorem jhX:UnR X (unaryOp .USub) (rU λi=>.int (-i)):=unI λ_ _ _ _ _ q=>neg_int q
end
noncomputable def jll:V->V->Bool
 | .non,.non=>true | .non,.int _=>true | .int _,.non=>true | .non,.bl _=>true | .bl _,.non=>true | .non,.str _=>true | .str _,.non=>true
 | .int _,.int _=>true | .bl _,.bl _=>true | .str _,.str _=>true | .byt _,.byt _=>true
 | .int _,.str _=>true | .str _,.int _=>true | .bl _,.str _=>true | .str _,.bl _=>true
 | _,_=>false
def rEq:R2:=λx y H Q=>jll x y=true/\Q (.bl (decide (x=y))) H
def rNe:R2:=λx y H Q=>jll x y=true/\Q (.bl (!decide (x=y))) H
theorem Q6:decide (V.int i=V.int j)=(i==j):=by
 rw[Bool.eq_iff_iff];simp
theorem jbT:decide (V.bl i=V.bl j)=(i==j):=by
 rw[Bool.eq_iff_iff];simp
theorem jbK:decide (V.str i=V.str j)=(i==j):=by
 rw[Bool.eq_iff_iff];simp
theorem jbB:decide (V.byt i=V.byt j)=(i.toList==j.toList):=by
 rw[Bool.eq_iff_iff];cases i;cases j;simp
section
variable {X:Cx}{a b c:Expr}{ta tb tc:TE}{pos:Pos}
theorem jL(I:Inv X pins σ H s)(q:Q (.bl k) H)(e:k=k'):EP X pins σ Q (.bool k') s:=by
 subst e;exact⟨.bl k,H,I,rfl,q⟩
theorem jk1:OpR X (compareOp .Eq) rEq:=by
 intro e s σ H x y v u Q I d a h;obtain⟨c,q⟩:=h;cases x with
 | non =>
  cases d;cases y with
  | non=>cases a;exact PySem.EqNone.eq_none_none (jL I q (by simp))
  | bl j=>cases a;exact PySem.EqNone.eq_none_bool (jL I q (by simp))
  | int j=>obtain⟨b,rfl⟩:=a;exact PySem.EqNone.eq_none_int (jL I q (by simp))
  | str j=>obtain⟨b,rfl⟩:=a;exact PySem.EqNone.eq_none_str (jL I q (by simp))
  | _=>exact absurd (show false=true from c) M3
 | bl i =>
  cases d;cases y with
  | non=>cases a;exact PySem.EqNone.eq_bool_none (jL I q (by simp))
  | bl j=>cases a;exact eq_bool (jL I q jbT)
  | str j=>obtain⟨b,rfl⟩:=a;exact PySem.EqMixed.eq_bool_str (jL I q (by simp))
  | _=>exact absurd (show false=true from c) M3
 | int i =>
  obtain⟨t,rfl⟩:=d;cases y with
  | non=>cases a;exact PySem.EqNone.eq_int_none (jL I q (by simp))
  | int j=>obtain⟨b,rfl⟩:=a;exact eq_int (jL I q Q6)
  | str j=>obtain⟨b,rfl⟩:=a;exact PySem.EqMixed.eq_int_str (jL I q (by simp))
  | _=>exact absurd (show false=true from c) M3
 | str i =>
  obtain⟨t,rfl⟩:=d;cases y with
  | non=>cases a;exact PySem.EqNone.eq_str_none (jL I q (by simp))
  | bl j=>cases a;exact PySem.EqMixed.eq_str_bool (jL I q (by simp))
  | int j=>obtain⟨b,rfl⟩:=a;exact PySem.EqMixed.eq_str_int (jL I q (by simp))
  | str j=>obtain⟨b,rfl⟩:=a;exact eq_str (jL I q jbK)
  | _=>exact absurd (show false=true from c) M3
 | byt i =>
  obtain⟨t,rfl⟩:=d;cases y with
  | byt j=>obtain⟨b,rfl⟩:=a;exact PySem.W.eq_bytes (jL I q jbB)
  | _=>exact absurd (show false=true from c) M3
 | _=>cases y<;>exact absurd (show false=true from c) M3
theorem jkz:OpR X (compareOp .NotEq) rNe:=by
 intro e s σ H x y v u Q I d a h;obtain⟨c,q⟩:=h;cases x with
 | non =>
  cases d;cases y with
  | non=>cases a;exact PySem.EqNone.ne_none_none (jL I q (by simp))
  | bl j=>cases a;exact PySem.EqNone.ne_none_bool (jL I q (by simp))
  | int j=>obtain⟨b,rfl⟩:=a;exact PySem.EqNone.ne_none_int (jL I q (by simp))
  | str j=>obtain⟨b,rfl⟩:=a;exact PySem.EqNone.ne_none_str (jL I q (by simp))
  | _=>exact absurd (show false=true from c) M3
 | bl i =>
  cases d;cases y with
  | non=>cases a;exact PySem.EqNone.ne_bool_none (jL I q (by simp))
  | bl j=>cases a;exact ne_bool (jL I q (congrArg not jbT))
  | str j=>obtain⟨b,rfl⟩:=a;exact PySem.EqMixed.ne_bool_str (jL I q (by simp))
  | _=>exact absurd (show false=true from c) M3
 | int i =>
  obtain⟨t,rfl⟩:=d;cases y with
  | non=>cases a;exact PySem.EqNone.ne_int_none (jL I q (by simp))
  | int j=>obtain⟨b,rfl⟩:=a;exact ne_int (jL I q (congrArg not Q6))
  | str j=>obtain⟨b,rfl⟩:=a;exact PySem.EqMixed.ne_int_str (jL I q (by simp))
  | _=>exact absurd (show false=true from c) M3
 | str i =>
  obtain⟨t,rfl⟩:=d;cases y with
  | non=>cases a;exact PySem.EqNone.ne_str_none (jL I q (by simp))
  | bl j=>cases a;exact PySem.EqMixed.ne_str_bool (jL I q (by simp))
  | int j=>obtain⟨b,rfl⟩:=a;exact PySem.EqMixed.ne_str_int (jL I q (by simp))
  | str j=>obtain⟨b,rfl⟩:=a;exact ne_str (jL I q (congrArg not jbK))
  | _=>exact absurd (show false=true from c) M3
 | byt i =>
  obtain⟨t,rfl⟩:=d;cases y with
  | byt j=>obtain⟨b,rfl⟩:=a;exact PySem.W.ne_bytes (jL I q (congrArg not jbB))
  | _=>exact absurd (show false=true from c) M3
 | _=>cases y<;>exact absurd (show false=true from c) M3
theorem jlE:OpR X (compareOp .Lt) (rI0 λi j=>.bl (decide (i < j))):=jkB λ_ _ _ _ _ _ _ q=>lt_int q
theorem jkq:OpR X (compareOp .Gt) (rI0 λi j=>.bl (decide (j < i))):=jkB λ_ _ _ _ _ _ _ q=>gt_int q
theorem jka:OpR X (compareOp .GtE) (rI0 λi j=>.bl (decide (j<=i))):=jkB λ_ _ _ _ _ _ _ q=>ge_int q
theorem jbu:OpR X (compareOp .In) (λx y H Q=>∃ i j,x=.str i/\y=.str j/\Q (.bl (!(Builtin.Str.occurrences j i 0 j.length 1).isEmpty)) H):=by
 intro a s σ H x y v u Q I b c h;obtain⟨i,j,rfl,rfl,q⟩:=h;obtain⟨t,rfl⟩:=b;obtain⟨d,rfl⟩:=c;exact in_str (jL I q rfl)
theorem jhN:OpR X (compareOp .Is) (λx y H Q=>y=.non/\Q (.bl (decide (x=.non))) H):=by
 intro a s σ H x y v u Q I b c h;obtain⟨rfl,q⟩:=h;cases c;refine is_none_gen (jL I q ?_);cases x<;>first
  | (cases b;rfl)
  | (obtain⟨t,rfl⟩:=b;rfl)
theorem K4:OpR X (compareOp .NotIn) (λx y H Q=>∃ i j,x=.str i/\y=.str j/\Q (.bl (!(!(Builtin.Str.occurrences j i 0 j.length 1).isEmpty))) H):=by
 intro a s σ H x y v u Q I b c h;obtain⟨i,j,rfl,rfl,q⟩:=h;obtain⟨t,rfl⟩:=b;obtain⟨d,rfl⟩:=c;exact notIn_str (jL I q rfl)
theorem VH(b:Expr)  (h:op≠.In:=by decide) (h2:op≠.NotIn:=by decide):behindInMarks op b=false:=by
 have a:(op==CmpOp.In)=false:=by cases op<;>first | rfl | exact absurd rfl h
 have e2:(op==CmpOp.NotIn)=false:=by cases op<;>first | rfl | exact absurd rfl h2
 cases b<;>simp[behindInMarks,a,e2]
theorem jen(d:OpR X (compareOp op) r)(e:PE X a ta)(f:PE X b tb)(g:behindInMarks op b=false):PE X (.Compare a [op] [b] pos) (tOp r ta tb):=by
 intro c s σ H Q I h;exact wpAny_Compare1 (jkH e f I h λv u i x y j k l m q=>d c i σ j x y v u Q k l m q) g
noncomputable def jf0(t:TE):TT:=λσ H Q=>t σ H λx H'=>∃ k,x=.bl k/\Q k H'
theorem jfp(f:OpR X (compareOp op) r)(g:PE X a ta)(i:PE X b tb)(j:behindInMarks op b=false):PT X (.Compare a [op] [b] pos) (jf0 (tOp r ta tb)):=by
 intro d s σ H Q I h;refine wpAny_isTrue_Compare1 (thn (g d s σ H _ I h) λv s1 ⟨x,l,m,n,o⟩=>thn (i d s1 σ l _ m o) λu p ⟨y,q,t,w,A⟩ =>
  thn (f d p σ q x y v u _ t n w A) λc F ⟨z,B,C,D,k,e,E⟩=>?_) j
 subst e;cases D;exact wpAny_truthy_bool ⟨B,C,E⟩
theorem VI:(sizeLine:Nat) < 2 ^ 63:=by rw[sizeLine_eq];decide
theorem uo:OpR X (binaryOp .Add) (λx y H Q=>∃ i j,x=.str i/\y=.str j/\i.length+j.length<=sizeLine/\Q (.str (i++j)) H):=by
 intro a s σ H x y v u Q I b c h;obtain⟨i,j,rfl,rfl,d,q⟩:=h;obtain⟨t,rfl⟩:=b;obtain⟨e,rfl⟩:=c;exact add_str (λe f=>⟨.str (i++j),H,I.tok _,⟨_,rfl⟩,q⟩) d
theorem jfc(r:Vals [x] us):∃ u,us=[u]/\RelV x u:=by
 cases r with
 | cons a b=>cases b;exact⟨_,rfl,a⟩
theorem jkV(r:Vals [x,y] us):∃ u w',us=[u,w']/\RelV x u/\RelV y w':=by
 cases r with
 | cons a b =>
  cases b with
  | cons c d=>cases d;exact⟨_,_,rfl,a,c⟩
theorem u7(c:X.calm=true):JM X (.builtin "min") (λxs H Q=>∃ i j,xs=[.int i,.int j]/\Q (.int (if j < i then j else i)) H):=by
 intro b s σ H xs d Q I r h;obtain⟨i,j,rfl,q⟩:=h;obtain⟨u,e,rfl,⟨t,rfl⟩,⟨f,rfl⟩⟩:=jkV r;refine min_two_ints (I.ok.hd c) λg l k=>⟨_,H,I.kept k,?_,q⟩;by_cases a:j < i
 ·rw[if_pos a,if_pos a];exact⟨_,rfl⟩
 ·rw[if_neg a,if_neg a];exact⟨_,rfl⟩
def jjU(K:PySem.W.Frag)(x:V)(H:Hp)(n:Nat):Prop :=
 match x with
 | .str y=>y.length<=sizeLine/\n=y.length
 | .byt y=>y.size<=sizeLine/\n=y.size
 | .ref p=>(∃ xs,SqL K H p xs/\n=xs.length) \/ ∃ xs,SqT K H p xs/\n=xs.length
 | _=>False
theorem jcJ:JM X (.builtin "len") (λxs H Q=>∃ x n,xs=[x]/\jjU X.K x H n/\Q (.int n) H):=by
 intro i s σ H xs l Q I r h;obtain⟨x,n,rfl,e,q⟩:=h;obtain⟨u,rfl,c⟩:=jfc r;have m:=VI;have o:sizeLine=16777216:=sizeLine_eq;cases x with
 | str y =>
  obtain⟨t,rfl⟩:=c;obtain⟨j,b⟩:y.length<=sizeLine/\n=y.length:=e;subst b;exact len_str (by lia) ⟨.int _,H,I.tok _,⟨_,rfl⟩,q⟩
 | byt y =>
  obtain⟨t,rfl⟩:=c;obtain⟨j,b⟩:y.size<=sizeLine/\n=y.size:=e;subst b;exact PySem.W.len_bytes (by lia) ⟨.int _,H,I.tok _,⟨_,rfl⟩,q⟩
 | ref p =>
  cases c;have b:(∃ xs,SqL X.K H p xs/\n=xs.length) \/ ∃ xs,SqT X.K H p xs/\n=xs.length:=e;rcases b with⟨xs,d,b⟩ | ⟨xs,d,b⟩
  ·subst b;obtain⟨f,g,pl,k⟩:=I.list d;have a:=g.length;exact Calls.call_len_list pl.isList (by simp only[N2];lia) ⟨.int xs.length,H,I.tok _,⟨_,by simp only[N2];rw[a]⟩,q⟩
  ·subst b;obtain⟨f,g,pl,k⟩:=I.tuple d;have a:=g.length;exact len_tuple pl (by simp only[N2];lia) ⟨.int xs.length,H,I.tok _,⟨_,by simp only[N2];rw[a]⟩,q⟩
 | _=>exact(show False from e).elim
end
structure ObjM(h:Heap)(x dx C:Addr)(mA:Str->Option Value):Prop where
 obj:h.get? x=some (PySem.W.instObj C dx)
 ns:h.Ns1 dx mA
 ne:dx≠x
theorem jac{h:Heap}{mA:Str->Option Value}(n:h.Ns1 dx mA):∃ od,h.get? dx=some od/\∀ name,PySem.W.lookIn name od=some (mA name):=by
 obtain⟨o,c,k,d,hd,f,_,g⟩:=n;refine⟨o,d,λname=>?_⟩;have e:=g name;unfold nsFind findBy at e;rw[<- Array.find?_toList] at e;unfold PySem.W.lookIn;rw[hd];dsimp only;split
 ·rename_i y q;rw[q] at e;exact congrArg some e
 ·rename_i q;rw[q] at e;have a:c.toList.any (·.refKey)=false:=by
   rw[List.any_eq_false];intro y i;obtain⟨z,t,b⟩:=f y (Array.mem_toList_iff.mp i);simp[DictEntry.refKey,b]
  have j:¬ c.toList.any (·.refKey)=true:=by rw[a];exact M3
  rw[if_neg j];exact congrArg some e
theorem ObjM.look(I:ObjM h x dx C mA):∃ od,PySem.W.InstAt h x (PySem.W.instObj C dx) C (some od)/\∀ name,PySem.W.lookIn name od=some (mA name) :=
 let ⟨od,ho,hl⟩:=jac I.ns
 ⟨od,⟨I.obj,rfl,rfl,ho⟩,hl⟩
section
variable {prog:Program}{w:World}{A:Around}{E:Value->Shared->Prop}{s:Shared}{K:PySem.W.Frag}{x dx C f:Addr}{mA:Str->Option Value}{name:Str}{v:Value}
theorem jf9{a:Bool}{Q:Value->Shared->Prop}(X:K.In s.heap)(I:ObjM s.heap x dx C mA)(c:PySem.W.plainGet K C name=true)(d:PySem.W.hasDictIn K C=true)
  (e:PySem.W.findIn K (.ref C) name=some none) (f:mA name=some v) (b:PySem.W.handedIn v=true) (h:Q v { s with toks:=s.toks+1 }) :
  wpAny (model prog w) A (getAttr (.ref x) name a) Q E s:=by
 obtain⟨od,J,g⟩:=I.look;exact PySem.W.get_value X J (PySem.W.plainGet_of c).1 (PySem.W.findObj_own d e rfl (by rw[g,f])) b h
theorem jcN{pl:Sem Bool}{Q:Value×List Value->Shared->Prop}(X:K.In s.heap)(I:ObjM s.heap x dx C mA)(a:PySem.W.plainGet K C name=true)
  (b:PySem.W.findIn K (.ref C) name=some (some (.ref f))) (c:PySem.W.isFn K (.ref f)=true) (d:mA name=none) (h:Q (.ref f,[.ref x]) s) :
  wpAny (model prog w) A (getMethod (.ref x) name pl) Q E s:=by
 obtain⟨od,J,e⟩:=I.look;exact PySem.W.method_fn X J (PySem.W.plainGet_of a).1 (PySem.W.plainGet_of a).2 b (beq_iff_eq.mp c) (by show(PySem.W.lookIn name od).map (·.isSome)=some false;rw[e,d];rfl) h
theorem jga{ns:List Str}{Q:Unit->Shared->Prop}(X:K.In s.heap)(I:ObjM s.heap x dx C mA)
  (j:PySem.W.findIn K (.ref C) "__setattr__" = some (some (.builtin "object.__setattr__"))) (k:PySem.W.plainOver K C=true) (l:PySem.W.takerIn K C name=some none) (m:PySem.W.hasDictIn K C=true)
  (n:PySem.Within mA ns) (hsz:ns.length<=sizeLine)
  (h:∀ h',ObjM h' x dx C (λy=>if y=name then some v else mA y)->Heap.SameBut dx s.heap h'->Q () { s with heap:=h',toks:=s.toks+2 }) :
  wpAny (model prog w) A (setAttr (.ref x) name v) Q E s:=by
 obtain⟨od,J,u⟩:=I.look;refine PySem.W.set_plain X J j (PySem.W.osa_open (s:={ s with toks:=s.toks+1 }) (r:=none) X J k l λb=>?_);obtain⟨z,o,e⟩:=PySem.W.any_some m;have p:s.heap.get? x=some ⟨.ref C,some dx,.plain,#[]⟩:=I.obj;refine L1 (M6 (L1 (L1 (wpAny_loadPart p (L1 (PySem.W.Looks.here (s:={ s with toks:=s.toks+1 }) (PySem.W.looks_clsIn X o) ?_))))));rw[e];refine M6 (a:=some dx) (L1 (M6 (L1 ?_)));refine wpAny_nsSet1 (s:={ s with toks:=s.toks+1 }) I.ns λh' c d=>?_;obtain⟨B,q,t,f,g,i⟩:=c.count (PySem.Within.cons name v n);refine L1 (wpAny_lookBehind f (by rw[g];exact pastItsLine_dict (N6 i (by rw[M0];lia))) ?_);exact M6 (h _ ⟨(d.2 _ (Ne.symm I.ne)).trans I.obj,c,I.ne⟩ d)
theorem jcx{R:Result->Shared->Prop}{vs:List Value}{kw:List (Str×Value)}(X:K.In s.heap)(a:PySem.W.makesIn K C=true)
  (hi:PySem.W.findIn K (.ref C) "__init__" = some (some (.ref f))) (b:PySem.W.typeIn K (.ref f)=some (.type "function"))
  (h:codeAny (model prog w) (A.under (.builtin "type.__call__" ⟨.ref C::vs,kw⟩)) (.call (.ref f) ⟨.ref (s.heap.objs.size+1)::vs,kw⟩) (PySem.W.InitBack (s.heap.objs.size+1) R)
   { s with heap:=(s.heap.push PySem.W.emptyDict).push (PySem.W.instObj C s.heap.objs.size) }) :
  codeAny (model prog w) A (.call (.ref C) ⟨vs,kw⟩) R s:=by
 obtain⟨c,g,d,t,os⟩:=s;exact PySem.W.make_core (PySem.W.makes_of X a) (PySem.W.looks_findIn X hi) (λself=>PySem.W.bind_fn X self b) (.inl rfl) h
end
noncomputable def Vz(f:Str)(v:V):List (Str×V)->List (Str×V)
 | []=>[(f,v)]
 | (g,x)::r=>if g=f then(g,v)::r else(g,x)::Vz f v r
theorem YU(f g:Str)(v:V):∀ fs:List (Str×V),(Vz f v fs).lookup g=if g=f then some v else fs.lookup g
 | []=>by
  show List.lookup g [(f,v)]=_;by_cases h:g=f
  ·have a:(g==f)=true:=beq_iff_eq.mpr h;simp only[List.lookup,a,if_pos h]
  ·have a:(g==f)=false:=U1.mpr h;simp only[List.lookup,a,if_neg h]
 | (k,x)::r=>by
  have c:=YU f g v r;rw[show Vz f v ((k,x)::r)=(if k=f then(k,v)::r else(k,x)::Vz f v r) from rfl];by_cases b:k=f
  ·rw[if_pos b];by_cases h:g=k
   ·have a:(g==k)=true:=beq_iff_eq.mpr h;simp only[List.lookup,a,if_pos (h.trans b)]
   ·have a:(g==k)=false:=U1.mpr h;simp only[List.lookup,a,if_neg (λe:g=f=>h (e.trans b.symm))]
  ·rw[if_neg b];by_cases h:g=k
   ·have a:(g==k)=true:=beq_iff_eq.mpr h;simp only[List.lookup,a,if_neg (λe:g=f=>b (h.symm.trans e))]
   ·have a:(g==k)=false:=U1.mpr h;simp only[List.lookup,a];exact c
theorem Vg(f:Str)(v:V):∀ fs:List (Str×V),f∈(Vz f v fs).map (·.1)/\∀ g,g∈fs.map (·.1)->g∈(Vz f v fs).map (·.1)
 | []=>⟨by simp[Vz],λg h=>by simp at h⟩
 | (k,x)::r=>by
  obtain⟨b,c⟩:=Vg f v r;rw[show Vz f v ((k,x)::r)=(if k=f then(k,v)::r else(k,x)::Vz f v r) from rfl];by_cases a:k=f
  ·rw[if_pos a];subst a;exact⟨by simp,λg h=>by simpa using h⟩
  ·rw[if_neg a];refine⟨?_,λg h=>?_⟩
   ·rw[L4];exact L5 _ b
   ·rw[L4] at h ⊢;rcases M4.mp h with e | e
    ·exact M4.mpr (.inl e)
    ·exact L5 _ (c g e)
theorem Ys(f:Str)(v:V):∀ fs:List (Str×V),(Vz f v fs).length<=fs.length+1
 | []=>by simp[Vz]
 | (k,x)::r=>by
  have b:=Ys f v r;rw[show Vz f v ((k,x)::r)=(if k=f then(k,v)::r else(k,x)::Vz f v r) from rfl];by_cases a:k=f
  ·rw[if_pos a,M0,M0];lia
  ·rw[if_neg a,M0,M0];lia
theorem RelO.some_of(r:RelO (some v) o):∃ u,o=some u/\RelV v u:=by
 cases o with
 | none=>exact(show False from r).elim
 | some u=>exact⟨u,rfl,r⟩
theorem RelO.none_of(r:RelO none o):o=none:=by
 cases o with
 | none=>rfl
 | some u=>exact(show False from r).elim
theorem jbW(r:RelV v u):PySem.W.handedIn u=true:=by
 cases v with
 | non=>cases(show u=Value.none from r);rfl
 | bl b=>cases(show u=Value.bool b from r);rfl
 | int i=>obtain⟨t,e⟩:=(show ∃ t,u=Value.int i t from r);cases e;rfl
 | str x=>obtain⟨t,e⟩:=(show ∃ t,u=Value.str x t from r);cases e;rfl
 | byt b=>obtain⟨t,e⟩:=(show ∃ t,u=Value.bytes b t from r);cases e;rfl
 | flt b=>obtain⟨t,e⟩:=(show ∃ t,u=Value.float b t from r);cases e;rfl
 | ref a=>cases(show u=Value.ref a from r);rfl
 | ty n=>cases(show u=Value.type n from r);rfl
section
variable {P:Program}{w:World}{H H':Hp}{h h':Heap}{a C dx:Addr}{fs fs':List (Str×V)}
theorem xc(hok:HOk P w H h)(e:H a=some (.ins C dx fs)):∃ mA,ObjM h a dx C mA/\(∀ f,RelO (fs.lookup f) (mA f))/\PySem.Within mA (fs.map (·.1))/\fs.length<=1000/\H dx=some (.own a):=by
 obtain⟨d,z,ne,ob,mA,n,r,q⟩:=(show ObjOk P w H h a (.ins C dx fs) from hok a _ e);exact⟨mA,⟨ob,n,ne⟩,r,q,z,d⟩
end
structure Cls(K:PySem.W.Frag)(C:Addr):Prop where
 pg:PySem.W.plainGet K C Str.empty=true
 hd:PySem.W.hasDictIn K C=true
 po:PySem.W.plainOver K C=true
 sa:PySem.W.findIn K (.ref C) "__setattr__" = some (some (.builtin "object.__setattr__"))
theorem Cls.get{K:PySem.W.Frag}{C:Addr}(c:Cls K C)(f:Str):PySem.W.plainGet K C f=true:=c.pg
def NoAttr(K:PySem.W.Frag)(C:Addr)(f:Str):Prop:=PySem.W.findIn K (.ref C) f=some none
theorem NoAttr.taker{K:PySem.W.Frag}{C:Addr}{f:Str}(n:NoAttr K C f):PySem.W.takerIn K C f=some none:=by
 unfold PySem.W.takerIn;rw[show PySem.W.findIn K (.ref C) f=some none from n];rfl
structure Con(K:PySem.W.Frag)(C:Addr)(f:Str)(v:V)(u:Value):Prop where
 at_:PySem.W.findIn K (.ref C) f=some (some u)
 rel:RelV v u
 get:PySem.W.specialIn K u "__get__" = some none
 cp:PySem.W.copiedNames.contains f=false
structure Meth(K:PySem.W.Frag)(C:Addr)(m:Str)(f:Addr):Prop where
 at_:PySem.W.findIn K (.ref C) m=some (some (.ref f))
 fn:PySem.W.isFn K (.ref f)=true
 kp:PySem.W.keepIn K (.ref f)=true
section
variable {X:Cx}{pins:List (Addr×Obj)}{σ:St}{H:Hp}{s:Shared}{a C dx:Addr}{fs:List (Str×V)}{f:Str}{v:V}{A:Around}{E:Value->Shared->Prop}
theorem Vy(I:Inv X pins σ H s)(e:H a=some (.ins C dx fs))(c:Cls X.K C)(n:NoAttr X.K C f)(l:fs.lookup f=some v)
  (h:∀ u s',Inv X pins σ H s'->RelV v u->Q u s'):wpAny (model X.prog X.w) A (getAttr (.ref a) f b) Q E s:=by
 obtain⟨g,O,r,_,_,_⟩:=xc I.hok e;obtain⟨u,i,d⟩:=RelO.some_of (v:=v) (o:=g f) (by rw[<- l];exact r f);exact jf9 I.kIn O (c.get f) c.hd n i (jbW d) (h u _ (I.tok _) d)
theorem wG(I:Inv X pins σ H s)(e:H a=some (.ins C dx fs))(c:Cls X.K C)(k:Meth X.K C m g)(l:fs.lookup m=none)
  (h:Q (.ref g,[.ref a]) s):wpAny (model X.prog X.w) A (getMethod (.ref a) m pl) Q E s:=by
 obtain⟨b,O,r,_,_,_⟩:=xc I.hok e;have d:b m=none:=RelO.none_of (by rw[<- l];exact r m);exact jcN I.kIn O (c.get m) k.at_ k.fn d h
theorem Vv(I:Inv X pins σ H s)(e:H a=some (.ins C dx fs))(c:Cls X.K C)(n:NoAttr X.K C f)(D:fs.length < 1000)(l:RelV y u)
  (h:∀ s',Inv X pins σ (upd H a (.ins C dx (Vz f y fs))) s'->Q () s'):wpAny (model X.prog X.w) A (setAttr (.ref a) f u) Q E s:=by
 obtain⟨i,O,r,j,_,k⟩:=xc I.hok e;have m:(fs.map (·.1)).length<=sizeLine:=by rw[L0,sizeLine_eq];lia
 refine jga I.kIn O c.sa c.po n.taker c.hd j m λp d t=>h _ ?_;have hd:∃ o,p.get? dx=some o:=let ⟨o,_,_,e',_⟩:=d.ns;⟨o,e'⟩
 refine I.write (x:=a) (e:=dx) (by rw[e];exact True.intro) (.inr k) (λb q v z=>(t.2 b v).trans z) hd ?_;refine⟨by rw[jf O.ne];exact k,?_,O.ne,d.obj,_,d.ns,λg=>?_,λg B=>?_⟩
 ·have:=Ys f y fs;lia
 ·show RelO ((Vz f y fs).lookup g) (if g=f then some u else i g);rw[YU];by_cases q:g=f
  ·rw[if_pos q,if_pos q];exact l
  ·rw[if_neg q,if_neg q];exact r g
 ·by_cases q:g=f
  ·rw[q];exact(Vg f y fs).1
  ·refine(Vg f y fs).2 g (j g λz=>B ?_);show(if g=f then some u else i g)=none;rw[if_neg q];exact z
theorem Inv.made(I:Inv X pins σ H s):Inv X pins σ (upd (upd H s.heap.objs.size (.own (s.heap.objs.size+1))) (s.heap.objs.size+1) (.ins C s.heap.objs.size []))
  { s with heap:=(s.heap.push PySem.W.emptyDict).push (PySem.W.instObj C s.heap.objs.size) }:=by
 have c:(s.heap.push PySem.W.emptyDict).get? s.heap.objs.size=some PySem.W.emptyDict:=E4 s.heap rfl;have e2:((s.heap.push PySem.W.emptyDict).push (PySem.W.instObj C s.heap.objs.size)).get? (s.heap.objs.size+1)=some (PySem.W.instObj C s.heap.objs.size):=by
  have:=E4 (s.heap.push PySem.W.emptyDict) (o:=PySem.W.instObj C s.heap.objs.size) rfl
  rwa [Heap.size_push] at this
 have e3:(s.heap.push PySem.W.emptyDict).Ns s.heap.objs.size (λ_=>none):=⟨PySem.W.emptyDict,#[],_,c,rfl,(λe d=>absurd d (by simp)),λ_=>rfl⟩;have f:=I.laid (a:=s.heap.objs.size) (o:=.own (s.heap.objs.size+1)) (h':=s.heap.push PySem.W.emptyDict) (t':=s.toks) (λb u q=>L7 _ q) (M8 _) ⟨_,c⟩;refine f.laid (a:=s.heap.objs.size+1) (o:=.ins C s.heap.objs.size []) (t':=s.toks) (λb u q=>L7 _ q) (Nat.le_of_eq (Heap.size_push _ _)) ?_;have ne:s.heap.objs.size≠s.heap.objs.size+1:=N5 (Nat.lt_succ_self _);refine⟨by rw[jf ne,jr],U4 _,ne,e2,λ_=>none,(Heap.Ns1.of_empty e3).at λo q=>L7 _ q,λ_=>True.intro,λy g=>absurd rfl g⟩
theorem jfA(a:attributeBase e f env (eval e env)=eval e env)
  (h:wpAny (model prog w) A (eval e env) (λo s₁=>wpAny (model prog w) A (getAttr o f true) Q E s₁) E s):wpAny (model prog w) A (eval (.Attribute e f pos) env) Q E s :=
 Attribute_any_ h (by rw[arm_eval_Attribute,a])
end
noncomputable def jb6(K:PySem.W.Frag)(ta:TE)(f:Str):TE:=λσ H Q=>ta σ H λx H1=>∃ a C dx fs v,x=.ref a/\H1 a=some (.ins C dx fs)/\Cls K C/\NoAttr K C f/\fs.lookup f=some v/\Q v H1
def jlv(K:PySem.W.Frag)(ta tv:TE)(f:Str):TS:=λD σ H=>tv σ H λy H1=>ta σ H1 λx H2=>∃ a C dx fs,x=.ref a/\H2 a=some (.ins C dx fs)/\Cls K C/\NoAttr K C f/\fs.length < 1000 /\
 D.nx σ (upd H2 a (.ins C dx (Vz f y fs)))
def jlg(X:Cx)(op:Operator)(rd:V->V->Hp->VK->Prop):Prop :=
 ∀(pins:List (Addr×Obj)) (s:Shared) (σ:St) (H:Hp) (x y:V) (u v:Value) (Q:VK),Inv X pins σ H s->RelV x u->RelV y v->rd x y H Q->wpAny (model X.prog X.w) X.A (inplaceOp op u v) (EP X pins σ Q) X.xe s
def zB(K:PySem.W.Frag)(ta tv:TE)(rd:V->V->Hp->VK->Prop)(f:Str):TS:=λD σ H=>ta σ H λx H1=>∃ a C dx fs v,x=.ref a/\H1 a=some (.ins C dx fs)/\Cls K C/\NoAttr K C f/\fs.lookup f=some v /\
 tv σ H1 λy H2=>rd v y H2 λz H3=>∃ dx' fs',H3 a=some (.ins C dx' fs')/\fs'.length < 1000/\D.nx σ (upd H3 a (.ins C dx' (Vz f z fs')))
section
variable {X:Cx}{o e value:Expr}{f:Str}{pos pos' tpos:Pos}{ta tv:TE}
theorem xv(d:PE X e ta)(g:attributeBase e f X.env (eval e X.env)=eval e X.env):PE X (.Attribute e f pos) (jb6 X.K ta f):=by
 intro b s σ H Q I h;refine jfA g (thn (d b s σ H _ I h) λu s1 i=>?_);obtain⟨x,j,k,m,a,C,t,fs,v,ex,o,c,n,l,q⟩:=i;subst ex;obtain rfl:u=Value.ref a:=m;exact Vy k o c n l λw y p r=>⟨v,j,p,r,q⟩
theorem jhd(d:PE X o ta)(e:PE X value tv)(g:swapsWith value (some (.Attribute o f pos')) pos.line X.env=pure false):PS X (.Assign [.Attribute o f pos'] value pos) (jlv X.K ta tv f):=by
 intro b s σ H D I h;refine plainObj_wpAny_Assign_Attribute (thn (e b s σ H _ I h) λu s1 ⟨y,i,j,k,q⟩=>thn (d b s1 σ i _ j q) λm A p=>?_) g;obtain⟨x,B,r,t,a,C,E,fs,ex,v,c,n,l,w⟩:=p;subst ex;obtain rfl:m=Value.ref a:=t;exact Vv r v c n l k λF z=>⟨σ,_,z,w⟩
theorem ja6(i:PE X o ta)(j:PE X value tv)(d:jlg X op rd):PS X (.AugAssign (.Attribute o f tpos) op value pos) (zB X.K ta tv rd f):=by
 intro b s σ H D I h;refine wpAny_AugAssign_AttributeAny (thn (i b s σ H _ I h) λk s1 e=>?_);obtain⟨x,m,p,r,a,C,U,fs,v,ex,t,c,n,l,q⟩:=e;subst ex;obtain rfl:k=Value.ref a:=r;refine Vy p t c n l λu w A B=>thn (j b w σ m _ A q) λE F ⟨y,G,J,L,M⟩=>thn (d b F σ G v y u E _ J B L M) λV W e=>?_;obtain⟨z,Y,N,O,P,Q,g,R,S⟩:=e;exact Vv N g c n R O λZ T=>⟨σ,_,T,S⟩
def jkS:V->V->Hp->VK->Prop:=λx y H Q=>∃ i j,x=.int i/\y=.int j/\Q (.int (i - j)) H
theorem jee:jlg X .Sub jkS:=by
 rintro a s σ H x y u v Q I c d ⟨i,j,rfl,rfl,q⟩;obtain⟨t,rfl⟩:=(show ∃ t,u=Value.int i t from c);obtain⟨b,rfl⟩:=(show ∃ b,v=Value.int j b from d);exact PyProof.Rows.isub_int ⟨.int (i - j),H,I.tok _,⟨_,rfl⟩,q⟩
end
section
variable {X:Cx}{pins:List (Addr×Obj)}{σ:St}{H:Hp}{s:Shared}{A:Around}{E:Value->Shared->Prop}{Q:Value->Shared->Prop}{c:Value}{b:Bool}
inductive TyOf (K:PySem.W.Frag) (H:Hp):V->Value->Prop where
 | non:TyOf K H .non (.type "NoneType")
 | bl (x:Bool):TyOf K H (.bl x) (.type "bool")
 | int (i:Int):TyOf K H (.int i) (.type "int")
 | str (x:Str):TyOf K H (.str x) (.type "str")
 | flt (x:UInt64):TyOf K H (.flt x) (.type "float")
 | lst {a:Addr}{xs:List V}(e:H a=some (.lst xs)):TyOf K H (.ref a) (.type "list")
 | frz {a:Addr}{o:Obj}{xs:List V}(e:H a=some (.frz o (.lst xs))):TyOf K H (.ref a) (.type "list")
 | tup {a:Addr}{xs:List V}(e:H a=some (.tup xs)):TyOf K H (.ref a) (.type "tuple")
 | dK {a:Addr}{kvs:List (Key×V)}(e:H a=some (.dK kvs)):TyOf K H (.ref a) (.type "dict")
 | dT {a:Addr}{kvs:List (List Key×V)}(e:H a=some (.dT kvs)):TyOf K H (.ref a) (.type "dict")
 | ins {a C dx:Addr}{fs:List (Str×V)}(e:H a=some (.ins C dx fs)) (cl:Cls K C) (ha:PySem.W.findIn K (.ref C) "__class__" = some (some (.builtin "object.__class__")))
   (hn:PySem.W.specialIn K (.builtin "object.__class__") "__get__" = some (some (.builtin "getset_descriptor.__get__"))) (htk:PySem.W.takesIn K (.builtin "object.__class__")=some true)
   (hm:PySem.W.mroIn K C (.type "object")=some true):TyOf K H (.ref a) (.ref C)
end
structure Room(k:Nat)(A:Around):Prop where
 hd:A.handled=none
 dp:A.depth+3*k+5 < recursionLimit
 un:A.units+16*k+200 < cLine
theorem Room.mono(r:Room k A)(h:j<=k):Room j A:=⟨r.hd,by have:=r.dp;lia,by have:=r.un;lia⟩
theorem Room.deeper(r:Room (k+1) A)(env:Env):Room k (A.deeper env) :=
 ⟨r.hd,by have:=r.dp;show A.depth+1+3*k+5 < _;lia,by have:=r.un;show A.units+3+16*k+200 < _;lia⟩
theorem ui{A:Around}{us:List Value}{kw:List (Str×Value)}:(A.under (.builtin "type.__call__" ⟨.ref C::us,kw⟩)).depth=A.depth+1:=by
 first | rfl | simp[Around.under,Code.weight,Code.isCreation,Code.isGuard,Code.isCaller,Code.frames,Code.isFrame,guardIds]
theorem wY{A:Around}{us:List Value}{kw:List (Str×Value)}:(A.under (.builtin "type.__call__" ⟨.ref C::us,kw⟩)).units=A.units+1:=by
 first | rfl | simp[Around.under,Code.cUnits,Code.frames,Code.isFrame]
theorem Room.make(r:Room (k+1) A)(C:Addr)(us:List Value)(kw:List (Str×Value)):Room k (A.under (.builtin "type.__call__" ⟨.ref C::us,kw⟩)) :=
 ⟨r.hd,by have:=r.dp;rw[ui];lia,by have:=r.un;rw[wY];lia⟩
theorem Room.depth(r:Room k A):A.depth < recursionLimit:=by have:=r.dp;lia
theorem Room.units(r:Room k A):A.units+64 < cLine:=by have:=r.un;lia
noncomputable def Ye:TA:=λ_ H Q=>Q [] H
noncomputable def j9(ta:TE)(tr:TA):TA:=λσ H Q=>ta σ H λx H1=>tr σ H1 λxs H2=>Q (x::xs) H2
section
variable {X:Cx}{e:Expr}{es:List Expr}{te:TE}{t:TA}{pos:Pos}
theorem kF:PA X [] Ye:=λ_ _ _ _ H Q I h=>Calls.spliced_nil ⟨[],H,I,.nil,h⟩
theorem ya(b:PE X e te)(c:PA X es t)(d:starEach (e::es) X.env=(false,eval e X.env)::starEach es X.env:=by rfl):PA X (e::es) (j9 te t):=by
 intro pos a s σ H Q I h;rw[d];show wpAny _ _ (spliced ((false,eval e X.env)::backTo pos (starEach es X.env))) _ _ s;refine Calls.spliced_cons (thn (b a s σ H _ I h) λu s1 f=>?_);obtain⟨x,g,i,j,k⟩:=f;exact thn (c pos a s1 σ g _ i k) λq r ⟨l,m,n,o,p⟩=>⟨x::l,m,n,.cons j o,p⟩
def xR(t:TA):TE:=λσ H Q=>t σ H λxs H1=>xs.length<=sizeLine/\∀ p,H1 p=none->Q (.ref p) (upd H1 p (.tup xs))
def jht(t:TA):TE:=λσ H Q=>t σ H λxs H1=>xs.length<=sizeLine/\∀ p,H1 p=none->Q (.ref p) (upd H1 p (.lst xs))
theorem VB{x1}(h:PA X es t):PE X (.Tuple es x1 pos) (xR t):=by
 intro a s σ H Q I f;refine wpAny_Tuple_spliced (thn (h pos a s σ H _ I f) λg s1 ⟨i,c,d,r,z,q⟩=>⟨by rw[<- r.length];exact z,?_⟩);have j:c s1.heap.objs.size=none:=d.hok.fresh (M8 _);refine⟨.ref s1.heap.objs.size,upd c s1.heap.objs.size (.tup i),d.laid (t':=s1.toks) (λb u e=>L7 _ e) (M8 _) ?_,rfl,q _ j⟩;exact⟨z,g,r,⟨_,E4 _ rfl,rfl,_,rfl⟩,_,E4 _ rfl,rfl⟩
theorem jdN(h:PA X es t):PE X (.List es pos) (jht t):=by
 intro a s σ H Q I f;refine wpAny_List_spliced (thn (h pos a s σ H _ I f) λg s1 ⟨i,c,d,r,z,q⟩=>⟨by rw[<- r.length];exact z,?_⟩);have j:c s1.heap.objs.size=none:=d.hok.fresh (M8 _);refine⟨.ref s1.heap.objs.size,upd c s1.heap.objs.size (.lst i),d.laid (t':=s1.toks) (λb u e=>L7 _ e) (M8 _) ?_,rfl,q _ j⟩;exact⟨z,g,0,r,E4 _ rfl⟩
end
abbrev Sp:=List V->Hp->VK->XK->Prop
abbrev CXT:=List Env->Hp->Shared->XK->Value->Shared->Prop
structure Env0(P:Program)(w:World)(K:PySem.W.Frag)(mg:Str->Option Value)(base:Heap)(A:Around)(outer:List Env)(s:Shared)(H:Hp):Prop where
 frames:A.frames=some outer
 mod:Mod K mg base
 bs:∀ b o,base.get? b=some o->s.heap.get? b=some o/\H b=none
 bsz:base.objs.size<=s.heap.objs.size
 funs:s.heap.FunFrames base outer
 frf:∀ b∈frs outer,H b=none
 hok:HOk P w H s.heap
 bare:AllBare s.gens
def CE(outer:List Env)(P:Program)(w:World)(H:Hp)(s:Shared)(Q:VK)(u:Value)(s':Shared):Prop :=
 ∃ v H',s'.os=s.os/\AllBare s'.gens/\Un (frs outer) [] H H' s.heap s'.heap/\HOk P w H' s'.heap/\RelV v u/\Q v H'
def CR(CX:CXT)(outer:List Env)(P:Program)(w:World)(H:Hp)(s:Shared)(Q:VK)(E:XK)(r:Result)(s':Shared):Prop :=
 match r with
 | .ok (.ret u)=>CE outer P w H s Q u s'
 | .ok _=>False
 | .error e=>CX outer H s E e s'
structure FnOk(P:Program)(w:World)(K:PySem.W.Frag)(mg:Str->Option Value)(base:Heap)(CX:CXT)(k:Nat)(f:Addr)(fd:FuncData)(ps:List Str)(sp:Sp):Prop where
 len:∀ vs H Q E,sp vs H Q E->vs.length=ps.length
 run:∀(A:Around) (outer:List Env) (s:Shared) (H:Hp) (args:Args) (us:List Value) (vs:List V) (Q:VK) (E:XK),Room k A->Env0 P w K mg base A outer s H->BindsTo s fd args (ps.zip us)->Vals vs us->sp vs H Q E ->
  codeAny (model P w) A (.call (.ref f) args) (CR CX outer P w H s Q E) s
theorem FnOk.imp{P:Program}{w:World}{K:PySem.W.Frag}{mg:Str->Option Value}{base:Heap}{CX:CXT}{k:Nat}{f:Addr}{fd:FuncData}{ps:List Str}{sp a:Sp}(F:FnOk P w K mg base CX k f fd ps sp)
  (h:∀ vs H Q E,a vs H Q E->sp vs H Q E):FnOk P w K mg base CX k f fd ps a :=
 ⟨λvs H Q E q=>F.len vs H Q E (h _ _ _ _ q),λA outer s H b c vs Q E d e g i j=>F.run A outer s H b c vs Q E d e g i (h _ _ _ _ j)⟩
theorem Env0.make{P:Program}{w:World}{K:PySem.W.Frag}{mg:Str->Option Value}{base:Heap}{A:Around}{outer:List Env}{s:Shared}{H:Hp}(e:Env0 P w K mg base A outer s H)(C:Addr)(us:List Value)(kw:List (Str×Value)) :
  Env0 P w K mg base (A.under (.builtin "type.__call__" ⟨.ref C::us,kw⟩)) outer s H:=⟨by first | exact e.frames | (simpa [Around.under,Code.envs,Code.isFrame,pushEnvs] using e.frames),e.mod,e.bs,e.bsz,e.funs,e.frf,e.hok,e.bare⟩
section
variable {X:Cx}{pins:List (Addr×Obj)}{σ:St}{H:Hp}{s s':Shared}
theorem Inv.env0(I:Inv X pins σ H s):Env0 X.prog X.w X.K X.mg X.base X.A X.stack s H :=
 ⟨I.ok.frames,I.ok.mod,I.bs,N6 I.ok.bsz I.sz,I.stack,I.stkFree,I.hok,I.bare⟩
theorem Inv.after(I:Inv X pins σ H s)(h:CE X.stack X.prog X.w H s Q u s'):EP X pins σ Q u s':=by
 obtain⟨v,c,os,bare,un,hok,r,q⟩:=h;obtain⟨e,g,d,t,a⟩:=s';obtain rfl:a=s.os:=os;exact⟨v,c,I.call (h':=e) (g':=g) (d':=d) (t':=t) (ch:=[]) un hok bare (λb z=>absurd z (by simp)),r,q⟩
end
noncomputable def wA(sp:Sp)(dvs:List V)(E:XK)(t:TA):TE:=λσ H Q=>t σ H λvs H1=>sp (vs++dvs) H1 Q E
noncomputable def jav(C:Addr)(m:Str)(sp:Sp)(dvs:List V)(E:XK)(ta:TE)(t:TA):TE:=λσ H Q=>ta σ H λx H1=>∃ a dx fs,x=.ref a/\H1 a=some (.ins C dx fs)/\fs.lookup m=none /\
 t σ H1 λvs H2=>sp (x::(vs++dvs)) H2 Q E
def je5(C:Addr)(sp:Sp)(dvs:List V)(E:XK)(t:TA):TE:=λσ H Q=>t σ H λvs H1=>∀ x dx,H1 x=none->H1 dx=none->dx≠x ->
 sp (.ref x::(vs++dvs)) (upd (upd H1 dx (.own x)) x (.ins C dx [])) (λv H2=>v=.non/\Q (.ref x) H2) E
def Binds(K:PySem.W.Frag)(fd:FuncData)(ps:List Str)(ds:List Value):Prop :=
 ∀(s:Shared) (us:List Value),K.In s.heap->(us++ds).length=ps.length->BindsTo s fd ⟨us,[]⟩ (ps.zip (us++ds))
theorem Binds.all{K:PySem.W.Frag}{fd:FuncData}{ps:List Str}(h:∀ us:List Value,us.length=ps.length->bindArgs fd ⟨us,[]⟩=pure (ps.zip us)):Binds K fd ps []:=λs us _ a=>by
 rw[M9] at a ⊢;exact .of_eq (h us a)
def VE(CX:CXT)(X:Cx)(E:XK):Prop:=∀(pins:List (Addr×Obj)) (σ:St) (H:Hp) (s:Shared) (e:Value) (s':Shared),Inv X pins σ H s->CX X.stack H s E e s'->X.xe e s'
section
variable {X:Cx}{CX:CXT}{k:Nat}{f C:Addr}{fd:FuncData}{ps:List Str}{sp:Sp}{dvs:List V}{ds:List Value}{E:XK}{x m:Str}{p pos apos:Pos}{e o:Expr}{es:List Expr}{ta:TE}{t:TA}
theorem jeh(F:FnOk X.prog X.w X.K X.mg X.base CX k f fd ps sp)(c:Room k X.A)(d:Binds X.K fd ps ds)(hd:Vals dvs ds)(g:VE CX X E)
  (I:Inv X pins σ H s) (r:Vals vs us) (h:sp (vs++dvs) H Q E):wpAny (model X.prog X.w) X.A (call (.ref f) us) (EP X pins σ Q) X.xe s:=by
 have b:Vals (vs++dvs) (us++ds):=r.append hd;have i:(us++ds).length=ps.length:=by rw[<- b.length];exact F.len _ _ _ _ h
 refine wpAny_call (codeAny_mono (F.run X.A X.stack s H ⟨us,[]⟩ (us++ds) (vs++dvs) Q E c I.env0 (d s us I.kIn i) b h) λr j a=>?_);cases r with
 | error e=>exact g pins σ H s e j I a
 | ok l =>
  cases l with
  | ret u=>exact I.after a
  | next=>exact False.elim a
  | brk=>exact False.elim a
  | cont=>exact False.elim a
theorem jgO(F:FnOk X.prog X.w X.K X.mg X.base CX k f fd ps sp)(g:Room k X.A)(i:Gl X x)(j:X.mg x=some (.ref f))(l:PySem.W.keepIn X.K (.ref f)=true)(m:Binds X.K fd ps ds)(hd:Vals dvs ds)(n:VE CX X E)
  (o:PA X (e::es) t) (b:(x==("__debug__" : Str))=false:=by decide) (u:starEach (e::es) X.env=(false,eval e X.env)::starEach es X.env:=by rfl) (c:(backTo pos (starEach es X.env)).any (·.1)=false:=by rfl) :
  PE X (.Call (.Name x p) (e::es) [] pos) (wA sp dvs E t):=by
 intro a s σ H Q I h;refine wpAny_Call_Name_kw (uU I i j ?_ b);refine PySem.W.callWith_K (h₀:=X.base) I.ok.mod.kin l (thn (o pos a s σ H _ I h) λv s1 ⟨y,z,d,r,q⟩=>⟨d.kIn,?_⟩) u c;exact jeh F g m hd n d r q
theorem jau(y:PE X o ta)(c:Cls X.K C)(i:Meth X.K C m f)(F:FnOk X.prog X.w X.K X.mg X.base CX k f fd ps sp)(z:Room k X.A)(B:Binds X.K fd ps ds)(hd:Vals dvs ds)(D:VE CX X E)(G:PA X (e::es) t)
  (d:starEach (e::es) X.env=(false,eval e X.env)::starEach es X.env:=by rfl) (g:(backTo pos (starEach es X.env)).any (·.1)=false:=by rfl)
  (J:eval (.Call (.Attribute o m apos) (e::es) [] pos) X.env=(do
   let ov <- eval o X.env
   standAt apos.atName
   let (f,first) <- holding [ov] (getMethod ov m pl)
   callWith pos f first (backTo pos (starEach (e::es) X.env)) (backToKw pos (keywordEach [] X.env))):=by rfl) :
  PE X (.Call (.Attribute o m apos) (e::es) [] pos) (jav C m sp dvs E ta t):=by
 intro b s σ H Q I h;refine PySem.W.methodCall_KW (pl:=pl) (thn (y b s σ H _ I h) λu s1 L=>?_) J;obtain⟨x,M,j,N,a,R,fs,ex,O,l,q⟩:=L;subst ex;obtain rfl:u=Value.ref a:=N;refine wG j O c i l ?_;refine PySem.W.callWith_K (first:=[.ref a]) (h₀:=X.base) I.ok.mod.kin i.kp (thn (G pos b s1 σ M _ j q) λn S ⟨p,T,v,r,P⟩=>⟨v.kIn,?_⟩) d g;exact jeh (us:=.ref a::n) (vs:=.ref a::p) F z B hd D v (.cons rfl r) P
structure Mk(K:PySem.W.Frag)(C f:Addr):Prop where
 makes:PySem.W.makesIn K C=true
 init:PySem.W.findIn K (.ref C) "__init__" = some (some (.ref f))
 fn:PySem.W.isFn K (.ref f)=true
 kp:PySem.W.keepIn K (.ref C)=true
theorem jcj(M:Mk X.K C f)(F:FnOk X.prog X.w X.K X.mg X.base CX k f fd ps sp)(g:Room (k+1) X.A)(i:Binds X.K fd ps ds)(hd:Vals dvs ds)
  (j:VE CX X E) (I:Inv X pins σ H s) (r:Vals vs us)
  (h:∀ x dx,H x=none->H dx=none->dx≠x->sp (.ref x::(vs++dvs)) (upd (upd H dx (.own x)) x (.ins C dx [])) (λv H2=>v=.non/\Q (.ref x) H2) E) :
  wpAny (model X.prog X.w) X.A (call (.ref C) us) (EP X pins σ Q) X.xe s:=by
 have c:=h (s.heap.objs.size+1) s.heap.objs.size (I.hok.fresh (Nat.le_succ _)) (I.hok.fresh (M8 _)) (N5 (Nat.lt_succ_self _));have b:=Inv.made (C:=C) I;have d:Vals (V.ref (s.heap.objs.size+1)::(vs++dvs)) (Value.ref (s.heap.objs.size+1)::(us++ds)):=.cons rfl (r.append hd);have l:(Value.ref (s.heap.objs.size+1)::us++ds).length=ps.length:=by
  have e:=d.length;rw[F.len _ _ _ _ c] at e;exact e.symm
 refine wpAny_call (jcx (f:=f) I.kIn M.makes M.init (beq_iff_eq.mp M.fn) (codeAny_mono (F.run _ X.stack _ _ ⟨Value.ref (s.heap.objs.size+1)::us,[]⟩ (Value.ref (s.heap.objs.size+1)::(us++ds)) _ _ E (g.make C us [])
  (b.env0.make C us []) (i _ (Value.ref (s.heap.objs.size+1)::us) b.kIn l) d c) λr m a=>?_))
 cases r with
 | error e=>exact j pins σ _ _ e m b a
 | ok n =>
  cases n with
  | ret u =>
   obtain⟨v,o,p,q,t,y⟩:=b.after a;subst t;exact⟨q,⟨V.ref (s.heap.objs.size+1),o,p,rfl,y⟩⟩
  | next=>exact False.elim a
  | brk=>exact False.elim a
  | cont=>exact False.elim a
theorem jfm(M:Mk X.K C f)(F:FnOk X.prog X.w X.K X.mg X.base CX k f fd ps sp)(g:Room (k+1) X.A)(i:Gl X x)(j:X.mg x=some (.ref C))(l:Binds X.K fd ps ds)(hd:Vals dvs ds)(m:VE CX X E)
  (n:PA X (e::es) t) (b:(x==("__debug__" : Str))=false:=by decide) (o:starEach (e::es) X.env=(false,eval e X.env)::starEach es X.env:=by rfl) (c:(backTo pos (starEach es X.env)).any (·.1)=false:=by rfl) :
  PE X (.Call (.Name x p) (e::es) [] pos) (je5 C sp dvs E t):=by
 intro a s σ H Q I h;refine wpAny_Call_Name_kw (uU I i j ?_ b);refine PySem.W.callWith_K (h₀:=X.base) I.ok.mod.kin M.kp (thn (n pos a s σ H _ I h) λu s1 ⟨v,y,d,r,q⟩=>⟨d.kIn,?_⟩) o c;exact jcj M F g l hd m d r q
end
section
variable {X:Cx}{CX:CXT}{k:Nat}{f C:Addr}{fd:FuncData}{ps ks:List Str}{sp:Sp}{E:XK}{x m:Str}{p pos apos kpos:Pos}{e o:Expr}{es:List Expr}{kws:List Keyword}{te ta:TE}{t tk:TA}{nm:Option Str}
structure KBinds(K:PySem.W.Frag)(fd:FuncData)(ps ks:List Str)(g:List Value->List Value->List Value)(gV:List V->List V->List V):Prop where
 to:∀(s:Shared) (us ws:List Value),K.In s.heap->(g us ws).length=ps.length->BindsTo s fd ⟨us,ks.zip ws⟩ (ps.zip (g us ws))
 rel:∀{vs:List V}{us:List Value}{zs:List V}{ws:List Value},Vals vs us->Vals zs ws->Vals (gV vs zs) (g us ws)
variable {g:List Value->List Value->List Value}{gV:List V->List V->List V}
end
structure FnScope(N P:List Str)(sc:Scope):Prop where
 kind:sc.kind=.function
 co:sc.isCoroutine=false
 gen:sc.isGenerator=false
 nd:N.Nodup
 pre:N.take P.length=P
 par:∀ x∈P,sc.names.lookup x=some .local \/ sc.names.lookup x=some .cell
 nofree:∀ y∈sc.names,y.2≠.free
theorem K7{kindOf:Str->Option NameKind}  : ∀{binds:List (Str×Value)}{m:Str->Option Value},(∀ v,(x,v)∉binds)->bindL kindOf binds m x=m x
 | [],_,_=>rfl
 | (n,v)::r,m,h=>by
  unfold bindL;rw[K7 λw a=>h w (L5 _ a)];split
  ·have:x≠n:=by rintro rfl;exact h v L6
   simp[this]
  ·rfl
theorem QM{kindOf:Str->Option NameKind}  : ∀{binds:List (Str×Value)}{m:Str->Option Value},(∀ v,(x,v)∉binds)->bindC kindOf binds m x=m x
 | [],_,_=>rfl
 | (n,v)::r,m,h=>by
  unfold bindC;rw[QM λw a=>h w (L5 _ a)];split
  ·rfl
  ·have:x≠n:=by rintro rfl;exact h v L6
   simp[this]
theorem Qb{kindOf:Str->Option NameKind}  : ∀{P:List Str}{vs:List Value}{i:Nat}{m:Str->Option Value},P.Nodup->P[i]?=some x->vs[i]?=some v->kindOf x=some .local ->
  bindL kindOf (P.zip vs) m x=some v
 | [],_,_,_,_,h,_,_=>by simp at h
 | _::_,[],_,_,_,_,h,_=>by simp at h
 | p::P,w::vs,0,m,nd,a,b,c=>by
  simp at a b;subst a;subst b;show bindL kindOf ((p,w)::P.zip vs) m p=_;unfold bindL;rw[K7 λv d=>(List.nodup_cons.mp nd).1 (List.of_mem_zip d).1,if_pos c];simp
 | p::P,w::vs,i+1,m,nd,a,b,c=>by
  show bindL kindOf ((p,w)::P.zip vs) m x=_;unfold bindL;exact Qb (i:=i) (List.nodup_cons.mp nd).2 (by simpa using a) (by simpa using b) c
theorem Qk{kindOf:Str->Option NameKind}  : ∀{P:List Str}{vs:List Value}{i:Nat}{m:Str->Option Value},P.Nodup->P[i]?=some x->vs[i]?=some v->kindOf x≠some .local ->
  bindC kindOf (P.zip vs) m x=some v
 | [],_,_,_,_,h,_,_=>by simp at h
 | _::_,[],_,_,_,_,h,_=>by simp at h
 | p::P,w::vs,0,m,nd,a,b,c=>by
  simp at a b;subst a;subst b;show bindC kindOf ((p,w)::P.zip vs) m p=_;unfold bindC;rw[QM λv d=>(List.nodup_cons.mp nd).1 (List.of_mem_zip d).1,if_neg c];simp
 | p::P,w::vs,i+1,m,nd,a,b,c=>by
  show bindC kindOf ((p,w)::P.zip vs) m x=_;unfold bindC;exact Qk (i:=i) (List.nodup_cons.mp nd).2 (by simpa using a) (by simpa using b) c
noncomputable def start(N:List Str)(vs:List V):St:=vs.map some++List.replicate (N.length - vs.length) none
noncomputable def jeb(CX:CXT)(P:Program)(w:World)(K:PySem.W.Frag)(mg:Str->Option Value)(base:Heap)(N:List Str)(qual:Str)(scope:Scope)(f:Addr)(cd:Value)(A:Around)(outer:List Env)(s:Shared)(H:Hp)(E:XK):Cx where
 prog:=P
 w:=w
 K:=K
 mg:=mg
 base:=base
 A:=A.deeper (envOfC qual scope s.heap.objs.size f cd)
 N:=N
 s₀:=s
 H₀:=H
 env:=envOfC qual scope s.heap.objs.size f cd
 outer:=outer
 stack:=envOfC qual scope s.heap.objs.size f cd::outer
 ex:=[]
 calm:=true
 fn:=λ_=>true
 pn:=[]
 xe:=λe s'=>wpAny (model P w) (A.deeper (envOfC qual scope s.heap.objs.size f cd)) (leaving (envOfC qual scope s.heap.objs.size f cd) e) (λ_ s''=>CX outer H s E e s'') (λe' s''=>CX outer H s E e' s'') s'
theorem xJ{sc:Scope}{n:Nat}(h:sc.names.lookup x=some .cell):∃ c,(cellsFrom n sc.names []).lookup x=some c:=by
 have q:=PySem.W.cellsFrom_some sc.names n [] (.inl h);exact Option.isSome_iff_exists.mp q
theorem uK{CX:CXT}{P:Program}{w:World}{K:PySem.W.Frag}{mg:Str->Option Value}{base:Heap}{N ps:List Str}{qual:Str}{scope:Scope}{f:Addr}{cd:Value}{A:Around}{outer:List Env}{s s1:Shared}{H:Hp}{E:XK}{us:List Value}{vs:List V}
  (S:FnScope N ps scope) (hd:A.handled=none) (g:Env0 P w K mg base A outer s H) (I:vs.length=ps.length) (r:Vals vs us)
  (x:InCallC s s.heap.objs.size (bindL (envOfC qual scope s.heap.objs.size f cd).kindOf (ps.zip us) λ_=>none) (cellsFrom (s.heap.objs.size+1) scope.names []) (bindC (envOfC qual scope s.heap.objs.size f cd).kindOf (ps.zip us) λ_=>none) s1) :
  Inv (jeb CX P w K mg base N qual scope f cd A outer s H E) [] (start N vs) H s1:=by
 have D:ps.length<=N.length:=by have:=congrArg List.length S.pre;rw[E1] at this;lia
 obtain⟨t,J,rfl,B⟩:=x.done;have j:∀ b:Addr,b∉(jeb CX P w K mg base N qual scope f cd A outer s H E).ex:=λb z=>absurd (show b∈([]:List Addr) from z) (by simp);refine⟨⟨g.mod,S.kind,rfl,rfl,M8 _,λy z c t d=>?_,λy l=>?_,λy c _ h=>?_,λ_=>hd,Around.frames_deeper g.frames,.inr ⟨rfl,rfl⟩,λb z=>absurd z (j b),g.bs,g.bsz,λb _ _=>j b,λb z=>absurd z (j b),g.funs,g.frf⟩,
  rfl,g.bare,Un.kept B,⟨_,x.toInCall.ns,λi y v t d L=>?_⟩,λy c h=>⟨_,x.cell y c h⟩,g.hok.fresh (M8 _),λy c h=>?_,λp m=>absurd (show p∈([]:List (Addr×Obj)) from m) (by simp),g.hok.kept B,?_⟩
 ·exact name_of_addr x.apart (PySem.mem_of_lookup t) (PySem.mem_of_lookup d)
 ·have l:scope.names.lookup y=some .cell \/ scope.names.lookup y=some .free:=l;rcases l with l | l
  ·exact xJ l
  ·exact absurd rfl (S.nofree _ (PySem.mem_of_lookup l))
 ·exact Nat.le_of_lt (x.above y c (PySem.mem_of_lookup h))
 ·have hi:i < vs.length:=by
   unfold start at d;by_cases hi:i < vs.length
   ·exact hi
   ·rw[List.getElem?_append_right (by simpa using hi)] at d;rw[List.getElem?_replicate] at d;split at d<;>cases d
  have F:vs[i]?=some v:=by
   unfold start at d;rw[List.getElem?_append_left (by simpa using hi),List.getElem?_map] at d;cases e:vs[i]? with
   | none=>rw[e] at d;cases d
   | some a=>rw[e] at d;cases d;rfl
  obtain⟨u,C,G⟩:=r.get F;have m:ps[i]?=some y:=by
   rw[<- S.pre,List.getElem?_take_of_lt (by lia)];exact t
  have o:ps.Nodup:=by rw[<- S.pre];exact S.nd.sublist (List.take_sublist _ _)
  refine⟨u,G,?_⟩;rcases S.par y (List.mem_of_getElem? m) with k | k
  ·exact .inl ⟨k,Qb o m C k⟩
  ·obtain⟨c,e⟩:=xJ (n:=s.heap.objs.size+1) k;refine .inr ⟨.inl k,c,e,?_⟩;have q:=x.cell y c e;rw[Qk o m C (by show scope.names.lookup y≠_;rw[k];decide)] at q;exact q
 ·exact g.hok.fresh (Nat.le_of_lt (x.above y c (PySem.mem_of_lookup h)))
 ·unfold start;show _=N.length;rw[N3,L0,List.length_replicate]
  lia
theorem jkT{CX:CXT}{P:Program}{w:World}{K:PySem.W.Frag}{mg:Str->Option Value}{base:Heap}{k:Nat}{f:Addr}{name qual:Str}{params:Arguments}{body:List Stmt}{scope:Scope}{F kV h pm a ct oc:Value}{an od:Option Addr}
  {p:Array (Option Value)}{N ps:List Str}{sp:Sp}(M:K.lookup f=some ⟨oc,od,.func (PySem.W.fnOf name qual params body scope F kV h pm an a ct),p⟩) (z:PySem.W.codeIn K a qual=true) (S:FnScope N ps scope)
  (len:∀ vs H Q E,sp vs H Q E->vs.length=ps.length)
  (c:∀(A:Around) (outer:List Env) (s:Shared) (H:Hp) (vs:List V) (Q:VK) (E:XK),Room k (A.deeper (envOfC qual scope s.heap.objs.size f a))->sp vs H Q E ->
   ∃ t,PSs (jeb CX P w K mg base N qual scope f a A outer s H E) body t/\t { nx:=λ_ H'=>Q .non H',rt:=Q } (start N vs) H) :
  FnOk P w K mg base CX (k+1) f (PySem.W.fnOf name qual params body scope F kV h pm an a ct) ps sp:=by
 refine⟨len,λA outer s H G O vs Q E B i R r j=>?_⟩;have T:=len _ _ _ _ j;have L:K.In s.heap:=i.mod.kin.keeps λb o e=>(i.bs b o e).1;have lim:s.heap.NoLimit:=i.mod.nolimit.keeps λb o e=>(i.bs b o e).1;have d:∀ y∈ps.zip O,scope.names.lookup y.1=some .local \/ (scope.names.lookup y.1=some .cell/\((cellsFrom (s.heap.objs.size+1) scope.names []).lookup y.1).isSome=true):=λ⟨n,v⟩ U=>by
  rcases S.par n (List.of_mem_zip U).1 with q | q
  ·exact .inl q
  ·exact .inr ⟨q,PySem.W.cellsFrom_some _ _ _ (.inl q)⟩
 refine codeAny_call_function B.depth (L _ _ M) rfl S.co S.gen rfl (PySem.W.codeRec_of L z) (R _ _ _ _ ?_);refine wpAny_newFunctionEnv_cells S.kind d λenv X s1 x=>?_;subst X;refine⟨lim.keeps x.toInCall.keep,codeAny_func ?_⟩;obtain⟨t,Y,Z⟩:=c A outer s H vs Q E (B.deeper _) j;have I:Inv (jeb CX P w K mg base N qual scope f a A outer s H E) [] (start N vs) H s1:=uK S B.hd i T r x;refine wpAny_mono (Y [] s1 (start N vs) H _ I Z) (λfl C g=>?_) λe C g=>g;have l:∀{m:St}{H':Hp}{v:V}{u:Value},Inv (jeb CX P w K mg base N qual scope f a A outer s H E) [] m H' C->RelV v u->Q v H'->CE outer P w H s Q u C :=
  λ{m H' v u} J D q=>⟨v,H',J.os,J.bare,J.base,J.hok,D,q⟩
 cases fl with
 | ret u =>
  obtain⟨v,m,H',J,D,q⟩:=g;exact l J D q
 | next =>
  obtain⟨m,H',J,q⟩:=g;exact l (v:=V.non) (u:=Value.none) J rfl q
 | brk =>
  obtain⟨_,_,_,q⟩:=g;exact False.elim q
 | cont =>
  obtain⟨_,_,_,q⟩:=g;exact False.elim q
section
variable {X:Cx}{x:Str}{p pos:Pos}{e:Expr}{es:List Expr}{t:TA}{id T:String}{r:List V->Hp->VK->Prop}
noncomputable def tCB(r:List V->Hp->VK->Prop)(t:TA):TE:=λσ H Q=>t σ H λvs H1=>r vs H1 Q
theorem xI(d:JM X (.builtin id) r)(f:Gl X x)(g:X.mg x=none)(i:bootBuiltins x=some (.builtin id))(j:PA X (e::es) t)(k:x≠"__name__":=by decide)(b:(x==("__debug__" : Str))=false:=by decide)
  (l:starEach (e::es) X.env=(false,eval e X.env)::starEach es X.env:=by rfl) (c:(backTo pos (starEach es X.env)).any (·.1)=false:=by rfl):PE X (.Call (.Name x p) (e::es) [] pos) (tCB r t):=by
 intro a s σ H Q I h;refine wpAny_Call_Name_kw (JY I f g i ?_ k b);exact PyProof.Rows.callWith_builtin1 (thn (j pos a s σ H _ I h) λm s1 ⟨n,o,q,u,v⟩=>d a s1 σ o n m Q q u v) l c
theorem QV(d:JM X (.type T) r)(f:Gl X x)(g:X.mg x=none)(i:bootBuiltins x=some (.type T))(j:PA X (e::es) t)(k:x≠"__name__":=by decide)(b:(x==("__debug__" : Str))=false:=by decide)
  (l:starEach (e::es) X.env=(false,eval e X.env)::starEach es X.env:=by rfl) (c:(backTo pos (starEach es X.env)).any (·.1)=false:=by rfl):PE X (.Call (.Name x p) (e::es) [] pos) (tCB r t):=by
 intro a s σ H Q I h;refine wpAny_Call_Name_kw (JY I f g i ?_ k b);exact PyProof.Rows.callWith_type1 (thn (j pos a s σ H _ I h) λm s1 ⟨n,o,q,u,v⟩=>d a s1 σ o n m Q q u v) l c
end
end L2
namespace HT
open PySem PyProof.Rows
section
open PySem.SeqAt
open PySem.AutoSeq1 (wpAny_loadPart')
open PySem.MeetsSeq PySem.MeetsSeq2 PySem.MeetsSeq3
end
section
variable {prog:Program}{w:World}{A:Around}{E:Value->Shared->Prop}{s:Shared}
theorem cat_tup(q:IsTup s.heap t vs.toArray)(r:IsTup s.heap b ws.toArray)(k:vs≠[])
  (h1:ws=[]->Q (.ref t) s) (h2:ws≠[]->Q (.ref s.heap.objs.size) { s with heap:=s.heap.push { cls:=.type "tuple",data:=.seq (vs++ws).toArray } })
  (hsz:vs.length+ws.length<=sizeLine):wpAny (model prog w) A (binaryOp .Add (.ref t) (.ref b)) Q E s:=by
 obtain⟨⟨cls,dd,data,l⟩,h,m,n,hd⟩:=id q;obtain⟨⟨o,c,j,d⟩,a,f,p,g⟩:=id r;simp only at m hd f g;subst m hd f g;have e:vs.toArray++ws.toArray=(vs++ws).toArray:=by simp
 by_cases i:ws=[]
 ·exact concat_meets ⟨_,h,rfl⟩ ⟨_,a,rfl⟩ noFill_tuple_add seq_tuple_add PySem.F.slot_tuple_add PySem.F.entry_tuple_add (PySem.F.args_tuple_add_2 _ _)
   (tuple_addW1 t b vs.toArray ws.toArray n p dd c l d (by simpa using k) (by simp[i])) ⟨h,a,h1 i⟩
 ·refine concat_meets ⟨_,h,rfl⟩ ⟨_,a,rfl⟩ noFill_tuple_add seq_tuple_add PySem.F.slot_tuple_add PySem.F.entry_tuple_add (PySem.F.args_tuple_add_2 _ _)
   (tuple_addW2 t b vs.toArray ws.toArray n p dd c l d (by simpa using k) (by simpa using i) (by rw[N2,N2];exact hsz)) ⟨h,a,?_⟩
  rw[e];exact h2 i
noncomputable def sIx(n d:Nat):Option Int->Nat
 | none=>d
 | some v=>if v < 0 then(v+(n:Int)).toNat else min v.toNat n
theorem sIx_none(n d:Nat):sIx n d none=d:=rfl
theorem sIx_nat(n d k:Nat):sIx n d (some (k:Int))=min k n:=by
 show(if(k:Int) < 0 then((k:Int)+(n:Int)).toNat else min (k:Int).toNat n)=min k n;rw[if_neg (by lia),N7]
theorem sIx_le(n d:Nat)(hd:d<=n)(o:Option Int):sIx n d o<=n:=by
 cases o with
 | none=>exact hd
 | some v =>
  show(if v < 0 then(v+(n:Int)).toNat else min v.toNat n)<=n;by_cases a:v < 0
  ·rw[if_pos a];lia
  ·rw[if_neg a];exact Nat.min_le_right _ _
theorem ja5(v:Int)(n d:Nat):(if v < 0 then max (v+(n:Int)) 0 else min v (n:Int))=((sIx n d (some v):Nat):Int):=by
 show(if v < 0 then max (v+(n:Int)) 0 else min v (n:Int))=(((if v < 0 then(v+(n:Int)).toNat else min v.toNat n):Nat):Int);by_cases a:v < 0
 ·simp only[if_pos a];lia
 ·simp only[if_neg a];lia
theorem wS(lo hi:Option Int)(n:Nat):Builtin.Slice.sliceAdjust lo hi 1 (n:Int)=(((sIx n 0 lo:Nat):Int),((sIx n n hi:Nat):Int)):=by
 have a:¬ ((1:Int) < 0):=by lia
 unfold Builtin.Slice.sliceAdjust;simp only[a,if_false];refine Prod.ext ?_ ?_
 ·cases lo with
  | none=>rfl
  | some v=>exact ja5 v n 0
 ·cases hi with
  | none=>rfl
  | some v=>exact ja5 v n n
theorem wD(i j:Nat):Builtin.Slice.slicePlaces (i:Int) (j:Int) 1=j - i:=by
 unfold Builtin.Slice.slicePlaces;have a:(1:Int) > 0:=by lia
 simp only[a,if_true,Int.ediv_one];split<;>lia
theorem VR(p:IsPart v o)(h:Q o s):wpAny (model prog w) A (Builtin.Slice.slicePartIndex v) Q E s:=by
 cases p with
 | none=>exact slicePart_none h
 | int i t=>exact slicePart_int h
theorem J8{lo hi:Option Int}{n:Nat}{Q:Int×Int×Nat->Shared->Prop}(c:s.heap.IsSliceOf sl vl vu .none)(pl:IsPart vl lo)(d:IsPart vu hi)
  (h:Q (((sIx n 0 lo:Nat):Int),1,sIx n n hi - sIx n 0 lo) s):wpAny (model prog w) A (Builtin.Slice.sliceApplied (.ref sl) (pure (n:Int))) Q E s:=by
 obtain⟨os,a,e,b⟩:=id c;unfold Builtin.Slice.sliceApplied Builtin.Slice.sliceFields;refine L1 (L1 (U5 a b (x:=vl) rfl (L1 (U5 a b (x:=vu) rfl (L1 (U5 a b (x:=.none) rfl (M6 ?_)))))));refine L1 (slicePart_none ?_);show wpAny _ _ (if((1:Int)==0)=true then _ else _) _ _ s;rw[if_neg (by decide)];refine L1 (VR pl (L1 (VR d (L1 (M6 ?_)))));show wpAny _ _ (match Builtin.Slice.sliceAdjust lo hi 1 (n:Int) with | (lo,hi)=>pure (lo,(1:Int),Builtin.Slice.slicePlaces lo hi 1)) _ _ s;rw[wS lo hi n];show wpAny _ _ (pure (((sIx n 0 lo:Nat):Int),(1:Int),Builtin.Slice.slicePlaces ((sIx n 0 lo:Nat):Int) ((sIx n n hi:Nat):Int) 1)) _ _ s;rw[wD];exact M6 h
theorem jdg(xs:Array Value)(i k:Nat):((List.range k).filterMap λ(m:Nat)=>xs[((i:Int)+(m:Int)*1).toNat]?).toArray=((xs.toList.drop i).take k).toArray:=by
 have e:(λ(m:Nat)=>xs[((i:Int)+(m:Int)*1).toNat]?)=λm=>xs[i+m]?:=by
  funext m
  have:((i:Int)+(m:Int)*1).toNat=i+m:=by lia
  rw[this]
 rw[e];have:=pick_run xs i k;rw[List.filterMap_map] at this;have e2:((λx=>xs[x]?) ∘ λx=>i+x)=λm=>xs[i+m]?:=rfl;rw[e2] at this;rw[this]
theorem getItem_tuple_cut{items:Array Value}{lo hi:Option Int}{Q:Value->Shared->Prop}(b:IsTup s.heap t items)(g:s.heap.IsSliceOf sl vl vu .none)(pl:IsPart vl lo)(i:IsPart vu hi)
  (j:¬ (sIx items.size 0 lo=0/\sIx items.size items.size hi=items.size))
  (h:Q (.ref s.heap.objs.size) { s with heap:=s.heap.push { cls:=.type "tuple",data:=.seq ((items.toList.drop (sIx items.size 0 lo)).take (sIx items.size items.size hi - sIx items.size 0 lo)).toArray } })
  (hsz:items.size<=sizeLine):wpAny (model prog w) A (getItem (.ref t) (.ref sl)) Q E s:=by
 have a:sizeOk (.seq ((items.toList.drop (sIx items.size 0 lo)).take (sIx items.size items.size hi - sIx items.size 0 lo)).toArray):=by
  show((items.toList.drop (sIx items.size 0 lo)).take (sIx items.size items.size hi - sIx items.size 0 lo)).toArray.size<=sizeLine;rw[N2,E1,List.length_drop,Array.length_toList]
  lia
 have l:sIx items.size items.size hi<=items.size:=sIx_le _ _ (M8 _) hi;obtain⟨os,c,d,k⟩:=id g;have e:s.TypeIs (.ref sl) "slice":=⟨os,c,d⟩;unfold getItem
 try with_reducible refine wpAny_holding ?_
 first | refine L1 (M6 ?_) | skip
 refine L1 (wpAny_sequenceKey b.typeIs (by decide) ?_);refine L1 (wpAny_callSpecial?_slot (name:=Str.ofString "__getitem__") b.typeIs PyProof.Rows.slot_tuple_getitem
  (wpAny_call_entry PyProof.Rows.slot_tuple_getitem b.typeIs entry_tuple_getitem ?_ (args_tuple_getitem _ _)))
 show wpAny _ _ (Builtin.Tuple.tupleItemsOf (.ref t) >>= _) _ _ s;refine L1 (tupleItemsOf_ b ?_);refine L1 (wpAny_typeOf e ?_);rw[if_pos (by decide)];refine L1 (J8 g pl i ?_);have f:¬ ((((sIx items.size 0 lo:Nat):Int)==0&&(1:Int)==1&&(sIx items.size items.size hi - sIx items.size 0 lo)==items.size)=true):=by
  intro q;rw[L9,L9] at q;have n:((sIx items.size 0 lo:Nat):Int)=0:=eq_of_beq q.1.1;have o:sIx items.size items.size hi - sIx items.size 0 lo=items.size:=eq_of_beq q.2;exact j ⟨by lia,by lia⟩
 show wpAny _ _ (if(((sIx items.size 0 lo:Nat):Int)==0&&(1:Int)==1&&(sIx items.size items.size hi - sIx items.size 0 lo)==items.size)=true then _ else _) _ _ s;rw[if_neg f,jdg]
 first
  | exact L1 (m:=Builtin.Tuple.tupleExact _) (wpAny_newObj_type (M6 ⟨_,rfl,M6 h⟩) a)
  | exact L1 (m:=Builtin.Tuple.tupleExact _) (wpAny_newObj_type (L1 (M6 (M6 ⟨_,rfl,M6 h⟩))) a)
  | exact L1 (L1 (m:=Builtin.Tuple.tupleExact _) (wpAny_newObj_type (M6 (M6 ⟨_,rfl,M6 h⟩)) a))
  | exact L1 (L1 (m:=Builtin.Tuple.tupleExact _) (wpAny_newObj_type (M6 ⟨_,rfl,M6 h⟩) a))
end
end HT
namespace L2
open PySem PySem.Spec PyProof.Rows
abbrev TO:=St->Hp->(Option Int->Hp->Prop)->Prop
def PO(X:Cx)(e:Option Expr)(t:TO):Prop :=
 ∀(pins:List (Addr×Obj)) (s:Shared) (σ:St) (H:Hp) (Q:Option Int->Hp->Prop),Inv X pins σ H s->t σ H Q ->
  wpAny (model X.prog X.w) X.A (evalPart e X.env) (λu s'=>∃ o H',Inv X pins σ H' s'/\IsPart u o/\Q o H') X.xe s
noncomputable def xl:TO:=λ_ H Q=>Q none H
noncomputable def jfa(t:TE):TO:=λσ H Q=>t σ H λx H1=>∃ i,x=.int i/\Q (some i) H1
theorem uk:∀{us:List Value},Vals (ns.map V.int) us->IntsAre us ns:=by
 induction ns with
 | nil=>intro us r;rw[List.map_nil] at r;cases r;exact .nil
 | cons n ns a =>
  intro us r;rw[L4] at r;cases r with
  | cons b c =>
   obtain⟨t,e⟩:=b;subst e;exact .cons n t (a c)
section
variable {X:Cx}{e:Expr}{te:TE}{lo hi:Option Expr}{tl th:TO}{pos p2:Pos}
theorem jeZ:PO X none xl:=by
 intro a s σ H Q I h;rw[evalPart_none];exact M6 ⟨none,H,I,.none,h⟩
theorem jgt(h:PE X e te):PO X (some e) (jfa te):=by
 intro a s σ H Q I b;rw[evalPart_some];refine thn (h a s σ H _ I b) λu s1 c=>?_;obtain⟨x,d,f,g,j⟩:=c;obtain⟨i,rfl,q⟩:=j;obtain⟨t,rfl⟩:=g;exact⟨some i,d,f,.int i t,q⟩
def SlR(X:Cx)(r:V->Option Int->Option Int->Hp->VK->Prop):Prop :=
 ∀(pins:List (Addr×Obj)) (s:Shared) (σ:St) (H:Hp) (x:V) (v vl vu:Value) (lo hi:Option Int) (sl:Addr) (Q:VK),Inv X pins σ H s->RelV x v->s.heap.IsSliceOf sl vl vu .none->IsPart vl lo->IsPart vu hi->r x lo hi H Q ->
  ∃ T id,typeLookup (.type T) "__getitem__" = pure (some (.builtin id))/\s.TypeIs v T/\wpAny (model X.prog X.w) X.A (getItem v (.ref sl)) (EP X pins σ Q) X.xe s
theorem SlR.or(h:SlR X r)(h':SlR X r'):SlR X (λx lo hi H Q=>r x lo hi H Q \/ r' x lo hi H Q):=by
 intro a s σ H x v b c lo hi d Q I e f pl g q;rcases q with q | q
 ·exact h a s σ H x v b c lo hi d Q I e f pl g q
 ·exact h' a s σ H x v b c lo hi d Q I e f pl g q
noncomputable def tSl(r:V->Option Int->Option Int->Hp->VK->Prop)(te:TE)(tl th:TO):TE:=λσ H Q=>te σ H λx H1=>tl σ H1 λl H2=>th σ H2 λu H3=>r x l u H3 Q
theorem jcc{r:V->Option Int->Option Int->Hp->VK->Prop}(j:SlR X r)(k:PE X e te)(m:PO X lo tl)(n:PO X hi th):PE X (.Subscript e (.Slice lo hi none p2) pos) (tSl r te tl th):=by
 intro a s σ H Q I h;refine Subscript_ (thn (k a s σ H _ I h) λv s1 g=>?_);obtain⟨x,o,p,t,y⟩:=g;refine wpAny_Slice (thn (m a s1 σ o _ p y) λd z ⟨l,B,C,pl,D⟩=>thn (n a z σ B _ C D) λf c g=>?_);obtain⟨u,i,E,F,G⟩:=g;rw[evalPart_none];refine M6 ?_;have J:Inv X a σ i { c with heap:=c.heap.push { cls:=.type "slice",data:=.fields #[d,f,.none] } }:=E.kept (t':=c.toks) λb ob q=>L7 _ q;obtain⟨T,id,K,L,M⟩:=j a { c with heap:=c.heap.push { cls:=.type "slice",data:=.fields #[d,f,.none] } } σ i x v d f l u c.heap.objs.size Q J t (Heap.IsSliceOf.new ..) pl F G;show wpAny (model X.prog X.w) X.A (subscriptTail e (.Slice lo hi none p2) v (.ref c.heap.objs.size)) (EP X a σ Q) X.xe { c with heap:=c.heap.push { cls:=.type "slice",data:=.fields #[d,f,.none] } };exact tail_any (ops:=[.ref c.heap.objs.size,v]) L K M (by with_unfolding_all rfl)
def jem(xs:List V)(lo hi:Option Int):List V:=(xs.drop (HT.sIx xs.length 0 lo)).take (HT.sIx xs.length xs.length hi - HT.sIx xs.length 0 lo)
theorem YR(xs:List V)(lo hi:Option Int):(jem xs lo hi).length<=xs.length:=by
 unfold jem;rw[E1,List.length_drop]
 lia
def jlR(K:PySem.W.Frag):V->Option Int->Option Int->Hp->VK->Prop:=λx lo hi H Q=>∃ a xs,x=.ref a/\SqT K H a xs /\
 ¬ (HT.sIx xs.length 0 lo=0/\HT.sIx xs.length xs.length hi=xs.length)/\∀ p,H p=none->Q (.ref p) (upd H p (.tup (jem xs lo hi)))
theorem jh9:SlR X (jlR X.K):=by
 intro f s σ H x v p t lo hi u Q I j k pl l h;obtain⟨a,d,rfl,m,n,q⟩:=h;cases j;obtain⟨e,r,g,i⟩:=I.tuple m;have c:e.toArray.size=d.length:=by rw[N2];exact r.length.symm
 refine⟨"tuple",_,PyProof.Rows.slot_tuple_getitem.lookup,g.typeIs,?_⟩;refine HT.getItem_tuple_cut g k pl l (by rw[c];exact n) ?_ (by rw[c];exact i);rw[c];refine⟨.ref s.heap.objs.size,_,I.laid (t':=s.toks) (o:=.tup (jem d lo hi)) (λb ob q=>L7 _ q) (M8 _) ?_,rfl,q _ (I.hok.fresh (M8 _))⟩;exact⟨N6 (YR d lo hi) i,_,(r.drop (HT.sIx d.length 0 lo)).take (HT.sIx d.length d.length hi - HT.sIx d.length 0 lo),IsTupN.new _ _⟩
def jhx(K:PySem.W.Frag):R2:=λx y H Q=>∃ a b xs ys,x=.ref a/\y=.ref b/\SqT K H a xs/\SqT K H b ys/\xs≠[]/\xs.length+ys.length<=sizeLine /\
 (ys=[]->Q (.ref a) H)/\(ys≠[]->∀ p,H p=none->Q (.ref p) (upd H p (.tup (xs++ys))))
theorem Vals.nil_iff(r:Vals xs us):us=[]↔xs=[]:=by
 cases r with
 | nil=>simp
 | cons _ _=>simp
theorem jfx:OpR X (binaryOp .Add) (jhx X.K):=by
 intro e s σ H x y v u Q I i j h;obtain⟨a,b,k,l,rfl,rfl,m,n,p,f,r,t⟩:=h;cases i;cases j;obtain⟨A,d,p1,_⟩:=I.tuple m;obtain⟨g,c,p2,_⟩:=I.tuple n;refine HT.cat_tup p1 p2 (λz=>p (d.nil_iff.mp z)) (λz=>⟨.ref a,H,I,rfl,r (c.nil_iff.mp z)⟩) (λz=>?_) (by rw[<- d.length,<- c.length];exact f);refine⟨.ref s.heap.objs.size,_,I.laid (t':=s.toks) (o:=.tup (k++l)) (λb ob q=>L7 _ q) (M8 _) ?_,rfl,t (λw=>z (c.nil_iff.mpr w)) _ (I.hok.fresh (M8 _))⟩;exact⟨by rw[N3];exact f,_,d.append c,IsTupN.new _ _⟩
end
noncomputable def ixN(n:Nat)(i:Int):Option Nat:=if 0<=i then(if i < n then some i.toNat else none) else if -(n:Int)<=i then some (i+n).toNat else none
def atI{α:Type}(xs:List α)(i:Int):Option α:=(ixN xs.length i).bind λj=>xs[j]?
theorem zi(h:ixN n i=some j):seqIndex? i n=some j/\j < n/\-(n:Int)<=i/\i < n:=by
 unfold ixN at h;by_cases b:0<=i
 ·rw[if_pos b] at h;by_cases a:i < n
  ·rw[if_pos a] at h;have e:i.toNat=j:=X7 h;exact⟨by rw[seqIndex_of b a,e],by lia,by lia,a⟩
  ·rw[if_neg a] at h;cases h
 ·rw[if_neg b] at h;by_cases a:-(n:Int)<=i
  ·rw[if_pos a] at h;have e:(i+n).toNat=j:=X7 h;exact⟨by rw[seqIndex_neg (by lia) a,e],by lia,a,by lia⟩
  ·rw[if_neg a] at h;cases h
theorem Kt(h:atI xs i=some v):∃ j,seqIndex? i xs.length=some j/\xs[j]?=some v/\j < xs.length/\-(xs.length:Int)<=i/\i < xs.length:=by
 unfold atI at h;cases e:ixN xs.length i with
 | none=>rw[e] at h;cases h
 | some j =>
  rw[e] at h;obtain⟨a,b,c,d⟩:=zi e;exact⟨j,a,h,b,c,d⟩
def Kx(b:Expr):Prop:=∀ o i,subscripted b false o i=operate [o,i] (getItem o i)
def IxR(X:Cx)(r:R2):Prop :=
 ∀(value slice:Expr) (pins:List (Addr×Obj)) (s:Shared) (σ:St) (H:Hp) (x y:V) (v u:Value) (Q:VK),Inv X pins σ H s->RelV x v->RelV y u->r x y H Q ->
  subscripted slice false v u=operate [v,u] (getItem v u)->wpAny (model X.prog X.w) X.A (subscriptTail value slice v u) (EP X pins σ Q) X.xe s
def MtR(X:Cx)(id:String)(r:V->List V->Hp->VK->Prop):Prop :=
 ∀(pins:List (Addr×Obj)) (s:Shared) (σ:St) (H:Hp) (x:V) (xs:List V) (v:Value) (us:List Value) (Q:VK),Inv X pins σ H s->RelV x v->Vals xs us->r x xs H Q ->
  wpAny (model X.prog X.w) X.A (call (.builtin id) (v::us)) (EP X pins σ Q) X.xe s
section
variable {X:Cx}{a b:Expr}{ta tb:TE}{pos:Pos}
theorem IxR.or(h:IxR X r)(h':IxR X r'):IxR X (λx y H Q=>r x y H Q \/ r' x y H Q):=by
 intro value slice a s σ H x y v u Q I b c q d;rcases q with q | q
 ·exact h value slice a s σ H x y v u Q I b c q d
 ·exact h' value slice a s σ H x y v u Q I b c q d
theorem jjB(d:IxR X r)(e:PE X a ta)(f:PE X b tb)(g:Kx b):PE X (.Subscript a b pos) (tOp r ta tb):=by
 intro c s σ H Q I h;exact Subscript_ (jkH e f I h λv u i x y j k l m q=>d a b c i σ j x y v u Q k l m q (g _ _))
def jjz(K:PySem.W.Frag):R2:=λx y H Q=>∃ p xs i v,x=.ref p/\y=.int i/\SqL K H p xs/\atI xs i=some v/\Q v H
def jlM(K:PySem.W.Frag):R2:=λx y H Q=>∃ p xs i v,x=.ref p/\y=.int i/\SqT K H p xs/\atI xs i=some v/\Q v H
def jlK:R2:=λx y H Q=>∃ z i c,x=.str z/\y=.int i/\z.length<=sizeLine/\atI z.cps.toList i=some c/\Q (.str ⟨#[c]⟩) H
theorem ix_list:IxR X (jjz X.K):=by
 intro value slice a s σ H x y v u Q I m n h g;obtain⟨p,G,i,z,rfl,rfl,o,A,q⟩:=h;cases m;obtain⟨t,rfl⟩:=n;obtain⟨d,r,pl,J⟩:=I.list o;obtain⟨j,c,B,L,C,D⟩:=Kt A;obtain⟨w,k,e⟩:=r.get B;have E:=r.length;have M:=VI;have b:EP X a σ Q w s:=⟨z,H,I,e,q⟩;by_cases l:0<=i
 ·have f:i.toNat=j:=by
   rw[seqIndex_of l D] at c;exact X7 c
  exact item_listR pl.isList l (by lia) (by rw[f];simpa using k) b g
 ·have f:(i+(d.toArray.size:Int)).toNat=j:=by
   rw[seqIndex_neg (by lia) C] at c;rw[N2,<- E];exact X7 c
  exact subscriptTail_builtinR (x:=w) pl.isList.typeIs slot_list_getitem.lookup
   (wpAny_getItem_list_neg (Q:=λr F=>r=w/\EP X a σ Q r F) pl.isList (by lia) (by rw[N2]<;>lia) (by lia) (by rw[f];simpa using k) ⟨rfl,b⟩) g
theorem ix_tup:IxR X (jlM X.K):=by
 intro value slice a s σ H x y v u Q I d e h f;obtain⟨p,C,i,z,rfl,rfl,g,k,q⟩:=h;cases d;obtain⟨t,rfl⟩:=e;obtain⟨l,r,pl,D⟩:=I.tuple g;obtain⟨j,m,n,E,F,G⟩:=Kt k;obtain⟨w,o,b⟩:=r.get n;have A:=r.length;have J:=VI;have c:EP X a σ Q w s:=⟨z,H,I,b,q⟩;exact subscriptTail_builtinR (x:=w) pl.typeIs slot_tuple_getitem.lookup
  (getItem_tuple (j:=j) (Q:=λr B=>r=w/\EP X a σ Q r B) pl (by lia) (by lia) (by rw[N2,<- A];exact m) (by simpa using o) ⟨rfl,c⟩) f
theorem jhv:IxR X jlK:=by
 intro value slice a s σ H x y v u Q I d e h f;obtain⟨z,i,c,rfl,rfl,p,g,q⟩:=h;obtain⟨t,rfl⟩:=d;obtain⟨r,rfl⟩:=e;obtain⟨j,b,k,w,l,m⟩:=Kt g;have n:z.cps.toList.length=z.length:=by simp[Str.length]
 rw[n] at b l m;have A:=VI;exact tail_any (typeIs_str s z t) slot_str_getitem.lookup (getItem_str (c:=c) (by
  have o:decide (i < -(2 ^ 63:Int))=false:=X5 (by lia);have e2:decide (i ≥ 2 ^ 63)=false:=X5 (by lia);rw[o,e2,Bool.or_false]) (by rw[b];simpa using k) ⟨.str ⟨#[c]⟩,H,I.tok _,⟨_,rfl⟩,q⟩) f
def rIx(K:PySem.W.Frag):R2:=λx y H Q=>jjz K x y H Q \/ jlM K x y H Q \/ jlK x y H Q
theorem jd9:IxR X (rIx X.K):=ix_list.or (ix_tup.or jhv)
theorem uA(its:List Value)(n j:Nat)(u:Value):Obj.mapSeq (·.setIfInBounds j u) { cls:=.type "list",data:=.seq its.toArray n }={ cls:=.type "list",data:=.seq (its.set j u).toArray n }:=by
 simp[Obj.mapSeq]
theorem Inv.lst(I:Inv X pins σ H s)(h:H p=some (.lst xs)) :
  ∃(its:List Value) (n:Nat),Vals xs its/\s.heap.get? p=some { cls:=.type "list",data:=.seq its.toArray n }/\xs.length<=sizeLine:=by
 obtain⟨z,its,n,r,e⟩:=I.hok p _ h;exact⟨its,n,r,e,z⟩
theorem Inv.lstUpd{pins:List (Addr×Obj)}{s:Shared}{xs ys:List V}{its its':List Value}{n a:Nat}{f:Obj->Obj}(I:Inv X pins σ H s)(h:H p=some (.lst xs))
  (d:s.heap.get? p=some { cls:=.type "list",data:=.seq its.toArray n }) (c:f { cls:=.type "list",data:=.seq its.toArray n }={ cls:=.type "list",data:=.seq its'.toArray a }) (r:Vals ys its') (hz:ys.length<=sizeLine) (t:Nat) :
  Inv X pins σ (upd H p (.lst ys)) { s with heap:=s.heap.update p f,toks:=t }:=by
 have e:(s.heap.update p f).get? p=some { cls:=.type "list",data:=.seq its'.toArray a }:=by
  rw[Heap.get?_update_self f d (by rw[c]<;>rfl),c]
 refine I.write (x:=p) (e:=p) (by rw[h];trivial) (.inl rfl) (λb u g q=>(Heap.get?_update_other _ _ (Ne.symm g)).trans q) ⟨_,e⟩ ?_;exact⟨hz,its',a,r,e⟩
def jbp:V->V->V->Hp->(Hp->Prop)->Prop:=λo i v H Q=>∃ p xs k j,o=.ref p/\i=.int k/\H p=some (.lst xs)/\ixN xs.length k=some j/\Q (upd H p (.lst (xs.set j v)))
theorem xQ:jkn X jbp:=by
 intro a s σ H o i v E F u Q I y z A h;obtain⟨p,B,k,j,rfl,rfl,g,C,q⟩:=h;cases y;obtain⟨t,rfl⟩:=z;obtain⟨b,n,r,d,D⟩:=I.lst g;obtain⟨c,G,l,m⟩:=zi C;have e:=r.length;have J:=VI;have w:Inv X a σ (upd H p (.lst (B.set j v))) { s with heap:=s.heap.update p (Obj.mapSeq (·.setIfInBounds j u)) } :=
  I.lstUpd g d (uA b n j u) (r.set A j) (by rw[List.length_set];exact D) s.toks
 by_cases x:0<=k
 ·have f:k.toNat=j:=by
   rw[seqIndex_of x m] at c;exact X7 c
  exact PySem.W.ki_setAt d x (by lia) (by rw[N2,<- e];exact m) (by rw[f];exact⟨_,w,q⟩)
 ·have f:(k+(b.toArray.size:Int)).toNat=j:=by
   rw[seqIndex_neg (by lia) l] at c;rw[N2,<- e];exact X7 c
  exact PySem.W.ki_setBack d (by lia) (by rw[N2,<- e];exact l) (by lia) (by rw[f];exact⟨_,w,q⟩)
theorem K9(lo hi:Option Int)(n:Nat):(sliceBounds lo hi none n).1=((HT.sIx n 0 lo:Nat):Int)/\(sliceBounds lo hi none n).2.1=((HT.sIx n n hi:Nat):Int)/\(sliceBounds lo hi none n).2.2=1:=by
 refine⟨?_,?_,rfl⟩
 ·cases lo with
  | none=>simp[sliceBounds,HT.sIx]
  | some i =>
   simp only[sliceBounds,HT.sIx,Option.getD_none,show(1:Int) > 0 by decide,if_true];by_cases h:i < 0
   ·simp only[h,if_true]<;>lia
   ·simp only[h,if_false]<;>lia
 ·cases hi with
  | none=>simp[sliceBounds,HT.sIx]
  | some i =>
   simp only[sliceBounds,HT.sIx,Option.getD_none,show(1:Int) > 0 by decide,if_true];by_cases h:i < 0
   ·simp only[h,if_true]<;>lia
   ·simp only[h,if_false]<;>lia
theorem V6(its:List Value)(lo hi:Option Int):slicePick its.toArray lo hi none=((its.drop (HT.sIx its.length 0 lo)).take (HT.sIx its.length its.length hi - HT.sIx its.length 0 lo)).toArray:=by
 obtain⟨a,b,c⟩:=K9 lo hi its.toArray.size;unfold slicePick;rw[a,b,c];simp only[sliceRange_one,pick_run,N2]<;>rfl
def jlO(K:PySem.W.Frag):V->Option Int->Option Int->Hp->VK->Prop:=λx lo hi H Q=>∃ a xs,x=.ref a/\SqL K H a xs/\∀ p,H p=none->Q (.ref p) (upd H p (.lst (jem xs lo hi)))
theorem jeG:SlR X (jlO X.K):=by
 intro e s σ H x v n p lo hi t Q I g i pl j h;obtain⟨a,c,rfl,k,q⟩:=h;cases g;obtain⟨l,r,f,m⟩:=I.list k;have d:=r.length;refine⟨"list",_,slot_list_getitem.lookup,f.isList.typeIs,?_⟩;refine wpAny_getItem_list_slice f.isList i pl j .none (by simp) ?_ (by rw[N2]<;>lia);rw[V6,<- d];refine⟨.ref s.heap.objs.size,_,I.laid (t':=s.toks) (o:=.lst (jem c lo hi)) (λb ob q=>L7 _ q) (M8 _) ?_,rfl,q _ (I.hok.fresh (M8 _))⟩;exact⟨N6 (YR c lo hi) m,_,0,(r.drop (HT.sIx c.length 0 lo)).take (HT.sIx c.length c.length hi - HT.sIx c.length 0 lo),E4 _ rfl⟩
noncomputable def YC:V->Bool
 | .non=>true
 | .bl _=>true
 | .int _=>true
 | .str _=>true
 | _=>false
noncomputable def eqV:V->V->Bool
 | .non,.non=>true
 | .bl a,.bl b=>a==b
 | .bl a,.int b=>(if a then 1 else 0)==b
 | .int a,.bl b=>a==(if b then 1 else 0)
 | .int a,.int b=>a==b
 | .str a,.str b=>a==b
 | _,_=>false
theorem jjD(e:RelV y u)(c:RelV x v)(g:YC y=true)(f:YC x=true):SeqAt.EqAt A s u v (eqV y x):=by
 cases y with
 | non =>
  cases e;cases x with
  | non=>cases c;exact SeqAt.EqAt.same _
  | bl b=>cases c;exact SeqAt.EqAt.none_bool b
  | int b=>obtain⟨t,rfl⟩:=c;exact SeqAt.EqAt.none_int b t
  | str b=>obtain⟨t,rfl⟩:=c;exact SeqAt.EqAt.none_str b t
  | _=>exact absurd (show false=true from f) M3
 | bl a =>
  cases e;cases x with
  | non=>cases c;exact SeqAt.EqAt.bool_none a
  | bl b=>cases c;exact SeqAt.EqAt.bool_bool a b
  | int b=>obtain⟨t,rfl⟩:=c;exact SeqAt.EqAt.bool_int a b t
  | str b=>obtain⟨t,rfl⟩:=c;exact SeqAt.EqAt.bool_str a b t
  | _=>exact absurd (show false=true from f) M3
 | int a =>
  obtain⟨d,rfl⟩:=e;cases x with
  | non=>cases c;exact SeqAt.EqAt.int_none a d
  | bl b=>cases c;exact SeqAt.EqAt.int_bool a d b
  | int b=>obtain⟨t,rfl⟩:=c;exact SeqAt.EqAt.int_int a d b t
  | str b=>obtain⟨t,rfl⟩:=c;exact SeqAt.EqAt.int_str a d b t
  | _=>exact absurd (show false=true from f) M3
 | str a =>
  obtain⟨d,rfl⟩:=e;cases x with
  | non=>cases c;exact SeqAt.EqAt.str_none a d
  | bl b=>cases c;exact SeqAt.EqAt.str_bool a d b
  | int b=>obtain⟨t,rfl⟩:=c;exact SeqAt.EqAt.str_int a d b t
  | str b=>obtain⟨t,rfl⟩:=c;exact SeqAt.EqAt.str_str a d b t
  | _=>exact absurd (show false=true from f) M3
 | _=>exact absurd (show false=true from g) M3
def eqU(x:V)(u:Value):Bool:=match u with
 | .none=>eqV .non x
 | .bool b=>eqV (.bl b) x
 | .int i _=>eqV (.int i) x
 | .str z _=>eqV (.str z) x
 | _=>false
theorem jd0(r:RelV y u)(f:YC y=true):eqU x u=eqV y x:=by
 cases y with
 | non=>cases r;rfl
 | bl b=>cases r;rfl
 | int i=>obtain⟨t,rfl⟩:=r;rfl
 | str z=>obtain⟨t,rfl⟩:=r;rfl
 | _=>exact absurd (show false=true from f) M3
theorem YW:∀{xs:List V}{us:List Value},Vals xs us->xs.all YC=true->us.any (eqU x)=xs.any λy=>eqV y x
 | _,_,.nil,_=>rfl
 | y::xs,u::us,.cons r t,f=>by
  rw[List.all_cons,L9] at f;rw[List.any_cons,List.any_cons,jd0 r f.1,YW t f.2]
theorem Jd(b:RelV x v)(c:YC x=true):∀{xs:List V}{us:List Value},Vals xs us->xs.all YC=true->∀ u∈us,SeqAt.EqAt A s u v (eqU x u)
 | _,_,.nil,_=>λu a=>by cases a
 | y::xs,u::us,.cons r t,f=>λd a=>by
  rw[List.all_cons,L9] at f;rcases M4.mp a with rfl | a
  ·rw[jd0 r f.1];exact jjD r b f.1 c
  ·exact Jd b c t f.2 d a
def inV(x:V)(xs:List V):Bool:=xs.any λy=>eqV y x
def rIn(K:PySem.W.Frag)(neg:Bool):R2:=λx y H Q=>∃ p xs,y=.ref p/\(SqL K H p xs \/ SqT K H p xs)/\YC x=true/\xs.all YC=true/\Q (.bl (if neg then !inV x xs else inV x xs)) H
theorem jbO:OpR X (compareOp .In) (rIn X.K false):=by
 intro d s σ H x y v u Q I e g h;obtain⟨p,j,rfl,b,f,fs,q⟩:=h;cases g;rcases b with b | b
 ·obtain⟨a,r,pl,i⟩:=I.list b;refine SeqAt.in_listAt (eqU x) pl.isList (λw c=>Jd e f r fs w (by simpa using c)) ⟨.bl _,H,I,rfl,?_⟩;rw[show a.toArray.any (eqU x)=a.any (eqU x) by simp,YW r fs];exact q
 ·obtain⟨a,r,pl,i⟩:=I.tuple b;refine SeqAt.in_tupleAt (eqU x) pl (λw c=>Jd e f r fs w (by simpa using c)) ⟨.bl _,H,I,rfl,?_⟩;rw[show a.toArray.any (eqU x)=a.any (eqU x) by simp,YW r fs];exact q
theorem QU:OpR X (compareOp .NotIn) (rIn X.K true):=by
 intro d s σ H x y v u Q I e g h;obtain⟨p,j,rfl,b,f,fs,q⟩:=h;cases g;rcases b with b | b
 ·obtain⟨a,r,pl,i⟩:=I.list b;refine SeqAt.notIn_listAt (eqU x) pl.isList (λw c=>Jd e f r fs w (by simpa using c)) ⟨.bl _,H,I,rfl,?_⟩;rw[show a.toArray.any (eqU x)=a.any (eqU x) by simp,YW r fs];exact q
 ·obtain⟨a,r,pl,i⟩:=I.tuple b;refine SeqAt.notIn_tupleAt (eqU x) pl (λw c=>Jd e f r fs w (by simpa using c)) ⟨.bl _,H,I,rfl,?_⟩;rw[show a.toArray.any (eqU x)=a.any (eqU x) by simp,YW r fs];exact q
theorem Qc:JM X (.type "list") (λxs H Q=>∃ p ys,xs=[.ref p]/\(SqL X.K H p ys \/ SqT X.K H p ys)/\∀ l,H l=none->Q (.ref l) (upd H l (.lst ys))):=by
 intro g s σ H xs z Q I r h;obtain⟨p,ys,rfl,i,q⟩:=h;obtain⟨u,rfl,y⟩:=jfc r;cases y;have j:∀(a:List Value),Vals ys a->ys.length<=sizeLine->∀(c:Heap) (d:Nat),(∀ b x,s.heap.get? b=some x->c.get? b=some x) ->
   c.get? s.heap.objs.size=some { cls:=.type "list",dict:=none,data:=.seq a.toArray d,slots:=#[] }->EP X g σ Q (.ref s.heap.objs.size) { s with heap:=c }:=λa f k c d kp e =>
  ⟨.ref s.heap.objs.size,_,I.laid (t':=s.toks) kp (M8 _) (show ObjOk X.prog X.w _ c _ (.lst ys) from⟨k,a,d,f,e⟩),rfl,q _ (I.hok.fresh (M8 _))⟩
 rcases i with i | i
 ·obtain⟨a,f,pl,k⟩:=I.list i;have m:=f.length;obtain⟨o,t,v,n,hd⟩:=pl.isList;exact call_list_seq p (.inl rfl) t v hd (λc d kp e=>j a f k c d kp e) (by simp only[N2]<;>lia)
 ·obtain⟨a,f,pl,k⟩:=I.tuple i;have m:=f.length;obtain⟨o,t,v,n,hd⟩:=pl;exact call_list_seq p (.inr rfl) t v hd (λc d kp e=>j a f k c d kp e) (by simp only[N2]<;>lia)
theorem Ku:JM X (.type "tuple") (λxs H Q=>∃ p ys,xs=[.ref p]/\((SqL X.K H p ys/\∀ l,H l=none->Q (.ref l) (upd H l (.tup ys))) \/ (SqT X.K H p ys/\Q (.ref p) H))):=by
 intro a s σ H xs t Q I r h;obtain⟨p,ys,rfl,h⟩:=h;obtain⟨u,rfl,m⟩:=jfc r;cases m;rcases h with⟨f,q⟩ | ⟨f,q⟩
 ·obtain⟨c,g,pl,i⟩:=I.list f;have j:=g.length;refine call_tuple_list pl.isList (λd kp=>?_) (by simp only[N2]<;>lia);have k:Inv X a σ H { s with heap:=d }:=I.kept (t':=s.toks) kp;have n:Inv X a σ (upd H d.objs.size (.tup ys)) { s with heap:=d.push { cls:=.type "tuple",data:=.seq c.toArray } } :=
   k.laid (t':=s.toks) (λb o e=>L7 _ e) (M8 _) (show ObjOk X.prog X.w _ _ _ (.tup ys) from⟨i,c,g,IsTupN.new _ _⟩)
  exact⟨.ref d.objs.size,_,n,rfl,q _ (k.hok.fresh (M8 _))⟩
 ·obtain⟨c,g,pl,i⟩:=I.tuple f;exact call_tuple_same pl ⟨.ref p,H,I,rfl,q⟩
def tyV(K:PySem.W.Frag)(T:String)(x:V)(H:Hp):Prop:=match x with
 | .str _=>T = "str"
 | .int _=>T = "int"
 | .ref p=>(T = "list"/\∃ xs,SqL K H p xs) \/ (T = "tuple"/\∃ o,K.lookup p=some o/\o.cls=.type "tuple"/\o.dict=none) \/
   (T = "dict"/\((∃ kvs,H p=some (.dK kvs)) \/ ∃ kvs,H p=some (.dT kvs))) \/ (T = "set"/\∃ S n,H p=some (.set S n))
 | _=>False
theorem jhp(I:Inv X pins σ H s)(r:RelV x v)(ty:tyV X.K T x H) :
  s.TypeIs v T/\∀ a,v=.ref a->∃ ob,s.heap.get? a=some ob/\ob.dict=none:=by
 cases x with
 | str z =>
  obtain⟨t,rfl⟩:=r;cases(show T = "str" from ty);exact⟨typeIs_str s z t,λ_ e=>nomatch e⟩
 | int i =>
  obtain⟨t,rfl⟩:=r;cases(show T = "int" from ty);exact⟨typeIs_int s i t,λ_ e=>nomatch e⟩
 | ref p =>
  cases r;rcases ty with⟨rfl,j,f⟩ | ⟨rfl,o,b,g,hd⟩ | ⟨rfl,b⟩ | ⟨rfl,S,n,b⟩
  ·obtain⟨h,_,pl,_⟩:=I.list f;refine⟨pl.isList.typeIs,λa e=>?_⟩;cases e;obtain⟨o,n,e,c,hd,_⟩:=pl;exact⟨o,e,hd⟩
  ·refine⟨⟨o,I.kIn p o b,g⟩,λa e=>?_⟩;cases e;exact⟨o,I.kIn _ o b,hd⟩
  ·have z:∃ o,s.heap.get? p=some o/\o.ExactDict:=by
    rcases b with⟨d,b⟩ | ⟨d,b⟩
    ·obtain⟨_,_,_,_,o,_,_,e,ex,_⟩:=I.hok p _ b;exact⟨o,e,ex⟩
    ·obtain⟨_,_,_,_,o,_,_,e,ex,_⟩:=I.hok p _ b;exact⟨o,e,ex⟩
   obtain⟨o,e,ex⟩:=z;refine⟨⟨o,e,ex.1⟩,λa e2=>?_⟩;cases e2;exact⟨o,e,ex.2.1⟩
  ·obtain⟨o,_,_,_,e,ex,_⟩:=I.hok p _ b;refine⟨⟨o,e,ex.1⟩,λa e2=>?_⟩;cases e2;exact⟨o,e,ex.2.1⟩
 | _=>exact False.elim ty
noncomputable def tBM(K:PySem.W.Frag)(T:String)(r:V->List V->Hp->VK->Prop)(to:TE)(t:TA):TE:=λσ H Q=>to σ H λx H1=>tyV K T x H1/\t σ H1 λxs H2=>r x xs H2 Q
variable {o e:Expr}{es:List Expr}{to:TE}{t:TA}{name:Str}{apos cpos:Pos}{T id:String}{r:V->List V->Hp->VK->Prop}
theorem jbd(pa:PlainAttrs T)(slot:Slot T name id)(g:typeOf (.builtin id)=pure (.type "method_descriptor"))(l:MtR X id r)(m:PE X o to)(n:PA X (e::es) t)
  (c:attributeBase o name X.env (eval o X.env)=eval o X.env:=by rfl)
  (f:((backTo cpos (starEach (e::es) X.env)).all (λx=>!x.1)&&(backToKw cpos (keywordEach [] X.env)).all (λx=>x.1.isSome)
   && decide ((e::es).length+([]:List Keyword).length+(if([]:List Keyword).isEmpty then 0 else 1) < 30))=true:=by rfl)
  (d:(apos.endLine==cpos.line)=true:=by rfl) (p:starEach (e::es) X.env=(false,eval e X.env)::starEach es X.env:=by rfl) (b:(backTo cpos (starEach es X.env)).any (·.1)=false:=by rfl) :
  PE X (.Call (.Attribute o name apos) (e::es) [] cpos) (tBM X.K T r to t):=by
 intro a s σ H Q I h;refine wpAny_Call_method_late c f d rfl (thn (m a s σ H _ I h) λv s1 q=>?_);obtain⟨x,u,i,j,ty,w⟩:=q;obtain⟨y,z⟩:=jhp i j ty;refine⟨T,id,pa,slot,g,y,z,?_⟩;have k:=n cpos a s1 σ u _ i w;rw[p] at k ⊢;refine Calls.callWith_builtin (by show(false||(backTo cpos (starEach es X.env)).any (·.1))=false;rw[b]<;>rfl) (Calls.evalArgs_plain ?_);exact thn k λA B ⟨C,D,E,F,G⟩=>l a B σ D x C v A Q E j F G
end
def MtM(X:Cx)(id:String)(r:V->List V->Hp->VK->Prop):Prop :=
 ∀(pins:List (Addr×Obj)) (s:Shared) (σ:St) (H:Hp) (x:V) (xs:List V) (v:Value) (us:List Value) (Q:VK),Inv X pins σ H s->RelV x v->Vals xs us->r x xs H Q ->
  wpAny (model X.prog X.w) X.A (call (.builtin id) (v::us)) (EP X pins σ Q) X.xe s
theorem Vals.one(h:Vals [x] us):∃ u,us=[u]/\RelV x u:=by
 cases h with
 | cons r t=>cases t;exact⟨_,rfl,r⟩
theorem Vals.two(h:Vals [x,y] us):∃ u v,us=[u,v]/\RelV x u/\RelV y v:=by
 cases h with
 | cons r t=>cases t with
  | cons q t=>cases t;exact⟨_,_,rfl,r,q⟩
section
variable {X:Cx}{pins:List (Addr×Obj)}{σ:St}{H:Hp}{s:Shared}{l b:Addr}{xs ys zs:List V}
theorem Inv.lset{its its':List Value}{n:Nat}{f:Array Value->Array Value}{t':Nat}(I:Inv X pins σ H s)(a:H l=some (.lst xs))
  (e:s.heap.get? l=some { cls:=.type "list",data:=.seq its.toArray n }) (b:f its.toArray=its'.toArray) (c:Vals ys its') (hz:ys.length<=sizeLine) :
  Inv X pins σ (upd H l (.lst ys)) { s with heap:=s.heap.update l (Obj.mapSeq f),toks:=t' }:=by
 have q:=PySem.IsL.update e f;rw[b] at q;refine I.write (x:=l) (e:=l) (by rw[a];exact trivial) (.inl rfl) (λb' u d g=>(Heap.get?_update_other s.heap (Obj.mapSeq f) (Ne.symm d)).trans g) ⟨_,q⟩ ?_;exact⟨hz,its',_,c,q⟩
theorem Inv.lnew(I:Inv X pins σ H s)(a:Vals ys its)(hz:ys.length<=sizeLine) :
  Inv X pins σ (upd H s.heap.objs.size (.lst ys)) { s with heap:=s.heap.push { cls:=.type "list",data:=.seq its.toArray },toks:=t' } :=
 I.laid (λ_ _ q=>L7 _ q) (M8 _) ⟨hz,its,0,a,E4 _ rfl⟩
theorem Inv.fresh(I:Inv X pins σ H s):H s.heap.objs.size=none:=I.hok.fresh (M8 _)
theorem Inv.lstM(I:Inv X pins σ H s)(a:H l=some (.lst xs)):xs.length<=sizeLine/\∃(its:List Value) (n:Nat),Vals xs its/\xs.length=its.length/\s.heap.get? l=some { cls:=.type "list",data:=.seq its.toArray n }:=by
 obtain⟨z,its,n,r,e⟩:=I.hok l _ a;exact⟨z,its,n,r,r.length,e⟩
theorem xG(h:n<=sizeLine):Builtin.List.listTooLong n=false:=by
 unfold Builtin.List.listTooLong;exact X5 (by lia)
end
section
variable {X:Cx}
def qV:V->List V->Hp->VK->Prop:=λx vs H Q=>∃ l xs y,x=.ref l/\vs=[y]/\H l=some (.lst xs)/\xs.length < sizeLine/\Q .non (upd H l (.lst (xs++[y])))
theorem Jn:MtM X "list.append" qV:=by
 intro b s σ H x i v j Q I d f h;obtain⟨l,k,y,rfl,rfl,c,m,q⟩:=h;cases d;obtain⟨u,rfl,g⟩:=f.one;obtain⟨z,a,n,r,o,e⟩:=I.lstM c;refine call_meets F.slot_list_append ⟨_,e,rfl⟩ F.entry_list_append (F.args_list_append_2 _ _) (PySem.list_append l a.toArray n u (by rw[N2];lia)) ⟨e,?_⟩;refine⟨.non,_,I.lset (its':=a++[u]) c e (by simp) (r.append (.cons g .nil)) ?_,rfl,q⟩;rw[N3,List.length_singleton]
 lia
end
end L2
namespace Att
open PySem PySem.W PySem.Calls PyProof.Rows
theorem YA:∀(ns:List Int) (vs:List Value),WellAll P h vs (ns.map WData.int)->IntsAre vs ns:=by
 intro ns
 induction ns with
 | nil =>
  intro vs w;rw[List.map_nil] at w;cases w;exact .nil
 | cons n ns c =>
  intro vs w;rw[L4] at w;cases w with
  | cons a b =>
   cases a;exact .cons _ _ (c _ b)
theorem script_of{l:OpenLaw}{n:Nat}(p:l.most=some n)  {h:Heap}{b:List WData}{c:List Value}
  (e:l.row.toRowW.claim.pre b=true) (k:WellAll P h c b) :
  ∃ a vs ns,c=[Value.ref a]/\b=[WData.list (ns.map WData.int)]/\h.get? a=some { cls:=.type "list",data:=.seq vs.toArray }/\IntsAre vs ns/\ns.length<=n:=by
 have m:WShape.hasAll [] b [.list .int]=true:=(pre_splitW e).1;have o:l.pre.holds [] { args:=b }=true:=(pre_splitW e).2;obtain⟨d,r,rfl,s,t⟩:=hasAllW_cons m;obtain rfl:=hasAllW_nil t;obtain⟨z,rfl,u⟩:=hasW_list s;obtain⟨ns,rfl⟩:=items_int u;have f:ns.length<=n:=by
  unfold OpenLaw.pre at o;have i:(WTm.not (.lt (.lit (.int (n:Int))) (.len (.arg 0)))).holds [] { args:=[.list (ns.map .int)] }=true:=by
   have i:=(holds_andW o).1;rw[p] at i;exact i
  have j:=condW_of i (w_not (w_lt w_lit (w_len_list (w_arg rfl))));rw[L0] at j;refine Nat.le_of_not_lt λq=>?_;have v:(n:Int) < ((ns.length:Nat):Int):=by lia
  first
   | (rw[X4 v] at j;exact absurd j (by decide))
   | (simp at j;lia)
 cases k with
 | cons w x =>
  cases x;cases w with
  | list y g=>exact⟨_,_,ns,rfl,rfl,y,YA ns _ g,f⟩
theorem post_true(l:OpenLaw)(a:List WData):l.row.toRowW.claim.post a (.bool true) a=true :=
 postW_of (r:=l.row.toRowW) (X:=(true==true))
  (show WShape.has [] (.bool true) .bool=true by first | rfl | decide | simp[WShape.has,WShape.arms,WShape.armsAll])
  (show(WTm.eq .res (.lit (.bool true))).value [] { args:=a,res:=some (.bool true),after:=a }=some (.bool (true==true)) from w_eq_bool (w_res rfl) w_lit) rfl
end Att
namespace L2
open PySem PySem.Spec PyProof.Rows
theorem Qw:∀{vs:List Value}{ns:List Int},IntsAre vs ns->Vals (ns.map V.int) vs
 | _,_,.nil=>.nil
 | _,_,.cons n t h=>.cons ⟨t,rfl⟩ (Qw h)
def jkF(H:Hp):Prop:=∀ b,H b=none \/ ∃ o xs,H b=some (.frz o (.lst xs))
theorem jdr{P:Program}{w:World}{K:PySem.W.Frag}{mg I:Str->Option Value}{CX:CXT}{k:Nat}{fa a:Addr}{fd:FuncData}{x:Str}{sp:Sp}{c:Shared}{vs:List Value}{ns:List Int}
  (Q:K.In c.heap) (p:c.heap.Ns mainGlobals mg) (g:c.heap.Ns builtinsNs I) (J:∀ x:Str,x≠"__name__"->I x=bootBuiltins x) (t:c.heap.NoLimit) (Y:c.gens = #[])
  (G:c.heap.get? a=some { cls:=.type "list",data:=.seq vs.toArray }) (hi:IntsAre vs ns) (R:ns.length<=sizeLine) (Z:Room k callerA)
  (F:∀ base:Heap,K.In base->base.Ns mainGlobals mg->FnOk P w K mg base CX k fa fd [x] sp) (l:∀(s:Shared) (u:Value),BindsTo s fd ⟨[u],[]⟩ [(x,u)])
  (L:∀ H:Hp,jkF H->SqL K H a (ns.map V.int)->sp [.ref a] H (λv _=>v=.bl true) λ_ _ _=>False)
  (M:∀ H e s',CX [] H c (λ_ _ _=>False) e s'->False) :
  codeAny (model P w) callerA (.call (.ref fa) ⟨[.ref a],[]⟩) (λr s'=>r=.ok (.ret (.bool true))/\OldK c.heap s'.heap/\s'.os=c.os/\AllBare s'.gens) c:=by
 have S:=Qw hi;have y:=hi.length
 -- from an abstract heap in which nothing but the script may be tracked
 have j:∀ H:Hp,jkF H->SqL K H a (ns.map V.int)->HOk P w H c.heap->(∀ b,H b≠none->b=a)->(H a≠none->K.lookup a=none) ->
   codeAny (model P w) callerA (.call (.ref fa) ⟨[.ref a],[]⟩) (λr s'=>r=.ok (.ret (.bool true))/\OldK c.heap s'.heap/\s'.os=c.os/\AllBare s'.gens) c:=by
  intro H T hS hok U hK;have f:∀{b:Addr}{o:Obj},c.heap.get? b=some o->H b=none->(jc0 c.heap H).get? b=some o:=λe n=>jdE e n;have N:∀{b:Addr}{o:Obj}{A:Array DictEntry}{B:Nat},c.heap.get? b=some o->o.data=.dict A B->H b=none:=λ{b o A B} e d=>by
   cases q:H b with
   | none=>rfl
   | some u =>
    have O:b=a:=U b (by rw[q];simp);subst O;rw[G] at e;cases e;have d':Data.seq vs.toArray _=Data.dict A B:=d;cases d'
  have i:∀{b:Addr}{m:Str->Option Value},c.heap.Ns b m->(jc0 c.heap H).Ns b m:=λ{b m} ⟨o,A,B,e,d,r⟩=>⟨o,A,B,f e (N e d),d,r⟩;have C:K.In (jc0 c.heap H):=λb o e=>f (Q b o e) (by
   cases q:H b with
   | none=>rfl
   | some u =>
    have O:b=a:=U b (by rw[q];simp);subst O;rw[hK (by rw[q];simp)] at e;cases e)
  have hM:Mod K mg (jc0 c.heap H):=⟨C,i p,⟨I,i g,J⟩,let ⟨mc,h1,h2⟩:=t;⟨mc,i h1,h2⟩⟩;have e0:Env0 P w K mg (jc0 c.heap H) callerA [] c H:=⟨rfl,hM,λb o e=>jfi e,Nat.le_of_eq (uJ _ _),trivial,λb g=>absurd (show b∈([]:List Addr) from g) (by simp),hok,.of_eq Y⟩;refine codeAny_mono ((F _ C (i p)).run callerA [] c H ⟨[.ref a],[]⟩ [.ref a] [.ref a] _ _ Z e0 (l c (.ref a)) (.cons rfl .nil) (L H T hS)) λr s' h=>?_;cases r with
  | error e=>exact(M H e s' h).elim
  | ok fl =>
   cases fl with
   | next=>exact False.elim h
   | brk=>exact False.elim h
   | cont=>exact False.elim h
   | ret u =>
    obtain⟨v,H',os,bare,un,D,r',q⟩:=h;have q':v=.bl true:=q;subst q';obtain rfl:u=Value.bool true:=r';refine⟨rfl,OldK.of_keep λb o e=>?_,os,bare⟩;cases q:H b with
    | none=>exact un.keep b o e q (by intro z;exact absurd (show b∈([]:List Addr) from z) (by simp)) (by simp)
    | some u =>
     rcases T b with z | ⟨ob,xs,z⟩
     ·rw[q] at z;cases z
     ·have z2:=un.frzs b ob _ z;obtain⟨X,_⟩:=hok b _ z;obtain⟨e2,_⟩:=D b _ z2;rw[e] at X;cases X;exact e2
 cases hk:K.lookup a with
 | some o =>
  -- the script is one of the module's own objects
  have e:=Q a o hk;rw[G] at e;cases e;refine j (λ_=>none) (λ_=>.inl rfl) (.inr ⟨_,vs.toArray,_,hk,rfl,rfl,rfl,by rw[N2,y];exact R,by simpa using S⟩) (λb u z=>by have E:(none:Option HO)=some u:=z;cases E) (λb z=>absurd rfl z) λz=>absurd rfl z
 | none =>
  refine j (λb=>if b=a then some (.frz { cls:=.type "list",data:=.seq vs.toArray } (.lst (ns.map V.int))) else none) (λb=>?_) (.inl (.inr ⟨{ cls:=.type "list",data:=.seq vs.toArray },if_pos rfl⟩)) (λb u z=>?_) (λb z=>?_) λ_=>hk
  ·by_cases g:b=a
   ·exact .inr ⟨_,_,if_pos g⟩
   ·exact .inl (if_neg g)
  ·by_cases g:b=a
   ·have E:=(if_pos g).symm.trans z;cases E;subst g;exact⟨G,by rw[L0];exact R,vs,_,S,G⟩
   ·have E:=(if_neg g).symm.trans z;cases E
  ·by_cases g:b=a
   ·exact g
   ·exact absurd (if_neg g) z
noncomputable def kQ(s:Stmt)(j:Nat):Stmt:=match s with
 | .ClassDef _ _ _ body _ _ _ _ _ _ _=>body.getD j (.Pass ⟨0,0,0,0⟩)
 | _=>.Pass ⟨0,0,0,0⟩
noncomputable def kY(s:Stmt):Arguments:=match s with
 | .FunctionDef _ a _ _ _ _ _ _ _ _=>a
 | _=>{ posonlyargs:=[],args:=[],vararg:=none,kwonlyargs:=[],kw_defaults:=[],kwarg:=none,defaults:=[] }
noncomputable def vE(s:Stmt):List Stmt:=match s with
 | .FunctionDef _ _ b _ _ _ _ _ _ _=>b
 | _=>[]
noncomputable def jC(s:Stmt):Scope:=match s with
 | .FunctionDef _ _ _ _ _ _ sc _ _ _=>sc
 | _=>{ kind:=.function,names:=[],isGenerator:=false,isCoroutine:=false }
noncomputable abbrev CX0:CXT:=λ_ _ _ _ _ _=>False
noncomputable abbrev E0:XK:=λ_ _ _=>False
theorem jdo:VE CX0 X E0:=λ_ _ _ _ _ _ _ h=>h.elim
structure Fun(K:PySem.W.Frag)(x qual:Str)(st:Stmt)(f:Addr)(fd:FuncData):Prop where
 ex:∃(oc:Value) (od:Option Addr) (kV doc pm:Value) (an:Option Addr) (cdv ct:Value) (osl:Array (Option Value)),
  fd=PySem.W.fnOf x qual (kY st) (vE st) (jC st) .none kV doc pm an cdv ct/\K.lookup f=some ⟨oc,od,.func fd,osl⟩/\PySem.W.codeIn K cdv qual=true
 kp:PySem.W.keepIn K (.ref f)=true
section
variable {P:Program}{w:World}{K:PySem.W.Frag}{mg:Str->Option Value}{base:Heap}
theorem Fun.ok{x qual:Str}{st:Stmt}{f:Addr}{fd:FuncData}{N ps:List Str}{k:Nat}{sp:Sp}(F:Fun K x qual st f fd)(S:FnScope N ps (jC st))(len:∀ vs H Q E,sp vs H Q E->vs.length=ps.length)
  (a:∀(cdv:Value) (A:Around) (outer:List Env) (s:Shared) (H:Hp) (vs:List V) (Q:VK) (E:XK),Room k (A.deeper (envOfC qual (jC st) s.heap.objs.size f cdv))->sp vs H Q E ->
   ∃ t,PSs (jeb CX0 P w K mg base N qual (jC st) f cdv A outer s H E).nox (vE st) t/\t { nx:=λ_ H'=>Q .non H',rt:=Q } (start N vs) H):FnOk P w K mg base CX0 (k+1) f fd ps sp:=by
 obtain⟨oc,od,kV,d,j,l,cdv,ct,e,rfl,g,b⟩:=F.ex;refine jkT g b S len λA outer s H vs Q E i c=>?_;obtain⟨t,h,q⟩:=a cdv A outer s H vs Q E i c;exact⟨t,h.nox,q⟩
theorem Fun.binds{x qual:Str}{st:Stmt}{f:Addr}{fd:FuncData}{ps:List Str}(F:Fun K x qual st f fd)
  (h:∀(kV doc pm:Value) (an:Option Addr) (cdv ct:Value) (us:List Value),us.length=ps.length->bindArgs (PySem.W.fnOf x qual (kY st) (vE st) (jC st) .none kV doc pm an cdv ct) ⟨us,[]⟩=pure (ps.zip us)):Binds K fd ps []:=by
 obtain⟨oc,od,kV,doc,pm,an,cdv,ct,a,rfl,c,b⟩:=F.ex;exact .all (h kV doc pm an cdv ct)
theorem xX{x qual:Str}{st:Stmt}{f:Addr}{oc:Value}{od an:Option Addr}{d:Array (Option Value)}{kV b pm a ct:Value}(l:K.lookup f=some ⟨oc,od,.func (PySem.W.fnOf x qual (kY st) (vE st) (jC st) .none kV b pm an a ct),d⟩)
  (c:PySem.W.codeIn K a qual=true) (k:PySem.W.keepIn K (.ref f)=true):Fun K x qual st f (PySem.W.fnOf x qual (kY st) (vE st) (jC st) .none kV b pm an a ct):=⟨⟨oc,od,kV,b,pm,an,a,ct,d,rfl,l,c⟩,k⟩
end
theorem wy(a:Room k A):A.units+1 < cLine:=E5 (Nat.add_le_add_left (by decide:1<=64) _) a.units
theorem jaS(h:n<=1000):n < sizeLine:=E5 h (by decide)
theorem jg3{A B:Prop}(h:B):if false=true then A else B:=by
 rw[if_neg M3];exact h
theorem jg4{A B:Prop}(h:A):if true=true then A else B:=by
 rw[if_pos rfl];exact h
theorem Qa(I:Nat->Shared->Prop)
  (turn:∀ n s,I n s->wpAny (model prog w) A (pyNext it) (λr s₁=>match r with
   | none=>R (.ok .next) s₁
   | some v=>wpAny (model prog w) A (letOwnedTupleGo target it v) (λ_ s₁'=>wpAny (model prog w) A (assign target env v) (λ_ s₂ =>
     wpAny (model prog w) A (forIn ifs true λc r=>if r=true then do let ok <- isTrue c env (eval c env);pure (ForInStep.yield ok) else pure (ForInStep.yield r)) (λok s₃ =>
      if ok=true then wpAny (model prog w) A (eval elt env) (λx s₄ =>
       wpAny (model prog w) A (call (.builtin "list.append") [acc,x]) (λ_ s₅=>∃ m,m < n/\I m s₅) (λ_ _=>False) s₄) (λ_ _=>False) s₃
      else ∃ m,m < n/\I m s₃) (λ_ _=>False) s₂) (λ_ _=>False) s₁') (λ_ _=>False) s₁) (λ_ _=>False) s)
  (n:Nat) (h:I n s) :
  codeAny (model prog w) A (.compLoop (.ListComp elt [⟨target,iter,ifs,0⟩] scope pos) 0 it acc env) R s:=by
 have a:∀{α:Type}{t:Sem α}{Q:α->Shared->Prop}{E:Value->Shared->Prop}{s:Shared},wpAny (model prog w) A t Q (λ_ _=>False) s->wpAny (model prog w) A t Q E s :=
  λh=>wpAny_mono h (λ_ _ x=>x) λ_ _ z=>z.elim
 refine codeAny_loop rfl I (λn s f=>?_) n h;show wpAny _ A ((compTurn (.ListComp elt [⟨target,iter,ifs,0⟩] scope pos) 0 it acc env).onRaise (λx=>do noteFrame x env;theTreesLotGoes x)) _ _ s;refine wpAny_noted ?_;rw[compTurn_list];refine L1 (wpAny_standAt (L1 (thn (a (turn n s f)) λr s₁ d=>?_)));cases r with
 | none=>exact M6 d
 | some v =>
  refine L1 (thn (a d) λ_ s₁' b=>L1 (thn (a b) λ_ s₂ g=>L1 (thn (a g) λok s₃ e=>?_)));cases ok with
  | false=>exact M6 ⟨rfl,e⟩
  | true =>
   exact L1 (L1 (thn (a e) λx s₄ i=>L1 (thn (a i) λ_ s₅ j=>M6 (M6 ⟨rfl,j⟩))))
noncomputable def wW(env:Env):List (Str×NameKind)->List (Str×Addr)->List (Str×Addr)
 | [],cs=>cs
 | (n,k)::r,cs=>wW env r (if k==NameKind.free then(match env.cells.lookup n with | some a=>(n,a)::cs | none=>cs) else cs)
def QY(scope:Scope)(env:Env):List (Str×Addr):=wW env scope.names []
theorem jgf:∀(l:List (Str×NameKind)) (cs:List (Str×Addr)),(∀ n k,(n,k)∈l->k=NameKind.free->∃ c,env.cells.lookup n=some c) ->
  (forIn (m:=Sem) l cs λx r=>match x with | (n,k)=>if k==NameKind.free then do let a <- cellOf env n;pure (ForInStep.yield ((n,a)::r)) else pure (ForInStep.yield r))=pure (wW env l cs)
 | [],cs,_=>rfl
 | (n,k)::r,cs,h=>by
  rw[List.forIn_cons];by_cases b:(k==NameKind.free)=true
  ·obtain⟨c,j⟩:=h n k L6 (by simpa using b);have o:cellOf env n=pure c:=by unfold cellOf;rw[j]
   have d:=jgf (env:=env) r ((n,c)::cs) λe f g i=>h e f (L5 _ g) i;simp only[b,if_true,o,pure_bind];rw[d]
   conv=>rhs;unfold wW
   simp only[b,if_true,j]
  ·have d:=jgf (env:=env) r cs λe f g i=>h e f (L5 _ g) i;simp only[b,if_false,pure_bind,Bool.false_eq_true];rw[d]
   conv=>rhs;unfold wW
   simp only[b,if_false,Bool.false_eq_true]
theorem wE(h:∀ n k,(n,k)∈scope.names->k=NameKind.free->∃ c,env.cells.lookup n=some c):closureFor scope env=pure (QY scope env):=by
 have e:=jgf (env:=env) scope.names [] h;unfold closureFor QY;show(forIn (m:=Sem) scope.names [] λx r=>match x with | (n,k)=>if k==NameKind.free then do let a <- cellOf env n;pure (ForInStep.yield ((n,a)::r)) else pure (ForInStep.yield r)) >>= (λb=>pure b)=_;rw[e,pure_bind]
theorem jek:∀(l:List (Str×NameKind)) (cs:List (Str×Addr)),(x,c)∈wW env l cs->(x,c)∈cs \/ env.cells.lookup x=some c
 | [],_,h=>.inl h
 | (n,k)::r,cs,h=>by
  unfold wW at h;rcases jek r _ h with z | z
  ·split at z
   ·split at z
    ·rename_i a b;rcases M4.mp z with e | e
     ·cases e;exact .inr b
     ·exact .inl e
    ·exact .inl z
   ·exact .inl z
  ·exact .inr z
theorem ja2:∀(l:List (Str×NameKind)) (cs:List (Str×Addr)),(x,c)∈cs->(x,c)∈wW env l cs
 | [],_,h=>h
 | (n,k)::r,cs,h=>by
  unfold wW;refine ja2 r _ ?_;split
  ·split
   ·exact L5 _ h
   ·exact h
  ·exact h
theorem jdX(a:env.cells.lookup x=some c):∀(l:List (Str×NameKind)) (cs:List (Str×Addr)),(x,NameKind.free)∈l->(x,c)∈wW env l cs
 | [],_,h=>nomatch h
 | (n,k)::r,cs,h=>by
  unfold wW;rcases M4.mp h with e | e
  ·cases e;refine ja2 r _ ?_;simp only[beq_self_eq_true,if_true,a];exact L6
  ·exact jdX a r _ e
theorem Ji:∀{l:List (Str×β)}{c:β},(x,c)∈l->∃ d,l.lookup x=some d
 | (n,a)::r,c,h=>by
  rw[List.lookup_cons];cases e:x==n with
  | true=>exact⟨a,rfl⟩
  | false =>
   rcases M4.mp h with z | z
   ·cases z;simp at e
   ·exact Ji z
theorem YS(h:(QY scope env).lookup x=some c):env.cells.lookup x=some c:=by
 rcases jek scope.names [] (PySem.mem_of_lookup h) with z | z
 ·exact nomatch z
 ·exact z
theorem uO(a:env.cells.lookup x=some c)(f:(x,NameKind.free)∈scope.names):(QY scope env).lookup x=some c:=by
 obtain⟨d,e⟩:=Ji (jdX a scope.names [] f);have b:(QY scope env).lookup x=some d:=e;rw[b,<- YS b,a]
theorem qK(h:(n,k)∈(relabel scope env).names):(n,k)∈scope.names \/ (k=.cell/\(n,NameKind.free)∈scope.names):=by
 unfold relabel at h;obtain⟨⟨a,b⟩,c,e⟩:=M5.mp h;dsimp only at e;split at e
 ·rename_i d;cases e;have:b=NameKind.free:=by
   simp only[L9,beq_iff_eq] at d;exact d.1.1
  subst this;exact .inr ⟨rfl,c⟩
 ·cases e;exact .inl c
def vZ(scope:Scope)(env:Env)(C:Addr):List (Str×Addr):=cellsFrom (C+1) scope.names (QY scope env)
theorem jbV:∀{names:List (Str×NameKind)}{n:Nat}{acc:List (Str×Addr)},(∀ x y c,acc.lookup x=some c->acc.lookup y=some c->x=y)->(∀ x c,acc.lookup x=some c->c < n)->∀ x y c,(cellsFrom n names acc).lookup x=some c->(cellsFrom n names acc).lookup y=some c->x=y
 | [],n,acc,h,_=>h
 | (a,k)::r,n,acc,h,e=>by
  unfold cellsFrom;split
  ·refine jbV (λx y c b d=>?_) (λx c b=>?_)
   ·rw[List.lookup_cons] at b d;cases e1:x==a with
    | true =>
     rw[e1] at b;cases b;cases e2:y==a with
     | true=>rw[eq_of_beq e1,eq_of_beq e2]
     | false=>rw[e2] at d;exact absurd (e y _ d) (Nat.lt_irrefl _)
    | false =>
     rw[e1] at b;cases e2:y==a with
     | true=>rw[e2] at d;cases d;exact absurd (e x _ b) (Nat.lt_irrefl _)
     | false=>rw[e2] at d;exact h x y c b d
   ·rw[List.lookup_cons] at b;cases e1:x==a with
    | true=>rw[e1] at b;cases b;exact Nat.lt_succ_self _
    | false=>rw[e1] at b;exact Nat.lt_succ_of_lt (e x c b)
  ·exact jbV h e
theorem jik(h:∀ x y c,(QY scope env).lookup x=some c->(QY scope env).lookup y=some c->x=y)(a:∀ x c,(QY scope env).lookup x=some c->c < C+1)(x y:Str)(c:Addr)(h1:(vZ scope env C).lookup x=some c)(h2:(vZ scope env C).lookup y=some c):x=y:=jbV h a x y c h1 h2
theorem zJ:∀{names:List (Str×NameKind)}{n:Nat}{acc:List (Str×Addr)},(∃ c,acc.lookup x=some c)->∃ c,(cellsFrom n names acc).lookup x=some c
 | [],_,_,h=>h
 | (a,k)::r,n,acc,h=>by
  unfold cellsFrom;split
  ·refine zJ ?_;rw[List.lookup_cons];cases x==a with
   | true=>exact⟨n,rfl⟩
   | false=>exact h
  ·exact zJ h
theorem jaz:∀{names:List (Str×NameKind)}{n:Nat}{acc:List (Str×Addr)},(x,NameKind.cell)∈names->∃ c,(cellsFrom n names acc).lookup x=some c
 | [],_,_,h=>nomatch h
 | (a,k)::r,n,acc,h=>by
  unfold cellsFrom;rcases M4.mp h with e | e
  ·cases e;rw[if_pos (show(NameKind.cell==NameKind.cell)=true from rfl)];refine zJ ⟨n,?_⟩;rw[List.lookup_cons,beq_self_eq_true]
  ·split
   ·exact jaz e
   ·exact jaz e
theorem jh8(h:(x,NameKind.cell)∈scope.names):∃ c,(vZ scope env C).lookup x=some c:=jaz h
theorem zL:∀{names:List (Str×NameKind)}{n:Nat}{acc:List (Str×Addr)},(x,NameKind.cell)∉names->(cellsFrom n names acc).lookup x=acc.lookup x
 | [],_,_,_=>rfl
 | (a,k)::r,n,acc,h=>by
  unfold cellsFrom;split
  ·rename_i b;have b:=eq_of_beq b;subst b;rw[zL λz=>h (L5 _ z),List.lookup_cons];have:(x==a)=false:=U1.mpr λz=>h (by rw[z];exact L6);rw[this]
  ·exact zL λz=>h (L5 _ z)
theorem zY:∀(names:List (Str×NameKind)) (h:Heap) (acc:List (Str×Addr)) (x:Str) (c:Addr),(cellsFrom h.objs.size names acc).lookup x=some c->(h.objs.size<=c/\(pushCells h names).IsCell c none) \/ acc.lookup x=some c
 | [],_,_,_,_,e=>.inr e
 | (a,k)::r,h,acc,x,c,e=>by
  unfold cellsFrom at e;unfold pushCells;split at e
  ·rename_i b;rw[if_pos b];rcases zY r (h.push { cls:=.type "cell",data:=.cell none }) ((a,h.objs.size)::acc) x c (by rw[Heap.size_push];exact e) with q | q
   ·rw[Heap.size_push] at q;exact .inl ⟨Nat.le_of_succ_le q.1,q.2⟩
   ·rw[List.lookup_cons] at q;cases e1:x==a with
    | true =>
     rw[e1] at q;cases q;exact .inl ⟨M8 _,⟨_,pushCells_keeps r _ _ _ (E4 _ rfl),rfl⟩⟩
    | false=>rw[e1] at q;exact .inr q
  ·rename_i b;rw[if_neg b];exact zY r h acc x c e
theorem VS:∀(l:List (Str×NameKind)) (cs:List (Str×Addr)),(x,c)∈wW env l cs->(x,c)∈cs \/ (x,NameKind.free)∈l
 | [],_,h=>.inl h
 | (n,k)::r,cs,h=>by
  unfold wW at h;rcases VS r _ h with z | z
  ·split at z
   ·rename_i a;split at z
    ·rcases M4.mp z with e | e
     ·cases e;have a:=eq_of_beq a;subst a;exact .inr L6
     ·exact .inl e
    ·exact .inl z
   ·exact .inl z
  ·exact .inr (L5 _ z)
theorem jbN(h:(QY scope env).lookup x=some c):(x,NameKind.free)∈scope.names:=by
 rcases VS scope.names [] (PySem.mem_of_lookup h) with z | z
 ·exact nomatch z
 ·exact z
theorem Kk 
  (h:Q (newEnv scope s.heap.objs.size globals (cellsFrom (s.heap.objs.size+1) scope.names cl) qual none .none (some env) builtinsNs) { s with heap:=pushCells (s.heap.push { cls:=.type "dict",data:=.dict #[] }) scope.names }) :
  wpAny M A (newFunctionEnv scope globals cl [] qual none .none (some env)) Q E s:=by
 simp only[newFunctionEnv,if_true,Option.isSome_some];refine L1 (wpAny_alloc ?_);refine L1 (wpAny_layCells _ (λnm kd a=>by cases hq:kd==NameKind.cell<;>simp[hq]) _ _ _ _ ?_);rw[show({ s with heap:=s.heap.push { cls:=.type "dict",data:=.dict #[] } }:Shared).heap.objs.size=s.heap.objs.size+1 from Heap.size_push ..];rw[List.forIn_nil];exact L1 (M6 (M6 h))
def yt(X:Cx)(scope:Scope)(N':List Str)(C:Addr)(s₃:Shared)(H₃:Hp)(fp:List Addr):Cx :=
 { X with N:=N',s₀:=s₃,H₀:=H₃,env:=compEnvC scope (vZ scope X.env C) C X.env,outer:=X.stack,stack:=X.stack,ex:=fp,fn:=λx=>scope.names.lookup x==some NameKind.cell,pn:=[],xe:=λ_ _=>False }
structure BlockOk(X:Cx)(scope:Scope)(N':List Str)(ix:List (Option Nat)):Prop where
 kind:scope.kind=.function
 names:∀ y∈scope.names,y.2=.local->scope.names.lookup y.1=some .local
 cells:∀ y∈scope.names,y.2=.cell->scope.names.lookup y.1=some .cell
 uniq:∀ y∈scope.names,y.2=.free->scope.names.lookup y.1=some .free
 outer:∀ y∈scope.names,y.2=.free->X.env.kindOf y.1=some .cell \/ X.env.kindOf y.1=some .free
 nd:N'.Nodup
 len:ix.length=N'.length
 at_:∀(i j:Nat) (x:Str),ix[i]?=some (some j)->N'[i]?=some x->X.N[j]?=some x/\(x,NameKind.free)∈scope.names
 func:X.env.scope.kind=.function
theorem BlockOk.free(B:BlockOk X scope N' ix)  (h:(x,NameKind.free)∈scope.names):(vZ scope X.env C).lookup x=(QY scope X.env).lookup x :=
 zL λz=>by
  have a:=B.cells _ z rfl;rw[B.uniq _ h rfl] at a;cases a
noncomputable def yO(ix:List (Option Nat))(σ:St):St:=ix.map λo=>o.bind λj=>(σ[j]?).join
abbrev BW:=Nat->Nat->St->Hp->Prop
def xE(tc:TT)(te:TE)(g:TG)(J:It)(p:Addr)(σ':St)(H1:Hp)(Q:Hp->Prop):Prop :=
 ∃ W:BW,(∃ m,W 0 m σ' H1)/\∀ i m σ2 H2,W i m σ2 H2->(J.stop i H2/\Q H2) \/
  (J.go i H2/\∀ x H3,J.yld i H2 x H3->g x σ2 H3 λσ4 H4=>tc σ4 H4 λb H5=>if b=true then
   te σ4 H5 λy H6=>∃ ys,H6 p=some (.lst ys)/\ys.length < sizeLine/\∃ m',m' < m/\W (i+1) m' σ4 (upd H6 p (.lst (ys++[y])))
   else ∃ m',m' < m/\W (i+1) m' σ4 H5)
def xh(wi:TI)(g:TG)(tc:TT)(te:TE)(ix:List (Option Nat)):TE:=λσ H Q=>wi σ H λJ H1=>∀ p,H1 p=none->xE tc te g J p (yO ix σ) (upd H1 p (.lst [])) λH2=>Q (.ref p) H2
def PIf(X:Cx)(ifs:List Expr)(tc:TT):Prop:=(ifs=[]/\tc=λ_ H Q=>Q true H) \/ ∃ c,ifs=[c]/\PT X c tc
theorem jbg(B:BlockOk X scope N' ix)(I:Inv X pins σ H s)(w:∀ b∈fp,wB X pins H b)(A:∀ b∈fp,b < s.heap.objs.size)
  (L:h₁.Ns s.heap.objs.size (λ_=>none)) (K:∀ b o,s.heap.get? b=some o->h₁.get? b=some o)
  (h:∀ x c,(vZ scope X.env s.heap.objs.size).lookup x=some c->(s.heap.objs.size+1<=c/\h₁.IsCell c none) \/ (QY scope X.env).lookup x=some c) :
  Inv (yt X scope N' s.heap.objs.size s H fp) [] (yO ix σ) H { s with heap:=h₁,toks:=t }:=by
 have fresh:H s.heap.objs.size=none:=I.hok.fresh (M8 _);have f:∀ x c,(QY scope X.env).lookup x=some c->X.env.cells.lookup x=some c:=λx c e=>YS e;have M:∀ x c,X.env.cells.lookup x=some c->c < s.heap.objs.size:=λx c e=>by
  obtain⟨v,o,C,_⟩:=I.cell x c e;exact N0 C
 refine⟨⟨I.ok.mod,B.kind,I.ok.glob,I.ok.blt,M8 _,jik (λx y c D E=>I.ok.inj x y c (f x c D) (f y c E)) (λx c e=>Nat.lt_succ_of_lt (M x c (f x c e))),λx F=>?_,(λx c D E=>?_),I.ok.hd,I.ok.frames,.inl rfl,λb n=>⟨N5 (A b n),λx c e=>?_⟩,
  λb o e=>I.bs b o e,N6 I.ok.bsz I.sz,λb o e n=>?_,λb n z=>?_,I.stack,I.stkFree⟩,rfl,I.bare,Un.kept K,⟨_,L,λi x v D E Q=>?_⟩,λx c e=>?_,fresh,λx c e=>?_,(λp R=>nomatch (show p∈([]:List (Addr×Obj)) from R)),I.hok.kept K,?_⟩
 ·have N:(relabel scope X.env).names.lookup x=some .cell \/ (relabel scope X.env).names.lookup x=some .free:=F;have g:(x,NameKind.free)∈scope.names \/ (x,NameKind.cell)∈scope.names:=by
   rcases N with q | q
   ·rcases qK (PySem.mem_of_lookup q) with z | z
    ·exact .inr z
    ·exact .inl z.2
   ·rcases qK (PySem.mem_of_lookup q) with z | z
    ·exact .inl z
    ·exact absurd z.1 (by decide)
  rcases g with g | g
  ·obtain⟨c,O⟩:=I.ok.has x (B.outer _ g rfl);exact⟨c,by show(vZ scope X.env s.heap.objs.size).lookup x=some c;rw[B.free g];exact uO O g⟩
  ·exact jh8 g
 ·-- the block's own cells are new
  have F:(scope.names.lookup x==some NameKind.cell)=true:=D;have F:=eq_of_beq F;rcases h x c E with⟨q,_⟩ | q
  ·exact Nat.le_of_succ_le q
  ·exfalso;have w:=jbN q;have G:=B.uniq _ w rfl;rw[F] at G;cases G
 ·rcases h x c e with⟨q,_⟩ | q
  ·exact Nat.ne_of_gt (U3 (A b n) (Nat.le_of_succ_le q))
  ·exact(w b n).2.2.2.2.1 x c (f x c q)
 ·rcases(w b n).2.2.2.1 with z | z
  ·exact I.ok.noex b o e z
  ·exact absurd (U3 (N0 e) (N6 I.ok.bsz z)) (Nat.lt_irrefl _)
 ·rcases M4.mp (I.stkSub b z) with q | q
  ·exact(w b n).2.1 q
  ·exact(w b n).2.2.1 q
 ·have a:(yO ix σ)[i]?=some (some v):=E;unfold yO at a;rw[List.getElem?_map] at a;cases e:ix[i]? with
  | none=>rw[e] at a;cases a
  | some o =>
   rw[e] at a;cases o with
   | none=>cases a
   | some j =>
    have d:(σ[j]?).join=some v:=X7 a;have S:σ[j]?=some (some v):=by
     cases q:σ[j]? with
     | none=>rw[q] at d;cases d
     | some u=>rw[q] at d;rw[show u=some v from d]
    obtain⟨T,g⟩:=B.at_ i j x e D;have J:=B.outer _ g rfl;obtain⟨m,V,U⟩:=I.loc;obtain⟨u,r,l⟩:=U j x v T S (J.elim (λz=>.inr (.inl z)) λz=>.inr (.inr z));refine⟨u,r,.inr ?_⟩;rcases l with⟨k,_⟩ | ⟨_,c,O,z⟩
    ·rcases J with y | y<;>rw[k] at y<;>cases y
    ·refine⟨?_,c,by show(vZ scope X.env s.heap.objs.size).lookup x=some c;rw[B.free g];exact uO O g,?_⟩
     ·rcases Q with y | y | y
      ·have:(x,NameKind.local)∈(relabel scope X.env).names:=PySem.mem_of_lookup y;rcases qK this with P | P
       ·have G:=B.names _ P rfl;rw[B.uniq _ g rfl] at G;cases G
       ·exact absurd P.1 (by decide)
      ·exact .inl y
      ·exact .inr y
     ·obtain⟨o,C,hd⟩:=z;exact⟨o,K c o C,hd⟩
 ·rcases h x c e with⟨_,q⟩ | q
  ·exact⟨none,q⟩
  ·obtain⟨v,o,C,hd⟩:=I.cell x c (f x c q);exact⟨v,o,K c o C,hd⟩
 ·rcases h x c e with⟨q,_⟩ | q
  ·exact I.hok.fresh (Nat.le_of_succ_le q)
  ·exact I.freeC x c (f x c q)
 ·show(yO ix σ).length=N'.length;unfold yO;rw[L0,B.len]
theorem Inv.other(I:Inv X pins σ H s)(f:wB X pins H C)(a:Heap.SameBut C s.heap h'):Inv X pins σ H { s with heap:=h' } :=
 I.turned (t':=s.toks) (λb o c e=>a.extBut b o c e) f.1 f.2.1 f.2.2.2.1 f.2.2.2.2.1 f.2.2.2.2.2
theorem Jb{X:Cx}{ifs:List Expr}{N':List Str}{ix:List (Option Nat)}{pins:List (Addr×Obj)}{s:Shared}{Q:Addr->Hp->Prop}{use:Option (Value->Sem Unit)}{QQ:Value->Shared->Prop}(B:BlockOk X scope N' ix)(hc:X.calm=true)(hi:PI X tg iter wi)
  (hg:∀ C s H fp,PG (yt X scope N' C s H fp) tg g) (hif:∀ C s H fp,PIf (yt X scope N' C s H fp) ifs tc) (he:∀ C s H fp,PE (yt X scope N' C s H fp) elt te)
  (hs:∀ x,foldedSetIterable iter X.env x=pure x) (I:Inv X pins σ H s)
  (h:wi σ H λJ H1=>∀ p,H1 p=none->xE tc te g J p (yO ix σ) (upd H1 p (.lst [])) (Q p))
  (hend:∀ p C s' H',Q p H'->Inv X pins σ H' s'->wB X pins H' C->(∃ m,s'.heap.Ns C m)->compPost (model X.prog X.w) X.A X.xe use QQ (.ref p) C (.ok .next) s') :
  wpAny (model X.prog X.w) X.A (comprehension (.ListComp elt [⟨tg,iter,ifs,0⟩] scope pos) scope X.env pos' (newList []) false (eval iter X.env) use) QQ X.xe s:=by
 have Y:closureFor scope X.env=pure (QY scope X.env):=wE λn k hm hk=>I.ok.has n (B.outer _ hm hk);refine wpAny_comprehension_free rfl hs Y B.kind B.names (thn (hi pins s σ H _ I h) λv s1 h1=>thn h1 λitv a h2=>?_);obtain⟨it,fp,tn,J,M,rfl,I2,T,Z,f2,h2⟩:=h2;refine wpAny_newObj_type (Kk ?_);dsimp only;have fr2:M a.heap.objs.size=none:=I2.fresh
 -- the new list
 have I3:Inv X pins σ (upd M a.heap.objs.size (.lst [])) { a with heap:=a.heap.push { cls:=.type "list",data:=.seq ([]:List Value).toArray } }:=I2.lnew (t':=a.toks) .nil (U4 _);generalize hs3:({ a with heap:=a.heap.push { cls:=.type "list",data:=.seq ([]:List Value).toArray } }:Shared)=s3 at I3;have e3:s3.heap=a.heap.push { cls:=.type "list",data:=.seq ([]:List Value).toArray }:=by rw[<- hs3]
 have hk3:∀ b o,a.heap.get? b=some o->s3.heap.get? b=some o:=λb o e=>by rw[e3];exact L7 _ e
 have lt3:∀ b∈fp,b < s3.heap.objs.size:=λb f=>by
  obtain⟨o,e,_⟩:=T.obj _ _ Z b f;exact N0 (hk3 b o e)
 have nep:∀ b∈fp,b≠a.heap.objs.size:=λb f z=>by
  obtain⟨o,e,_⟩:=T.obj _ _ Z b f;exact absurd (N0 e) (by rw[z];exact Nat.lt_irrefl _)
 have N:∀ b∈fp,wB X pins (upd M a.heap.objs.size (.lst [])) b:=λb f=>⟨by rw[jf (nep b f)];exact(f2 b f).1,(f2 b f).2⟩;have sz3:s3.heap.objs.size=(a.heap.push { cls:=.type "list",data:=.seq ([]:List Value).toArray }).objs.size:=by rw[e3]
 have hh₁:∃ O,O=pushCells (s3.heap.push { cls:=.type "dict",data:=.dict #[] }) scope.names:=⟨_,rfl⟩;obtain⟨O,P⟩:=hh₁;rw[<- e3,<- P];have hk4:∀ b o,s3.heap.get? b=some o->O.get? b=some o:=λb o e=>by
  rw[P];exact pushCells_keeps _ _ b o (L7 _ e)
 have hns4:O.Ns s3.heap.objs.size (λ_=>none):=by
  rw[P];exact(Heap.Ns.new s3.heap (.type "dict")).keeps (pushCells_keeps _ _)
 have R:∀ x c,(vZ scope X.env s3.heap.objs.size).lookup x=some c->(s3.heap.objs.size+1<=c/\O.IsCell c none) \/ (QY scope X.env).lookup x=some c:=λx c e=>by
  have q:=zY scope.names (s3.heap.push { cls:=.type "dict",data:=.dict #[] }) (QY scope X.env) x c (by rw[Heap.size_push];exact e);rw[Heap.size_push,<- P] at q;exact q
 have I4:Inv (yt X scope N' s3.heap.objs.size s3 (upd M a.heap.objs.size (.lst [])) fp) [] (yO ix σ) (upd M a.heap.objs.size (.lst [])) { s3 with heap:=O,toks:=a.toks }:=jbg B I3 N lt3 hns4 hk4 R;have st4:tn 0 O:=T.keep _ _ _ Z λb f o e=>hk4 b o (hk3 b o e);obtain⟨W,⟨m0,w0⟩,turn⟩:=h2 _ fr2;have hg':=hg s3.heap.objs.size s3 (upd M a.heap.objs.size (.lst [])) fp;have S:=hif s3.heap.objs.size s3 (upd M a.heap.objs.size (.lst [])) fp;have he':=he s3.heap.objs.size s3 (upd M a.heap.objs.size (.lst [])) fp;generalize j:yt X scope N' s3.heap.objs.size s3 (upd M a.heap.objs.size (.lst [])) fp=X' at I4 hg' S he';have eP:X'.prog=X.prog:=by rw[<- j];rfl
 have eW:X'.w=X.w:=by rw[<- j];rfl
 have eK:X'.K=X.K:=by rw[<- j];rfl
 have eA:X'.A=X.A:=by rw[<- j];rfl
 have eC:X'.calm=true:=by rw[<- j];exact hc
 have eE:X'.env=compEnvC scope (vZ scope X.env s3.heap.objs.size) s3.heap.objs.size X.env:=by rw[<- j];rfl
 have eX:X'.xe=λ_ _=>False:=by rw[<- j];rfl
 have F:∀{H':Hp},(∀ b∈fp,H' b=none)->∀ b∈fp,wB X' [] H' b:=λhn b f=>by
  refine⟨hn b f,?_,?_,?_,?_,?_⟩
  ·rw[eE];exact N5 (lt3 b f)
  ·rw[<- j];intro z;rcases M4.mp (I3.stkSub b z) with q | q
   ·exact(N b f).2.1 q
   ·exact(N b f).2.2.1 q
  ·rw[<- j];exact .inl f
  ·rw[eE];intro x c e;rcases R x c e with⟨q,_⟩ | q
   ·exact Nat.ne_of_gt (U3 (lt3 b f) (Nat.le_of_succ_le q))
   ·exact(N b f).2.2.2.2.1 x c (YS q)
  ·rw[<- j];exact(λp hp=>nomatch (show p∈([]:List (Addr×Obj)) from hp))
 -- the end of the block
 have fin:∀{l:St}{H':Hp}{s':Shared},Inv X' [] l H' s'->Q a.heap.objs.size H'->compPost (model X.prog X.w) X.A X.xe use QQ (.ref a.heap.objs.size) s3.heap.objs.size (.ok .next) s':=λ{l H' s'} J q=>by
  have hL:X'.env.locals=s3.heap.objs.size:=by rw[eE];rfl
  have un:Un (frs X.stack) fp (upd M a.heap.objs.size (.lst [])) H' s3.heap s'.heap:=by
   have z:=J.base;rw[<- j] at z;exact z
  have hos:s'.os=s3.os:=by
   have z:=J.os;rw[<- j] at z;exact z
  have hok:HOk X.prog X.w H' s'.heap:=by
   have z:=J.hok;rw[eP,eW] at z;exact z
  have fc:H' s3.heap.objs.size=none:=by
   have z:=J.free;rw[hL] at z;exact z
  have I5:Inv X pins σ H' s':=by
   obtain⟨hh,gg,dd,tt,oo⟩:=s';obtain rfl:oo=s3.os:=hos;exact I3.call (h':=hh) (g':=gg) (d':=dd) (t':=tt) (ch:=fp) un hok J.bare λb f=>⟨(N b f).2.2.2.1,(N b f).2.1,(N b f).2.2.2.2.1,(N b f).2.2.2.2.2⟩
  obtain⟨m,hn,_⟩:=J.loc;rw[hL] at hn;exact hend _ _ s' H' q I5 (I3.fpOk (M8 _) fc) ⟨m,hn⟩
 have loop:∀ s',s'=({ s3 with heap:=O,toks:=a.toks }:Shared)->codeAny (model X.prog X.w) X.A (.compLoop (.ListComp elt [⟨tg,iter,ifs,0⟩] scope pos) 0 (.ref it) (.ref a.heap.objs.size) X'.env) (compPost (model X.prog X.w) X.A X.xe use QQ (.ref a.heap.objs.size) s3.heap.objs.size) s':=by
  rintro s' rfl;refine Qa (λn s'=>∃ i l H',Inv X' [] l H' s'/\tn i s'.heap/\(∀ b∈fp,H' b=none)/\W i n l H') ?_ m0 ⟨0,_,_,I4,st4,λb f=>(N b f).1,w0⟩;rintro n s5 ⟨i,σ5,H5,I5,st5,fr5,w5⟩;have it5:=T.item X' eP eW eK eC i [] s5 σ5 H5 (λ_ _=>False) I5 (F fr5) st5;have dn5:=T.done X' eP eW eK eC i [] s5 σ5 H5 (λ_ _=>False) I5 (F fr5) st5;rw[eA] at it5 dn5;rcases turn i n σ5 H5 w5 with⟨stop,qn⟩ | ⟨go,step⟩
  ·refine thn (dn5 stop) λr s6 ⟨hr,I6⟩=>?_;subst hr;exact fin I6 qn
  ·refine thn (it5 go) λr s6 ⟨u,hr,h6⟩=>?_;subst hr;refine thn h6 λ_ s7 hh=>?_;obtain⟨x,H7,I7,r7,y7,st7,fr7⟩:=hh;have I7':=I7.pinned (F fr7) (T.obj _ _ st7);have a7:=hg' _ s7 σ5 H7 x u _ I7' r7 (step x H7 y7);rw[eP,eW,eA,eX] at a7;refine thn a7 λ_ s8 hh=>?_;obtain⟨G,H8,I8,q8⟩:=hh;have L:∀{t:Shared}{E:Hp},Inv X' ([]++VQ fp s7.heap) G E t->(∃ D,D < n/\W (i+1) D G E)->∃ m,m < n/\∃ i l H',Inv X' [] l H' t/\tn i t.heap/\(∀ b∈fp,H' b=none)/\W i m l H':=λ{t E} U ⟨D,hm,w9⟩=>by
    refine⟨D,hm,i+1,G,E,U.unpinned,T.keep _ _ _ st7 λb f o e=>(U.pin (b,o) (U2 _ (U2 _ (qx f e)))).1,λb f=>?_,w9⟩;obtain⟨o,e,d⟩:=T.obj _ _ st7 b f;exact(U.pin (b,o) (U2 _ (U2 _ (qx f e)))).2.1
   have rest:∀(b:Bool) (t:Shared) (E:Hp),Inv X' ([]++VQ fp s7.heap) G E t->(if b=true then te G E λy H6=>∃ ys,H6 a.heap.objs.size=some (.lst ys)/\ys.length < sizeLine/\∃ D,D < n/\W (i+1) D G (upd H6 a.heap.objs.size (.lst (ys++[y])))
     else ∃ D,D < n/\W (i+1) D G E) ->
     if b=true then wpAny (model X.prog X.w) X.A (eval elt X'.env) (λx s₄=>wpAny (model X.prog X.w) X.A (call (.builtin "list.append") [.ref a.heap.objs.size,x]) (λ_ s₅=>∃ m,m < n/\∃ i l H',Inv X' [] l H' s₅/\tn i s₅.heap/\(∀ b∈fp,H' b=none)/\W i m l H') (λ_ _=>False) s₄) (λ_ _=>False) t
     else ∃ m,m < n/\∃ i l H',Inv X' [] l H' t/\tn i t.heap/\(∀ b∈fp,H' b=none)/\W i m l H':=λb t E U q9=>by
    cases b with
    | false =>
     rw[if_neg M3] at q9 ⊢;exact L U q9
    | true =>
     rw[if_pos rfl] at q9 ⊢;have a9:=he' _ t G E _ U q9;rw[eP,eW,eA,eX] at a9;refine thn a9 λyv s10 hh=>?_;obtain⟨y,H10,I10,r10,ys,e10,l10,q10⟩:=hh;have a10:=Jn _ s10 G H10 (.ref a.heap.objs.size) [y] (.ref a.heap.objs.size) [yv] (λ_ H'=>∃ D,D < n/\W (i+1) D G H') I10 rfl (.cons r10 .nil) ⟨_,ys,y,rfl,rfl,e10,l10,q10⟩;rw[eP,eW,eA,eX] at a10;exact thn a10 λ_ s11 ⟨_,H11,I11,_,q11⟩=>L I11 q11
   rcases S with⟨e1,e2⟩ | ⟨c,e1,e2⟩
   ·subst e1;rw[e2] at q8;exact wpAny_tests_nil (rest true s8 H8 I8 q8)
   ·subst e1;have a8:=e2 _ s8 G H8 _ I8 q8;rw[eP,eW,eA,eX] at a8;exact wpAny_tests_one (thn a8 λb t ⟨E,U,q9⟩=>rest b t E U q9)
 have V:codeAny (model X.prog X.w) X.A (.compStart (.ListComp elt [⟨tg,iter,ifs,0⟩] scope pos) 0 (.ref it) (.ref a.heap.objs.size) X'.env) (compPost (model X.prog X.w) X.A X.xe use QQ (.ref a.heap.objs.size) s3.heap.objs.size) { s3 with heap:=O,toks:=a.toks } :=
  codeAny_compStart_list (loop _ rfl) (T.self _ 0 _ _ _ st4 (loop _ rfl))
 rw[eE] at V;subst hs3;exact V
theorem jal(B:BlockOk X scope N' ix)(d:X.calm=true)(hi:PI X tg iter wi)
  (e:∀ C s H fp,PG (yt X scope N' C s H fp) tg g) (a:∀ C s H fp,PIf (yt X scope N' C s H fp) ifs tc) (i:∀ C s H fp,PE (yt X scope N' C s H fp) elt te)
  (j:∀ x,foldedSetIterable iter X.env x=pure x:=by intro _;rfl):PE X (.ListComp elt [⟨tg,iter,ifs,0⟩] scope pos) (xh wi g tc te ix):=by
 intro c s σ H Q I h;rw[eval_ListComp];exact Jb (use:=none) (Q:=λp b=>Q (.ref p) b) B d hi e a i j I h λp C o b q k f ⟨m,l⟩=>⟨m,l,λr n=>⟨.ref p,b,k.other f n,rfl,q⟩⟩
theorem wF(B:BlockOk X scope N' ix)(y:X.calm=true)(hi:PI X tg iter wi)
  (E:∀ C s H fp,PG (yt X scope N' C s H fp) tg g) (d:∀ C s H fp,PIf (yt X scope N' C s H fp) ifs tc) (F:∀ C s H fp,PE (yt X scope N' C s H fp) elt te)
  (G:X.N.Nodup) (j:X.N[i]?=some x) (J:Loc X.env.scope x)
  (hsw:swapsWith (.ListComp elt [⟨tg,iter,ifs,0⟩] scope pos) (some (.Name x pos')) spos.line X.env=pure true)
  (K:∀ x,foldedSetIterable iter X.env x=pure x:=by intro _;rfl)
  (L:X.fn x=true \/ X.env.scope.names.lookup x=some .local:=by first | exact .inl rfl | exact .inr rfl | assumption) :
  PS X (.Assign [.Name x pos'] (.ListComp elt [⟨tg,iter,ifs,0⟩] scope pos) spos) (je8 (xh wi g tc te ix) (Ky i)):=by
 intro a s σ H D I h;rw[exec_Assign_Name_used _ _ _ _ hsw];refine L1 (wpAny_standAt (L1 ?_));show wpAny _ X.A (do let _ <- comprehension (.ListComp elt [⟨tg,iter,ifs,0⟩] scope pos) scope X.env _ (newList []) false (eval iter X.env) (some (assign (.Name x pos') X.env))) _ _ s;refine L1 (thn (Jb (use:=some (assign (.Name x pos') X.env)) (QQ:=λ_ b=>SP X a D .next b) (Q:=λp c=>D.nx (σ.set i (some (.ref p))) c) B y hi E d F K I h λp C b c q n f ⟨m,M⟩=>?_) λ_ b O=>M6 (M6 O));obtain⟨o,P,R,S,r⟩:=id M;have hd:∀ v,o.data≠.cell v:=λv z=>by
  obtain⟨k,_⟩:=r;rw[k] at z;cases z
 have T:Inv X (a++[(C,o)]) σ c b:=n.pins_of λt l=>by
  rcases N1.mp l with z | z
  ·exact n.pin t (U2 _ z)
  ·have e:t=(C,o):=by simpa using z
   subst e;exact⟨S,f.1,f.2.1,f.2.2.1,hd⟩
 refine wpAny_assign_Name (Yb T G j J (v:=.ref p) rfl (λV u=>?_) L);have w:=u.pin (C,o) (U2 _ (U2 _ (M7.mpr rfl)));refine⟨m,⟨o,P,R,w.1,r⟩,λW U=>⟨_,c,(u.unpinned).other ⟨w.2.1,f.2⟩ U,q⟩⟩
noncomputable def S(l:List Nat):Str:=⟨l.toArray⟩
theorem qF(l:List Nat):(S l).cps.toList=l:=by simp[S]
theorem JR(l:List Nat):(S l).length=l.length:=by simp[S,Str.length]
theorem jio(h:S a=S b):a=b:=by
 rw[<- qF a,<- qF b,h]
theorem jlu(a b:List Nat):(S a=S b)=(a=b):=propext ⟨jio,λh=>by rw[h]⟩
theorem jgb(a b:List Nat):S a++S b=S (a++b):=by
 apply PyProof.Rows.ext_toList;rw[PySem.W.KT.app_list,qF,qF,qF]
theorem jf5(c:Nat):(⟨#[c]⟩:Str)=S [c]:=rfl
def yM{α:Type}(xs:List α)(lo hi:Option Int):List α:=(xs.drop (HT.sIx xs.length 0 lo)).take (HT.sIx xs.length xs.length hi - HT.sIx xs.length 0 lo)
theorem jaQ(xs:List α)(k:Nat):yM xs (some (k:Int)) none=xs.drop k:=by
 unfold yM;rw[HT.sIx_none,HT.sIx_nat];by_cases h:k<=xs.length
 ·rw[Nat.min_eq_left h,List.take_of_length_le];rw[List.length_drop]
  lia
 ·have e:xs.drop k=[]:=List.drop_eq_nil_of_le (by lia);rw[e,Nat.min_eq_right (by lia)];simp
theorem jaf(lo hi:Option Int)(n:Nat):Builtin.Str.strSliceIndices lo hi 1 n=(List.range (HT.sIx n n hi - HT.sIx n 0 lo)).map (HT.sIx n 0 lo+·):=by
 have a:∀(o:Option Int) (d:Nat),(match o with | none=>(d:Int) | some i=>(let i:=if i < 0 then i+(n:Int) else i;if(1:Int) > 0 then max 0 (min i n) else max (-1) (min i (n - 1))))=((HT.sIx n d o:Nat):Int):=by
  intro o d;cases o with
  | none=>rfl
  | some v =>
   show(if(1:Int) > 0 then max 0 (min (if v < 0 then v+(n:Int) else v) n) else _)=(((if v < 0 then(v+(n:Int)).toNat else min v.toNat n):Nat):Int);rw[if_pos (by decide)];by_cases b:v < 0
   ·rw[if_pos b,if_pos b];lia
   ·rw[if_neg b,if_neg b];lia
 rw[<- sliceRange_one,<- a lo 0,<- a hi n];rfl
theorem jeY(l:List Nat)(lo hi:Option Int):Txt.slice (S l) lo hi=S (yM l lo hi):=by
 have i:HT.sIx l.length l.length hi<=l.length:=HT.sIx_le _ _ (M8 _) _;have j:HT.sIx l.length 0 lo<=l.length:=HT.sIx_le _ _ (U4 _) _;have e:(Builtin.Str.strSliceIndices lo hi 1 (S l).length).filterMap ((S l).cps[·]?)=yM l lo hi:=by
  rw[JR,jaf];have h:=StrLaws.picks l (HT.sIx l.length l.length hi - HT.sIx l.length 0 lo) (HT.sIx l.length 0 lo);by_cases c:HT.sIx l.length 0 lo<=HT.sIx l.length l.length hi
  ·have d:=h (by lia);unfold yM;rw[<- d];simp[S]
  ·have z:HT.sIx l.length l.length hi - HT.sIx l.length 0 lo=0:=by lia
   unfold yM;rw[z];simp
 unfold Txt.slice;split
 ·rename_i b;have f:(Builtin.Str.strSliceIndices lo hi 1 (S l).length).length=(S l).length:=by
   simp only[beq_self_eq_true,Bool.true_and] at b;exact beq_iff_eq.mp b
  rw[JR,jaf,L0,List.length_range] at f;unfold yM;by_cases a:l.length=0
  ·have:l=[]:=List.length_eq_zero_iff.mp a;subst this;simp
  ·have g:HT.sIx l.length 0 lo=0:=by lia
   rw[g,List.drop_zero,List.take_of_length_le (by lia)]
 ·rw[e];rfl
def jlJ:V->Option Int->Option Int->Hp->VK->Prop:=λx lo hi H Q=>∃ l,x=.str (S l)/\l.length<=sizeLine/\Q (.str (S (yM l lo hi))) H
theorem jei(p:IsPart v o):∃ q:Option (Int×Tok),v=partValue q/\q.map (·.1)=o:=by
 cases p with
 | none=>exact⟨none,rfl,rfl⟩
 | int i t=>exact⟨some (i,t),rfl,rfl⟩
theorem jjv:SlR X jlJ:=by
 intro a s σ H x v p r lo hi w Q I f g pl i h;obtain⟨l,rfl,j,q⟩:=h;obtain⟨t,rfl⟩:=f;obtain⟨b,rfl,m⟩:=jei pl;obtain⟨c,rfl,n⟩:=jei i;refine⟨"str",_,F.slot_str_getitem.lookup,typeIs_str _ _ _,wpAny_getItem_str_slice (l:=b) (u:=c) (st:=none) g rfl ?_⟩;have o:Txt.slice (S l) lo hi=S (yM l lo hi):=jeY l lo hi;have e:∀ d k,EP X a σ Q (.str (Txt.slice (S l) lo hi) d) { s with toks:=k }:=λd k=>by
  rw[o];exact⟨.str (S (yM l lo hi)),H,I.tok k,⟨d,rfl⟩,q⟩
 have e2:sliceMade (S l) t b c none=(if((1:Int)==1&&(Builtin.Str.strSliceIndices lo hi 1 (S l).length).length==(S l).length)=true then Made.val (.str (S l) t) else Made.str ⟨((Builtin.Str.strSliceIndices lo hi 1 (S l).length).filterMap ((S l).cps[·]?)).toArray⟩):=by
  unfold sliceMade slicePicked;rw[m,n];rfl
 rw[e2];refine post_val_or_str ⟨?_,λd k=>e d k⟩;exact N6 (Txt.slice_le (S l) lo hi) (by rw[JR];exact j)
def Its(l:List Nat):It:=⟨λi _=>i < l.length,λi H x H'=>H'=H/\∃ c,l[i]?=some c/\x=.str (S [c]),λi _=>l.length<=i⟩
theorem jcT{tg:Expr}{P:Program}{w:World}{K:PySem.W.Frag}(a:Addr)(l:List Nat)(t:Tok)(ty:String)(m:ty = "str_ascii_iterator" \/ ty = "str_iterator")
  (W:∀ A:Around,A.handled=none->Walks P w A a [a] [a] (S l).cps.size (SignAt (S l)) (λi h=>h.IsStrIter a ty (S l) t i)):Turn P w K tg (Its l) [a] a (λi h=>h.IsStrIter a ty (S l) t i) where
 mem:=by simp
 obj:=λi h f b g=>by
  have e:b=a:=by simpa using g
  subst e;obtain⟨o,e,c,d⟩:=f;exact⟨o,e,λv z=>by rw[d] at z;cases z⟩
 keep:=λi h n f k=>by
  obtain⟨o,e,r⟩:=f;exact⟨o,k a (by simp) o e,r⟩
 item:=by
  intro X G J L q i j s σ H E I x f M;subst G J L;obtain⟨y,B,U,C,D,F⟩:=x a (by simp);have V:=W X.A (I.ok.hd q);have N:(S l).cps.size=l.length:=by simp[S]
  refine V.item i s _ _ (by rw[N];exact M) f λv n R Y p Z=>?_;obtain⟨c,u,O,rfl⟩:=Y;have I1:Inv X j σ H { s with heap:=n,toks:=R }:=I.turned (λb o g e=>Z b o (by simpa using g) e) y B C D F;obtain⟨o,e,ct,d⟩:=id p;refine⟨_,rfl,jcH (s:={ s with heap:=n,toks:=R }) e ct d (by rcases m with z | z<;>subst z<;>decide) ⟨.str (S [c]),H,I1,⟨u,rfl⟩,⟨rfl,c,by simpa [S] using O,rfl⟩,p,λb g=>(x b g).1⟩⟩
 done:=by
  intro X G J L q i j s σ H E I x f M;subst G J L;obtain⟨y,B,U,C,D,F⟩:=x a (by simp);have T:(S l).cps[i]?=none:=by
   have:l.length<=i:=M;simp[S,this]
  rcases m with z | z
  ·subst z;exact wpAny_pyNext_ascii_end (I.ok.hd q) f T λn Q=>⟨rfl,I.turned (t':=s.toks) (λb o g e=>Q b o g e) y B C D F⟩
  ·subst z;exact wpAny_pyNext_wide_end (I.ok.hd q) f T λn Q=>⟨rfl,I.turned (t':=s.toks) (λb o g e=>Q b o g e) y B C D F⟩
 self:=λ_ _ _ _ _ f h=>by
  rcases m with z | z
  ·subst z;exact wpAny_pyIter_striter_ascii f h
  ·subst z;exact wpAny_pyIter_striter_wide f h
theorem jjw:OpR X (compareOp .In) (λx y H Q=>∃ c l,x=.str (S [c])/\y=.str (S l)/\Q (.bl (decide (c∈l))) H):=by
 intro a s σ H x y v u Q I b d h;obtain⟨c,l,rfl,rfl,q⟩:=h;refine jbu a s σ H _ _ v u Q I b d ⟨_,_,rfl,rfl,?_⟩;rw[<- jf5,StrLaws.found_one,qF];exact q
theorem jao:OpR X (compareOp .NotIn) (λx y H Q=>∃ c l,x=.str (S [c])/\y=.str (S l)/\Q (.bl (!decide (c∈l))) H):=by
 intro a s σ H x y v u Q I b d h;obtain⟨c,l,rfl,rfl,q⟩:=h;refine K4 a s σ H _ _ v u Q I b d ⟨_,_,rfl,rfl,?_⟩;rw[<- jf5,StrLaws.found_one,qF];exact q
theorem jgp:OpR X (binaryOp .Add) (λx y H Q=>∃ a b,x=.str (S a)/\y=.str (S b)/\a.length+b.length<=sizeLine/\Q (.str (S (a++b))) H):=by
 intro c s σ H x y v u Q I d e h;obtain⟨a,b,rfl,rfl,f,q⟩:=h;refine uo c s σ H _ _ v u Q I d e ⟨_,_,rfl,rfl,by rw[JR,JR];exact f,?_⟩;rw[jgb];exact q
theorem jfw:OpR X (binaryOp .Mult) (rI (λi j=>Builtin.Int.intBits i<=2 ^ 20/\Builtin.Int.intBits j<=2 ^ 20) λi j=>.int (i*j)):=opI λ_ _ _ _ _ _ _ a q=>mul_int q (IntMulOk.of_bits a.1 a.2)
theorem wT(h:i.natAbs < 2 ^ m)(a:m<=2 ^ 20):Builtin.Int.intBits i<=2 ^ 20:=N6 (PySem.intBits_le_iff.mpr h) a
def SqX(K:PySem.W.Frag)(H:Hp)(a:Addr)(xs:List V):Prop :=
 Rd H a (.lst xs) \/ ∃(its:Array Value) (n:Nat),K.lookup a=some { cls:=.type "list",data:=.seq its n }/\its.size<=sizeLine/\Vals xs its.toList
theorem SqX.sq{K:PySem.W.Frag}{H:Hp}{a:Addr}{xs:List V}(h:SqX K H a xs):SqL K H a xs:=by
 rcases h with h | ⟨b,n,c,d,r⟩
 ·exact .inl h
 ·exact .inr ⟨_,b,n,c,rfl,rfl,rfl,d,r⟩
theorem SqX.of{K:PySem.W.Frag}{H:Hp}{a:Addr}{xs:List V}(h:H a=some (.lst xs)):SqX K H a xs:=.inl (.inl h)
theorem Inv.listX(I:Inv X pins σ H s)(h:SqX X.K H a xs):∃(its:List Value) (n:Nat),Vals xs its/\s.heap.get? a=some { cls:=.type "list",data:=.seq its.toArray n }/\xs.length<=sizeLine:=by
 rcases h with h | ⟨its,n,b,c,r⟩
 ·obtain⟨z,its,n,r,e⟩:=h.ok I.hok;exact⟨its,n,r,e,z⟩
 ·refine⟨its.toList,n,r,by simpa using I.kIn a _ b,?_⟩;have e:=r.length;simp only[Array.length_toList] at e
  lia
def jhU(K:PySem.W.Frag):R2:=λx y H Q=>∃ l b xs zs,x=.ref l/\y=.ref b/\SqX K H l xs/\SqX K H b zs/\xs.length+zs.length<=sizeLine/\∀ p,H p=none->Q (.ref p) (upd H p (.lst (xs++zs)))
theorem jfr:OpR X (binaryOp .Add) (jhU X.K):=by
 intro d s σ H x y v u Q I g i h;obtain⟨l,b,p,t,rfl,rfl,j,k,w,q⟩:=h;cases g;cases i;obtain⟨c,n,r,e,_⟩:=I.listX j;obtain⟨a,z,f,e2,_⟩:=I.listX k;have A:=r.length;have m:=f.length;refine PySem.P.add_list e e2 ?_ (by rw[N2,N2];lia);have o:c.toArray++a.toArray=(c++a).toArray:=by simp
 rw[o];exact⟨.ref _,_,I.lnew (t':=s.toks) (r.append f) (by rw[N3];lia),rfl,q _ I.fresh⟩
theorem zF{ns:List Int}(h:PySem.W.WData.layableAll [PySem.W.WData.list (ns.map PySem.W.WData.int)]=true):∀ x∈ns,Builtin.Int.intBits x<=2 ^ 20:=by
 intro x c;have f:(PySem.W.WData.list (ns.map PySem.W.WData.int)).layable=true:=(PySem.W.layW_cons h).1;have e:PySem.W.ofPy (.list (ns.map .int))=PySem.W.WData.list (ns.map PySem.W.WData.int):=by
  have g:∀ a:List Int,PySem.W.ofPys (a.map PyData.int)=a.map PySem.W.WData.int:=by
   intro a
   induction a with
   | nil=>rfl
   | cons m a i=>simp[PySem.W.ofPys,PySem.W.ofPy,i]
  simp[PySem.W.ofPy,g]
 have b:=PySem.W.lay0_ofPy (s:=.list .int) (d:=.list (ns.map .int)) rfl (by simp[Shape.has]) (by rw[e];exact f);have j:PyData.layable0 (.list (ns.map .int))=true:=by
  simp[PyData.layableAll0] at b;exact b
 exact PyData.bits_item_of_ints j c
theorem walk_ofB{l:PySem.W.OpenLaw}{n k:Nat}{j:List Str}{R:(Str->Option Value)->Heap->Prop}{M:World->Heap->Prop}{d:DefRec}{K:Params->PySem.W.Frag}{CX:World->CXT}{sp:World->Sp} 
  (S:l.most=some n) (A:n<=sizeLine) (B:d.params.defaults=[]) (U:Room k callerA)
  (X:∀(w:World) (h:Heap),M w h->(K w.params).In h)
  (F:∀(w:World) (mg:Str->Option Value) (fa:Addr) (h:Heap),(K w.params).In h->h.Ns mainGlobals mg->mg d.name=some (.ref fa) ->
   ∃ fd:FuncData,(∀(s:Shared) (u:Value),BindsTo s fd ⟨[u],[]⟩ [(x,u)]) /\
    ∀ base:Heap,(K w.params).In base->base.Ns mainGlobals mg->FnOk l.prog w (K w.params) mg base (CX w) k fa fd [x] (sp w))
  (C:∀(w:World) (H:Hp) (a:Addr) (ns:List Int),ns.length<=n->(∀ x∈ns,Builtin.Int.intBits x<=2 ^ 20)->jkF H->SqX (K w.params) H a (ns.map V.int)->sp w [.ref a] H (λv _=>v=.bl true) λ_ _ _=>False)
  (D:∀(w:World) (H:Hp) (s:Shared) (e:Value) (s':Shared),CX w [] H s (λ_ _ _=>False) e s'->False) :
  PySem.W.WalkO q j R M l.row.toRowW d [] (λf vs=>PySem.call f vs):=by
 intro w s₀ Z mg mb G Y fa o pm cd doc dV kV ho hd hcd N E hg O P as y z hrd I hlo;obtain rfl:dV=.none:=PySem.W.Dflts.none N B;obtain rfl:kV=.none:=PySem.W.Dflts.noKw N;obtain⟨a,vs,ns,rfl,rfl,c,p,i⟩:=Att.script_of S y I;have t:=zF z;have J:=X w _ Y;obtain⟨fd,hb,hF⟩:=F w mg fa _ J G.T.g E;refine PySem.W.enter_call (codeAny_mono (jdr J G.T.g G.T.b G.T.builtins G.T.nolimit hg c p (N6 i A) U hF hb (λH hO hS=>C w H a ns i t hO ?_) λH e s'=>D w H Z e s') λr s' hq=>?_)
 ·rcases hS with h | ⟨o,its,m,Q,_,_,L,hz,r⟩
  ·exact .inl h
  ·have e:=J a o Q;rw[c] at e;cases e;cases L;exact .inr ⟨_,_,Q,hz,r⟩
 ·obtain⟨rfl,h2,h3,h4⟩:=hq;exact⟨.inl ⟨.bool true,.bool true,[],rfl,λ_=>rfl,.bool true,Att.post_true l _,λ_=>⟨List.Pairwise.nil,λ_ hm=>(nomatch hm)⟩⟩,h2,h3,h4⟩
noncomputable def Ke(sc:Scope)(N:List Str)(scope:Scope)(N':List Str)(ix:List (Option Nat)):Bool :=
 decide (scope.kind=.function)&&decide (sc.kind=.function)&&scope.names.all (λy=>!decide (y.2=.cell)||decide (scope.names.lookup y.1=some .cell))&&scope.names.all (λy=>!decide (y.2=.local)||decide (scope.names.lookup y.1=some .local)) &&
 scope.names.all (λy=>!decide (y.2=.free)||(decide (scope.names.lookup y.1=some .free)&&(decide (sc.names.lookup y.1=some .cell)||decide (sc.names.lookup y.1=some .free))))&&decide N'.Nodup&&decide (ix.length=N'.length) &&
 (List.range ix.length).all (λi=>match ix[i]? with | some (some j)=>(match N'[i]? with | some x=>decide (N[j]?=some x)&&decide ((x,NameKind.free)∈scope.names) | none=>true) | _=>true)
theorem jgi{X:Cx}{scope:Scope}{N':List Str}{ix:List (Option Nat)}(sc:Scope)(N:List Str)(h1:X.env.scope=sc)(h2:X.N=N)(h:Ke sc N scope N' ix=true):BlockOk X scope N' ix:=by
 subst h1;subst h2;unfold Ke at h;simp only[L9,decide_eq_true_eq,List.all_eq_true,Bool.or_eq_true,Bool.not_eq_true',decide_eq_false_iff_not] at h;obtain⟨⟨⟨⟨⟨⟨⟨c,d⟩,f⟩,g⟩,b⟩,k⟩,l⟩,m⟩:=h;refine⟨c,λy a e=>?_,λy a e=>?_,λy a e=>?_,λy a e=>?_,k,l,λi j x h1 h2=>?_,d⟩
 ·exact(g y a).elim (λz=>absurd e z) id
 ·exact(f y a).elim (λz=>absurd e z) id
 ·exact(b y a).elim (λz=>absurd e z) λz=>z.1
 ·exact(b y a).elim (λz=>absurd e z) λz=>z.2
 ·have hi:i < ix.length:=(L8.mp h1).1;have z:=m i (List.mem_range.mpr hi);rw[h1] at z;dsimp only at z;rw[h2] at z;dsimp only at z;simp only[L9,decide_eq_true_eq] at z;exact z
structure FnFact(K:PySem.W.Frag)(mg:Str->Option Value)(x qual:Str)(st:Stmt)(f:Addr)(fd:FuncData)(ps:List Str):Prop where
 fn:Fun K x qual st f fd
 mgf:mg x=some (.ref f)
 bd:Binds K fd ps []
section
variable {X:Cx}{k:Nat}{f:Addr}{fd:FuncData}{ps:List Str}{sp:Sp}{x qual:Str}{st:Stmt}{p pos:Pos}{e:Expr}{es:List Expr}{t:TA}
theorem jjK(F:FnFact X.K X.mg x qual st f fd ps)(G:FnOk X.prog X.w X.K X.mg X.base CX0 k f fd ps sp)(c:Room k X.A)(d:PA X (e::es) t)(g:Gl X x:=by rfl)(a:(x==("__debug__" : Str))=false:=by decide)
  (h:starEach (e::es) X.env=(false,eval e X.env)::starEach es X.env:=by rfl) (b:(backTo pos (starEach es X.env)).any (·.1)=false:=by rfl):PE X (.Call (.Name x p) (e::es) [] pos) (wA sp [] E0 t) :=
 jgO G c g F.mgf F.fn.kp F.bd .nil jdo d a h b
end
theorem jfO:OpR X (binaryOp .Mult) (λx y H Q=>∃(a:List Nat) (n:Int),x=.str (S a)/\y=.int n/\a.length<=1000/\0<=n/\n<=1000/\Q (.str (S (List.replicate n.toNat a).flatten)) H):=by
 intro f s σ H x y v u Q I g i h;obtain⟨a,n,rfl,rfl,j,B,l,q⟩:=h;obtain⟨k,rfl⟩:∃ k:Nat,n=(k:Int):=⟨n.toNat,by lia⟩;have m:k<=1000:=by lia
 rw[N7] at q;obtain⟨t,rfl⟩:=g;obtain⟨o,rfl⟩:=i;have p:a.length*k<=1000*1000:=Nat.mul_le_mul j m;have hok:MulOk (S a) (k:Int):=by
  refine⟨by simp;lia,λd c=>?_,λd c=>?_⟩
  ·rw[JR];have r:(1:Int)<=k:=by lia
   have C:(1000:Int)<=(2 ^ 63 - 1) / (k:Int):=by
    rw[Int.le_ediv_iff_mul_le (by lia)];have:(1000:Int)*k<=1000*1000:=by lia
    lia
   lia
  ·rw[JR,N7];unfold Builtin.Str.tooLong;have r:a.length*k<=sizeLine:=N6 p (by decide);exact X5 (by lia)
 have e:Txt.mul (S a) (k:Int)=S (List.replicate k a).flatten:=by
  have w:∀(n:Nat) (b:Array Nat),((List.replicate n a.toArray).foldl (·++·) b).toList=b.toList++(List.replicate n a).flatten:=by
   intro n
   induction n with
   | zero=>intro b;simp
   | succ n A=>intro b;rw[List.replicate_succ,U9,A];simp[List.replicate_succ]
  unfold Txt.mul;apply PyProof.Rows.ext_toList;rw[qF];by_cases d:(k:Int) < 1
  ·have:k=0:=by lia
   subst this;simp[Str.empty]
  ·rw[if_neg d];by_cases c:((k:Int)==1||(S a).length==0)=true
   ·rw[if_pos c,qF];rw[JR] at c;simp at c;rcases c with z | z
    ·have:k=1:=by lia
     subst this;simp
    ·subst z;simp
   ·rw[if_neg c,N7];have z:=w k #[];simp only[X8] at z;exact z
 refine SB.mul hok λo D=>?_;rw[e];exact⟨.str _,H,I.tok _,⟨_,rfl⟩,q⟩
section
variable {X:Cx}{pins:List (Addr×Obj)}{σ:St}{H:Hp}{s:Shared}{h':Heap}
theorem Inv.turnedNew{t':Nat}{wr:List Addr}{T:Addr}{xs:List V}{its:Array Value}(I:Inv X pins σ H s)(k:∀ b o,b∉wr->s.heap.get? b=some o->h'.get? b=some o)(g:∀ b∈wr,wB X pins H b)
  (h:s.heap.objs.size<=T) (j:IsTupN h' T its) (l:Vals xs its.toList) (hz:xs.length<=sizeLine):Inv X pins σ (upd H T (.tup xs)) { s with heap:=h',toks:=t' }:=by
 have p:=I.hok.fresh h;have i:∀ b u,H b=some u->b∉wr:=λb u e z=>by rw[(g b z).1] at e;cases e
 have d:∀ b u,H b=some u->b≠T:=λb u e z=>by rw[z,p] at e;cases e
 refine I.step (g':=s.gens) (d':=s.drawn) (ch:=wr) (λb f=>?_) (λb o _ _ a e _=>k b o a e) (λb o _ _ a e _=>⟨o.slots,k b o a e⟩) (λb o _ e n=>?_)
  (λb o a e=>⟨o,k b o a e⟩) (λb t e=>by rw[jf (d b _ e)];exact e) (λb o u e=>by rw[jf (d b _ e)];exact e) (λb F e=>⟨#[],by rw[jf (d b _ e),e];simp⟩) (λm w=>?_) (λb u e=>?_) I.bare
 ·obtain⟨_,x,_,y,A,B⟩:=g b f;exact⟨y,x,A,B⟩
 ·rw[jf (λz=>absurd (N0 e) (by rw[z];exact Nat.not_lt.mpr h))];exact n
 ·obtain⟨o,C,D,E,r⟩:=w;refine⟨o,C,D,k _ o (λz=>(g _ z).2.1 rfl) E,r⟩
 ·by_cases f:b=T
  ·subst f;rw[jr] at e;cases e;exact⟨hz,its.toList,l,by simpa using j⟩
  ·rw[jf f] at e;refine(I.hok b u e).stay (λc v a q=>k c v ?_ q) (λc q=>by rw[jf (d c _ q)];exact q) λc t q=>by rw[jf (d c _ q)];exact q
   rcases a with z | z
   ·rw[z];exact i b u e
   ·exact i c _ z
theorem Inv.turnedL{t':Nat}{wr:List Addr}(I:Inv X pins σ H s)(k:∀ b o,b∉wr->s.heap.get? b=some o->h'.get? b=some o)(d:∀ b∈wr,wB X pins H b):Inv X pins σ H { s with heap:=h',toks:=t' }:=by
 have f:∀ b u,H b=some u->b∉wr:=λb u e z=>by rw[(d b z).1] at e;cases e
 refine I.step (g':=s.gens) (d':=s.drawn) (ch:=wr) (λb g=>?_) (λb o _ _ a e _=>k b o a e) (λb o _ _ a e _=>⟨o.slots,k b o a e⟩) (λb o _ e n=>n)
  (λb o a e=>⟨o,k b o a e⟩) (λb y e=>e) (λb o u e=>e) (λb A e=>⟨#[],by rw[e];simp⟩) (λm h=>?_) (λb u e=>?_) I.bare
 ·obtain⟨_,i,_,j,l,p⟩:=d b g;exact⟨j,i,l,p⟩
 ·obtain⟨o,t,w,x,r⟩:=h;refine⟨o,t,w,k _ o (λz=>(d _ z).2.1 rfl) x,r⟩
 ·refine(I.hok b u e).stay (λc v a q=>k c v ?_ q) (λ_ q=>q) λ_ _ q=>q;rcases a with z | z
  ·rw[z];exact f b u e
  ·exact f c _ z
end
def Ite(K:PySem.W.Frag)(l:Addr):It :=
 ⟨λi H=>∃ xs x,SqL K H l xs/\xs[i]?=some x,λi H x H'=>∃ p v,(∀ xs,SqL K H l xs->xs[i]?=some v)/\x=.ref p/\H p=none/\H'=upd H p (.tup [.int i,v]),λi H=>∃ xs,SqL K H l xs/\xs.length<=i⟩
theorem jaj{P:Program}{w:World}{K:PySem.W.Frag}{t:List Expr}{n:Nat}{pos:Pos}(e a l:Addr)(y:e≠a)(hle:l≠e)(hli:l≠a) :
  Turn P w K (.Tuple t n pos) (Ite K l) [e,a] e (λi h=>(∃ old,IsEnum h e a i old)/\h.IsListIter a l i) where
 mem:=by simp
 obj:=λi h f b g=>by
  obtain⟨⟨old,j⟩,o,L,M,hd⟩:=f;rcases(by simpa using g:b=e \/ b=a) with z | z
  ·subst z;exact⟨_,j,λv q=>by cases q⟩
  ·subst z;exact⟨o,L,λv q=>by rw[hd] at q;cases q⟩
 keep:=λi h h' f k=>by
  obtain⟨⟨old,j⟩,c⟩:=f;exact⟨⟨old,k e (by simp) _ j⟩,c.at λo q=>k a (by simp) o q⟩
 item:=by
  intro X N O Q M i A s σ H E I F f R;subst N O Q;obtain⟨xs,x,G,S⟩:=R;obtain⟨B,U,p,hz⟩:=I.list G;obtain⟨u,hu,ru⟩:=U.get S;obtain⟨⟨old,j⟩,c⟩:=f;refine wpAny_pyNext_enum_item j c p.isList (x:=u) (by simpa using hu) y λV L C hT hsz hk=>?_;refine⟨_,rfl,wpAny_letOwnedTupleGo_enum (s:={ s with heap:=V,toks:=s.toks+1 }) L λJ Y d=>?_⟩;replace d:Heap.SameBut e V J:=d;have m:e < s.heap.objs.size:=N0 j;have D:J.get? s.heap.objs.size=_:=(d.2 _ (Nat.ne_of_gt m)).trans hT;have kk:∀ b o,b∉[e,a]->s.heap.get? b=some o->J.get? b=some o:=λb o g q=>by
   have r:b≠e/\b≠a:=by simpa using g
   exact(d.2 b r.1).trans (hk b o r.1 r.2 q)
  have I1:=I.turnedNew (h':=J) (t':=s.toks+1) (wr:=[e,a]) (T:=s.heap.objs.size) (xs:=[.int i,x]) (its:=#[.int i s.toks,u]) kk F (M8 _) ⟨⟨_,D,rfl,_,rfl⟩,_,D,rfl⟩ (.cons ⟨_,rfl⟩ (.cons ru .nil)) (by show 2<=sizeLine;decide);refine⟨.ref s.heap.objs.size,_,I1,rfl,⟨_,x,(λys hy=>by rw[I.list_inj hy G];exact S),rfl,I.hok.fresh (M8 _),rfl⟩,⟨⟨_,by simpa using Y⟩,C.at λo q=>(d.2 a y.symm).trans q⟩,λb g=>?_⟩;rw[jf]
  ·exact(F b g).1
  ·intro z;have:b < s.heap.objs.size:=by
    obtain⟨oi,Z,_⟩:=id c;rcases(by simpa using g:b=e \/ b=a) with q | q
    ·rw[q];exact m
    ·rw[q];exact N0 Z
   exact absurd this (by rw[z];exact Nat.lt_irrefl _)
 done:=by
  intro X N O Q M i A s σ H E I F f R;subst N O Q;obtain⟨xs,G,S⟩:=R;obtain⟨B,U,p,hz⟩:=I.list G;obtain⟨⟨old,j⟩,c⟩:=f;have hl:=U.length;exact wpAny_pyNext_enum_end (I.ok.hd M) j c p.isList (by simp;lia) λV eb=>⟨rfl,I.turnedL (t':=s.toks) (wr:=[e,a]) (λb o g q=>eb b o (by simp at g;exact g.2) q) F⟩
 self:=λ_ _ _ _ _ f h=>wpAny_pyIter_enum f.1.choose_spec h
def jf6(K:PySem.W.Frag)(tl:TA):TI:=λσ H R=>tl σ H λvs H1=>∃ a xs,vs=[.ref a]/\SqL K H1 a xs/\R (Ite K a) H1
section
variable {X:Cx}
theorem jex{d:List Expr}{n:Nat}{tpos p pos:Pos}{a:Expr}{ta:TA}(t:Gl X "enumerate")(v:X.mg "enumerate" = none)(w:PA X [a] ta)(x:starEach [a] X.env=[(false,eval a X.env)]:=by rfl) :
  PI X (.Tuple d n tpos) (.Call (.Name "enumerate" p) [a] [] pos) (jf6 X.K ta):=by
 intro c s σ H R I h;refine Call_ (JY I t v (show bootBuiltins "enumerate" = some (.type "enumerate") by decide +kernel) (PyProof.Rows.callWith_type1 (thn (w pos c s σ H _ I h) λL s1 ⟨M,k,i,y,A⟩=>?_) x rfl));obtain⟨l,N,rfl,B,q⟩:=A;obtain⟨u,rfl,C⟩:=y.one;cases C;obtain⟨D,O,pl,P⟩:=i.list B;have f:l < s1.heap.objs.size:=by
  obtain⟨o,_,e,_⟩:=pl;exact N0 e
 refine call_enumerate_list pl.isList λm r j E F=>?_;have G:Inv X c σ k { s1 with heap:=m }:=i.kept (t':=s1.toks) F;refine PySem.wpAny_pyIter_enum (s:={ s1 with heap:=m }) r ?_;refine⟨s1.heap.objs.size+1,[s1.heap.objs.size+1,s1.heap.objs.size],_,_,k,rfl,G,jaj _ _ l (Nat.succ_ne_self _) (N5 (Nat.lt_succ_of_lt f)) (N5 f),⟨⟨_,r⟩,j⟩,λb J=>?_,q⟩;have g:s1.heap.objs.size<=b:=by
  rcases(by simpa using J:b=s1.heap.objs.size+1 \/ b=s1.heap.objs.size) with z | z
  ·rw[z];exact Nat.le_succ _
  ·rw[z];exact M8 _
 exact i.fpOk g (i.hok.fresh g)
end
section
variable {X:Cx}
theorem jaZ(f:X.calm=true):JM X (.builtin "sum") (λxs H Q=>∃(p:Addr) (ns:List Int),xs=[.ref p]/\SqL X.K H p (ns.map V.int)/\Q (.int ns.sum) H):=by
 intro d s σ H xs m Q I r h;obtain⟨p,ns,rfl,g,q⟩:=h;obtain⟨u,rfl,i⟩:=r.one;cases i;obtain⟨a,j,pl,n⟩:=I.list g;have hi:IntsAre a ns:=uk j;obtain⟨b,e⟩:=hi.allInts.items;have c:s.heap.IsList p (intItems b):=e▸pl.isList;refine sum_intListG (I.ok.hd f) c λo t v k=>?_;have l:ns=b.toList.map (·.1):=by
  rw[<- nums_intItems,<- e];exact(show numsOf a.toArray.toList=ns from hi.numsOf).symm
 have e2:preSum (numAt b) b.size=ns.sum:=by
  rw[preSum_eq,List.take_of_length_le (by simp),l]
 rw[e2];exact⟨.int ns.sum,H,I.kept k,⟨_,rfl⟩,q⟩
inductive TyQ (K:PySem.W.Frag) (H:Hp):V->String->Prop where
 | non:TyQ K H .non "NoneType"
 | bl (x:Bool):TyQ K H (.bl x) "bool"
 | int (i:Int):TyQ K H (.int i) "int"
 | str (x:Str):TyQ K H (.str x) "str"
 | lst {a:Addr}{xs:List V}(e:SqL K H a xs):TyQ K H (.ref a) "list"
 | tup {a:Addr}{xs:List V}(e:SqT K H a xs):TyQ K H (.ref a) "tuple"
 | dK {a:Addr}{kvs:List (Key×V)}(e:H a=some (.dK kvs)):TyQ K H (.ref a) "dict"
theorem Qr:JM X (.builtin "isinstance") (λxs H Q=>∃ x T t b,xs=[x,.ty T]/\TyQ X.K H x t/\PySem.W.kitOne X.K (.type t) (.type T)=some b/\Q (.bl b) H):=by
 intro f s σ H xs C Q I r h;obtain⟨x,T,t,b,rfl,ty,e,q⟩:=h;obtain⟨u,v,rfl,d,B⟩:=r.two;cases B;have c:∀ l,EP X f σ Q (.bool b) { s with toks:=l }:=λl=>⟨.bl b,H,I.tok l,rfl,q⟩;cases ty with
 | non=>cases(show u=Value.none from d);exact PySem.W.kia_one PySem.W.kitx_none I.kIn True.intro e (λz=>nomatch z) c
 | bl y=>cases(show u=Value.bool y from d);exact PySem.W.kia_one PySem.W.kitx_bool I.kIn True.intro e (λz=>nomatch z) c
 | int i=>obtain⟨t,q⟩:=(show ∃ t,u=Value.int i t from d);cases q;exact PySem.W.kia_one PySem.W.kitx_int I.kIn True.intro e (λz=>nomatch z) c
 | str y=>obtain⟨t,q⟩:=(show ∃ t,u=Value.str y t from d);cases q;exact PySem.W.kia_one PySem.W.kitx_str I.kIn True.intro e (λz=>nomatch z) c
 | @lst a xs g =>
  cases(show u=Value.ref a from d);obtain⟨m,_,⟨o,n,j,k,_,_⟩,_⟩:=I.list g;exact PySem.W.kia_one PySem.W.kitx_list I.kIn ⟨o,j,k⟩ e (λz=>nomatch z) c
 | @tup a xs g =>
  cases(show u=Value.ref a from d);obtain⟨m,_,⟨o,j,k,_⟩,_⟩:=I.tuple g;exact PySem.W.kia_one PySem.W.kitx_tuple I.kIn ⟨o,j,k⟩ e (λz=>nomatch z) c
 | @dK a A g =>
  cases(show u=Value.ref a from d);obtain⟨_,_,D,_,p⟩:=(show ObjOk X.prog X.w H s.heap a (.dK A) from I.hok a _ g);obtain⟨o,E,F,j,k,_⟩:=p;exact PySem.W.kia_one PySem.W.kitx_dict I.kIn ⟨o,j,k.1⟩ e (λz=>nomatch z) c
end
section
variable {κ:Type} [DecidableEq κ]
noncomputable def K3(kvs:List (κ×V))(k:κ):Option V:=(kvs.find? λkv=>decide (kv.1=k)).map (·.2)
noncomputable def vV(kvs:List (κ×V))(k:κ)(v:V):List (κ×V) :=
 if(kvs.any λkv=>decide (kv.1=k))=true then kvs.map (λkv=>if kv.1=k then(kv.1,v) else kv) else kvs++[(k,v)]
theorem Jq{p:κ×V}{r:List (κ×V)}(e:p.1=k):K3 (p::r) k=some p.2:=by simp[K3,List.find?_cons,e]
theorem Jg{p:κ×V}{r:List (κ×V)}(e:¬ p.1=k):K3 (p::r) k=K3 r k:=by simp[K3,List.find?_cons,e]
theorem xq(k:κ):∀ kvs:List (κ×V),(kvs.any λkv=>decide (kv.1=k))=(K3 kvs k).isSome
 | []=>rfl
 | p::r=>by
  rw[List.any_cons];by_cases e:p.1=k
  ·simp only[Jq e,X4 e,Bool.true_or,Option.isSome_some]
  ·rw[Jg e,X5 e,Bool.false_or];exact xq k r
theorem qR(kvs:List (κ×V))(k:κ)(v:V):(vV kvs k v).length<=kvs.length+1:=by
 unfold vV;split
 ·rw[L0];lia
 ·rw[N3,M0,List.length_nil];lia
theorem RelO.isSome_eq(r:RelO o u):o.isSome=u.isSome:=by
 cases o with
 | none=>cases u with
  | none=>rfl
  | some _=>exact(show False from r).elim
 | some _=>cases u with
  | none=>exact(show False from r).elim
  | some _=>rfl
theorem KV.val(r:KV kvs vs)(k:κ):RelO (K3 kvs k) (valueAt vs k):=by
 unfold KV at r
 induction r with
 | nil=>exact True.intro
 | @cons p q i a h t f =>
  obtain⟨d,g⟩:=h;by_cases e:p.1=k
  ·have c:q.1=k:=d.symm.trans e;have b:valueAt (q::a) k=some q.2:=by simp[valueAt,List.find?_cons,c]
   rw[Jq e,b];exact g
  ·have c:¬ q.1=k:=λz=>e (d.trans z);have b:valueAt (q::a) k=valueAt a k:=by simp[valueAt,List.find?_cons,c]
   rw[Jg e,b];exact f
theorem KV.any(r:KV kvs vs)(k:κ):(kvs.any λkv=>decide (kv.1=k))=vs.any λkv=>decide (kv.1=k):=by
 unfold KV at r
 induction r with
 | nil=>rfl
 | cons h t a=>rw[List.any_cons,List.any_cons,a,h.1]
theorem KV.repl(r:KV kvs vs)(k:κ)  (b:RelV y u) :
  KV (kvs.map λkv=>if kv.1=k then(kv.1,y) else kv) (vs.map λkv=>if kv.1=k then(kv.1,u) else kv):=by
 unfold KV at r ⊢
 induction r with
 | nil=>exact .nil
 | @cons p q f g h t c =>
  rw[L4,L4];refine .cons ?_ c;obtain⟨a,d⟩:=h;by_cases e:p.1=k
  ·rw[if_pos e,if_pos (a.symm.trans e)];exact⟨a,b⟩
  ·rw[if_neg e,if_neg (λz=>e (a.trans z))];exact⟨a,d⟩
theorem KV.put(r:KV kvs vs)(k:κ)  (a:RelV y u):KV (vV kvs k y) (stored vs k u):=by
 unfold vV stored;rw[r.any k];by_cases e:(vs.any λb=>decide (b.1=k))=true
 ·rw[if_pos e,if_pos e];exact r.repl k a
 ·rw[if_neg e,if_neg e];exact Paired.snoc r ⟨rfl,a⟩
theorem KV.length(r:KV kvs vs):kvs.length=vs.length:=Paired.length r
end
theorem uw(r:RelV (kV k) u):(jJ P w).is k u=true:=by
 cases k with
 | inl i=>obtain⟨t,e⟩:=(show ∃ t,u=Value.int i t from r);subst e;exact zj P w i t
 | inr x=>obtain⟨t,e⟩:=(show ∃ t,u=Value.str x t from r);subst e;exact Q5 P w x t
theorem Qd:∀{ks:List Key}{us:List Value},Vals (ks.map kV) us->ItemsAre (jJ P w) ks us
 | [],_,r=>by rw[List.map_nil] at r;cases r;exact .nil
 | k::ks,_,r=>by
  rw[L4] at r;cases r with
  | cons h t=>exact .cons (uw h) (Qd t)
abbrev KT(H:Hp):List (List Key×V)->List (List Key×Addr×Value)->Prop:=Paired λp q=>p.1=q.1/\H q.2.1=some (.tup (p.1.map kV))/\RelV p.2 q.2.2
theorem KT.val(r:KT H kvs xs)(k:List Key):RelO (K3 kvs k) ((atKey xs k).map (·.2)):=by
 induction r with
 | nil=>exact True.intro
 | @cons p q i a h t f =>
  obtain⟨d,_,g⟩:=h;by_cases e:p.1=k
  ·have c:q.1=k:=d.symm.trans e;have b:atKey (q::a) k=some q.2:=by simp[atKey,List.find?_cons,c]
   rw[Jq e,b];exact g
  ·have c:¬ q.1=k:=λz=>e (d.trans z);have b:atKey (q::a) k=atKey a k:=by simp[atKey,List.find?_cons,c]
   rw[Jg e,b];exact f
theorem KT.repl(r:KT H kvs xs)(k:List Key)  (c:RelV y u) :
  KT H (kvs.map λkv=>if kv.1=k then(kv.1,y) else kv) (xs.map (putAt k u)):=by
 induction r with
 | nil=>exact .nil
 | @cons p q g i h t d =>
  rw[L4,L4];refine .cons ?_ d;obtain⟨a,b,f⟩:=h;unfold putAt;by_cases e:p.1=k
  ·rw[if_pos e,if_pos (a.symm.trans e)];exact⟨a,b,c⟩
  ·rw[if_neg e,if_neg (λz=>e (a.trans z))];exact⟨a,b,f⟩
theorem KT.put(r:KT H kvs xs)(k:List Key)  (c:H b=some (.tup (k.map kV))) (a:RelV y u) :
  KT H (vV kvs k y) (storedH xs k b u):=by
 have e:(kvs.any λd=>decide (d.1=k))=(atKey xs k).isSome:=by
  rw[xq,(r.val k).isSome_eq,Option.isSome_map]
 unfold vV storedH;rw[e];by_cases q:(atKey xs k).isSome=true
 ·rw[if_pos q,if_pos q];exact r.repl k a
 ·rw[if_neg q,if_neg q];exact Paired.snoc r ⟨rfl,c,a⟩
theorem KT.keeps(r:KT H kvs xs)(a:∀ b ys,H b=some (.tup ys)->H' b=some (.tup ys)):KT H' kvs xs :=
 Paired.mapP r λ_ _ z=>⟨z.1,a _ _ z.2.1,z.2.2⟩
theorem jih(ok:HOk P w H h)(e:Rd H a u):ObjOk P w H h a u:=e.ok ok
theorem uu(ok:HOk P w H h)(e:Rd H a (.dK kvs)):kvs.length<=sizeLine/\(a==sysModules)=false/\∃ vs,KV kvs vs/\h.DictOf (jJ P w) a vs :=
 show ObjOk P w H h a (.dK kvs) from jih ok e
theorem jij(ok:HOk P w H h)(e:H a=some (.dK kvs)):kvs.length<=sizeLine/\(a==sysModules)=false/\∃ vs,KV kvs vs/\h.DictOf (jJ P w) a vs:=uu ok (.inl e)
theorem Qz(ok:HOk P w H h)(e:H a=some (.tup (ks.map kV))):(tupleKind (jJ P w)).is h ks a:=by
 obtain⟨_,b,r,⟨o,c,d,n,f⟩,_⟩:=(show ObjOk P w H h a (.tup (ks.map kV)) from ok a _ e);exact⟨o,b.toArray,n,c,d,f,by simpa using Qd r⟩
theorem jaC(ok:HOk P w H h)(e:Rd H a (.dT kvs)):kvs.length<=sizeLine/\(a==sysModules)=false /\
  ∃ xs,KT H kvs xs/\h.DictOfH (tupleKind (jJ P w)) a xs:=by
 obtain⟨z,y,xs,r,o,d,f,g,i,j,k,n⟩:=(show ObjOk P w H h a (.dT kvs) from jih ok e);refine⟨z,y,xs,r,o,d,f,g,i,j,k,λx b=>?_,n⟩;have all:∀{l:List (List Key×V)}{m:List (List Key×Addr×Value)},KT H l m->∀ x∈m,(tupleKind (jJ P w)).is h x.1 x.2.1:=by
  intro l m q
  induction q with
  | nil=>intro x b;exact nomatch b
  | @cons p q u v c t s =>
   intro x b;rcases M4.mp b with e | b
   ·subst e;exact Qz ok (by rw[<- c.1];exact c.2.1)
   ·exact s x b
 exact all r x b
theorem jlt(ok:HOk P w H h)(e:H a=some (.dT kvs)):kvs.length<=sizeLine/\(a==sysModules)=false /\
  ∃ xs,KT H kvs xs/\h.DictOfH (tupleKind (jJ P w)) a xs:=jaC ok (.inl e)
def DGet(H:Hp)(a:Addr)(y:V)(r:Option V):Prop :=
 (∃ kvs k,Rd H a (.dK kvs)/\y=kV k/\r=K3 kvs k) \/ ∃ kvs k b,Rd H a (.dT kvs)/\y=.ref b/\H b=some (.tup (k.map kV))/\r=K3 kvs k
def DPut(H:Hp)(a:Addr)(y v:V)(H':Hp):Prop :=
 (∃ kvs k,H a=some (.dK kvs)/\y=kV k/\kvs.length < sizeLine/\H'=upd H a (.dK (vV kvs k v))) \/
 ∃ kvs k b,H a=some (.dT kvs)/\y=.ref b/\H b=some (.tup (k.map kV))/\kvs.length < sizeLine/\H'=upd H a (.dT (vV kvs k v))
theorem DGet.k{H:Hp}{a:Addr}{kvs:List (Key×V)}{k:Key}(e:H a=some (.dK kvs)):DGet H a (kV k) (K3 kvs k):=.inl ⟨kvs,k,.inl e,rfl,rfl⟩
theorem DPut.k{H:Hp}{a:Addr}{kvs:List (Key×V)}{k:Key}{v:V}(e:H a=some (.dK kvs))(b:kvs.length < sizeLine):DPut H a (kV k) v (upd H a (.dK (vV kvs k v))):=.inl ⟨kvs,k,e,rfl,b,rfl⟩
theorem Inv.big(I:Inv X pins σ H s):sysModules < s.heap.objs.size:=by
 have h:mainGlobals < s.heap.objs.size:=(I.mod.glob.keeps I.bk).lt;exact Nat.lt_trans (by decide) h
theorem Qp(n:A.units+1 < cLine)(I:Inv X pins σ H s)(g:DGet H a y (some v))(m:RelV y u)(h:∀ w' s',Inv X pins σ H s'->RelV v w'->Q w' s') :
  wpAny (model X.prog X.w) A (getItem (.ref a) u) Q E s:=by
 rcases g with⟨d,k,e,f,l⟩ | ⟨d,k,b,e,f,q,l⟩
 ·subst f;obtain⟨z,hd,r,rel,dd⟩:=uu I.hok e;obtain⟨w',i,c⟩:=RelO.some_of (v:=v) (o:=valueAt r k) (by rw[l];exact rel.val k);exact wpAny_getItem_of (uw m) dd.mapOf i (h w' _ (I.tok _) c)
 ·subst f;cases(show u=Value.ref b from m);obtain⟨z,hd,t,rel,dd⟩:=jaC I.hok e;obtain⟨w',i,c⟩:=RelO.some_of (v:=v) (o:=(atKey t k).map (·.2)) (by rw[l];exact rel.val k);obtain⟨p,x,j⟩:=Option.map_eq_some_iff.mp i;refine wpAny_getItem_heap (tupleKind_room_in1 n) (Qz I.hok q) dd x ?_;rw[j];exact h w' _ (I.tok _) c
theorem jf7(i:A.units+1 < cLine)(I:Inv X pins σ H s)(g:DGet H a y o)(f:RelV y u)(h:∀ s',Inv X pins σ H s'->Q (.bool (!o.isSome)) s') :
  wpAny (model X.prog X.w) A (compareOp .NotIn u (.ref a)) Q E s:=by
 rcases g with⟨c,k,e,d,l⟩ | ⟨c,k,b,e,d,j,l⟩
 ·subst d;obtain⟨z,hd,m,rel,dd⟩:=uu I.hok e;refine wpAny_notIn_of (uw f) hd dd.mapOf ?_;rw[<- (rel.val k).isSome_eq,<- l];exact h _ (I.tok _)
 ·subst d;cases(show u=Value.ref b from f);obtain⟨z,hd,n,rel,dd⟩:=jaC I.hok e;refine wpAny_notIn_heap (tupleKind_room_in1 i) (Qz I.hok j) hd dd ?_;have q:=(rel.val k).isSome_eq;rw[Option.isSome_map] at q;rw[<- q,<- l];exact h _ (I.tok _)
theorem zN(I:Inv X pins σ H s)(c:Mut (H a))(d:Heap.SameBut a s.heap h')(f:∃ q,h'.get? a=some q)(new:ObjOk X.prog X.w (upd H a ob) h' a ob) :
  Inv X pins σ (upd H a ob) { s with heap:=h',toks:=t' } :=
 I.write (x:=a) (e:=a) c (.inl rfl) (λb q g z=>(d.2 b g).trans z) f new
theorem uM(z:kvs.length<=sizeLine)(hd:(a==sysModules)=false)(rel:KV kvs vs)(dd:h'.DictOf (jJ P w) a vs) :
  ObjOk P w H' h' a (.dK kvs):=⟨z,hd,vs,rel,dd⟩
theorem Qn(F:A.units+1 < cLine)(I:Inv X pins σ H s)(g:DPut H a y v H')(t:RelV y u)(x:RelV v r)(h:∀ s',Inv X pins σ H' s'->Q () s') :
  wpAny (model X.prog X.w) A (setItem (.ref a) u r) Q E s:=by
 rcases g with⟨d,k,e,j,l,m⟩ | ⟨d,k,b,e,j,B,l,m⟩
 ·subst j m;obtain⟨z,hd,G,rel,dd⟩:=jij I.hok e;have n:G.length<=sizeLine:=by rw[<- rel.length];exact z
  have o:(vV d k v).length<=sizeLine:=by have:=qR d k v;lia
  refine wpAny_setItem_pairs (hsz:=n) (uw t) dd λC f p=>h _ ?_;have J:∃ q,C.get? a=some q:=let ⟨q,_,_,i,_⟩:=f;⟨q,i⟩
  exact zN I (by rw[e];exact True.intro) p J (uM o hd (rel.put k x) f)
 ·subst j m;cases(show u=Value.ref b from t);obtain⟨z,hd,K,rel,dd⟩:=jlt I.hok e;have n:K.length<=sizeLine:=by rw[<- Paired.length rel];exact z
  have o:(vV d k v).length<=sizeLine:=by have:=qR d k v;lia
  refine wpAny_setItem_heap (hsz:=n) (tupleKind_room_in1 F) (Qz I.hok B) dd λC f p=>h _ ?_;obtain⟨q,L,M,i,N,O,P,_,R⟩:=f;refine zN I (by rw[e];exact True.intro) p ⟨q,i⟩ ⟨o,hd,_,(rel.put k B x).keeps λc S D=>?_,q,L,M,i,N,O,P,R⟩;rw[jf (jk2 D e (λz=>nomatch z))];exact D
def jjO(i:Expr):Prop:=∀ ov iv,subscripted i false ov iv=operate [ov,iv] (getItem ov iv)
theorem jgX{prog:Program}{w:World}{A:Around}{E:Value->Shared->Prop}{s:Shared}{env:Env}{value slice:Expr}{pos:Pos}{T id:String}{Q:Value->Shared->Prop}
  (e:typeLookup (.type T) "__getitem__" = pure (some (.builtin id))) (f:jjO slice)
  (h:wpAny (model prog w) A (eval value env) (λo s₁=>wpAny (model prog w) A (eval slice env) (λi s₂=>s₂.TypeIs o T/\wpAny (model prog w) A (getItem o i) Q E s₂) E s₁) E s) :
  wpAny (model prog w) A (eval (.Subscript value slice pos) env) Q E s:=by
 refine Subscript_ (wpAny_mono h (λo s₁ g=>wpAny_mono g (λi s₂ b=>?_) λ_ _ x=>x) λ_ _ x=>x);obtain⟨c,b⟩:=b;unfold subscriptTail;refine L1 ?_;rw[getitemInPython_of_ne c.not_modules];refine L1 (wpAny_specialOf c e ?_);have a:wpAny (model prog w) A (subscripted slice false o i) (λr d=>wpAny (model prog w) A (letTemporaryGo value o r >>= λ_=>pure r) Q E d) E s₂:=by
  rw[f o i];exact wpAny_operating (wpAny_mono b (λr d j=>L1 (wpAny_letTemporaryGo (M6 j))) λ_ _ x=>x)
 first
  | exact M6 (L1 a)
  | exact L1 (M6 (L1 a))
  | exact L1 a
theorem Q7(I:Inv X pins σ H s)(g:DGet H a y o):s.TypeIs (.ref a) "dict":=by
 rcases g with⟨c,k,e,_,_⟩ | ⟨c,k,b,e,_,_,_⟩
 ·obtain⟨_,_,d,_,dd⟩:=uu I.hok e;exact dd.typeIs
 ·obtain⟨_,_,f,_,dd⟩:=jaC I.hok e;exact dd.typeIs
noncomputable def zG(td ty:TE):TE:=λσ H Q=>td σ H λx H1=>ty σ H1 λy H2=>∃ a v,x=.ref a/\DGet H2 a y (some v)/\Q v H2
noncomputable def V9(ty td:TE):TE:=λσ H Q=>ty σ H λy H1=>td σ H1 λx H2=>∃ a o,x=.ref a/\DGet H2 a y o/\Q (.bl (!o.isSome)) H2
noncomputable def jeD(td ty tv:TE):TS:=λD σ H=>tv σ H λv H1=>td σ H1 λx H2=>ty σ H2 λy H3=>∃ a H4,x=.ref a/\DPut H3 a y v H4/\D.nx σ H4
noncomputable def jgD(td ty tv:TE)(rd:V->V->Hp->VK->Prop):TS:=λD σ H=>td σ H λx H1=>ty σ H1 λy H2=>∃ a v,x=.ref a/\DGet H2 a y (some v) /\
 tv σ H2 λy2 H3=>rd v y2 H3 λz H4=>∃ H5,DPut H4 a y z H5/\D.nx σ H5
theorem zP(e:X.A.units+1 < cLine)(f:PE X o td)(hi:PE X i ty)(j:jjO i):PE X (.Subscript o i pos) (zG td ty):=by
 intro b s σ H Q I h;refine jgX PySem.F.slot_dict_getitem.lookup j (thn (f b s σ H _ I h) λu s1 ⟨x,k,l,m,n⟩=>thn (hi b s1 σ k _ l n) λz B p=>?_);obtain⟨y,q,d,r,a,v,ex,g,t⟩:=p;subst ex;obtain rfl:u=Value.ref a:=m;exact⟨Q7 d g,Qp e d g r λC D w c=>⟨v,q,w,c,t⟩⟩
theorem jaB(c:X.A.units+1 < cLine)(hi:PE X i ty)(d:PE X o td):PC X .NotIn i o (V9 ty td):=by
 intro b s σ H Q I h;refine thn (hi b s σ H _ I h) λv s1 ⟨y,e,f,j,k⟩=>thn (d b s1 σ e _ f k) λu w l=>?_;obtain⟨x,m,n,p,a,q,ex,g,r⟩:=l;subst ex;obtain rfl:u=Value.ref a:=p;exact jf7 c n g j λz t=>⟨.bl (!q.isSome),m,t,rfl,r⟩
theorem jfF(c:X.A.units+1 < cLine)(d:PE X o td)(hi:PE X i ty)(e:PE X value tv)(f:swapsWith value (some (.Subscript o i pos')) pos.line X.env=pure false) :
  PS X (.Assign [.Subscript o i pos'] value pos) (jeD td ty tv):=by
 intro b s σ H D I h;refine wpAny_Assign_Subscript (thn (e b s σ H _ I h) λr s1 ⟨v,j,k,l,m⟩=>thn (d b s1 σ j _ k m) λu n ⟨x,p,q,t,w⟩=>thn (hi b n σ p _ q w) λJ K z=>?_) f;obtain⟨y,L,B,C,a,E,ex,g,F⟩:=z;subst ex;obtain rfl:u=Value.ref a:=t;exact Qn c B g C l λM G=>⟨σ,E,G,F⟩
theorem jgv(j:X.A.units+1 < cLine)(l:PE X o td)(hi:PE X i ty)(m:PE X value tv)(c:jlg X op rd)
  (n:∀ ov iv new,augStore i ov iv new=(do holding [new,ov,iv] (setItem ov iv new);release [new,ov,iv] [];pure .next)):PS X (.AugAssign (.Subscript o i tpos) op value pos) (jgD td ty tv rd):=by
 intro b s σ H D I h;refine wpAny_AugAssign_SubscriptAny (thn (l b s σ H _ I h) λu s1 ⟨x,p,q,r,t⟩=>thn (hi b s1 σ p _ q t) λiv U d=>?_) n;obtain⟨y,w,B,k,a,v,ex,g,C⟩:=d;subst ex;obtain rfl:u=Value.ref a:=r;refine Qp j B g k λE F G e=>thn (m b F σ w _ G C) λJ K ⟨y2,L,M,f,N⟩=>thn (c b K σ L v y2 E J _ M e f N) λV W d=>?_;obtain⟨z,Y,O,P,Q,R,S⟩:=d;exact Qn j O R k P λZ T=>⟨σ,Q,T,S⟩
theorem wo(h:Heap)(a:sysModules < h.objs.size):ObjOk P w H (h.push { cls:=.type "dict",data:=.dict #[] }) h.objs.size (.dK []) :=
 ⟨U4 _,U1.mpr (Ne.symm (N5 a)),[],.nil,Heap.DictOf.new h⟩
def jbh:TE:=λ_ H Q=>∀ p,H p=none->Q (.ref p) (upd H p (.dK []))
theorem jcy:PE X (.Dict [] [] pos) jbh:=λb s σ H Q I h =>
 wpAny_Dict_empty ⟨.ref s.heap.objs.size,_,I.laid (a:=s.heap.objs.size) (o:=.dK []) (t':=s.toks) (λ_ _ q=>L7 _ q) (M8 _) (wo s.heap I.big),rfl,h _ (I.hok.fresh (M8 _))⟩
def QF:List (TE×TE)->St->Hp->(List (V×V)->Hp->Prop)->Prop
 | [],_,H,Q=>Q [] H
 | (tk,tv)::r,σ,H,Q=>tk σ H λx H1=>tv σ H1 λy H2=>QF r σ H2 λps H3=>Q ((x,y)::ps) H3
abbrev VV:List (V×V)->List (Value×Value)->Prop:=Paired λp q=>RelV p.1 q.1/\RelV p.2 q.2
def PPs(X:Cx)(pos:Pos)(keys:List (Option Expr))(values:List Expr)(trs:List (TE×TE)):Prop :=
 ∀(pins:List (Addr×Obj)) (s:Shared) (σ:St) (H:Hp) (Q:List (V×V)->Hp->Prop),Inv X pins σ H s->QF trs σ H Q ->
  wpAny (model X.prog X.w) X.A (evalPairs (pairTrees keys values X.env pos)) (λvs s'=>∃ ps H',Inv X pins σ H' s'/\VV ps vs/\Q ps H') X.xe s
theorem pps_nil:PPs X pos [] [] []:=λa s σ H Q I h=>pairTrees_nil_walk ⟨[],H,I,.nil,h⟩
theorem pps_cons(b:PE X k tk)(c:PE X v tv)(d:PPs X pos ks vs trs) :
  PPs X pos (some k::ks) (v::vs) ((tk,tv)::trs):=λa s σ H Q I h =>
 pairTrees_cons_walk (thn (b a s σ H _ I h) λu s1 ⟨x,e,f,g,i⟩=>thn (c a s1 σ e _ f i) λw j ⟨y,l,m,n,o⟩ =>
  thn (d a j σ l _ m o) λz A ⟨p,q,r,rel,t⟩=>⟨(x,y)::p,q,r,.cons ⟨g,n⟩ rel,t⟩)
def Yp(kvs more:List (Key×V)):List (Key×V):=more.foldl (λacc kv=>vV acc kv.1 kv.2) kvs
theorem KV.merge:∀{more:List (Key×V)}{rs:List (Key×Value)}{kvs:List (Key×V)}{vs:List (Key×Value)},KV more rs->KV kvs vs->KV (Yp kvs more) (merged vs rs):=by
 intro more rs kvs vs r;unfold KV at r
 induction r generalizing kvs vs with
 | nil=>intro q;exact q
 | @cons p q c d h t a =>
  intro b;have e:KV (vV kvs p.1 p.2) (stored vs q.1 q.2):=by
   have:=b.put p.1 h.2;rw[<- h.1];exact this
  exact a e
theorem Js:∀(more kvs:List (Key×V)),(Yp kvs more).length<=kvs.length+more.length
 | [],kvs=>by show kvs.length<=kvs.length+0;lia
 | p::r,kvs=>by
  have a:=Js r (vV kvs p.1 p.2);have b:=qR kvs p.1 p.2;show(Yp (vV kvs p.1 p.2) r).length<=_;rw[M0];lia
theorem VN:∀{kvs:List (Key×V)}{ws:List (Value×Value)},VV (kvs.map λkv=>(kV kv.1,kv.2)) ws->∃ rs,Carries (jJ P w) ws rs/\KV kvs rs
 | [],_,r=>by rw[List.map_nil] at r;cases r;exact⟨[],True.intro,.nil⟩
 | p::kvs,_,r=>by
  rw[L4] at r;cases r with
  | @cons a b e bs h t =>
   obtain⟨rs,c,q⟩:=VN (P:=P) (w:=w) t;obtain⟨f,d⟩:=b;exact⟨(p.1,d)::rs,⟨uw h.1,rfl,c⟩,.cons ⟨rfl,h.2⟩ q⟩
def jgB(trs:List (TE×TE)):TE:=λσ H Q=>∀ p,H p=none->QF trs σ (upd H p (.dK [])) λps H2=>H2 p=some (.dK [])/\∃ kvs:List (Key×V),ps=kvs.map (λkv=>(kV kv.1,kv.2))/\kvs.length<=15/\Q (.ref p) (upd H2 p (.dK (Yp [] kvs)))
theorem jgR(h:PPs X pos keys values trs)(b:keys.all (·.isSome)=true)(l:keys.length=values.length)(m:keys≠[])
  (i:keys.length<=15):PE X (.Dict keys values pos) (jgB trs):=by
 intro d s σ H Q I q;have n:=I.hok.fresh (M8 s.heap.objs.size);have p:=I.laid (a:=s.heap.objs.size) (o:=.dK []) (h':=s.heap.push { cls:=.type "dict",data:=.dict #[] }) (t':=s.toks) (λ_ _ q=>L7 _ q) (M8 _) (wo s.heap I.big);refine wpAny_Dict_walk (knd:=jJ X.prog X.w) b l m i (thn (h d _ σ _ _ p (q _ n)) λF G r=>?_);obtain⟨J,K,k,rel,e,f,t,L,u⟩:=r;subst t;obtain⟨v,c,x⟩:=VN (P:=X.prog) (w:=X.w) rel;obtain⟨z,hd,y,A,dd⟩:=jij k.hok e;cases A;refine⟨v,c,dd,λj g B=>⟨.ref s.heap.objs.size,_,?_,rfl,u⟩⟩;have C:(Yp [] f).length<=sizeLine:=by
  have D:=Js f [];rw[List.length_nil] at D;rw[sizeLine_eq];lia
 have E:∃ q,j.get? s.heap.objs.size=some q:=let ⟨q,_,_,hq,_⟩:=g;⟨q,hq⟩
 exact zN k (by rw[e];exact True.intro) B E (uM C hd (x.merge .nil) g)
structure M1(X:Cx)(o:Expr)(m:Str)(apos:Pos)(e:Expr)(cpos:Pos):Prop where
 base:attributeBase o m X.env (eval o X.env)=eval o X.env
 few:((backTo cpos (starEach [e] X.env)).all (λx=>!x.1)&&(backToKw cpos (keywordEach [] X.env)).all (λx=>x.1.isSome)
  && decide (([e]:List Expr).length+([]:List Keyword).length+(if([]:List Keyword).isEmpty then 0 else 1) < 30))=true
 line:(apos.endLine==cpos.line)=true
 trees:backTo cpos (starEach [e] X.env)=[(false,eval e X.env)]
structure M2(X:Cx)(o:Expr)(m:Str)(apos:Pos)(e f:Expr)(cpos:Pos):Prop where
 base:attributeBase o m X.env (eval o X.env)=eval o X.env
 few:((backTo cpos (starEach [e,f] X.env)).all (λx=>!x.1)&&(backToKw cpos (keywordEach [] X.env)).all (λx=>x.1.isSome)
  && decide (([e,f]:List Expr).length+([]:List Keyword).length+(if([]:List Keyword).isEmpty then 0 else 1) < 30))=true
 line:(apos.endLine==cpos.line)=true
 trees:backTo cpos (starEach [e,f] X.env)=[(false,eval e X.env),(false,eval f X.env)]
def IsD(H:Hp)(a:Addr):Prop:=(∃ kvs,Rd H a (.dK kvs)) \/ ∃ kvs,Rd H a (.dT kvs)
theorem jjp(I:Inv X pins σ H s)(d:IsD H a) :
  s.TypeIs (.ref a) "dict"/\(∀ b,Value.ref a=.ref b->∃ ob,s.heap.get? b=some ob/\ob.dict=none)/\(a==sysModules)=false:=by
 rcases d with⟨c,e⟩ | ⟨c,e⟩
 ·obtain⟨_,hd,h,_,dd⟩:=uu I.hok e;refine⟨dd.typeIs,λb q=>?_,hd⟩;cases q;obtain⟨ob,_,_,f,g,_⟩:=dd;exact⟨ob,f,g.2.1⟩
 ·obtain⟨_,hd,i,_,dd⟩:=jaC I.hok e;refine⟨dd.typeIs,λb q=>?_,hd⟩;cases q;obtain⟨ob,_,_,f,g,_⟩:=dd;exact⟨ob,f,g.2.1⟩
end L2
namespace PySem
open Sem (wp)
namespace F
theorem lk_list_keys:typeLookup (.type "list") "keys" = pure none:=by rw[typeLookup_type,builtinLookup_eq_fast];kernel_rfl
theorem lk_list_getattr:typeLookup (.type "list") "__getattr__" = pure none:=by rw[typeLookup_type,builtinLookup_eq_fast];kernel_rfl
theorem plain_dict_loop:plainId "dict.update.loop" = true:=by decide +kernel
theorem entry_dict_loop:entryFor table "dict.update.loop" = some Builtin.«dict.update.loop»:=entryFor_of_fast (by kernel_rfl)
end F
section
variable {prog:Program}{w:World}{A:Around}{E:Value->Shared->Prop}{h:Heap}{g:Array GenState}{d:Drawn}{t:Nat}{os:OsState}{a:Addr}{o:Obj}
theorem F.sub_attrErr:isSubtype (.type "AttributeError") (.type "AttributeError")=pure true:=by rw[isSubtype_type];kernel_rfl
theorem jcG{x nm:Value}{e:Addr}{y:Value}{Q:Unit->Shared->Prop}(a:h.get? e=some { cls:=.type "AttributeError",data:=.fields #[y,.none,.none,.none,.bool false,.none,unsetMember,unsetMember] })
  (c:∀ h',(∀ b o,b≠e->h.get? b=some o->h'.get? b=some o)->(∃ ob,h'.get? e=some ob/\ob.cls=.type "AttributeError")->Q () ⟨h',g,d,t,os⟩) :
  wpAny (model prog w) A (noteAttr (.ref e) x nm) Q E ⟨h,g,d,t,os⟩:=by
 have j:(⟨h,g,d,t,os⟩:Shared).TypeIs (.ref e) "AttributeError":=⟨_,a,rfl⟩;have k:=F.sub_attrErr;unfold noteAttr
 repeat (any_goals (first | assumption | wp_step))
 refine c _ (λb o f i=>?_) ?_
 ·rw[Heap.get?_update_ne _ _ _ _ f];exact i
 ·exact⟨_,Heap.get?_update_self _ a rfl,rfl⟩
theorem uc{α:Type}{x:Value}{nm c:Str}{Q:α->Shared->Prop}(l:c.length<=sizeLine)(n:A.handled=none)
  (p:∀ h' e t',(∀ b o,h.get? b=some o->h'.get? b=some o)->h.get? e=none->(∃ ob,h'.get? e=some ob/\ob.cls=.type "AttributeError")->E (.ref e) ⟨h',g,d,t',os⟩) :
  wpAny (model prog w) A (raiseAttrError x nm c:Sem α) Q E ⟨h,g,d,t,os⟩:=by
 unfold raiseAttrError;refine L1 (wpAny_mkStr (L1 ?_) l);unfold newExc newTuple;refine L1 (wpAny_newObj_type ?_);refine L1 (m:=firstArgMember _ _) (wpAny_of_eq (a:=Value.none) (by simp only[firstArgMember];rfl) ?_);refine wpAny_newObj_type ?_;refine L1 (wpAny_mkText (L1 ?_));refine jcG (y:=.ref h.objs.size) (E4 _ rfl) λh' q r=>?_;unfold raiseNew;refine L1 (wpAny_handled ?_);rw[n];have f:∀ i,E (.ref (h.push { cls:=.type "tuple",data:=.seq #[Value.str c t] }).objs.size) ⟨h',g,d,i,os⟩:=λi=>p h' _ _ (λb o j=>q b o (λz=>by
  have k:=N0 j;rw[z] at k;exact absurd k (Nat.not_lt.mpr (by simp))) (L7 _ (L7 _ j))) (Heap.get?_none_of_le (by simp)) r
 first
  | exact wpAny_throw (f _)
  | exact L1 (M6 (wpAny_throw (f _)))
theorem uh{its:Array Value}{n:Nat}{sl:Array (Option Value)}{tk:Tok}{Q:Fin->Shared->Prop}(c:A.handled=none)(f:h.get? a=some { cls:=.type "list",data:=.seq its n,slots:=sl })
  (i:∀ h' e t',(∀ b o,h.get? b=some o->h'.get? b=some o)->h.get? e=none->(∃ ob,h'.get? e=some ob/\ob.cls=.type "AttributeError")->E (.ref e) ⟨h',g,d,t',os⟩) :
  wpAny (model prog w) A (Builtin.«object.__getattribute__» ⟨[.ref a,.str "keys" tk],[]⟩) Q E ⟨h,g,d,t,os⟩:=by
 have j:(⟨h,g,d,t,os⟩:Shared).TypeIs (.ref a) "list":=⟨_,f,rfl⟩;have k:=F.lk_list_keys
 repeat (any_goals (first | assumption | wp_step))
 exact uc (by decide +kernel) c i
theorem jaO{its:Array Value}{n:Nat}{sl:Array (Option Value)}{tk:Tok}{R:Result->Shared->Prop}(f:A.handled=none)(c:h.get? a=some { cls:=.type "list",data:=.seq its n,slots:=sl })
  (i:∀ h' e t',(∀ b o,h.get? b=some o->h'.get? b=some o)->h.get? e=none->(∃ ob,h'.get? e=some ob/\ob.cls=.type "AttributeError")->R (.error (.ref e)) ⟨h',g,d,t',os⟩) :
  codeAny (model prog w) A (.call (.builtin "list.__getattribute__") ⟨[.ref a,.str "keys" tk],[]⟩) R ⟨h,g,d,t,os⟩:=by
 refine codeAny_call_builtin F.slot_list_getattribute.plain F.entry_list_ga (F.slot_list_getattribute.check _ _ _ _ _ _ _ _ (show(⟨h,g,d,t,os⟩:Shared).TypeIs (.ref a) "list" from⟨_,c,rfl⟩) (F.args_list_getattribute_2 _ _) ?_);exact uh (show A.in1.handled=none from f) c i
theorem jeM{its:Array Value}{n:Nat}{sl:Array (Option Value)}{tk:Tok}{Q:Value->Shared->Prop}(k:A.handled=none)(i:h.get? a=some { cls:=.type "list",data:=.seq its n,slots:=sl })
  (l:∀ h' e t',(∀ b o,h.get? b=some o->h'.get? b=some o)->h.get? e=none->(∃ ob,h'.get? e=some ob/\ob.cls=.type "AttributeError")->E (.ref e) ⟨h',g,d,t',os⟩) :
  wpAny (model prog w) A (getAttrBy (.ref a) (.str "keys" tk) false) Q E ⟨h,g,d,t,os⟩:=by
 have u:(⟨h,g,d,t,os⟩:Shared).TypeIs (.ref a) "list":=⟨_,i,rfl⟩;have v:=F.sub_attrErr;have x:=F.slot_list_getattribute.lookup;have y:=F.slot_list_getattribute.bind (.ref a);have z:=F.lk_list_getattr
 repeat (any_goals (first | assumption | wp_step))
 refine jaO k i λh' e t' m p j=>?_;have c:=j;obtain⟨ob,f,q⟩:=j;have r:(⟨h',g,d,t',os⟩:Shared).TypeIs (.ref e) "AttributeError":=⟨_,f,q⟩;have s:=l h' e t' m p c;show wpAny (model prog w) A (getattributeRaised (Value.ref a) (Value.str (Str.ofString "keys") tk) (Value.type "list") (.ref e) none false false) Q E _;unfold getattributeRaised
 repeat (any_goals (first | assumption | wp_step))
theorem Qg{its:Array Value}{n:Nat}{sl:Array (Option Value)}{Q:Option Value->Shared->Prop}(f:A.handled=none)(i:h.get? a=some { cls:=.type "list",data:=.seq its n,slots:=sl })
  (j:∀ h' t',(∀ b o,h.get? b=some o->h'.get? b=some o)->Q none ⟨h',g,d,t',os⟩):wpAny (model prog w) A (getAttr? (.ref a) "keys") Q E ⟨h,g,d,t,os⟩:=by
 unfold getAttr? getAttrBy?
 refine L1 (wpAny_mkText (L1 ?_));refine wpAny_attempt ?_;refine jeM f i λh' e t' k r l=>?_;obtain⟨ob,c,m⟩:=l;have p:(⟨h',g,d,t',os⟩:Shared).TypeIs (.ref e) "AttributeError":=⟨_,c,m⟩;have s:=F.sub_attrErr;have q:=j h' t' k
 repeat (any_goals (first | assumption | wp_step))
end
section
variable {prog:Program}{w:World}{K:Type} [DecidableEq K] {knd:KeyKind prog w K}{A:Around}{E:Value->Shared->Prop}{s:Shared}
theorem VF(c:s.heap.get? p=some o)(b:o.cls=.type "tuple")(hd:o.data=.seq #[key,x] m)(e:Q [key,x] s):wpAny (model prog w) A (Builtin.Dict.pairItems (.ref p)) Q E s:=by
 obtain⟨oc,od,a,d⟩:=o;dsimp only at b hd;subst b;subst hd;have f:s.TypeIs (.ref p) "tuple":=⟨_,c,rfl⟩;unfold Builtin.Dict.pairItems
 repeat (any_goals (first | assumption | wp_step))
def jbG(knd:KeyKind prog w K)(h:Heap)(v:Value)(kv:K×Value):Prop:=∃ p key m o,v=.ref p/\h.get? p=some o/\o.cls=.type "tuple"/\o.data=.seq #[key,kv.2] m/\knd.is kv.1 key=true
theorem uS{R:Result->Shared->Prop}(hh:A.handled=none)  (q:ax≠I) (h:D≠I) (P:D≠ax) {items:Array Value}{ps:List (K×Value)}(r:items.size=ps.length):∀(k i:Nat) (s:Shared) (kvs:List (K×Value)),
  items.size - i=k->i<=items.size->(s.heap.IsListIter I ax i/\s.heap.IsList ax items)->s.heap.DictOf knd D kvs ->
  (∀(j:Nat) (v:Value),items[j]?=some v->∃ kv,ps[j]?=some kv/\jbG knd s.heap v kv/\v≠.ref I/\v≠.ref D)->kvs.length+k<=100000 ->
  (∀ h' tk,h'.DictOf knd D ((ps.drop i).foldl (λa kv=>stored a kv.1 kv.2) kvs)->(∀ b o,b≠I->b≠D->s.heap.get? b=some o->h'.get? b=some o)->R (.ok (.ret .none)) { s with heap:=h',toks:=tk }) ->
  codeAny (model prog w) A (.builtin "dict.update.loop" ⟨[.ref D,.ref I,rawInt i,.none],[]⟩) R s:=by
 intro k
 induction k with
 | zero =>
  intro i s kvs hk hi l hd Q hz S;have T:i=items.size:=by lia
  subst T;have W:=Walks.list (prog:=prog) (w:=w) (A:=A.in1) (by exact hh) I ax q items;refine codeAny_builtin F.entry_dict_loop ?_;rw[Around.under_plainId F.plain_dict_loop _];show wpAny _ A.in1 (pyNext (.ref I) >>= _) _ _ s;refine L1 (W.done s _ _ l λh' tk c=>?_);have fin:=S h' tk (by rw[r,List.drop_length];exact hd.extBut (b:=I) (λb o d e=>c b o (by simpa using d) e) h) (λb o d _ e=>c b o (by simpa using d) e);unfold Builtin.Dict.addKeywords
  repeat (any_goals (first | assumption | wp_step))
 | succ k ih =>
  intro i s kvs hk hi l hd Q hz S;have t:i < items.size:=by lia
  have W:=Walks.list (prog:=prog) (w:=w) (A:=A.in1) (by exact hh) I ax q items;refine codeAny_builtin F.entry_dict_loop ?_;rw[Around.under_plainId F.plain_dict_loop _];show wpAny _ A.in1 (pyNext (.ref I) >>= _) _ _ s;refine L1 (W.item i s _ _ t l λv h' tk hP u c=>?_);obtain⟨kv,x,⟨p,y,m,po,rfl,U,V,X,B⟩,Y,hvD⟩:=Q i v hP;have C:h'.get? p=some po:=c p _ (by simpa using λz=>Y (by rw[z])) U;have Z:h'.DictOf knd D kvs:=hd.extBut (b:=I) (λb o d e=>c b o (by simpa using d) e) h;refine L1 (wpAny_holding ?_);refine L1 (wpAny_tryCatch (VF C V X ?_));show wpAny _ _ (holding [y,kv.2] (dictSet D y kv.2)) _ _ _;have hsz:sizeLine=16777216:=by decide
  refine wpAny_holding (wpAny_dictSet_pairs B Z (λh'' E hs=>?_) (by lia));refine M6 ⟨plainId_quiet F.plain_dict_loop _,?_⟩;have hd2:ps.drop i=kv::ps.drop (i+1):=by
   have G:i < ps.length:=by lia
   rw[List.drop_eq_getElem_cons G];have:ps[i]=kv:=by
    rw[X9 G] at x;exact X7 x
   rw[this]
  refine ih (i+1) _ (stored kvs kv.1 kv.2) (by lia) t (W.frame (i+1) h' h'' u λb d o e=>(hs.2 b ?_).trans e) E (λj v hv=>?_) ?_ λh3 tk3 hd3 hk3=>?_
  ·rcases M4.mp d with rfl | d
   ·exact λz=>h z.symm
   ·rw[M7.mp d];exact λz=>P z.symm
  ·obtain⟨kv',H,⟨p',J,m',po',rfl,L,M,N,n⟩,f,g⟩:=Q j v hv;refine⟨kv',H,⟨p',J,m',po',rfl,?_,M,N,n⟩,f,g⟩;exact(hs.2 p' λz=>g (by rw[z])).trans (c p' _ (by simpa using λz=>f (by rw[z])) L)
  ·have:=stored_length_le kvs kv.1 kv.2
   lia
  ·refine S h3 tk3 ?_ λb o d O e=>hk3 b o d O ((hs.2 b O).trans (c b o (by simpa using d) e));rw[hd2,U9];exact hd3
end
section
variable {prog:Program}{w:World}{K:Type} [DecidableEq K] {knd:KeyKind prog w K}{A:Around}{E:Value->Shared->Prop}{s:Shared}
theorem Vr{its:Array Value}{n:Nat}{sl:Array (Option Value)}{ps:List (K×Value)}{Q:Value->Shared->Prop}(N:A.handled=none)(u:s.heap.get? p=some { cls:=.type "list",data:=.seq its n,slots:=sl })(k:its.size=ps.length)
  (R:∀(j:Nat) (v:Value),its[j]?=some v->∃ kv,ps[j]?=some kv/\jbG knd s.heap v kv) (hz:ps.length<=100000)
  (h:∀ h' tk,h'.DictOf knd s.heap.objs.size (ps.foldl (λa kv=>stored a kv.1 kv.2) [])->(∀ b o,s.heap.get? b=some o->h'.get? b=some o)->Q (.ref s.heap.objs.size) { s with heap:=h',toks:=tk }) :
  wpAny (model prog w) A (call (.type "dict") [.ref p]) Q E s:=by
 refine callType_codes (Q₁:=λobj O=>obj=.ref s.heap.objs.size/\O={ s with heap:=s.heap.push { cls:=.type "dict",data:=.dict #[] } }) F.kt_called_dict (F.kt_typeCall_dict_1 _) F.entry_dict_init (kt_code_dict_new _ ⟨rfl,rfl⟩) ?_;rintro obj O ⟨rfl,rfl⟩;have c:(s.heap.push { cls:=.type "dict",data:=.dict #[] }).DictOf knd s.heap.objs.size []:=Heap.DictOf.new s.heap;refine⟨c.typeIs,F.args_dict_init_2 _ _,?_⟩;have f:(s.heap.push { cls:=.type "dict",data:=.dict #[] }).get? p=some { cls:=.type "list",data:=.seq its n,slots:=sl }:=L7 _ u;have P:s.heap.get? s.heap.objs.size=none:=Heap.get?_none_of_le (M8 _);unfold Builtin.«dict.__init__»;refine L1 ?_;unfold Builtin.Dict.selfAndRest;refine L1 (wpAny_notOrdered_dict c.typeIs ?_);show wpAny _ _ (pure (s.heap.objs.size,[Value.ref p])) _ _ _;refine M6 ?_;show wpAny _ _ (Builtin.Dict.updateFrom "dict.__init__" s.heap.objs.size (.ref p) [] .none) _ _ _;unfold Builtin.Dict.updateFrom;refine L1 (wpAny_typeOf (T:="list") ⟨_,f,rfl⟩ ?_);rw[if_pos (by decide)];refine L1 ?_;refine Qg (its:=its) (n:=n) ?_ f λl W d=>?_
 ·exact N
 ·rw[if_pos (show(Option.isNone (none:Option Value))=true from rfl)];refine L1 (wpAny_rule ?_);have g:=d p _ f;have x:l.IsList p its:=⟨_,g,rfl,n,rfl⟩;refine L1 (wpAny_pyIter_list x ?_);have y:=d s.heap.objs.size _ (E4 _ rfl);have B:p≠l.objs.size:=N5 (N0 g);have q:s.heap.objs.size≠l.objs.size:=N5 (N0 y);have C:s.heap.objs.size≠p:=λz=>by rw[<- z,P] at u;cases u
  refine M6 ⟨plainId_quiet F.plain_dict_loop _,?_⟩;refine uS (A:=A.in1) (knd:=knd) (show A.in1.handled=none from N) B q C k its.size 0 _ [] (by lia) (U4 _) ⟨⟨_,E4 _ rfl,rfl,rfl⟩,?_⟩ ?_ (λS v U=>?_) (by simp;lia) λV D G H=>?_
  ·exact⟨_,L7 _ g,rfl,n,rfl⟩
  ·exact c.extBut (b:=l.objs.size) (λb o X e=>L7 _ (d b o e)) q
  ·obtain⟨kv,I,t,J,m,po,rfl,i,L,M,r⟩:=R S v U;have e2:=d t _ (L7 _ i);refine⟨kv,I,⟨t,J,m,po,rfl,L7 _ e2,L,M,r⟩,λz=>?_,λz=>?_⟩
   ·have z:t=l.objs.size:=by injection z
    exact absurd z (N5 (N0 e2))
   ·have z:t=s.heap.objs.size:=by injection z
    rw[z,P] at i;cases i
  ·refine⟨rfl,h V D G λb o e=>?_⟩;have e2:=d b o (L7 _ e);exact H b o (N5 (N0 e2)) (N5 (N0 e)) (L7 _ e2)
end
end PySem
namespace L2
open PySem PySem.Spec PyProof.Rows
theorem xW(I:Inv X pins σ H s):∀{ys:List V}{its:List Value}{ps:List (Key×V)},Vals ys its->ys.length=ps.length ->
  (∀(j:Nat) (y:V),ys[j]?=some y->∃ kv t,ps[j]?=some kv/\y=.ref t/\SqT X.K H t [kV kv.1,kv.2]) ->
  ∃ qs:List (Key×Value),KV ps qs/\∀(j:Nat) (v:Value),its[j]?=some v->∃ kv,qs[j]?=some kv/\jbG (jJ X.prog X.w) s.heap v kv
 | [],its,ps,b,a,c=>by
  cases b;have:ps=[]:=List.length_eq_zero_iff.mp a.symm;subst this;exact⟨[],.nil,λj v e=>by simp at e⟩
 | y::ys,its,[],b,a,c=>by simp at a
 | y::ys,its,kv::ps,b,a,c=>by
  cases b with
  | cons i k =>
   rename_i u D;obtain⟨qs,r,q⟩:=xW I (ps:=ps) k (by simpa using a) λj y e=>c (j+1) y (by simpa using e);obtain⟨l,t,m,rfl,d⟩:=c 0 y rfl;cases m;cases(show u=Value.ref t from i);obtain⟨g,p,⟨o,e,x,n,hd⟩,_⟩:=I.tuple d;cases p with
   | cons z A =>
    cases A with
    | cons B C =>
     cases C;rename_i f val;refine⟨(kv.1,val)::qs,.cons ⟨rfl,B⟩ r,λj v h=>?_⟩;cases j with
     | zero =>
      cases h;exact⟨_,rfl,t,f,n,o,rfl,e,x,hd,uw z⟩
     | succ j=>exact q j v (by simpa using h)
theorem jaJ:∀{ps:List (Key×V)}{qs:List (Key×Value)}{a:List (Key×V)}{b:List (Key×Value)},KV ps qs->KV a b->KV (ps.foldl (λa kv=>vV a kv.1 kv.2) a) (qs.foldl (λa kv=>stored a kv.1 kv.2) b)
 | [],_,_,_,.nil,h=>h
 | p::ps,q::qs,a,b,.cons c d,h=>by
  rw[U9,U9];refine jaJ d ?_;have:=h.put p.1 c.2;rw[c.1] at this ⊢;exact this
theorem jfG{ps:List (Key×V)}:∀{qs:List (Key×V)},(ps.foldl (λa kv=>vV a kv.1 kv.2) qs).length<=qs.length+ps.length:=by
 induction ps with
 | nil=>intro qs;simp
 | cons p ps b =>
  intro qs;rw[U9];have c:=b (qs:=vV qs p.1 p.2);have d:(vV qs p.1 p.2).length<=qs.length+1:=by unfold vV;split<;>simp
  rw[M0]
  lia
theorem wK{X:Cx}(C:X.calm=true):JM X (.type "dict") (λxs H Q=>∃(p:Addr) (ys:List V) (ps:List (Key×V)),xs=[.ref p]/\SqL X.K H p ys/\ys.length=ps.length/\ps.length<=100000 /\
  (∀(j:Nat) (y:V),ys[j]?=some y->∃ kv t,ps[j]?=some kv/\y=.ref t/\SqT X.K H t [kV kv.1,kv.2])/\∀ D,H D=none->Q (.ref D) (upd H D (.dK (ps.foldl (λa kv=>vV a kv.1 kv.2) [])))):=by
 intro x s σ H xs R Q I r h;obtain⟨p,ys,ps,rfl,E,z,F,G,q⟩:=h;obtain⟨u,rfl,J⟩:=r.one;cases J;obtain⟨i,A,⟨o,n,e,b,c,d⟩,_⟩:=I.list E;obtain⟨oc,od,k,L⟩:=o;dsimp only at b c d;subst b c d;obtain⟨B,rel,l⟩:=xW I A z G;have f:i.toArray.size=B.length:=by rw[N2,<- A.length,z,rel.length]
 refine Vr (knd:=jJ X.prog X.w) (I.ok.hd C) e f (λj v M=>l j v (by simpa using M)) (by rw[<- rel.length];exact F) λS N hd O=>?_;have g:=jaJ rel (.nil:KV ([]:List (Key×V)) []);have m:=jfG (ps:=ps) (qs:=[]);have P:sizeLine=16777216:=by decide
 exact⟨.ref s.heap.objs.size,_,I.laid (a:=s.heap.objs.size) (o:=.dK (ps.foldl (λa kv=>vV a kv.1 kv.2) [])) (t':=N) O (M8 _) (uM (by simp at m;lia) (U1.mpr (Ne.symm (N5 I.big))) g hd),rfl,q _ (I.hok.fresh (M8 _))⟩
theorem Inv.layAll(I:Inv X pins σ H s)(k:∀ b u,s.heap.get? b=some u->h'.get? b=some u)(a:∀ b,H b≠none->H' b=H b)
  (new:∀ b o,H b=none->H' b=some o->s.heap.objs.size<=b/\ObjOk X.prog X.w H' h' b o):Inv X pins σ H' { s with heap:=h',toks:=t' }:=by
 refine I.un ⟨λb u q _ _ _=>k b u q,λb u q _ _ _=>⟨u.slots,k b u q⟩,λb u q n _=>?_,λb u q _=>⟨u,k b u q⟩,λb f q=>?_,λb o u q=>?_,λb g q=>⟨#[],?_⟩⟩ λb o e=>?_
 ·cases e:H' b with
  | none=>rfl
  | some o=>exact absurd (N0 q) (Nat.not_lt.mpr (new b o n e).1)
 ·rw[a b (by rw[q];exact λz=>nomatch z)];exact q
 ·rw[a b (by rw[q];exact λz=>nomatch z)];exact q
 ·rw[a b (by rw[q];exact λz=>nomatch z),q];simp
 ·by_cases n:H b=none
  ·exact(new b o n e).2
  ·have d:=e;rw[a b n] at d;exact(I.hok b o d).stay (λc u _ q=>k c u q) (λc q=>by rw[a c (by rw[q];exact λz=>nomatch z)];exact q) λc f q=>by rw[a c (by rw[q];exact λz=>nomatch z)];exact q
theorem jkA(h:(jJ P w).is k u=true):RelV (kV k) u:=by
 rw[ub] at h;rcases jT h with⟨i,t,rfl,rfl⟩ | ⟨x,t,rfl,rfl⟩
 ·exact⟨t,rfl⟩
 ·exact⟨t,rfl⟩
def jZ(H:Hp)(as:List Addr)(kvs:List (Key×V))(l:Addr):Hp:=λb=>if b=l then some (.lst (as.map V.ref)) else
 match (as.zip kvs).find? (λp=>p.1==b) with
 | some p=>some (.tup [kV p.2.1,p.2.2])
 | none=>H b
theorem Ka{a:List Addr}{kvs:List (Key×V)}(d:a.Nodup){j:Nat}{p:Key×V}(h1:a[j]?=some b)(h2:kvs[j]?=some p):(a.zip kvs).find? (λq=>q.1==b)=some (b,p):=by
 induction a generalizing kvs j with
 | nil=>simp at h1
 | cons c a e =>
  cases kvs with
  | nil=>simp at h2
  | cons q kvs =>
   rw[U6,List.find?_cons];cases j with
   | zero =>
    simp at h1 h2;subst h1;subst h2;simp
   | succ j =>
    simp at h1 h2;have f:c≠b:=λz=>(List.nodup_cons.mp d).1 (z▸List.mem_of_getElem? h1);have:(c==b)=false:=U1.mpr f;simp only[this];exact e (List.nodup_cons.mp d).2 h1 h2
theorem kz{a:List Addr}{kvs:List (Key×V)}(h:b∉a):(a.zip kvs).find? (λq=>q.1==b)=none:=by
 rw[List.find?_eq_none];intro q c z;have:q.1=b:=by simpa using z
 exact h (this▸(List.of_mem_zip c).1)
theorem jhS:∀{A:List (Key×V)}{B:List (Key×Value)}{j:Nat},KV A B->B[j]?=some (kk,x)->∃ y,A[j]?=some (kk,y)/\RelV y x
 | [],_,j,.nil,e=>by simp at e
 | p0::A,c::B,0,.cons a b,e=>by
  simp at e;subst e;refine⟨p0.2,?_,a.2⟩;have:p0.1=kk:=a.1;simp[<- this]
 | p0::A,c::B,j+1,.cons a b,e=>by
  obtain⟨y,d,e2⟩:=jhS (j:=j) b (by simpa using e);exact⟨y,by simpa using d,e2⟩
def ze(td:TE):TE:=λσ H Q=>td σ H λx H1=>∃ a kvs,x=.ref a/\Rd H1 a (.dK kvs)/\∀(l:Addr) (as:List Addr),H1 l=none->as.length=kvs.length->(l::as).Nodup->(∀ b∈as,H1 b=none)->Q (.ref l) (jZ H1 as kvs l)
theorem jad(hc:X.calm=true)(hg:Gl X "list")(hm:X.mg "list" = none)(hv:bootBuiltins "list" = some (.type "list"))(ho:PE X o td)
  (n:attributeBase o "items" X.env (eval o X.env)=eval o X.env:=by rfl) (r:(apos.endLine==cpos.line)=true:=by rfl)
  (he:starEach [.Call (.Attribute o "items" apos) [] [] cpos] X.env=(false,eval (.Call (.Attribute o "items" apos) [] [] cpos) X.env)::starEach [] X.env:=by rfl)
  (G:(backTo pos (starEach [] X.env)).any (·.1)=false:=by rfl)
  (J:backTo pos (starEach [.Call (.Attribute o "items" apos) [] [] cpos] X.env)=[(false,eval (.Call (.Attribute o "items" apos) [] [] cpos) X.env)]:=by rfl) :
  PE X (.Call (.Name "list" p) [.Call (.Attribute o "items" apos) [] [] cpos] [] pos) (ze td):=by
 intro C s σ H Q I h;refine wpAny_Call_Name_kw (JY I hg hm hv ?_ (by decide) (by decide));refine PyProof.Rows.callWith_type1 ?_ he G;rw[J];refine Calls.spliced_cons (wpAny_Call_method0_late n r (thn (ho C s σ H _ I h) λv s1 hh=>?_));obtain⟨x,H1,l,K,a,g,ex,S,T⟩:=hh;subst ex;obtain rfl:v=Value.ref a:=K;obtain⟨U,hd,L,M,dd⟩:=uu l.hok S;obtain⟨t1,t2,_⟩:=jjp l (.inl ⟨g,S⟩);refine⟨"dict","dict.items",PySem.F.plainAttrs_dict,PySem.F.slot_dict_items,PySem.F.type_dict_items,t1,t2,Calls.callWith_builtin rfl (PySem.evalArgs_none ?_)⟩;refine call_meetsIn PySem.F.slot_dict_items dd.typeIs PySem.F.entry_dict_items (PySem.F.args_dict_items_1 _) (meets_dict_items (jJ X.prog X.w) a hd) ⟨⟨L,dd⟩,?_⟩;refine Calls.spliced_nil ?_;obtain⟨ob,es,N,d1,d2⟩:=dd;have O:(s1.heap.push { cls:=.type "dict_items",data:=.fields #[.ref a] }).DictAt (jJ X.prog X.w) a L N:=⟨ob,es,L7 _ d1,d2⟩;refine PySem.W.kdx_call (s:={ s1 with heap:=s1.heap.push { cls:=.type "dict_items",data:=.fields #[.ref a] } }) (knd:=jJ X.prog X.w) (kvs:=L) (ep:=N) (l.ok.hd hc) ⟨_,E4 _ rfl,rfl,rfl⟩ O (by rw[<- M.length];exact U) λh' tk acc c d hk V Y D m=>?_;have i:(s1.heap.push ({ cls:=.type "dict_items",data:=.fields #[.ref a] }:Obj)).objs.size=s1.heap.objs.size+1:=Heap.size_push _ _;have P:∀ b u,s1.heap.get? b=some u->h'.get? b=some u:=λb u e=>hk b u (L7 _ e);have nd:d.Nodup:=D.rise.imp λh=>N5 h;have t:d.length=g.length:=by rw[Y,M.length]
 have k:∀ b∈d,s1.heap.objs.size<=b:=λb f=>by have q:(s1.heap.push ({ cls:=.type "dict_items",data:=.fields #[.ref a] }:Obj)).objs.size < b:=D.above b f;rw[i] at q;lia
 have E:∀ b∈d,b≠(s1.heap.push ({ cls:=.type "dict_items",data:=.fields #[.ref a] }:Obj)).objs.size:=λb f=>Nat.ne_of_gt (D.above b f);refine⟨.ref _,jZ H1 d g (s1.heap.push ({ cls:=.type "dict_items",data:=.fields #[.ref a] }:Obj)).objs.size,l.layAll P (λb f=>?_) (λb u f e=>?_),rfl,T _ d (l.hok.fresh (by rw[i];lia)) t (List.nodup_cons.mpr ⟨λz=>E _ z rfl,nd⟩) λb f=>l.hok.fresh (k b f)⟩
 ·unfold jZ;rw[if_neg (λz=>f (by rw[z];exact l.hok.fresh (by rw[i];lia))),kz λz=>f (l.hok.fresh (k b z))]
 ·unfold jZ at e;by_cases A:b=(s1.heap.push ({ cls:=.type "dict_items",data:=.fields #[.ref a] }:Obj)).objs.size
  ·rw[if_pos A] at e;cases e;subst A;refine⟨by rw[i];lia,by rw[L0,t];exact U,d.map Value.ref,c,?_,?_⟩
   ·clear V m D Y nd t k E T
    induction d with
    | nil=>exact .nil
    | cons x d ih=>exact .cons rfl ih
   ·rw[V,<- m]
  ·rw[if_neg A] at e;by_cases B:b∈d
   ·obtain⟨j,Z⟩:=List.mem_iff_getElem?.mp B;obtain⟨R,kk,x,e1,e2,e3⟩:=D.pairs j b Z;obtain⟨y,ey,K⟩:=jhS M e1;rw[Ka nd Z ey] at e;cases e;exact⟨k b B,show 2<=sizeLine by decide,[R,x],.cons (jkA e2) (.cons K .nil),⟨_,e3,rfl,0,rfl⟩,_,e3,rfl⟩
   ·rw[kz B] at e;exact absurd e (by rw[f];exact λz=>nomatch z)
structure KD(P:Program)(w:World)(K:PySem.W.Frag)(a:Addr)(kvs:List (Key×V)):Prop where
 nm:(a==sysModules)=false
 dd:∀ h:Heap,K.In h->∃ vs,KV kvs vs/\h.DictOf (jJ P w) a vs
section
variable {prog:Program}{w:World}{A:Around}{E:Value->Shared->Prop}{s:Shared}
theorem jdL{j t:Addr}{n:Nat}{a:Array Value}{y:Value}{C:Value->Shared->Prop}(d:s.heap.IsTupleIter j t n)(e:s.heap.IsTuple t a)(f:a[n]?=some y)
  (go:∀ k,k.IsTupleIter j t (n+1)->Heap.SameBut j s.heap k->C y { s with heap:=k }):wpAny (model prog w) A (Builtin.SmallTypes.nextOf (.ref j)) C E s:=by
 obtain⟨i,c,g,b⟩:=id d;obtain⟨l,gt,_,mt,h⟩:=e;delta Builtin.SmallTypes.nextOf;refine L1 (wpAny_callSpecial?_slot (name:=Str.ofString "__next__") d.typeIs F.slot_tuple_iterator_next (wpAny_call_entry F.slot_tuple_iterator_next d.typeIs F.entry_tuple_iterator_next ?_ (F.args_tuple_iterator_next_1 _)));show wpAny _ _ (field (.ref j) 0 >>= _) _ _ s;refine L1 (U5 c b (x:=.ref t) rfl ?_);show wpAny (model prog w) _ (if(Value.ref t==Value.none)=true then _ else _) _ _ s;rw[if_neg (by exact M3)];show wpAny _ _ (field (.ref j) 1 >>= _) _ _ s;refine L1 (U5 c b (x:=.int n 0) rfl ?_);show wpAny (model prog w) _ (seqItems? (.ref t) >>= _) _ _ s;refine L1 (wpAny_seqItems gt h ?_);simp only[N7,f];refine L1 (wpAny_setField c b (by simp) (M6 ⟨y,rfl,M6 (go _ ⟨_,Heap.get?_update_self _ c (Obj.isFreed_of_fields (Obj.data_mapFields b _)),(Obj.cls_mapFields ..).trans g,?_⟩ (Heap.SameBut.update ..))⟩));rw[Obj.data_mapFields b];simp[rawInt]
variable {z TI TO j1 j2 l t:Addr}{m:Nat}{us vs:Array Value}{u v a b:Value}
end
theorem jj7(l:Addr)(items:Array Value)(n:Nat)(b:Addr)(a:Array Value)(e:Nat)(dd:Option Addr)(sl:Array (Option Value))(g:¬(!items.isEmpty&&Builtin.List.listTooLong (items.size+a.size))=true)(h1:items.size<=sizeLine)(h2:items.size+a.size<=sizeLine+1) :
  Meets (Builtin.«list.extend» ⟨[.ref l,.ref b],[]⟩) (λ_ R s=>s.heap.get? l=some { cls:=.type "list",dict:=none,data:=.seq items n,slots:=#[] }/\s.heap.get? b=some { cls:=.type "list",dict:=dd,data:=.seq a e,slots:=sl }/\R (.ok (.ret Value.none)) { s with heap:=s.heap.update l (Obj.mapSeq λx=>x++a) }) :=
 .of_wp λprog w A R s h=>by
  rcases s with⟨i,j,k,m,os⟩;obtain⟨c,f,q⟩:=h;have o:=AutoSeq1.idx_int;have p:=AutoSeq1.sub_tuple_tuple;have r:=AutoSeq1.sub_list_list;have t:=AutoSeq1.sub_tuple_list;have u:=AutoSeq1.sub_list_tuple;have d:(items++a).size<=sizeLine+1:=by rw[Array.size_append];exact h2
  wp_walk using(wpAny_updateSeq c rfl (hz:=h1) (_hz':=d)),wpAny_loadPart' c,wpAny_loadPart' f
  exact⟨_,rfl,q⟩
theorem jlc(l:Addr)(items:Array Value)(n:Nat)(b:Addr)(a:Array Value)(e:Nat)(dd:Option Addr)(sl:Array (Option Value))(g:¬(!items.isEmpty&&Builtin.List.listTooLong (items.size+a.size))=true)(h1:items.size<=sizeLine)(h2:items.size+a.size<=sizeLine+1) :
  Meets (Builtin.«list.extend» ⟨[.ref l,.ref b],[]⟩) (λ_ R s=>s.heap.get? l=some { cls:=.type "list",dict:=none,data:=.seq items n,slots:=#[] }/\s.heap.get? b=some { cls:=.type "tuple",dict:=dd,data:=.seq a e,slots:=sl }/\R (.ok (.ret Value.none)) { s with heap:=s.heap.update l (Obj.mapSeq λx=>x++a) }) :=
 .of_wp λprog w A R s h=>by
  rcases s with⟨i,j,k,m,os⟩;obtain⟨c,f,q⟩:=h;have o:=AutoSeq1.idx_int;have p:=AutoSeq1.sub_tuple_tuple;have r:=AutoSeq1.sub_list_list;have t:=AutoSeq1.sub_tuple_list;have u:=AutoSeq1.sub_list_tuple;have d:(items++a).size<=sizeLine+1:=by rw[Array.size_append];exact h2
  wp_walk using(wpAny_updateSeq c rfl (hz:=h1) (_hz':=d)),wpAny_loadPart' c,wpAny_loadPart' f
  exact⟨_,rfl,q⟩
def jfN(K:PySem.W.Frag):V->List V->Hp->VK->Prop:=λx vs H Q=>∃ l b xs zs,x=.ref l/\vs=[.ref b]/\H l=some (.lst xs)/\(SqL K H b zs \/ SqT K H b zs)/\xs.length+zs.length<=sizeLine/\Q .non (upd H l (.lst (xs++zs)))
theorem je3:MtM X "list.extend" (jfN X.K):=by
 intro w s σ H x D v E Q I A B h;obtain⟨l,b,G,J,rfl,rfl,o,g,y,q⟩:=h;cases A;obtain⟨u,rfl,C⟩:=B.one;cases C;obtain⟨z,c,n,r,L,e⟩:=I.lstM o;rcases g with g | g
 ·obtain⟨a,i,p2,_⟩:=I.list g;obtain⟨⟨cls,dd,data,k⟩,m,e2,j,hd,p⟩:=p2;simp only at j hd p
  first | subst j | skip
  have f:c.toArray.size+a.toArray.size<=sizeLine:=by rw[N2,N2,<- r.length,<- i.length];exact y
  have d:¬ (!c.toArray.isEmpty&&Builtin.List.listTooLong (c.toArray.size+a.toArray.size))=true:=by
   rw[xG f,Bool.and_false];exact M3
  have t:s.heap.get? b=some { cls:=.type "list",dict:=dd,data:=.seq a.toArray m,slots:=k }:=by
   rw[e2];simp_all
  refine call_meets PySem.F.slot_list_extend ⟨_,e,rfl⟩ PySem.F.entry_list_extend (PySem.F.args_list_extend_2 _ _) (jj7 l c.toArray n b a.toArray m dd k d (by lia) (by lia)) ⟨e,t,?_⟩;refine⟨.non,_,I.lset (its':=c++a) o e (by simp) (r.append i) ?_,rfl,q⟩;rw[N3]
  lia
 ·obtain⟨a,i,p2,_⟩:=I.tuple g;obtain⟨⟨cls,dd,data,k⟩,e2,j,m,hd⟩:=p2;simp only at j hd;subst j hd;have f:c.toArray.size+a.toArray.size<=sizeLine:=by rw[N2,N2,<- r.length,<- i.length];exact y
  have d:¬ (!c.toArray.isEmpty&&Builtin.List.listTooLong (c.toArray.size+a.toArray.size))=true:=by
   rw[xG f,Bool.and_false];exact M3
  refine call_meets PySem.F.slot_list_extend ⟨_,e,rfl⟩ PySem.F.entry_list_extend (PySem.F.args_list_extend_2 _ _) (jlc l c.toArray n b a.toArray m dd k d (by lia) (by lia)) ⟨e,e2,?_⟩;refine⟨.non,_,I.lset (its':=c++a) o e (by simp) (r.append i) ?_,rfl,q⟩;rw[N3]
  lia
section
theorem jjt(ft:TypeCalled T nw it)
  (c1:checkTypeCall T ⟨xs,kw⟩=pure ()) (d:checkBuiltinCall nw ⟨.type T::xs,kw⟩=pure ()) (f:entryFor table nw=some Bn) (i:entryFor table it=some Bi)
  (g:Meets (Bn ⟨.type T::xs,kw⟩) Sn) (h:Sn A.in1 (wants Q1 E) s)
  (nx:∀ obj s1,Q1 obj s1->s1.TypeIs obj T/\argsOk it ⟨obj::xs,kw⟩/\∃ Si,MeetsIn prog w (Bi ⟨obj::xs,kw⟩) Si/\Si A.in1 (wants (λr s2=>r=.none/\Q obj s2) E) s1) :
  wpAny (model prog w) A (call (.type T) xs kw) Q E s:=by
 obtain⟨c,q,t⟩:=ft.mro;have u:=ft.made;have v:=ft.sub;refine wpAny_call (codeAny_of_tree ?_);show wpAny _ _ (callAny (.type T) _) _ _ _;refine M6 ⟨Code.quiet_builtin _ (by decide +kernel),codeAny_builtin F.entry_type_call ?_⟩;rw[Around.under_plain (weight_type_call_type T xs kw) (units_type_call_type T xs kw)];have x:=ft.notType;have y:=ft.canCreate
 repeat (any_goals (first | assumption | wp_step))
 refine codeAny_mono (codeAny_call_builtin ft.plain f (wpAny_of_eq d (g prog w A.in1 _ s h))) λr s1 b=>?_;cases r with
 | error e=>exact b
 | ok j =>
  cases j with
  | ret obj =>
   obtain⟨k,l,Si,m,n⟩:=nx _ _ b;have z:=ft.init.lookup;have B:=ft.init.bind obj
   repeat (any_goals (first | assumption | wp_step))
   refine codeAny_mono (codeAny_call_builtin ft.init.plain i (ft.init.check _ _ _ _ _ _ _ _ k l (m A.in1 _ s1 n))) λo s2 a=>?_;cases o with
   | error e=>exact a
   | ok p =>
    cases p with
    | ret r =>
     obtain⟨rfl,C⟩:=a
     repeat (any_goals (first | assumption | wp_step))
    | _=>exact a.elim
  | _=>exact b.elim
theorem jiZ(c:typeLookup (.type T) "__init__" = pure (some (.builtin "object.__init__")))
  (d:Bind.madeBy (.type T)=pure (some nw)) (e:(some nw != some "object.__new__")=true) :
  Meets (Builtin.«object.__init__» ⟨self::x::xs,kw⟩) (λ_ R s=>s.TypeIs self T/\R (.ok (.ret .none)) s):=by
 refine Meets.of_wp λprog w A R s a=>?_;obtain⟨f,b⟩:=a
 repeat (any_goals (first | assumption | wp_step))
 exact⟨_,rfl,b⟩
theorem jk6(a b:Value):checkTypeCall "enumerate" ⟨[a],[("start",b)]⟩=pure ():=by kernel_rfl
theorem jkw(a b:Value):checkBuiltinCall "enumerate.__new__" ⟨[.type "enumerate",a],[("start",b)]⟩=pure ():=by kernel_rfl
theorem jld(a b c:Value):argsOk "object.__init__" ⟨[a,b],[("start",c)]⟩:=by
 unfold argsOk;rw[signature?_of (id:="object.__init__") (n:=['_','_','t','i','n','i','_','_']) (o:=['t','c','e','j','b','o']) (by kernel_rfl) F.owner_object];kernel_rfl
open AutoSeq1 (wpAny_loadPart') in
theorem jfz(l:Addr)(us:Array Value)(m:Nat)(dc:Option Addr)(sl:Array (Option Value))(n:Int)(t:Tok)(j:Builtin.SmallTypes.fitsIndex n=true) :
  Meets (Builtin.«enumerate.__new__» ⟨[.type "enumerate",.ref l],[("start",.int n t)]⟩) (λ_ R s=>s.heap.get? l=some { cls:=.type "list",dict:=dc,data:=.seq us m,slots:=sl } /\
   R (.ok (.ret (.ref (s.heap.push { cls:=.type "list_iterator",data:=.fields #[.ref l,.int 0 0] }).objs.size)))
    { s with heap:=(s.heap.push { cls:=.type "list_iterator",data:=.fields #[.ref l,.int 0 0] }).push { cls:=.type "enumerate",data:=.fields #[.none,.bool false,.ref s.heap.objs.size,rawInt n,.none,.none] } }) :=
 .of_wp λprog w A R s h=>by
  obtain⟨f,g,d,i,os⟩:=s;obtain⟨a,h⟩:=h;have e:=sub_enumerate;have b:Heap.IsList (Shared.heap ⟨f,g,d,i,os⟩) l us:=⟨_,a,rfl,m,rfl⟩
  wp_walk using wpAny_loadPart' a
  refine wpAny_stack_any λk=>M6 ?_;split
  ·rename_i c _ _ _ _ _;cases(c==Value.type "enumerate")
   ·wp_walk using wpAny_loadPart' a,wpAny_pyIter_list b
    exact⟨_,rfl,h⟩
   ·wp_walk using wpAny_loadPart' a,wpAny_pyIter_list b
    exact⟨_,rfl,h⟩
  ·wp_walk using wpAny_loadPart' a,wpAny_pyIter_list b
   exact⟨_,rfl,h⟩
theorem jeo(f:s.heap.IsList l us)(g:Builtin.SmallTypes.fitsIndex n=true)
  (go:∀ k,IsEnum k (s.heap.objs.size+1) s.heap.objs.size n .none->k.IsListIter s.heap.objs.size l 0->(∀ b o,s.heap.get? b=some o->k.get? b=some o)->C (.ref (s.heap.objs.size+1)) { s with heap:=k }) :
  wpAny (model prog w) A (call (.type "enumerate") [.ref l] [("start",.int n t)]) C E s:=by
 obtain⟨⟨c,h,i,j⟩,p,a,m,hd⟩:=f;replace a:c=.type "list":=a;replace hd:i=.seq us m:=hd;subst a hd;refine jjt (Q1:=λobj s1=>s1.TypeIs obj "enumerate"/\C obj s1) F.called_enumerate (jk6 _ _) (jkw _ _) F.entry_enumerate_new F.entry_object_init (jfz l us m h j n t g) ⟨p,?_⟩
  λobj _ q=>⟨q.1,jld _ _ _,_,(jiZ F.called_enumerate.init.lookup F.called_enumerate.made (by decide)).inModel _ _,q.1,rfl,q.2⟩
 have d:(s.heap.push { cls:=.type "list_iterator",data:=.fields #[.ref l,.int 0 0] }).objs.size=s.heap.objs.size+1:=Heap.size_push ..;show _/\_;rw[d];have e:IsEnum ((s.heap.push { cls:=.type "list_iterator",data:=.fields #[.ref l,.int 0 0] }).push { cls:=.type "enumerate",data:=.fields #[.none,.bool false,.ref s.heap.objs.size,rawInt n,.none,.none] }) (s.heap.objs.size+1) s.heap.objs.size n .none:=by
  have q:=E4 (s.heap.push { cls:=.type "list_iterator",data:=.fields #[.ref l,.int 0 0] }) (o:={ cls:=.type "enumerate",data:=.fields #[.none,.bool false,.ref s.heap.objs.size,rawInt n,.none,.none] }) rfl;rw[d] at q;exact q
 exact⟨⟨_,e,rfl⟩,go _ e ⟨_,L7 _ (E4 _ rfl),rfl,rfl⟩ λb o x=>L7 _ (L7 _ x)⟩
theorem jeO{A:Around}{E:Value->Shared->Prop}{s:Shared}{i:Nat}{n:Int}{us:Array Value}{C:Value->Shared->Prop}
  (H:IsEnum s.heap e it n was) (hi:s.heap.IsListIter it l i) (Q:s.heap.IsList l us) (R:us[i]?=some x) (ne:e≠it)
  (go:∀ k,IsEnumOut k e it (n+1) x s.heap.objs.size->k.IsListIter it l (i+1)->k.get? s.heap.objs.size=some { cls:=.type "tuple",data:=.seq #[.int n s.toks,x] } ->
   (∀ b o,b≠e->b≠it->s.heap.get? b=some o->k.get? b=some o)->C (.ref s.heap.objs.size) { s with heap:=k,toks:=s.toks+1 }) :
  wpAny (model prog w) A (Builtin.«enumerate.__next__» ⟨[.ref e],[]⟩) (λfin s'=>∃ v,fin=.done (.ret v)/\C v s') E s:=by
 obtain⟨c,g,d,a,os⟩:=s;show wpAny _ _ (field (.ref e) 2 >>= _) _ _ _;refine L1 (U5 H rfl (x:=.ref it) rfl (L1 (wpAny_nextOf_list_item hi Q R λf P m=>?_)));replace m:Heap.SameBut it c f:=m;have B:IsEnum f e it n was:=(m.2 e ne).trans H;show wpAny _ _ (field (.ref e) 3 >>= _) _ _ ⟨f,g,d,a,os⟩;refine L1 (U5 B rfl (x:=rawInt n) rfl ?_);show wpAny _ _ (field (.ref e) 4 >>= _) _ _ ⟨f,g,d,a,os⟩;refine L1 (U5 B rfl (x:=.none) rfl ?_);show wpAny _ _ (mkInt n >>= _) _ _ ⟨f,g,d,a,os⟩;refine L1 (wpAny_mkInt ?_);show wpAny _ _ (setField (.ref e) 3 (rawInt (n+1)) >>= _) _ _ ⟨f,g,d,a+1,os⟩;refine L1 (wpAny_setField_rec B (by simp) λt e2 p=>?_);replace p:Heap.SameBut e f t:=p;replace e2:IsEnum t e it (n+1) was:=e2;show wpAny _ _ (setField (.ref e) 4 .none >>= _) _ _ ⟨t,g,d,a+1,os⟩;refine L1 (wpAny_setField_rec e2 (by simp) λh e3 q=>?_);replace q:Heap.SameBut e t h:=q;replace e3:IsEnum h e it (n+1) was:=e3;show wpAny _ _ (newTuple [.int n a,x] >>= _) _ _ ⟨h,g,d,a+1,os⟩;refine L1 (wpAny_newTuple ?_);have D:IsEnum (h.push { cls:=.type "tuple",data:=.seq #[.int n a,x] }) e it (n+1) was:=L7 _ e3;generalize F:h.push { cls:=.type "tuple",data:=.seq #[.int n a,x] }=k4 at D;have I:h.objs.size=c.objs.size:=by rw[q.1,p.1,m.1]
 have lt:e < c.objs.size:=N0 H;have S:k4.get? c.objs.size=some { cls:=.type "tuple",data:=.seq #[.int n a,x] }:=by rw[<- F,<- I];exact E4 _ rfl
 have kp:∀ b o,b≠e->b≠it->c.get? b=some o->k4.get? b=some o:=λb o j J K=>by
  rw[<- F];exact L7 _ (q.extBut b o j (p.extBut b o j (m.extBut b o J K)))
 have T:k4.IsListIter it l (i+1):=by
  rw[<- F];obtain⟨o,U,r⟩:=(P.extBut p.extBut ne.symm).extBut q.extBut ne.symm;exact⟨o,L7 _ U,r⟩
 show wpAny _ _ (Builtin.SmallTypes.ownedTupleIsFree (.ref e) >>= _) _ _ ⟨k4,g,d,a+1,os⟩;rw[I];clear F e3 q e2 p B m P I h t f;refine L1 ?_;delta Builtin.SmallTypes.ownedTupleIsFree;refine L1 (U5 D rfl (x:=.none) rfl (M6 ?_));simp only[if_true];refine L1 (wpAny_rule (L1 (U5 D rfl (x:=was) rfl (L1 (wpAny_setField_rec D (by simp) λG e5 u=>?_)))));replace u:Heap.SameBut e k4 G:=u;replace e5:IsEnum G e it (n+1) x:=e5;show wpAny _ _ (Builtin.SmallTypes.ownedTupleHandOut (.ref e) (.ref c.objs.size) >>= _) _ _ ⟨G,g,d,a+1,os⟩;refine L1 ?_;delta Builtin.SmallTypes.ownedTupleHandOut;refine L1 (wpAny_setField_rec e5 (by simp) λL M y=>?_);replace y:Heap.SameBut e G L:=y;replace M:IsEnumOut L e it (n+1) x c.objs.size:=M;refine wpAny_setField_rec M (by simp) λN O z=>?_;replace z:Heap.SameBut e L N:=z;replace O:IsEnumOut N e it (n+1) x c.objs.size:=O;refine L1 (wpAny_letGo (M6 ⟨_,rfl,go N O ?_ ?_ ?_⟩))
 ·exact((T.extBut u.extBut ne.symm).extBut y.extBut ne.symm).extBut z.extBut ne.symm
 ·exact z.extBut _ _ (Nat.ne_of_gt lt) (y.extBut _ _ (Nat.ne_of_gt lt) (u.extBut _ _ (Nat.ne_of_gt lt) S))
 ·exact λb o j J K=>z.extBut b o j (y.extBut b o j (u.extBut b o j (kp b o j J K)))
theorem jgx 
  (a:IsEnum s.heap e it n was) (hi:s.heap.IsListIter it l i) (c:s.heap.IsList l us) (d:us[i]?=some x) (ne:e≠it)
  (go:∀ k,IsEnumOut k e it (n+1) x s.heap.objs.size->k.IsListIter it l (i+1)->k.get? s.heap.objs.size=some { cls:=.type "tuple",data:=.seq #[.int n s.toks,x] } ->
   (∀ b o,b≠e->b≠it->s.heap.get? b=some o->k.get? b=some o)->C (some (.ref s.heap.objs.size)) { s with heap:=k,toks:=s.toks+1 }):wpAny (model prog w) A (pyNext (.ref e)) C E s:=by
 have ty:s.TypeIs (.ref e) "enumerate":=⟨_,a,rfl⟩;unfold pyNext;exact L1 (wpAny_attempt (wpAny_callSpecial?_slot (name:=Str.ofString "__next__") ty F.slot_enumerate_next
  (wpAny_call_entry F.slot_enumerate_next ty F.entry_enumerate_next (jeO a hi c d ne λk c1 f g h=>M6 (go k c1 f g h)) (F.args_enumerate_next_1 _))))
theorem jeK(d:A.handled=none)
  (c:IsEnum s.heap e it n was) (hi:s.heap.IsListIter it l i) (f:s.heap.IsList l us) (a:us[i]?=none)
  (go:∀ k,Heap.ExtBut it s.heap k->C none { s with heap:=k }):wpAny (model prog w) A (pyNext (.ref e)) C E s:=by
 have ty:s.TypeIs (.ref e) "enumerate":=⟨_,c,rfl⟩;unfold pyNext;refine L1 (wpAny_attempt (wpAny_callSpecial?_slot (name:=Str.ofString "__next__") ty F.slot_enumerate_next (wpAny_call_entry F.slot_enumerate_next ty F.entry_enumerate_next ?_ (F.args_enumerate_next_1 _))));show wpAny _ _ (field (.ref e) 2 >>= _) _ _ _;refine L1 (U5 c rfl (x:=.ref it) rfl (L1 (wpAny_nextOf_list_end d hi f a λk x b a=>?_)));obtain⟨o,g,h⟩:=a;exact L1 (wpAny_isInstance (T:="StopIteration") (b:=true) ⟨o,g,h⟩ isSubtype_stop (M6 (go _ b)))
end
def Itn(K:PySem.W.Frag)(l:Addr)(n:Int):It :=
 ⟨λi H=>∃ xs x,SqL K H l xs/\xs[i]?=some x,λi H x H'=>∃ p v,(∀ xs,SqL K H l xs->xs[i]?=some v)/\x=.ref p/\H p=none/\H'=upd H p (.tup [.int (n+i),v]),λi H=>∃ xs,SqL K H l xs/\xs.length<=i⟩
theorem jgG{P:Program}{w:World}{K:PySem.W.Frag}{y:List Expr}{m:Nat}{pos:Pos}(e a l:Addr)(n:Int)(A:e≠a)(hle:l≠e)(hli:l≠a) :
  Turn P w K (.Tuple y m pos) (Itn K l n) [e,a] e (λi h=>(∃ old,IsEnum h e a (n+i) old)/\h.IsListIter a l i) where
 mem:=by simp
 obj:=λi h f b g=>by
  obtain⟨⟨old,j⟩,o,M,N,hd⟩:=f;rcases(by simpa using g:b=e \/ b=a) with z | z
  ·subst z;exact⟨_,j,λv q=>by cases q⟩
  ·subst z;exact⟨o,M,λv q=>by rw[hd] at q;cases q⟩
 keep:=λi h h' f k=>by
  obtain⟨⟨old,j⟩,c⟩:=f;exact⟨⟨old,k e (by simp) _ j⟩,c.at λo q=>k a (by simp) o q⟩
 item:=by
  intro X O Q R N i B s σ H E I J f S;subst O Q R;obtain⟨xs,x,L,U⟩:=S;obtain⟨C,V,p,hz⟩:=I.list L;obtain⟨u,hu,ru⟩:=V.get U;obtain⟨⟨old,j⟩,c⟩:=f;refine jgx j c p.isList (x:=u) (by simpa using hu) A λY M D hT hk=>?_;refine⟨_,rfl,wpAny_letOwnedTupleGo_enum (s:={ s with heap:=Y,toks:=s.toks+1 }) M λF Z d=>?_⟩;replace d:Heap.SameBut e Y F:=d;have r:e < s.heap.objs.size:=N0 j;have G:F.get? s.heap.objs.size=_:=(d.2 _ (Nat.ne_of_gt r)).trans hT;have kk:∀ b o,b∉[e,a]->s.heap.get? b=some o->F.get? b=some o:=λb o g q=>by
   have t:b≠e/\b≠a:=by simpa using g
   exact(d.2 b t.1).trans (hk b o t.1 t.2 q)
  have I1:=I.turnedNew (h':=F) (t':=s.toks+1) (wr:=[e,a]) (T:=s.heap.objs.size) (xs:=[.int (n+i),x]) (its:=#[.int (n+i) s.toks,u]) kk J (M8 _) ⟨⟨_,G,rfl,_,rfl⟩,_,G,rfl⟩ (.cons ⟨_,rfl⟩ (.cons ru .nil)) (by show 2<=sizeLine;decide);have he3:IsEnum F e a (n+((i+1:Nat):Int)) u:=by
   have q:=Z;rw[show n+((i+1:Nat):Int)=n+i+1 by lia];exact q
  refine⟨.ref s.heap.objs.size,_,I1,rfl,⟨_,x,(λys hy=>by rw[I.list_inj hy L];exact U),rfl,I.hok.fresh (M8 _),rfl⟩,⟨⟨_,he3⟩,D.at λo q=>(d.2 a A.symm).trans q⟩,λb g=>?_⟩;rw[jf]
  ·exact(J b g).1
  ·intro z;have:b < s.heap.objs.size:=by
    obtain⟨oi,hoi,_⟩:=id c;rcases(by simpa using g:b=e \/ b=a) with q | q
    ·rw[q];exact r
    ·rw[q];exact N0 hoi
   exact absurd this (by rw[z];exact Nat.lt_irrefl _)
 done:=by
  intro X O Q R N i B s σ H E I J f S;subst O Q R;obtain⟨xs,L,U⟩:=S;obtain⟨C,V,p,hz⟩:=I.list L;obtain⟨⟨old,j⟩,c⟩:=f;have hl:=V.length;exact jeK (I.ok.hd N) j c p.isList (by simp;lia) λY eb=>⟨rfl,I.turnedL (t':=s.toks) (wr:=[e,a]) (λb o g q=>eb b o (by simp at g;exact g.2) q) J⟩
 self:=λ_ _ _ _ _ f h=>wpAny_pyIter_enum f.1.choose_spec h
def jkQ(K:PySem.W.Frag)(tl:TA)(tb:TE):TI:=λσ H R=>tl σ H λvs H1=>tb σ H1 λv H2=>∃ a xs n,vs=[.ref a]/\v=.int n/\Builtin.SmallTypes.fitsIndex n=true/\SqL K H2 a xs/\R (Itn K a n) H2
theorem jk9{X:Cx}{f:List Expr}{m:Nat}{tpos p pos kpos:Pos}{a b:Expr}{ta:TA}{tb:TE}(L:Gl X "enumerate")(M:X.mg "enumerate" = none)(N:PA X [a] ta)(B:PE X b tb)(E:starEach [a] X.env=[(false,eval a X.env)]:=by rfl) :
  PI X (.Tuple f m tpos) (.Call (.Name "enumerate" p) [a] [⟨some "start",b,kpos⟩] pos) (jkQ X.K ta tb):=by
 intro c s σ H R I h;refine wpAny_Call_Name_kw (JY I L M (show bootBuiltins "enumerate" = some (.type "enumerate") by decide +kernel) ?_);unfold callWith;have C:((backTo pos (starEach [a] X.env)).any (·.1)||(backToKw pos (keywordEach [⟨some "start",b,kpos⟩] X.env)).any (·.1.isNone))=false:=by rw[E];rfl
 rw[C];refine L1 (wpAny_holding ?_);have F:=N pos c s σ H _ I h;rw[E] at F ⊢;refine wpAny_mono (evalArgs_kw (Q:=λx s1=>wpAny (model X.prog X.w) X.A (call (.type "enumerate") x.pos x.kw) (λv s1=>wpAny (model X.prog X.w) X.A (pyIter v) (PIE X c σ (.Tuple f m tpos) R) X.xe s1) X.xe s1) rfl (thn F λus s1 ⟨vs,O,P,S,T⟩=>?_)) (λx s1 j=>L1 (wpAny_standAt ?_)) λ_ _ x=>x
 ·refine wpAny_evalAll_cons ?_;show wpAny _ _ (eval b X.env >>= λv=>standAt pos >>= λ_=>pure v) _ _ _;refine L1 (thn (B c s1 σ O _ P T) λv d ⟨y,G,k,U,V⟩=>L1 (wpAny_standAt (M6 (wpAny_evalAll_nil ?_))));obtain⟨l,xs,n,rfl,rfl,W,Y,q⟩:=V;obtain⟨u,rfl,Z⟩:=S.one;cases Z;obtain⟨t,rfl⟩:=U;obtain⟨its,rv,pl,hz⟩:=k.list Y;have g:l < d.heap.objs.size:=by
   obtain⟨o,_,e,_⟩:=pl;exact N0 e
  refine jeo pl.isList W λj J D hk=>?_;have I3:Inv X c σ G { d with heap:=j }:=k.kept (t':=d.toks) hk;refine PySem.wpAny_pyIter_enum (s:={ d with heap:=j }) J ?_;refine⟨d.heap.objs.size+1,[d.heap.objs.size+1,d.heap.objs.size],_,_,G,rfl,I3,jgG _ _ l n (Nat.succ_ne_self _) (N5 (Nat.lt_succ_of_lt g)) (N5 g),⟨⟨_,by simpa using J⟩,D⟩,λb B=>?_,q⟩;have i:d.heap.objs.size<=b:=by
   rcases(by simpa using B:b=d.heap.objs.size+1 \/ b=d.heap.objs.size) with z | z
   ·rw[z];exact Nat.le_succ _
   ·rw[z];exact M8 _
  exact k.fpOk i (k.hok.fresh i)
 ·refine L1 (M6 ?_);exact L1 (wpAny_mono j (λr d hr=>L1 (wpAny_holding (wpAny_point (M6 hr)))) λ_ _ x=>x)
section
variable {prog:Program}{w:World}{A:Around}{E:Value->Shared->Prop}{s:Shared}
theorem jfU{j t:Addr}{n:Nat}{b:Array Value}{C:Value->Shared->Prop}(g:A.handled=none)(c:s.heap.IsTupleIter j t n)(h:s.heap.IsTuple t b)(i:b[n]?=none)
  (go:∀ k e,Heap.ExtBut j s.heap k->(∃ o,k.get? e=some o/\o.cls=.type "StopIteration")->E (.ref e) { s with heap:=k }):wpAny (model prog w) A (Builtin.SmallTypes.nextOf (.ref j)) C E s:=by
 obtain⟨p,d,q,f⟩:=id c;obtain⟨r,gt,_,mt,l⟩:=h;delta Builtin.SmallTypes.nextOf;refine L1 (wpAny_callSpecial?_slot (name:=Str.ofString "__next__") c.typeIs F.slot_tuple_iterator_next (wpAny_call_entry F.slot_tuple_iterator_next c.typeIs F.entry_tuple_iterator_next ?_ (F.args_tuple_iterator_next_1 _)));show wpAny _ _ (field (.ref j) 0 >>= _) _ _ s;refine L1 (U5 d f (x:=.ref t) rfl ?_);show wpAny (model prog w) _ (if(Value.ref t==Value.none)=true then _ else _) _ _ s;rw[if_neg (by exact M3)];show wpAny _ _ (field (.ref j) 1 >>= _) _ _ s;refine L1 (U5 d f (x:=.int n 0) rfl ?_);show wpAny (model prog w) _ (seqItems? (.ref t) >>= _) _ _ s;refine L1 (wpAny_seqItems gt l ?_);simp only[N7,i];refine L1 (wpAny_rule (L1 (wpAny_setField d f (by simp) ?_)));show wpAny _ _ (newExc (.type "StopIteration") [] >>= _) _ _ _;refine L1 ?_;simp only[newExc,newTuple];refine L1 (wpAny_newObj_type ?_ (by size_fits));refine L1 (m:=firstArgMember _ _) (wpAny_of_eq (a:=Value.none) (by first | rfl | (simp only[firstArgMember];rfl)) ?_);refine wpAny_newObj_type ?_ (by size_fits);simp only[raiseNew];refine L1 (wpAny_handled ?_)
 first | rw[show A.in1.handled=none from g] | rw[g]
 refine L1 (M6 (wpAny_throw ?_));exact go _ _ (((Heap.SameBut.update ..).extBut.push _).push _) ⟨_,E4 _ rfl,rfl⟩
variable {z TI TO j1 j2 l t:Addr}{m:Nat}{us vs:Array Value}{u v a b:Value}
end
end L2
namespace PySem
open Sem (wp)
namespace F
end F
end PySem
namespace L2
open PySem PySem.Spec PyProof.Rows
end L2
namespace PySem
open Sem (wp)
section
variable {prog:Program}{w:World}{K:Type} [DecidableEq K] {knd:KeyKind prog w K}{A:Around}{E:Value->Shared->Prop}{s:Shared}
theorem qg(x:IsTupleKey knd h k a)(c:∀ o,h.get? a=some o->h'.get? a=some o):IsTupleKey knd h' k a:=by
 obtain⟨o,b,n,d,e,f,g⟩:=x;exact⟨o,b,n,c o d,e,f,g⟩
theorem Yw{h h':Heap}{xs:List (List K×Addr×Value)}(d:h.DictOfH (tupleKind knd) D xs)(b:∀ o,h.get? D=some o->h'.get? D=some o)(c:∀ x∈xs,∀ o,h.get? x.2.1=some o->h'.get? x.2.1=some o):h'.DictOfH (tupleKind knd) D xs:=by
 obtain⟨o,e,f,g,i,j,k,l,m⟩:=d;exact⟨o,e,f,b o g,i,j,k,λx a=>qg (l x a) (c x a),m⟩
def zV(knd:KeyKind prog w K)(h:Heap)(v:Value)(kv:List K×Addr×Value):Prop:=∃ p m o,v=.ref p/\h.get? p=some o/\o.cls=.type "tuple"/\o.data=.seq #[.ref kv.2.1,kv.2.2] m/\IsTupleKey knd h kv.1 kv.2.1
theorem zy{xs:List (List K×Addr×Value)}{k:List K}{x:List K×Addr×Value}(h:x∈storedH xs k a v):x.2.1=a \/ ∃ y∈xs,x.2.1=y.2.1:=by
 unfold storedH at h;split at h
 ·obtain⟨y,b,rfl⟩:=M5.mp h;refine .inr ⟨y,b,?_⟩;unfold putAt;split<;>rfl
 ·rcases N1.mp h with h | h
  ·exact .inr ⟨x,h,rfl⟩
  ·rw[M7.mp h];exact .inl rfl
theorem zX(xs:List (List K×Addr×Value))(k:List K)(a:Addr)(v:Value):(storedH xs k a v).length<=xs.length+1:=by
 unfold storedH;split<;>simp
theorem ua{R:Result->Shared->Prop}(hh:A.handled=none)(hu:A.units+1 < cLine)  (B:ax≠I) (q:D≠I) (Y:D≠ax) {items:Array Value}{ps:List (List K×Addr×Value)}(C:items.size=ps.length):∀(k i:Nat) (s:Shared) (xs:List (List K×Addr×Value)),
  items.size - i=k->i<=items.size->(s.heap.IsListIter I ax i/\s.heap.IsList ax items)->s.heap.DictOfH (tupleKind knd) D xs->(∀ x∈xs,x.2.1≠I) ->
  (∀(j:Nat) (v:Value),items[j]?=some v->∃ kv,ps[j]?=some kv/\zV knd s.heap v kv/\v≠.ref I/\v≠.ref D/\kv.2.1≠I/\kv.2.1≠D)->xs.length+k<=100000 ->
  (∀ h' tk,h'.DictOfH (tupleKind knd) D ((ps.drop i).foldl (λa kv=>storedH a kv.1 kv.2.1 kv.2.2) xs)->(∀ b o,b≠I->b≠D->s.heap.get? b=some o->h'.get? b=some o)->R (.ok (.ret .none)) { s with heap:=h',toks:=tk }) ->
  codeAny (model prog w) A (.builtin "dict.update.loop" ⟨[.ref D,.ref I,rawInt i,.none],[]⟩) R s:=by
 intro k
 induction k with
 | zero =>
  intro i s xs hk hi r hd d Z hz hR;have hin:i=items.size:=by lia
  subst hin;have W:=Walks.list (prog:=prog) (w:=w) (A:=A.in1) (by exact hh) I ax B items;refine codeAny_builtin F.entry_dict_loop ?_;rw[Around.under_plainId F.plain_dict_loop _];show wpAny _ A.in1 (pyNext (.ref I) >>= _) _ _ s;refine L1 (W.done s _ _ r λh' tk c=>?_);have fin:=hR h' tk (by rw[C,List.drop_length];exact Yw hd (λo e=>c D o (by simpa using q) e) (λx E o e=>c _ o (by simpa using d x E) e)) (λb o f _ e=>c b o (by simpa using f) e);unfold Builtin.Dict.addKeywords
  repeat (any_goals (first | assumption | wp_step))
 | succ k ih =>
  intro i s xs hk hi r hd d Z hz hR;have G:i < items.size:=by lia
  have W:=Walks.list (prog:=prog) (w:=w) (A:=A.in1) (by exact hh) I ax B items;refine codeAny_builtin F.entry_dict_loop ?_;rw[Around.under_plainId F.plain_dict_loop _];show wpAny _ A.in1 (pyNext (.ref I) >>= _) _ _ s;refine L1 (W.item i s _ _ G r λv h' tk hP H c=>?_);obtain⟨kv,J,⟨p,m,po,rfl,hpo,hpc,hpd,L⟩,hvI,hvD,M,haD⟩:=Z i v hP;have N:h'.get? p=some po:=c p _ (by simpa using λz=>hvI (by rw[z])) hpo;have t:IsTupleKey knd h' kv.1 kv.2.1:=qg L λo e=>c _ o (by simpa using M) e;have hd':h'.DictOfH (tupleKind knd) D xs:=Yw hd (λo e=>c D o (by simpa using q) e) (λx E o e=>c _ o (by simpa using d x E) e);refine L1 (wpAny_holding ?_);refine L1 (wpAny_tryCatch (VF N hpc hpd ?_));show wpAny _ _ (holding [.ref kv.2.1,kv.2.2] (dictSet D (.ref kv.2.1) kv.2.2)) _ _ _;have hsz:sizeLine=16777216:=by decide
  refine wpAny_holding (wpAny_dictSet_heap (hsz:=by lia) (knd:=tupleKind knd) (tupleKind_room_in1 hu) t hd' λh'' O X=>?_);refine M6 ⟨plainId_quiet F.plain_dict_loop _,?_⟩;have hd2:ps.drop i=kv::ps.drop (i+1):=by
   have P:i < ps.length:=by lia
   rw[List.drop_eq_getElem_cons P];have:ps[i]=kv:=by
    rw[X9 P] at J;exact X7 J
   rw[this]
  refine ih (i+1) _ (storedH xs kv.1 kv.2.1 kv.2.2) (by lia) G (W.frame (i+1) h' h'' H λb f o e=>(X.2 b ?_).trans e) O (λx E=>?_) (λj v hv=>?_) ?_ λh3 tk3 hd3 hk3=>?_
  ·rcases M4.mp f with rfl | f
   ·exact λz=>q z.symm
   ·rw[M7.mp f];exact λz=>Y z.symm
  ·rcases zy E with e | ⟨y,hy,e⟩
   ·rw[e];exact M
   ·rw[e];exact d y hy
  ·obtain⟨kv',Q,⟨p',m',po',rfl,S,T,U,u⟩,g,h,l,n⟩:=Z j v hv;refine⟨kv',Q,⟨p',m',po',rfl,?_,T,U,qg u λo e=>?_⟩,g,h,l,n⟩
   ·exact(X.2 p' λz=>h (by rw[z])).trans (c p' _ (by simpa using λz=>g (by rw[z])) S)
   ·exact(X.2 _ n).trans (c _ o (by simpa using l) e)
  ·have:=zX xs kv.1 kv.2.1 kv.2.2
   lia
  ·refine hR h3 tk3 ?_ λb o f V e=>hk3 b o f V ((X.2 b V).trans (c b o (by simpa using f) e));rw[hd2,U9];exact hd3
theorem YO{its:Array Value}{n:Nat}{sl:Array (Option Value)}{ps:List (List K×Addr×Value)}{Q:Value->Shared->Prop}(P:A.handled=none)(Z:A.units+10 < cLine)(g:s.heap.get? p=some { cls:=.type "list",data:=.seq its n,slots:=sl })(r:its.size=ps.length)
  (U:∀(j:Nat) (v:Value),its[j]?=some v->∃ kv,ps[j]?=some kv/\zV knd s.heap v kv) (hz:ps.length<=100000)
  (h:∀ h' tk,h'.DictOfH (tupleKind knd) s.heap.objs.size (ps.foldl (λa kv=>storedH a kv.1 kv.2.1 kv.2.2) [])->(∀ b o,s.heap.get? b=some o->h'.get? b=some o)->Q (.ref s.heap.objs.size) { s with heap:=h',toks:=tk }) :
  wpAny (model prog w) A (call (.type "dict") [.ref p]) Q E s:=by
 refine callType_codes (Q₁:=λobj R=>obj=.ref s.heap.objs.size/\R={ s with heap:=s.heap.push { cls:=.type "dict",data:=.dict #[] } }) F.kt_called_dict (F.kt_typeCall_dict_1 _) F.entry_dict_init (kt_code_dict_new _ ⟨rfl,rfl⟩) ?_;rintro obj R ⟨rfl,rfl⟩;have d:(s.heap.push { cls:=.type "dict",data:=.dict #[] }).DictOfH (tupleKind knd) s.heap.objs.size []:=Heap.DictOfH.new s.heap;refine⟨d.typeIs,F.args_dict_init_2 _ _,?_⟩;have i:(s.heap.push { cls:=.type "dict",data:=.dict #[] }).get? p=some { cls:=.type "list",data:=.seq its n,slots:=sl }:=L7 _ g;have y:s.heap.get? s.heap.objs.size=none:=Heap.get?_none_of_le (M8 _);unfold Builtin.«dict.__init__»;refine L1 ?_;unfold Builtin.Dict.selfAndRest;refine L1 (wpAny_notOrdered_dict d.typeIs ?_);show wpAny _ _ (pure (s.heap.objs.size,[Value.ref p])) _ _ _;refine M6 ?_;show wpAny _ _ (Builtin.Dict.updateFrom "dict.__init__" s.heap.objs.size (.ref p) [] .none) _ _ _;unfold Builtin.Dict.updateFrom;refine L1 (wpAny_typeOf (T:="list") ⟨_,i,rfl⟩ ?_);rw[if_pos (by decide)];refine L1 ?_;refine Qg (its:=its) (n:=n) ?_ i λt t2 c=>?_
 ·exact P
 ·rw[if_pos (show(Option.isNone (none:Option Value))=true from rfl)];refine L1 (wpAny_rule ?_);have k:=c p _ i;have B:t.IsList p its:=⟨_,k,rfl,n,rfl⟩;refine L1 (wpAny_pyIter_list B ?_);have C:=c s.heap.objs.size _ (E4 _ rfl);have D:p≠t.objs.size:=N5 (N0 k);have G:s.heap.objs.size≠t.objs.size:=N5 (N0 C);have H:s.heap.objs.size≠p:=λz=>by rw[<- z,y] at g;cases g
  refine M6 ⟨plainId_quiet F.plain_dict_loop _,?_⟩;refine ua (A:=A.in1) (knd:=knd) (show A.in1.handled=none from P) (show A.units+1+1 < cLine by lia) D G H r its.size 0 _ [] (by lia) (U4 _) ⟨⟨_,E4 _ rfl,rfl,rfl⟩,?_⟩ ?_ (λx g=>(nomatch g)) (λV v W=>?_) (by simp;lia) λX I J L=>?_
  ·exact⟨_,L7 _ k,rfl,n,rfl⟩
  ·exact Yw d (λo e=>L7 _ (c _ o e)) (λx g=>(nomatch g))
  ·obtain⟨kv,M,u,m,po,rfl,l,N,O,f⟩:=U V v W;have e2:=c u _ (L7 _ l);obtain⟨ko,S,kn,q,_⟩:=id f;have Y:=c _ _ (L7 _ q);refine⟨kv,M,⟨u,m,po,rfl,L7 _ e2,N,O,qg f λo e=>L7 _ (c _ _ (L7 _ e))⟩,λz=>?_,λz=>?_,N5 (N0 Y),λz=>?_⟩
   ·have z:u=t.objs.size:=by injection z
    exact absurd z (N5 (N0 e2))
   ·have z:u=s.heap.objs.size:=by injection z
    rw[z,y] at l;cases l
   ·rw[z,y] at q;cases q
  ·refine⟨rfl,h X I J λb o e=>?_⟩;have e2:=c b o (L7 _ e);exact L b o (N5 (N0 e2)) (N5 (N0 e)) (L7 _ e2)
end
end PySem
namespace L2
open PySem PySem.Spec PyProof.Rows
theorem Qt(I:Inv X pins σ H s):∀{ys:List V}{its:List Value}{ps:List (List Key×Addr×V)},Vals ys its->ys.length=ps.length ->
  (∀(j:Nat) (y:V),ys[j]?=some y->∃ kv t,ps[j]?=some kv/\y=.ref t/\SqT X.K H t [.ref kv.2.1,kv.2.2]/\H kv.2.1=some (.tup (kv.1.map kV))) ->
  ∃ qs:List (List Key×Addr×Value),Paired (λ(p:List Key×Addr×V) (q:List Key×Addr×Value)=>p.1=q.1/\p.2.1=q.2.1/\RelV p.2.2 q.2.2) ps qs/\∀(j:Nat) (v:Value),its[j]?=some v->∃ kv,qs[j]?=some kv/\zV (jJ X.prog X.w) s.heap v kv
 | [],its,ps,b,a,c=>by
  cases b;have:ps=[]:=List.length_eq_zero_iff.mp a.symm;subst this;exact⟨[],.nil,λj v e=>by simp at e⟩
 | y::ys,its,[],b,a,c=>by simp at a
 | y::ys,its,kv::ps,b,a,c=>by
  cases b with
  | cons i k =>
   rename_i u F;obtain⟨qs,r,q⟩:=Qt I (ps:=ps) k (by simpa using a) λj y e=>c (j+1) y (by simpa using e);obtain⟨l,t,m,rfl,d,x⟩:=c 0 y rfl;cases m;cases(show u=Value.ref t from i);obtain⟨g,z,⟨o,e,A,n,hd⟩,_⟩:=I.tuple d;cases z with
   | cons B C =>
    cases C with
    | cons D E =>
     cases E;rename_i f val;cases(show f=Value.ref kv.2.1 from B);refine⟨(kv.1,kv.2.1,val)::qs,.cons ⟨rfl,rfl,D⟩ r,λj v h=>?_⟩;cases j with
     | zero =>
      cases h;exact⟨_,rfl,t,n,o,rfl,e,A,hd,Qz I.hok x⟩
     | succ j=>exact q j v (by simpa using h)
theorem jan:∀{ps:List (List Key×Addr×V)}{qs:List (List Key×Addr×Value)}{a:List (List Key×V)}{b:List (List Key×Addr×Value)},Paired (λ(p:List Key×Addr×V) (q:List Key×Addr×Value)=>p.1=q.1/\p.2.1=q.2.1/\RelV p.2.2 q.2.2) ps qs->(∀ p∈ps,H p.2.1=some (.tup (p.1.map kV)))->KT H a b ->
  KT H (ps.foldl (λa kv=>vV a kv.1 kv.2.2) a) (qs.foldl (λa kv=>storedH a kv.1 kv.2.1 kv.2.2) b)
 | [],_,_,_,.nil,_,h=>h
 | p::ps,q::qs,a,b,.cons c e,d,h=>by
  rw[U9,U9];refine jan e (λx f=>d x (by simp[f])) ?_;have:=h.put p.1 (b:=p.2.1) (d p (by simp)) c.2.2;rw[c.1,c.2.1] at this;rw[c.1];exact this
theorem jdk{ps:List (List Key×Addr×V)}:∀{qs:List (List Key×V)},(ps.foldl (λa kv=>vV a kv.1 kv.2.2) qs).length<=qs.length+ps.length:=by
 induction ps with
 | nil=>intro qs;simp
 | cons p ps b =>
  intro qs;rw[U9];have c:=b (qs:=vV qs p.1 p.2.2);have d:(vV qs p.1 p.2.2).length<=qs.length+1:=by unfold vV;split<;>simp
  rw[M0]
  lia
theorem zc{X:Cx}(Z:X.calm=true)(hu:X.A.units+10 < cLine):JM X (.type "dict") (λxs H Q=>∃(p:Addr) (ys:List V) (ps:List (List Key×Addr×V)),xs=[.ref p]/\SqL X.K H p ys/\ys.length=ps.length/\ps.length<=100000 /\
  (∀(j:Nat) (y:V),ys[j]?=some y->∃ kv t,ps[j]?=some kv/\y=.ref t/\SqT X.K H t [.ref kv.2.1,kv.2.2]/\H kv.2.1=some (.tup (kv.1.map kV)))/\∀ D,H D=none->Q (.ref D) (upd H D (.dT (ps.foldl (λa kv=>vV a kv.1 kv.2.2) [])))):=by
 intro R s σ H xs us Q I r h;obtain⟨p,ys,ps,rfl,hq,m,hz,S,q⟩:=h;obtain⟨u,rfl,ru⟩:=r.one;cases ru;obtain⟨B,T,⟨o,n,e,d,f,g⟩,_⟩:=I.list hq;obtain⟨oc,od,C,osl⟩:=o;dsimp only at d f g;subst d f g;obtain⟨U,rel,E⟩:=Qt I T m S;have i:B.toArray.size=U.length:=by rw[N2,<- T.length,m,rel.length]
 have hk:∀ x∈ps,H x.2.1=some (.tup (x.1.map kV)):=λx hx=>by
  obtain⟨j,W⟩:=List.mem_iff_getElem?.mp hx;have F:j < ys.length:=by rw[m];exact(L8.mp W).1
  obtain⟨kv,t,Y,_,_,e2⟩:=S j ys[j] (X9 F);rw[W] at Y;cases Y;exact e2
 refine YO (knd:=jJ X.prog X.w) (I.ok.hd Z) hu e i (λj v hv=>E j v (by simpa using hv)) (by rw[<- rel.length];exact hz) λh' tk hd b=>?_;have k:=jan (H:=H) rel hk (.nil:KT H ([]:List (List Key×V)) []);have G:=jdk (ps:=ps) (qs:=[]);have hsz:sizeLine=16777216:=by decide
 have l:=I.hok.fresh (M8 s.heap.objs.size);obtain⟨qo,es,ep,J,L,M,N,_,O⟩:=hd;refine⟨.ref s.heap.objs.size,_,I.laid (a:=s.heap.objs.size) (o:=.dT (ps.foldl (λa kv=>vV a kv.1 kv.2.2) [])) (t':=tk) b (M8 _) ⟨by simp at G;lia,U1.mpr (Ne.symm (N5 I.big)),_,k.keeps λc zs P=>?_,qo,es,ep,J,L,M,N,O⟩,rfl,q _ l⟩;rw[jf (λz=>by rw[z,l] at P;cases P)];exact P
end L2
namespace PySem
open PySem.W PyProof.Rows PySem.Calls
noncomputable def kEv{α:Type}(lt:Nat->Nat->Bool):KasT α->α
 | .ret a=>a
 | .ask i j k=>kEv lt (k (lt i j))
def kOk{α:Type}(lt:Nat->Nat->Bool)(n:Nat):KasT α->Prop
 | .ret _=>True
 | .ask i j k=>i < n/\j < n/\kOk lt n (k (lt i j))
theorem qA:∀ t:KasT α,kEv lt (t.bind f)=kEv lt (f (kEv lt t))
 | .ret a=>rfl
 | .ask i j k=>qA (k (lt i j))
theorem qm:∀ t:KasT α,kOk lt n t->kOk lt n (f (kEv lt t))->kOk lt n (t.bind f)
 | .ret a,_,h=>h
 | .ask i j k,b,c=>⟨b.1,b.2.1,qm (k (lt i j)) b.2.2 c⟩
theorem jec(c:∀ i j C,i < n->j < n->C (lt i j) s->cmp i j C s):∀ t:KasT α,kOk lt n t->Q (kEv lt t) s->t.kasWp cmp Q s
 | .ret a,_,h=>h
 | .ask i j k,b,h=>c i j _ b.1 b.2.1 (jec c (k (lt i j)) b.2.2 h)
def Pm(n:Nat)(p:Array Nat):Prop:=p.toList.Perm (List.range n)
theorem Pm.lt(h:Pm n p)(a:0 < n)(i:Nat):p.getD i 0 < n:=by
 by_cases hi:i < p.size
 ·have e:p.getD i 0=p[i]:=by simp[Array.getD,hi]
  rw[e];have b:p[i]∈p.toList:=by simp
  exact List.mem_range.mp (h.mem_iff.mp b)
 ·have e:p.getD i 0=0:=by simp[Array.getD,hi]
  rw[e];exact a
theorem Pm.swap(h:Pm n p)(i j:Nat):Pm n (p.swapIfInBounds i j):=by
 unfold Pm at *;refine List.Perm.trans ?_ h;rw[Array.swapIfInBounds_def];split
 ·split
  ·exact(Array.perm_iff_toList_perm.mp (Array.swap_perm _ _))
  ·exact List.Perm.refl _
 ·exact List.Perm.refl _
theorem Pm.swaps(u v:Nat->Nat):∀(l:List Nat) {p:Array Nat},Pm n p->Pm n (l.foldl (λa k=>a.swapIfInBounds (u k) (v k)) p)
 | [],_,h=>h
 | k::l,p,h=>Pm.swaps u v l (h.swap _ _)
theorem Pm.rev(h:Pm n p)(i j:Nat):Pm n (kas_rev p i j):=Pm.swaps _ _ _ h
theorem Pm.bub(h:Pm n p)(k m:Nat):Pm n (bubble p k m):=Pm.swaps _ _ _ h
section
variable {lt:Nat->Nat->Bool}{n:Nat}
theorem jbP(a:0 < n)  (h:Pm n p):∀ f m,kOk lt n (kas_asc p f m)
 | 0,_=>trivial
 | f+1,m=>by
  refine⟨h.lt a _,h.lt a _,?_⟩;dsimp only;split
  ·trivial
  ·exact jbP a h f (m+1)
theorem KC(d:0 < n):∀(f:Nat) {p:Array Nat}(m q:Nat),Pm n p->kOk lt n (kas_desc f p m q)/\Pm n (kEv lt (kas_desc f p m q)).1
 | 0,_,_,_,h=>⟨trivial,h⟩
 | f+1,p,m,q,h=>by
  have a:=h.lt d;cases hc:lt (p.getD m 0) (p.getD (m - 1) 0) with
  | true =>
   by_cases e:q > 0
   ·have c:=KC d f (p:=kas_rev p (m - (q+1)) m) (m+1) 0 (h.rev _ _);have b:0 < q:=e;simp only[kas_desc,kOk,kEv,hc,if_true,gt_iff_lt,b,a,true_and];exact c
   ·have c:=KC d f (p:=p) (m+1) 0 h;have b:¬ 0 < q:=e;simp only[kas_desc,kOk,kEv,hc,if_true,gt_iff_lt,b,if_false,a,true_and];exact c
  | false =>
   cases hd:lt (p.getD (m - 1) 0) (p.getD m 0) with
   | true =>
    simp only[kas_desc,kOk,kEv,hc,hd,if_true,Bool.false_eq_true,if_false,a,true_and];exact h
   | false =>
    have c:=KC d f (p:=p) (m+1) (q+1) h;simp only[kas_desc,kOk,kEv,hc,hd,Bool.false_eq_true,if_false,a,true_and];exact c
theorem Yg(a:0 < n)  (h:Pm n p) (m k:Nat):kOk lt n (kas_tail3 m k p)/\Pm n (kEv lt (kas_tail3 m k p)).2:=by
 unfold kas_tail3;exact⟨qm _ (jbP a (h.rev _ _) _ _) trivial,by rw[qA];exact h.rev _ _⟩
theorem kB(a:0 < n)  (h:Pm n p) (m k:Nat):kOk lt n (kas_descPart m k p)/\Pm n (kEv lt (kas_descPart m k p)).2:=by
 unfold kas_descPart;have hd:=KC (lt:=lt) a (k - (m+1)) (p:=p) (m+1) 0 h;refine⟨qm _ hd.1 ?_,?_⟩
 ·split
  ·exact(Yg a (hd.2.rev _ _) _ _).1
  ·exact(Yg a hd.2 _ _).1
 ·rw[qA];split
  ·exact(Yg a (hd.2.rev _ _) _ _).2
  ·exact(Yg a hd.2 _ _).2
theorem jdG(a:0 < n)  (h:Pm n p) (k:Nat):kOk lt n (kas_count k p)/\Pm n (kEv lt (kas_count k p)).2:=by
 unfold kas_count;have b:=jbP (lt:=lt) a h (k - 1) 1;refine⟨qm _ b ?_,?_⟩
 ·generalize kEv lt (kas_asc p (k - 1) 1)=m;split
  ·trivial
  ·split
   ·refine⟨h.lt a _,h.lt a _,?_⟩;dsimp only;split
    ·trivial
    ·exact(kB a (h.rev _ _) _ _).1
   ·exact(kB a h _ _).1
 ·rw[qA];generalize kEv lt (kas_asc p (k - 1) 1)=m;split
  ·exact h
  ·split
   ·dsimp only[kEv];split
    ·exact h
    ·exact(kB a (h.rev _ _) _ _).2
   ·exact(kB a h _ _).2
theorem Kj(a:0 < n)  (h:Pm n p) (k:Nat):∀ f l r,kOk lt n (kas_place p k f l r)
 | 0,_,_=>trivial
 | f+1,l,r=>by
  unfold kas_place;split
  ·trivial
  ·refine⟨h.lt a _,h.lt a _,?_⟩;dsimp only;split
   ·exact Kj a h k f _ _
   ·exact Kj a h k f _ _
theorem jaG(a:0 < n):∀(f:Nat) {p:Array Nat}(k:Nat),Pm n p->kOk lt n (kas_bin f p k)/\Pm n (kEv lt (kas_bin f p k))
 | 0,_,_,h=>⟨trivial,h⟩
 | f+1,p,k,h=>by
  unfold kas_bin;have c:=Kj (lt:=lt) a h k k 0 k;have b:=jaG a f (p:=bubble p k (k - kEv lt (kas_place p k k 0 k))) (k+1) (h.bub _ _);exact⟨qm _ c b.1,by rw[qA];exact b.2⟩
theorem zx(b:0 < n):kOk lt n (kas_sort n)/\Pm n (kEv lt (kas_sort n)):=by
 unfold kas_sort;have c:Pm n (List.toArray (List.range n)):=List.Perm.refl _;have a:=jdG (lt:=lt) b c n;refine⟨qm _ a.1 ?_,?_⟩
 ·split
  ·exact(jaG b _ _ a.2).1
  ·trivial
 ·rw[qA];split
  ·exact(jaG b _ _ a.2).2
  ·exact a.2
end
end PySem
set_option maxHeartbeats 4000000
namespace PySem
open PySem.W PyProof.Rows PySem.Calls
def Vn{α:Type}(lt:Nat->Nat->Bool)(vs:List α)(d:α):List α:=if vs.length < 2 then vs else(kEv lt (kas_sort vs.length)).toList.map λi=>vs.getD i d
theorem xC(lt:Nat->Nat->Bool)(vs:List α)(d:α):(Vn lt vs d).length=vs.length:=by
 unfold Vn;split
 ·rfl
 ·rename_i h;rw[L0];have:=((zx (lt:=lt) (n:=vs.length) (by lia)).2).length_eq;rw[this,List.length_range]
theorem KZ(m:s.heap.get? a=some (seqObj "list" vs.toArray n))(r:vs.length < 64)
  (I:2<=vs.length->∀ s':Shared,(∀ b o,b≠a->s.heap.get? b=some o->s'.heap.get? b=some o)->∀{Q:SortKind->Shared->Prop},Q κ s'->wpAny (model prog w) A (keyKind' vs.toArray) Q (λ_ _=>False) s')
  (t:∀ s':Shared,(∀ b o,b≠a->s.heap.get? b=some o->s'.heap.get? b=some o)->∀ i j,i < vs.length->j < vs.length->∀{C:Bool->Shared->Prop},C (lt i j) s'->wpAny (model prog w) A (keyLt' κ (vs.getD i Value.none) (vs.getD j Value.none)) C (λ_ _=>False) s')
  (h:P (.done (.ret .none)) { s with heap:=sortedHeap s.heap a vs (Vn lt vs Value.none).toArray }) :
  wpAny (model prog w) A (Builtin.«list.sort» ⟨[.ref a],[]⟩) P E s:=by
 rw[list_sort_plain];have F:a < s.heap.objs.size:=N0 m;refine L1 (listItems_at m rfl ?_);refine L1 (listUpdate_at m rfl ?_);obtain⟨u,g⟩:∃ u,(s.heap.update a (Obj.mapSeq λ_=>#[])).get? a=some (seqObj "list" #[] u):=⟨_,get?_update_seq m (λ_=>#[])⟩;refine L1 (seqEpoch_at g rfl ?_);refine L1 (wpAny_newTuple ?_);refine L1 (wpAny_newList ?_);refine wpAny_holding ?_;have d:(((s.heap.update a (Obj.mapSeq λ_=>#[])).push (seqObj "tuple" vs.toArray 0)).push (seqObj "list" #[] 0)).get? a=some (seqObj "list" #[] u):=by
  rw[Heap.get?_push_ne _ _ _ (by rw[size_push',Heap.size_update];exact N5 (Nat.lt_succ_of_lt F)),Heap.get?_push_ne _ _ _ (by rw[Heap.size_update];exact N5 F)];exact g
 have keep:∀ b o,b≠a->s.heap.get? b=some o->(((s.heap.update a (Obj.mapSeq λ_=>#[])).push (seqObj "tuple" vs.toArray 0)).push (seqObj "list" #[] 0)).get? b=some o:=λb o J e =>
  L7 _ (L7 _ (by rw[Heap.get?_update_ne _ _ _ _ J];exact e))
 show wpAny (model prog w) A _ P E { s with heap:=((s.heap.update a (Obj.mapSeq λ_=>#[])).push (seqObj "tuple" vs.toArray 0)).push (seqObj "list" #[] 0) };dsimp only;have v:vs.toArray.size=vs.length:=by simp
 by_cases q:vs.toArray.size < 2
 ·have c:Vn lt vs Value.none=vs:=by unfold Vn;rw[if_pos (by lia)]
  rw[c] at h;rw[if_pos q,if_pos q];refine L1 (M6 ?_);rw[StateT.run_pure];refine L1 (M6 ?_);dsimp only;have K:(arrOf (SortSt.mk' general' (vs.toArray.zip vs.toArray) #[] 7 none)).map (·.2)=vs.toArray:=by
   show(vs.toArray.zip vs.toArray).map (·.2)=vs.toArray;apply Array.toList_inj.mp;simp;exact List.map_snd_zip (M8 _)
  rw[K];refine L1 (seqEpoch_at d rfl ?_);refine L1 (listUpdate_at d rfl ?_ (hsz2:=by show vs.toArray.size<=_;rw[v,sizeLine_eq];lia));simp only[bne_self_eq_false,Bool.false_eq_true,if_false];exact M6 h
 ·have k:2<=vs.length:=by lia
  have c:Vn lt vs Value.none=(kEv lt (kas_sort vs.length)).toList.map λi=>vs.getD i Value.none:=by unfold Vn;rw[if_neg (by lia)]
  rw[if_neg q,if_neg q];refine L1 (wpAny_mono (I k { s with heap:=((s.heap.update a (Obj.mapSeq λ_=>#[])).push (seqObj "tuple" vs.toArray 0)).push (seqObj "list" #[] 0) } keep (Q:=λy s0=>y=κ/\s0={ s with heap:=((s.heap.update a (Obj.mapSeq λ_=>#[])).push (seqObj "tuple" vs.toArray 0)).push (seqObj "list" #[] 0) }) ⟨rfl,rfl⟩) ?_ λ_ _ x=>x.elim);rintro y s0 ⟨rfl,rfl⟩;have z:=zx (lt:=lt) (n:=vs.length) (by lia);have l:=kat_run (prog:=prog) (w:=w) (A:=A) (E:=E) (κ:=y) (ks:=vs) (vs:=vs) (s:={ s with heap:=((s.heap.update a (Obj.mapSeq λ_=>#[])).push (seqObj "tuple" vs.toArray 0)).push (seqObj "list" #[] 0) })
   (Q:=λf s'=>s'={ s with heap:=((s.heap.update a (Obj.mapSeq λ_=>#[])).push (seqObj "tuple" vs.toArray 0)).push (seqObj "list" #[] 0) }/\arrOf f=(kEv lt (kas_sort vs.length)).map (kas_item (vs.toArray.zip vs.toArray))/\failedOf f=none)
   (G:=λp s'=>p=kEv lt (kas_sort vs.length)/\s'={ s with heap:=((s.heap.update a (Obj.mapSeq λ_=>#[])).push (seqObj "tuple" vs.toArray 0)).push (seqObj "list" #[] 0) })
   rfl k r (λp f s' S L M H=>⟨H.2,by rw[<- H.1];exact L,M⟩)
   (jec (n:=vs.length) (λi j C hi N O=>t { s with heap:=((s.heap.update a (Obj.mapSeq λ_=>#[])).push (seqObj "tuple" vs.toArray 0)).push (seqObj "list" #[] 0) } keep i j hi N O) _ z.1 ⟨rfl,rfl⟩)
  refine L1 (wpAny_mono l ?_ λ_ _ e=>e);rintro⟨⟨⟩,f⟩ s' ⟨rfl,B,R⟩;dsimp only;have D:=kat_snds (vs:=vs) (ks:=vs) rfl B;rw[D,<- c];refine L1 (seqEpoch_at d rfl ?_);refine L1 (listUpdate_at d rfl ?_ (hsz2:=by show(Vn lt vs Value.none).toArray.size<=_;rw[N2,xC,sizeLine_eq];lia));rw[R];simp only[bne_self_eq_false,Bool.false_eq_true,if_false];exact M6 h
theorem Vp(u:s.heap.IsList l vs.toArray)(n:vs.length < 64)
  (v:2<=vs.length->∀(A':Around) (s':Shared),(∀ b o,s.heap.get? b=some o->s'.heap.get? b=some o)->∀{Q:SortKind->Shared->Prop},Q κ s'->wpAny (model prog w) A' (keyKind' vs.toArray) Q (λ_ _=>False) s')
  (a:∀(A':Around) (s':Shared),(∀ b o,s.heap.get? b=some o->s'.heap.get? b=some o)->∀ i j,i < vs.length->j < vs.length->∀{C:Bool->Shared->Prop},C (lt i j) s'->wpAny (model prog w) A' (keyLt' κ (vs.getD i Value.none) (vs.getD j Value.none)) C (λ_ _=>False) s')
  (h:∀ h' c,(∀ b o,s.heap.get? b=some o->h'.get? b=some o)->h'.get? (s.heap.objs.size+1)=some (seqObj "list" (Vn lt vs Value.none).toArray c)->Q (.ref (s.heap.objs.size+1)) { s with heap:=h' }) :
  wpAny (model prog w) A (call (.builtin "sorted") [.ref l]) Q E s:=by
 refine Calls.call_function_entry kind_sorted plain_sorted entry_sorted (args_sorted1 _) ?_;unfold Builtin.«sorted»;refine L1 (m:=checkCount "sorted" 1 1 _) (M6 ?_);refine L1 (collect_list u ?_ (by rw[sizeLine_eq];lia));refine L1 (wpAny_newList ?_ (by rw[sizeLine_eq];lia));have e:((s.heap.push (seqObj "list" #[] 0)).update s.heap.objs.size (Obj.mapSeq (·++vs.toArray))).objs.size=s.heap.objs.size+1:=by
  rw[Heap.size_update,size_push']
 have f:(((s.heap.push (seqObj "list" #[] 0)).update s.heap.objs.size (Obj.mapSeq (·++vs.toArray))).push (seqObj "list" vs.toArray 0)).get? (s.heap.objs.size+1)=some (seqObj "list" vs.toArray 0):=by
  rw[<- e];exact E4 _ rfl
 have keep:∀ b o,s.heap.get? b=some o->(((s.heap.push (seqObj "list" #[] 0)).update s.heap.objs.size (Obj.mapSeq (·++vs.toArray))).push (seqObj "list" vs.toArray 0)).get? b=some o:=λb o q=>by
  have a:b < s.heap.objs.size:=N0 q;rw[Heap.get?_push_ne _ _ _ (by rw[e];exact N5 (Nat.lt_succ_of_lt a)),Heap.get?_update_ne _ _ _ _ (N5 a),Heap.get?_push_ne _ _ _ (N5 a)];exact q
 show wpAny _ _ _ _ _ { s with heap:=((s.heap.push (seqObj "list" #[] 0)).update s.heap.objs.size (Obj.mapSeq (·++vs.toArray))).push (seqObj "list" vs.toArray 0) };rw[e];have d:∀{s':Shared},(∀ b o,b≠s.heap.objs.size+1->(((s.heap.push (seqObj "list" #[] 0)).update s.heap.objs.size (Obj.mapSeq (·++vs.toArray))).push (seqObj "list" vs.toArray 0)).get? b=some o->s'.heap.get? b=some o)->∀ b o,s.heap.get? b=some o->s'.heap.get? b=some o:=λk b o q =>
  k b o (N5 (Nat.lt_succ_of_lt (N0 q))) (keep b o q)
 refine L1 (wpAny_holding (wpAny_call_entry slot_list_sort ⟨_,f,rfl⟩ entry_list_sort ?body (args_list_sort _)))
 case body =>
  refine KZ (lt:=lt) (κ:=κ) (s:={ s with heap:=((s.heap.push (seqObj "list" #[] 0)).update s.heap.objs.size (Obj.mapSeq (·++vs.toArray))).push (seqObj "list" vs.toArray 0) }) f n (λx s' k=>v x _ s' (d k)) (λs' k=>a _ s' (d k)) ?_;have g:∃ c,(sortedHeap (((s.heap.push (seqObj "list" #[] 0)).update s.heap.objs.size (Obj.mapSeq (·++vs.toArray))).push (seqObj "list" vs.toArray 0)) (s.heap.objs.size+1) vs (Vn lt vs Value.none).toArray).get? (s.heap.objs.size+1)=some (seqObj "list" (Vn lt vs Value.none).toArray c):=by
   obtain⟨r,p⟩:∃ r,((((s.heap.push (seqObj "list" #[] 0)).update s.heap.objs.size (Obj.mapSeq (·++vs.toArray))).push (seqObj "list" vs.toArray 0)).update (s.heap.objs.size+1) (Obj.mapSeq λ_=>#[])).get? (s.heap.objs.size+1)=some (seqObj "list" #[] r):=⟨_,get?_update_seq f (λ_=>#[])⟩;exact⟨_,get?_update_seq (L7 _ (L7 _ p)) λ_=>(Vn lt vs Value.none).toArray⟩
  obtain⟨c,y⟩:=g;refine⟨_,rfl,M6 ⟨_,rfl,h _ c (λb o q=>?_) y⟩⟩;have t:b≠s.heap.objs.size+1:=N5 (Nat.lt_succ_of_lt (N0 q));show(Heap.update _ _ _).get? b=some o;rw[Heap.get?_update_ne _ _ _ _ t];exact L7 _ (L7 _ (by rw[Heap.get?_update_ne _ _ _ _ t];exact keep b o q))
noncomputable abbrev u6:=Str×Str×Int
noncomputable def Qm(x y:u6):Bool:=if x.1=y.1 then(if x.2.1=y.2.1 then decide (x.2.2 < y.2.2) else decide (x.2.1.cps.toList < y.2.1.cps.toList)) else decide (x.1.cps.toList < y.1.cps.toList)
def um(h:Heap)(v:Value)(r:u6):Prop:=∃(a:Addr) (o:Obj) (m:Nat) (t1 t2 t3:Tok),v=.ref a/\h.get? a=some o/\o.cls=.type "tuple"/\o.data=.seq #[.str r.1 t1,.str r.2.1 t2,.int r.2.2 t3] m
theorem jh4(d:um s.heap v x)(e:um s.heap u y)  (h:C (Qm x y) s):wpAny (model prog w) A (keyLt' (tuples' true) v u) C E s:=by
 obtain⟨a,o,m,t1,f,g,rfl,i,r,j⟩:=d;obtain⟨b,t,z,k,l,n,rfl,p,B,q⟩:=e;refine kat_lt i j p q ?_;show KatLex prog w A true _ C [(.str x.1 t1,.str y.1 k),(.str x.2.1 f,.str y.2.1 l),(.int x.2.2 g,.int y.2.2 n)] 0 s;unfold Qm at h;refine kat_cons (wpAny_eqBool_str ?_);by_cases c:x.1=y.1
 ·rw[if_pos c] at h;rw[X4 c];refine kat_yes (kat_cons (wpAny_eqBool_str ?_));by_cases e2:x.2.1=y.2.1
  ·rw[if_pos e2] at h;rw[X4 e2];refine kat_yes (kat_cons (wpAny_eqBool_int ?_));by_cases e3:x.2.2=y.2.2
   ·rw[show(x.2.2==y.2.2)=true by simp[e3]];refine kat_yes (kat_nil ?_);have:decide (x.2.2 < y.2.2)=decide (3 < 3):=by rw[e3];simp
    rw[this] at h;exact h
   ·rw[show(x.2.2==y.2.2)=false by simp[e3]];exact kat_no (kat_one _ _ (wpAny_lt_int h))
  ·rw[if_neg e2] at h;rw[X5 e2];exact kat_no (kat_one _ _ (lt_str h))
 ·rw[if_neg c] at h;rw[X5 c];exact kat_no (oneLt_str h)
theorem uQ{A:Around}{E:Value->Shared->Prop}{s:Shared}{vs:List Value}{rs:List u6}(c:vs.length=rs.length)(b:∀(j:Nat) (v:Value),vs[j]?=some v->∃ r,rs[j]?=some r/\um s.heap v r)(u:0 < vs.length){Q:SortKind->Shared->Prop}(h:Q (tuples' true) s):wpAny (model prog w) A (keyKind' vs.toArray) Q E s:=by
 have d:∀(vs:List Value) (rs:List u6),vs.length=rs.length->(∀(j:Nat) (v:Value),vs[j]?=some v->∃ r,rs[j]?=some r/\um s.heap v r)->∃ fs:List Value,KatTups s.heap vs fs/\fs.length=vs.length/\∀ v∈fs,∃ x t,v=Value.str x t:=by
  intro vs
  induction vs with
  | nil=>intro rs _ _;exact⟨[],KatTups.nil,rfl,λv b=>(nomatch b)⟩
  | cons v vs g =>
   intro rs c b;cases rs with
   | nil=>simp at c
   | cons r rs =>
    obtain⟨fs,k,l,f⟩:=g rs (by simpa using c) λj v e=>b (j+1) v (by simpa using e);obtain⟨i,e,a,o,m,t1,y,z,rfl,n,p,q⟩:=b 0 v rfl;refine⟨.str i.1 t1::fs,KatTups.cons n p q rfl k,by simp[l],λv b=>?_⟩;rcases M4.mp b with rfl | b
    ·exact⟨_,_,rfl⟩
    ·exact f v b
 obtain⟨fs,k,l,f⟩:=d vs rs c b;refine kat_kind (T:=.type "str") k (by lia) (λv b=>?_) (by rfl) h;obtain⟨x,t,rfl⟩:=f v b;exact Looks.of_pure rfl
theorem J3{A:Around}{E:Value->Shared->Prop}{s:Shared}{vs:List Value}{rs:List u6}{Q:Value->Shared->Prop}(x:s.heap.IsList l vs.toArray)(n:vs.length < 64)(g:vs.length=rs.length)(y:∀(j:Nat) (v:Value),vs[j]?=some v->∃ r,rs[j]?=some r/\um s.heap v r)
  (h:∀ h' c,(∀ b o,s.heap.get? b=some o->h'.get? b=some o)->h'.get? (s.heap.objs.size+1)=some (seqObj "list" (Vn (λi j=>Qm (rs.getD i ("","",0)) (rs.getD j ("","",0))) vs Value.none).toArray c)->Q (.ref (s.heap.objs.size+1)) { s with heap:=h' }) :
  wpAny (model prog w) A (call (.builtin "sorted") [.ref l]) Q E s:=by
 have p:∀(d:Shared),(∀ b o,s.heap.get? b=some o->d.heap.get? b=some o)->∀(j:Nat) (v:Value),vs[j]?=some v->∃ r,rs[j]?=some r/\um d.heap v r:=λd f j v k=>by
  obtain⟨r,e,a,o,m,t1,z,B,q,D,t,F⟩:=y j v k;exact⟨r,e,a,o,m,t1,z,B,q,f a o D,t,F⟩
 refine Vp (κ:=tuples' true) x n (λt G d f Q H=>uQ g (p d f) (by lia) H) (λG d f i j hi k C u=>?_) h;obtain⟨I,q,J⟩:=p d f i _ (X9 hi);obtain⟨K,e2,L⟩:=p d f j _ (X9 k);have M:vs.getD i Value.none=vs[i]:=by simp[hi]
 have N:vs.getD j Value.none=vs[j]:=by simp[k]
 rw[M,N];refine jh4 J L ?_;have O:rs.getD i ("","",0)=I:=by rw[List.getD_eq_getElem?_getD,q];rfl
 have P:rs.getD j ("","",0)=K:=by rw[List.getD_eq_getElem?_getD,e2];rfl
 rw[O,P] at u;exact u
end PySem
namespace PySem
open Sem (wp)
end PySem
namespace L2
open PySem PySem.Spec PyProof.Rows
end L2
set_option maxHeartbeats 1000000
namespace PySem
namespace F
theorem typeCall_zip_3(a b c:Value):checkTypeCall "zip" ⟨[a,b,c],[]⟩=pure ():=by kernel_rfl
theorem newCall_zip_3(a b c:Value):checkBuiltinCall "zip.__new__" ⟨[.type "zip",a,b,c],[]⟩=pure ():=by kernel_rfl
end F
end PySem
namespace L2
open PySem PySem.Spec PyProof.Rows
abbrev vI(h:Heap)(T:Addr)(a b c:Value):Prop:=h.get? T=some { cls:=.type "tuple",data:=.seq #[a,b,c] }
structure Z3(z TI TO j1 j2 j3 t l m:Addr):Prop where
 TIz:TI≠z
 TOz:TO≠z
 j1z:j1≠z
 j2z:j2≠z
 j3z:j3≠z
 TITO:TI≠TO
 TIj1:TI≠j1
 TIj2:TI≠j2
 TIj3:TI≠j3
 TOj1:TO≠j1
 TOj2:TO≠j2
 TOj3:TO≠j3
 j12:j1≠j2
 j13:j1≠j3
 j23:j2≠j3
 out:∀ x,x=t \/ x=l \/ x=m->x≠z/\x≠TO/\x≠j1/\x≠j2/\x≠j3
section
variable {prog:Program}{w:World}{A:Around}{E:Value->Shared->Prop}{s:Shared}
theorem zS(d:vI s.heap T a b c)
  (h:∀ h',h'.get? T=some { cls:=.type "tuple",data:=.seq ((#[a,b,c]:Array Value).setIfInBounds k x) }->Heap.SameBut T s.heap h'->Q () { s with heap:=h' }):wpAny (model prog w) A (updateSeq T (·.setIfInBounds k x)) Q E s:=by
 refine wpAny_updateSeq d rfl (h _ (by rw[Heap.get?_update_self _ d rfl];simp[Obj.mapSeq]) (Heap.SameBut.update ..))
variable {z TI TO j1 j2 j3 t l m:Addr}{n:Nat}{ts us vs:Array Value}{x u v a b c:Value}
theorem je7{C:Value->Shared->Prop}(D:Z3 z TI TO j1 j2 j3 t l m)(y:IsZip s.heap z TI TO .none)(qI:vI s.heap TI (.ref j1) (.ref j2) (.ref j3))(qO:vI s.heap TO a b c)
  (q1:s.heap.IsTupleIter j1 t n) (q2:s.heap.IsListIter j2 l n) (q3:s.heap.IsListIter j3 m n) (w1:s.heap.IsTuple t ts) (w2:s.heap.IsList l us) (w3:s.heap.IsList m vs) (ex:ts[n]?=some x) (eu:us[n]?=some u) (ev:vs[n]?=some v)
  (go:∀ k,IsZip k z TI TO (rawInt s.heap.objs.size)->vI k TO x u v->k.IsTupleIter j1 t (n+1)->k.IsListIter j2 l (n+1)->k.IsListIter j3 m (n+1)->vI k s.heap.objs.size x u v ->
   (∀ c o,c≠z->c≠TO->c≠j1->c≠j2->c≠j3->s.heap.get? c=some o->k.get? c=some o)->C (.ref s.heap.objs.size) { s with heap:=k }) :
  wpAny (model prog w) A (Builtin.«zip.__next__» ⟨[.ref z],[]⟩) (λfin s'=>∃ v,fin=.done (.ret v)/\C v s') E s:=by
 have nt:=D.out t (.inl rfl);have J:=D.out l (.inr (.inl rfl));have nm:=D.out m (.inr (.inr rfl));refine(show wpAny (model prog w) A (field (.ref z) 2 >>= _) _ _ _ from L1 (U5 y rfl (x:=.bool false) rfl ?_));refine(show wpAny (model prog w) A (field (.ref z) 3 >>= _) _ _ _ from L1 (U5 y rfl (x:=.ref TI) rfl (L1 (wpAny_seqItems qI rfl ?_))));refine(show wpAny (model prog w) A (Builtin.SmallTypes.ownedTupleIsFree (.ref z) >>= _) _ _ _ from L1 ?_);delta Builtin.SmallTypes.ownedTupleIsFree;refine L1 (U5 y rfl (x:=.none) rfl (M6 ?_));simp only[if_true];refine L1 (wpAny_rule (L1 (U5 y rfl (x:=.ref TO) rfl (L1 (wpAny_setField_rec y (by simp) λK L f=>?_)))));replace L:IsZip K z TI TO .ellipsis:=L;replace f:Heap.SameBut z s.heap K:=f;refine L1 ?_;simp only[List.forIn_cons,List.forIn_nil,List.zipIdx_cons,List.zipIdx_nil];refine L1<|L1<|wpAny_onRaise (show wpAny _ _ (Builtin.SmallTypes.nextOf (.ref j1) >>= _) _ _ _ from L1 (jdL (q1.extBut f.extBut D.j1z) (w1.extBut f.extBut nt.1) ex λM p1 g=>M6 ?_))
 replace g:Heap.SameBut j1 K M:=g;have o2:vI M TO a b c:=g.extBut _ _ D.TOj1 (f.extBut _ _ D.TOz qO);refine L1 (wpAny_seqItems o2 rfl (L1 (zS o2 λN O h=>?_)));replace O:vI N TO x b c:=O;replace h:Heap.SameBut TO M N:=h;refine L1 (wpAny_letGo (M6 (L1 (L1 (wpAny_onRaise ?_)))));refine(show wpAny _ _ (Builtin.SmallTypes.nextOf (.ref j2) >>= _) _ _ _ from L1 (wpAny_nextOf_list_item (((q2.extBut f.extBut D.j2z).extBut g.extBut D.j12.symm).extBut h.extBut D.TOj2.symm) (((w2.extBut f.extBut J.1).extBut g.extBut J.2.2.1).extBut h.extBut J.2.1) eu λP p2 i=>M6 ?_));replace i:Heap.SameBut j2 N P:=i;have o4:vI P TO x b c:=i.extBut _ _ D.TOj2 O;refine L1 (wpAny_seqItems o4 rfl (L1 (zS o4 λQ R j=>?_)));replace R:vI Q TO x u c:=R;replace j:Heap.SameBut TO P Q:=j;refine L1 (wpAny_letGo (M6 (L1 (L1 (wpAny_onRaise ?_)))));refine(show wpAny _ _ (Builtin.SmallTypes.nextOf (.ref j3) >>= _) _ _ _ from L1 (wpAny_nextOf_list_item (((((q3.extBut f.extBut D.j3z).extBut g.extBut D.j13.symm).extBut h.extBut D.TOj3.symm).extBut i.extBut D.j23.symm).extBut j.extBut D.TOj3.symm) (((((w3.extBut f.extBut nm.1).extBut g.extBut nm.2.2.1).extBut h.extBut nm.2.1).extBut i.extBut nm.2.2.2.1).extBut j.extBut nm.2.1) ev λS p3 p=>M6 ?_));replace p:Heap.SameBut j3 Q S:=p;have o6:vI S TO x u c:=p.extBut _ _ D.TOj3 R;refine L1 (wpAny_seqItems o6 rfl (L1 (zS o6 λd G q=>?_)));replace G:vI d TO x u v:=G;replace q:Heap.SameBut TO S d:=q;refine L1 (wpAny_letGo (M6 (M6 (L1 (wpAny_seqItems G rfl (L1 (wpAny_newTuple ?_)))))));have es:d.objs.size=s.heap.objs.size:=by rw[q.1,p.1,j.1,i.1,h.1,g.1,f.1]
 have z7:IsZip d z TI TO .ellipsis:=q.extBut _ _ D.TOz.symm (p.extBut _ _ D.j3z.symm (j.extBut _ _ D.TOz.symm (i.extBut _ _ D.j2z.symm (h.extBut _ _ D.TOz.symm (g.extBut _ _ D.j1z.symm L)))));have kp:∀ c o,c≠z->c≠TO->c≠j1->c≠j2->c≠j3->s.heap.get? c=some o->d.get? c=some o:=λc o r B T U V e=>q.extBut _ _ B (p.extBut _ _ V (j.extBut _ _ B (i.extBut _ _ U (h.extBut _ _ B (g.extBut _ _ T (f.extBut _ _ r e))))));have W:d.IsTupleIter j1 t (n+1):=((((p1.extBut h.extBut D.TOj1.symm).extBut i.extBut D.j12).extBut j.extBut D.TOj1.symm).extBut p.extBut D.j13).extBut q.extBut D.TOj1.symm;have X:d.IsListIter j2 l (n+1):=((p2.extBut j.extBut D.TOj2.symm).extBut p.extBut D.j23).extBut q.extBut D.TOj2.symm;have Y:d.IsListIter j3 m (n+1):=p3.extBut q.extBut D.TOj3.symm;have zl:z < d.objs.size:=N0 z7;refine(show wpAny (model prog w) A (Builtin.SmallTypes.ownedTupleHandOut (.ref z) (.ref d.objs.size) >>= _) _ _ _ from L1 ?_);delta Builtin.SmallTypes.ownedTupleHandOut;have z8:IsZip (d.push { cls:=.type "tuple",data:=.seq #[x,u,v] }) z TI TO .ellipsis:=L7 _ z7;refine L1 (wpAny_setField_rec z8 (by simp) λk9 Z b9=>?_);replace Z:IsZip k9 z TI TO (rawInt d.objs.size):=Z;refine wpAny_setField_rec Z (by simp) λH I bA=>?_;replace I:IsZip H z TI TO (rawInt d.objs.size):=I;have F:∀ c o,c≠z->d.get? c=some o->H.get? c=some o:=λc o r e=>bA.extBut _ _ r (b9.extBut _ _ r (L7 _ e));have tA:vI H d.objs.size x u v:=bA.extBut _ _ (Nat.ne_of_gt zl) (b9.extBut _ _ (Nat.ne_of_gt zl) (E4 _ rfl));rw[es] at I tA;refine M6 ⟨_,rfl,?_⟩;show C (.ref d.objs.size) _;rw[es];obtain⟨x1,y1,r1⟩:=W;obtain⟨x2,y2,r2⟩:=X;obtain⟨x3,y3,r3⟩:=Y;exact go H I (F _ _ D.TOz G) ⟨x1,F _ _ D.j1z y1,r1⟩ ⟨x2,F _ _ D.j2z y2,r2⟩ ⟨x3,F _ _ D.j3z y3,r3⟩ tA λc o r B T U V e=>F c o r (kp c o r B T U V e)
theorem jhO{C:PySem.Fin->Shared->Prop}(r:A.handled=none)(D:Z3 z TI TO j1 j2 j3 t l m)(a:IsZip s.heap z TI TO .none)(qI:vI s.heap TI (.ref j1) (.ref j2) (.ref j3))
  (u:s.heap.IsTupleIter j1 t n) (v:s.heap.IsTuple t ts) (ex:ts[n]?=none)
  (go:∀ k e,(∀ c o,c≠z->c≠TO->c≠j1->c≠j2->c≠j3->s.heap.get? c=some o->k.get? c=some o)->(∃ o,k.get? e=some o/\o.cls=.type "StopIteration")->E (.ref e) { s with heap:=k }) :
  wpAny (model prog w) A (Builtin.«zip.__next__» ⟨[.ref z],[]⟩) C E s:=by
 have y:=D.out t (.inl rfl);refine(show wpAny (model prog w) A (field (.ref z) 2 >>= _) _ _ _ from L1 (U5 a rfl (x:=.bool false) rfl ?_));refine(show wpAny (model prog w) A (field (.ref z) 3 >>= _) _ _ _ from L1 (U5 a rfl (x:=.ref TI) rfl (L1 (wpAny_seqItems qI rfl ?_))));refine(show wpAny (model prog w) A (Builtin.SmallTypes.ownedTupleIsFree (.ref z) >>= _) _ _ _ from L1 ?_);delta Builtin.SmallTypes.ownedTupleIsFree;refine L1 (U5 a rfl (x:=.none) rfl (M6 ?_));simp only[if_true];refine L1 (wpAny_rule (L1 (U5 a rfl (x:=.ref TO) rfl (L1 (wpAny_setField_rec a (by simp) λg d b=>?_)))));replace d:IsZip g z TI TO .ellipsis:=d;replace b:Heap.SameBut z s.heap g:=b;refine L1 ?_;simp only[List.forIn_cons,List.forIn_nil,List.zipIdx_cons,List.zipIdx_nil];refine L1<|L1<|wpAny_onRaise (show wpAny _ _ (Builtin.SmallTypes.nextOf (.ref j1) >>= _) _ _ _ from L1 (jfU r (u.extBut b.extBut D.j1z) (v.extBut b.extBut y.1) ex λB e h F=>?_))
 obtain⟨G,f,i⟩:=F;have j:IsZip B z TI TO .ellipsis:=h _ _ D.j1z.symm d;have ne:e≠z:=λx=>by subst x;rw[j] at f;cases f;simp at i
 exact wpAny_setField_rec j (by simp) λH _ p=>go H e (λc o q _ I _ _ x=>p.extBut _ _ q (h _ _ I (b.extBut _ _ q x))) ⟨G,p.extBut _ _ ne f,i⟩
theorem jep{C:Option Value->Shared->Prop}(D:Z3 z TI TO j1 j2 j3 t l m)(d:IsZip s.heap z TI TO .none)(qI:vI s.heap TI (.ref j1) (.ref j2) (.ref j3))(e:vI s.heap TO a b c)
  (f:s.heap.IsTupleIter j1 t n) (g:s.heap.IsListIter j2 l n) (h:s.heap.IsListIter j3 m n) (i:s.heap.IsTuple t ts) (j:s.heap.IsList l us) (p:s.heap.IsList m vs) (ex:ts[n]?=some x) (q:us[n]?=some u) (r:vs[n]?=some v)
  (go:∀ k,IsZip k z TI TO (rawInt s.heap.objs.size)->vI k TO x u v->k.IsTupleIter j1 t (n+1)->k.IsListIter j2 l (n+1)->k.IsListIter j3 m (n+1)->vI k s.heap.objs.size x u v ->
   (∀ c o,c≠z->c≠TO->c≠j1->c≠j2->c≠j3->s.heap.get? c=some o->k.get? c=some o)->C (some (.ref s.heap.objs.size)) { s with heap:=k }):wpAny (model prog w) A (pyNext (.ref z)) C E s:=by
 have ty:s.TypeIs (.ref z) "zip":=⟨_,d,rfl⟩;unfold pyNext;exact L1 (wpAny_attempt (wpAny_callSpecial?_slot (name:=Str.ofString "__next__") ty F.slot_zip_next (wpAny_call_entry F.slot_zip_next ty F.entry_zip_next
  (je7 D d qI e f g h i j p ex q r λk c1 y B G H I J=>M6 (go k c1 y B G H I J)) (F.args_zip_next_1 _))))
theorem jgj{C:Option Value->Shared->Prop}(d:A.handled=none)(D:Z3 z TI TO j1 j2 j3 t l m)(a:IsZip s.heap z TI TO .none)(qI:vI s.heap TI (.ref j1) (.ref j2) (.ref j3))
  (f:s.heap.IsTupleIter j1 t n) (g:s.heap.IsTuple t ts) (ex:ts[n]?=none)
  (go:∀ k,(∀ c o,c≠z->c≠TO->c≠j1->c≠j2->c≠j3->s.heap.get? c=some o->k.get? c=some o)->C none { s with heap:=k }):wpAny (model prog w) A (pyNext (.ref z)) C E s:=by
 have ty:s.TypeIs (.ref z) "zip":=⟨_,a,rfl⟩;unfold pyNext;refine L1 (wpAny_attempt (wpAny_callSpecial?_slot (name:=Str.ofString "__next__") ty F.slot_zip_next (wpAny_call_entry F.slot_zip_next ty F.entry_zip_next (jhO d D a qI f g ex λk e kp h=>?_) (F.args_zip_next_1 _))));obtain⟨o,i,j⟩:=h;exact L1 (wpAny_isInstance (T:="StopIteration") (b:=true) ⟨o,i,j⟩ isSubtype_stop (M6 (go _ kp)))
end
noncomputable abbrev z3A(h:Heap)(t:Addr):Heap:=h.push { cls:=.type "tuple_iterator",data:=.fields #[.ref t,.int 0 0] }
abbrev z3B(h:Heap)(t l:Addr):Heap:=(z3A h t).push { cls:=.type "list_iterator",data:=.fields #[.ref l,.int 0 0] }
abbrev z3C(h:Heap)(t l m:Addr):Heap:=(z3B h t l).push { cls:=.type "list_iterator",data:=.fields #[.ref m,.int 0 0] }
abbrev z3D(h:Heap)(t l m:Addr):Heap:=(z3C h t l m).push { cls:=.type "tuple",data:=.seq #[.ref h.objs.size,.ref (z3A h t).objs.size,.ref (z3B h t l).objs.size] }
abbrev z3E(h:Heap)(t l m:Addr):Heap:=(z3D h t l m).push { cls:=.type "tuple",data:=.seq #[.none,.none,.none] }
abbrev z3F(h:Heap)(t l m:Addr):Heap:=(z3E h t l m).push { cls:=.type "zip",data:=.fields #[.none,.bool false,.bool false,.ref (z3C h t l m).objs.size,.ref (z3D h t l m).objs.size] }
theorem jf3(t l m:Addr)(ts us vs:Array Value):Meets (Builtin.«zip.__new__» ⟨[.type "zip",.ref t,.ref l,.ref m],[]⟩) (λ_ R s=>s.heap.IsTuple t ts/\s.heap.IsList l us/\s.heap.IsList m vs/\R (.ok (.ret (.ref (z3E s.heap t l m).objs.size))) { s with heap:=z3F s.heap t l m }) :=
 .of_wp λprog w A R s h=>by
  obtain⟨a,g,d,b,os⟩:=s;obtain⟨e,f,i,h⟩:=h;have c:=sub_zip;have j:Heap.IsTuple (Shared.heap ⟨a,g,d,b,os⟩) t ts:=e;have e2:Heap.IsList (Shared.heap ⟨z3A a t,g,d,b,os⟩) l us:=Heap.IsList.push f _;have e3:Heap.IsList (Shared.heap ⟨z3B a t l,g,d,b,os⟩) m vs:=Heap.IsList.push (Heap.IsList.push i _) _
  wp_walk using wpAny_pyIter_tuple j,wpAny_pyIter_list e2,wpAny_pyIter_list e3
  exact⟨_,rfl,h⟩
end L2
namespace PySem
namespace F
theorem args_object_init_4(a b c d:Value):argsOk "object.__init__" ⟨[a,b,c,d],[]⟩:=by
 unfold argsOk;kernel_rfl
end F
end PySem
namespace L2
open PySem PySem.Spec PyProof.Rows
theorem jfn(h1:s.heap.IsTuple t ts)(h2:s.heap.IsList l us)(p:s.heap.IsList m vs)
  (go:∀ k,IsZip k (s.heap.objs.size+5) (s.heap.objs.size+3) (s.heap.objs.size+4) .none->vI k (s.heap.objs.size+3) (.ref s.heap.objs.size) (.ref (s.heap.objs.size+1)) (.ref (s.heap.objs.size+2))->vI k (s.heap.objs.size+4) .none .none .none ->
   k.IsTupleIter s.heap.objs.size t 0->k.IsListIter (s.heap.objs.size+1) l 0->k.IsListIter (s.heap.objs.size+2) m 0->(∀ c o,s.heap.get? c=some o->k.get? c=some o)->C (.ref (s.heap.objs.size+5)) { s with heap:=k }) :
  wpAny (model prog w) A (call (.type "zip") [.ref t,.ref l,.ref m]) C E s:=by
 refine callType_new F.called_zip (by decide) (F.typeCall_zip_3 _ _ _) (F.newCall_zip_3 _ _ _) (λobj=>F.args_object_init_4 obj _ _ _) F.entry_zip_new (jf3 t l m ts us vs) ⟨h1,h2,p,?_⟩;have a:(z3A s.heap t).objs.size=s.heap.objs.size+1:=Heap.size_push ..;have b:(z3B s.heap t l).objs.size=s.heap.objs.size+2:=by rw[Heap.size_push,a]
 have d:(z3C s.heap t l m).objs.size=s.heap.objs.size+3:=by rw[Heap.size_push,b]
 have e:(z3D s.heap t l m).objs.size=s.heap.objs.size+4:=by rw[Heap.size_push,d]
 have g:(z3E s.heap t l m).objs.size=s.heap.objs.size+5:=by rw[Heap.size_push,e]
 have f:(z3F s.heap t l m).get? (z3E s.heap t l m).objs.size=some _:=E4 _ rfl;have h:(z3F s.heap t l m).get? (z3D s.heap t l m).objs.size=some _:=L7 _ (E4 _ rfl);have i:(z3F s.heap t l m).get? (z3C s.heap t l m).objs.size=some _:=L7 _ (L7 _ (E4 _ rfl));have j:(z3F s.heap t l m).get? (z3B s.heap t l).objs.size=some _:=L7 _ (L7 _ (L7 _ (E4 _ rfl)));have n:(z3F s.heap t l m).get? (z3A s.heap t).objs.size=some _:=L7 _ (L7 _ (L7 _ (L7 _ (E4 _ rfl))));have q:(z3F s.heap t l m).get? s.heap.objs.size=some _:=L7 _ (L7 _ (L7 _ (L7 _ (L7 _ (E4 _ rfl)))));show _/\_;rw[d,e,g] at f;rw[a,b,d] at i;rw[e] at h;rw[b] at j;rw[a] at n;rw[g];exact⟨⟨_,f,rfl⟩,go _ f i h ⟨_,q,rfl,rfl⟩ ⟨_,n,rfl,rfl⟩ ⟨_,j,rfl,rfl⟩ λc o x=>L7 _ (L7 _ (L7 _ (L7 _ (L7 _ (L7 _ x)))))⟩
theorem jeL(n t l m:Nat)(h1:t < n)(h2:l < n)(c:m < n):Z3 (n+5) (n+3) (n+4) n (n+1) (n+2) t l m:=by
 refine⟨?_,?_,?_,?_,?_,?_,?_,?_,?_,?_,?_,?_,?_,?_,?_,λx b=>?_⟩
 all_goals try (show(_:Nat)≠_;lia)
 have a:x < n:=by rcases b with rfl | rfl | rfl<;>assumption
 refine⟨?_,?_,?_,?_,?_⟩<;>(show(_:Nat)≠_;exact N5 (by first | exact a | exact U3 a (Nat.le_add_right _ _)))
def Iz3(K:PySem.W.Frag)(t l m:Addr):It :=
 ⟨λi H=>∃ ts xs ys q x y,SqT K H t ts/\SqL K H l xs/\SqL K H m ys/\ts[i]?=some q/\xs[i]?=some x/\ys[i]?=some y,
  λi H x H'=>∃ p q u v,(∀ ts,SqT K H t ts->ts[i]?=some q)/\(∀ xs,SqL K H l xs->xs[i]?=some u)/\(∀ ys,SqL K H m ys->ys[i]?=some v)/\x=.ref p/\H p=none/\H'=upd H p (.tup [q,u,v]),
  λi H=>∃ ts,SqT K H t ts/\ts.length<=i⟩
theorem jfb{P:Program}{w:World}{K:PySem.W.Frag}{L:List Expr}{n:Nat}{pos:Pos}(z TI TO j1 j2 j3 t l m:Addr)(D:Z3 z TI TO j1 j2 j3 t l m) :
  Turn P w K (.Tuple L n pos) (Iz3 K t l m) [z,TI,TO,j1,j2,j3] z (λi h=>IsZip h z TI TO .none/\vI h TI (.ref j1) (.ref j2) (.ref j3)/\(∃ a b c,vI h TO a b c)/\h.IsTupleIter j1 t i/\h.IsListIter j2 l i/\h.IsListIter j3 m i) where
 mem:=by simp
 obj:=λi h g b A=>by
  obtain⟨j,p,⟨a,c,e,C⟩,⟨V,B,_,d4⟩,⟨o5,F,_,d5⟩,⟨o6,G,_,d6⟩⟩:=g;rcases(by simpa using A:b=z \/ b=TI \/ b=TO \/ b=j1 \/ b=j2 \/ b=j3) with q | q | q | q | q | q<;>subst q
  ·exact⟨_,j,λv q=>by cases q⟩
  ·exact⟨_,p,λv q=>by cases q⟩
  ·exact⟨_,C,λv q=>by cases q⟩
  ·exact⟨_,B,λv q=>by rw[d4] at q;cases q⟩
  ·exact⟨_,F,λv q=>by rw[d5] at q;cases q⟩
  ·exact⟨_,G,λv q=>by rw[d6] at q;cases q⟩
 keep:=λi h h' g k=>by
  obtain⟨j,p,⟨a,c,e,C⟩,⟨V,B,r4⟩,F,G⟩:=g;exact⟨k z (by simp) _ j,k TI (by simp) _ p,⟨a,c,e,k TO (by simp) _ C⟩,⟨V,k j1 (by simp) _ B,r4⟩,F.at λo q=>k j2 (by simp) o q,G.at λo q=>k j3 (by simp) o q⟩
 item:=by
  intro X hP hw hK hc i M s σ H E I Y g hg;subst hP hw hK;obtain⟨ts,xs,ys,q,x,y,r,N,O,hq,hx,hy⟩:=hg;obtain⟨Q,J,p0,hz0⟩:=I.tuple r;obtain⟨its1,rv1,p1,hz1⟩:=I.list N;obtain⟨its2,rv2,p2,hz2⟩:=I.list O;obtain⟨q',hq',rq⟩:=J.get hq;obtain⟨u,hu,ru⟩:=rv1.get hx;obtain⟨v,hv,rv⟩:=rv2.get hy;obtain⟨j,p,⟨a,c,e,C⟩,B,F,G⟩:=g;refine jep D j p C B F G p0 p1.isList p2.isList (x:=q') (u:=u) (v:=v) (by simpa using hq') (by simpa using hu) (by simpa using hv) λhh a1 a2 a3 a4 a5 a6 Z=>?_;refine⟨_,rfl,wpAny_letOwnedTupleGo_zip (s:={ s with heap:=hh }) a1 λR hz7 f=>?_⟩;replace f:Heap.SameBut z hh R:=f;have lt:∀{c o},s.heap.get? c=some o->c < s.heap.objs.size:=λe=>N0 e;have S:R.get? s.heap.objs.size=_:=(f.2 _ (Nat.ne_of_gt (lt j))).trans a6;have kk:∀ b o,b∉[z,TI,TO,j1,j2,j3]->s.heap.get? b=some o->R.get? b=some o:=λb o A q=>by
   have d:b≠z/\b≠TI/\b≠TO/\b≠j1/\b≠j2/\b≠j3:=by simpa using A
   exact(f.2 b d.1).trans (Z b o d.1 d.2.2.1 d.2.2.2.1 d.2.2.2.2.1 d.2.2.2.2.2 q)
  have I1:=I.turnedNew (h':=R) (t':=s.toks) (wr:=[z,TI,TO,j1,j2,j3]) (T:=s.heap.objs.size) (xs:=[q,x,y]) (its:=#[q',u,v]) kk Y (M8 _) ⟨⟨_,S,rfl,_,rfl⟩,_,S,rfl⟩ (.cons rq (.cons ru (.cons rv .nil))) (by show 3<=sizeLine;decide);have g4:R.IsTupleIter j1 t (i+1):=by
   obtain⟨V,e4,r4⟩:=a3;exact⟨V,(f.2 j1 D.j1z).trans e4,r4⟩
  refine⟨.ref s.heap.objs.size,_,I1,rfl,⟨_,q,x,y,(λzs U=>by rw[I.tuple_inj U r];exact hq),(λzs U=>by rw[I.list_inj U N];exact hx),(λzs U=>by rw[I.list_inj U O];exact hy),rfl,I.hok.fresh (M8 _),rfl⟩,⟨hz7,(f.2 TI D.TIz).trans (Z _ _ D.TIz D.TITO D.TIj1 D.TIj2 D.TIj3 p),⟨_,_,_,(f.2 TO D.TOz).trans a2⟩,g4,a4.at λo q=>(f.2 j2 D.j2z).trans q,a5.at λo q=>(f.2 j3 D.j3z).trans q⟩,λb A=>?_⟩;rw[jf]
  ·exact(Y b A).1
  ·intro q;have:b < s.heap.objs.size:=by
    obtain⟨_,h4',_⟩:=id B;obtain⟨_,h5',_⟩:=id F;obtain⟨_,h6',_⟩:=id G;rcases(by simpa using A:b=z \/ b=TI \/ b=TO \/ b=j1 \/ b=j2 \/ b=j3) with w | w | w | w | w | w<;>rw[w]
    ·exact lt j
    ·exact lt p
    ·exact lt C
    ·exact lt h4'
    ·exact lt h5'
    ·exact lt h6'
   exact absurd this (by rw[q];exact Nat.lt_irrefl _)
 done:=by
  intro X hP hw hK hc i M s σ H E I Y g hg;subst hP hw hK;obtain⟨ts,r,hx⟩:=hg;obtain⟨Q,J,p0,hz0⟩:=I.tuple r;obtain⟨j,p,⟨a,c,e,C⟩,B,F,G⟩:=g;have hl1:=J.length;exact jgj (I.ok.hd hc) D j p B p0 (by simp;lia) λhh Z=>⟨rfl,I.turnedL (t':=s.toks) (wr:=[z,TI,TO,j1,j2,j3]) (λb o A q=>by
   have d:b≠z/\b≠TI/\b≠TO/\b≠j1/\b≠j2/\b≠j3:=by simpa using A
   exact Z b o d.1 d.2.2.1 d.2.2.2.1 d.2.2.2.2.1 d.2.2.2.2.2 q) Y⟩
 self:=λ_ _ _ _ _ g h=>wpAny_pyIter_zip g.1 h
def iZ3(K:PySem.W.Frag)(tl:TA):TI:=λσ H R=>tl σ H λvs H1=>∃ a b c ts xs ys,vs=[.ref a,.ref b,.ref c]/\SqT K H1 a ts/\SqL K H1 b xs/\SqL K H1 c ys/\R (Iz3 K a b c) H1
theorem jjZ{X:Cx}{g:List Expr}{n:Nat}{tpos p pos:Pos}{a b c:Expr}{ta:TA}(O:Gl X "zip")(P:X.mg "zip" = none)(Q:PA X [a,b,c] ta)(S:starEach [a,b,c] X.env=[(false,eval a X.env),(false,eval b X.env),(false,eval c X.env)]:=by rfl)(i:starEach [b,c] X.env=[(false,eval b X.env),(false,eval c X.env)]:=by rfl) :
  PI X (.Tuple g n tpos) (.Call (.Name "zip" p) [a,b,c] [] pos) (iZ3 X.K ta):=by
 intro d s σ H R I h;refine Call_ (JY I O P (show bootBuiltins "zip" = some (.type "zip") by decide +kernel) (PyProof.Rows.callWith_type1 (thn (Q pos d s σ H _ I h) λus s1 ⟨vs,F,f,v,T⟩=>?_) (by rw[S,i]) (by rw[i];rfl)));obtain⟨w,x,y,ts,xs,ys,rfl,A,B,C,q⟩:=T;cases v with
 | cons v D =>
  cases D with
  | cons D E =>
   cases E with
   | cons E U =>
    cases U;cases v;cases D;cases E;obtain⟨G,V,j,W⟩:=f.tuple A;obtain⟨J,Y,k,Z⟩:=f.list B;obtain⟨L,rv2,l,hz2⟩:=f.list C;have m:w < s1.heap.objs.size:=by
     obtain⟨o,e,_⟩:=id j;exact N0 e
    have r:x < s1.heap.objs.size:=by
     obtain⟨o,_,e,_⟩:=k;exact N0 e
    have t:y < s1.heap.objs.size:=by
     obtain⟨o,_,e,_⟩:=l;exact N0 e
    refine jfn j k.isList l.isList λM N a2 a3 a4 a5 a6 hk=>?_;have I2:Inv X d σ F { s1 with heap:=M }:=f.kept (t':=s1.toks) hk;refine PySem.wpAny_pyIter_zip (s:={ s1 with heap:=M }) N ?_;refine⟨s1.heap.objs.size+5,[s1.heap.objs.size+5,s1.heap.objs.size+3,s1.heap.objs.size+4,s1.heap.objs.size,s1.heap.objs.size+1,s1.heap.objs.size+2],_,_,F,rfl,I2,jfb _ _ _ _ _ _ w x y (jeL _ w x y m r t),⟨N,a2,⟨_,_,_,a3⟩,a4,a5,a6⟩,λb hb=>?_,q⟩;have u:s1.heap.objs.size<=b:=by
     rcases(by simpa using hb:b=s1.heap.objs.size+5 \/ b=s1.heap.objs.size+3 \/ b=s1.heap.objs.size+4 \/ b=s1.heap.objs.size \/ b=s1.heap.objs.size+1 \/ b=s1.heap.objs.size+2) with z | z | z | z | z | z<;>rw[z]
     ·exact Nat.le_add_right _ 5
     ·exact Nat.le_add_right _ 3
     ·exact Nat.le_add_right _ 4
     ·exact M8 _
     ·exact Nat.le_add_right _ 1
     ·exact Nat.le_add_right _ 2
    exact f.fpOk u (f.hok.fresh u)
end L2
namespace PySem
open Sem (wp)
namespace F
end F
end PySem
namespace L2
open PySem PySem.Spec PyProof.Rows
end L2
namespace PySem
open L2 PyProof.Rows
end PySem
namespace L2
open PySem PySem.Spec PyProof.Rows
end L2
namespace QD
open PySem L2
inductive KA where
 | int (i:Int) | str (s:List Nat)
 deriving DecidableEq
inductive D where
 | non | bl (b:Bool) | int (i:Int) | str (s:List Nat)
 | tup (l:List D) | lst (o:Bool) (l:List D)
 | dK (o:Bool) (ks:List KA) (l:List D)
 | dT (o:Bool) (ks:List (List KA)) (l:List D)
 | ins (o:Bool) (c:Nat) (ns:List Str) (l:List D)
 | dead
  | tok (a:Addr)
  | exc (c:Nat) (p:Int)
def xo(C a dx:Addr):Heap->Prop:=λh=>∃ o vs,h.get? a=some o/\o.cls=.ref C/\o.dict=some dx/\o.data=.fields vs
mutual
noncomputable def fz:D->D
 | .tup l=>.tup (fzs l)
 | .lst _ l=>.lst false (fzs l)
 | .dK _ ks l=>.dK false ks (fzs l)
 | .dT _ ks l=>.dT false ks (fzs l)
 | .ins _ c ns l=>.ins false c ns (fzs l)
 | .non=>.non | .bl b=>.bl b | .int i=>.int i | .str s=>.str s | .dead=>.dead | .tok a=>.tok a | .exc c p=>.exc c p
noncomputable def fzs:List D->List D
 | []=>[]
 | d::l=>fz d::fzs l
end
mutual
noncomputable def frz:D->Bool
 | .tup l=>frzs l
 | .lst o l=>!o&&frzs l
 | .dK o _ l=>!o&&frzs l
 | .dT o _ l=>!o&&frzs l
 | .ins o _ _ l=>!o&&frzs l
 | .non=>true | .bl _=>true | .int _=>true | .str _=>true | .dead=>true | .tok _=>true | .exc _ _=>true
noncomputable def frzs:List D->Bool
 | []=>true
 | d::l=>frz d&&frzs l
end
mutual
theorem vB:∀ d:D,frz d=true->fz d=d
 | .tup l,h=>by rw[frz] at h;rw[fz,ql l h]
 | .lst o l,h=>by rw[frz,L9] at h;rw[fz,ql l h.2];cases o<;>simp_all
 | .dK o ks l,h=>by rw[frz,L9] at h;rw[fz,ql l h.2];cases o<;>simp_all
 | .dT o ks l,h=>by rw[frz,L9] at h;rw[fz,ql l h.2];cases o<;>simp_all
 | .ins o c ns l,h=>by rw[frz,L9] at h;rw[fz,ql l h.2];cases o<;>simp_all
 | .non,_=>rfl | .bl _,_=>rfl | .int _,_=>rfl | .str _,_=>rfl | .dead,_=>rfl | .tok _,_=>rfl | .exc _ _,_=>rfl
theorem ql:∀ l:List D,frzs l=true->fzs l=l
 | [],_=>rfl
 | d::l,h=>by rw[frzs,L9] at h;rw[fzs,vB d h.1,ql l h.2]
end
mutual
theorem jay:∀ d:D,frz (fz d)=true
 | .tup l=>by rw[fz,frz];exact qu l
 | .lst o l=>by rw[fz,frz,qu l];rfl
 | .dK o ks l=>by rw[fz,frz,qu l];rfl
 | .dT o ks l=>by rw[fz,frz,qu l];rfl
 | .ins o c ns l=>by rw[fz,frz,qu l];rfl
 | .non=>rfl | .bl _=>rfl | .int _=>rfl | .str _=>rfl | .dead=>rfl | .tok _=>rfl | .exc _ _=>rfl
theorem qu:∀ l:List D,frzs (fzs l)=true
 | []=>rfl
 | d::l=>by rw[fzs,frzs,jay d,qu l];rfl
end
theorem qP:∀ l:List D,fzs l=l.map fz
 | []=>rfl
 | d::l=>by rw[fzs,qP l];rfl
theorem Yh:∀ l:List D,frzs l=l.all frz
 | []=>rfl
 | d::l=>by rw[frzs,Yh l];rfl
structure RC where
 K:PySem.W.Frag
 cls:Nat->Addr
def kaV:KA->Key
 | .int i=>.inl i
 | .str s=>.inr (S s)
noncomputable abbrev Zn:=Addr->Prop
def FT(R:RC)(Z:Zn)(H:Hp)(a:Addr)(vs:List V):Prop :=
 (Z a/\Rd H a (.tup vs)) \/ ∃(o:Obj) (its:Array Value) (n:Nat),R.K.lookup a=some o/\o.cls=.type "tuple"/\o.data=.seq its n/\its.size<=sizeLine/\Vals vs its.toList/\o.dict=none
def FL(R:RC)(Z:Zn)(H:Hp)(a:Addr)(vs:List V):Prop :=
 (Z a/\Rd H a (.lst vs)) \/ ∃(its:Array Value) (n:Nat),R.K.lookup a=some { cls:=.type "list",data:=.seq its n }/\its.size<=sizeLine/\Vals vs its.toList
def DkA(o:Bool)(H:Hp)(a:Addr)(kvs:List (Key×V)):Prop:=bif o then H a=some (.dK kvs) else Rd H a (.dK kvs)
inductive RpC (rs:List V->List Addr->Prop) (C:Addr->List V->List Addr->Prop) (v:V):Prop
 | mk:∀(a:Addr) (vs:List V) (O':List Addr),v=.ref a->rs vs O'->C a vs O'->RpC rs C v
inductive RpS (rd:V->List Addr->Prop) (rs:List V->List Addr->Prop) (vs:List V) (O:List Addr):Prop
 | mk:∀(v:V) (vs':List V) (O1 O2:List Addr),vs=v::vs'->O=O1++O2->rd v O1->rs vs' O2->RpS rd rs vs O
mutual
def Rep(R:RC)(Z:Zn)(H:Hp):D->V->List Addr->Prop
 | .non,v,O=>v=.non/\O=[]
 | .bl b,v,O=>v=.bl b/\O=[]
 | .int i,v,O=>v=.int i/\O=[]
 | .str s,v,O=>v=.str (S s)/\O=[]
 | .dead,_,O=>O=[]
 | .tok a,v,O=>v=.ref a/\O=[]
 | .exc c p,v,O=>∃ a dx,v=.ref a/\Z a/\Z dx/\H a=some (.ext (xo (R.cls c) a dx))/\H dx=some (.xd [("place",.int p)])/\O=[]
 | .tup l,v,O=>∃ a vs,v=.ref a/\FT R Z H a vs/\Reps R Z H l vs O
 | .lst o l,v,O=>RpC (λvs O'=>Reps R Z H l vs O') (λa vs O'=>bif o then H a=some (.lst vs)/\O=a::O' else FL R Z H a vs/\O'=[]/\O=[]) v
 | .dK o ks l,v,O=>RpC (λvs O'=>Reps R Z H l vs O') (λa vs O'=>ks.length=l.length/\DkA o H a ((ks.map kaV).zip vs)/\bif o then O=a::O' else Z a/\O'=[]/\O=[]) v
 | .dT o ks l,v,O=>RpC (λvs O'=>Reps R Z H l vs O') (λa vs O'=>ks.length=l.length/\H a=some (.dT ((ks.map (List.map kaV)).zip vs))/\bif o then O=a::O' else Z a/\O'=[]/\O=[]) v
 | .ins o c ns l,v,O=>∃ a dx vs O',v=.ref a/\Reps R Z H l vs O'/\ns.length=l.length/\H a=some (.ins (R.cls c) dx (ns.zip vs))/\bif o then O=a::O' else Z a/\O'=[]/\O=[]
def Reps(R:RC)(Z:Zn)(H:Hp):List D->List V->List Addr->Prop
 | [],vs,O=>vs=[]/\O=[]
 | d::ds,vs,O=>RpS (λv O1=>Rep R Z H d v O1) (λvs' O2=>Reps R Z H ds vs' O2) vs O
end
section
variable {R:RC}{Z Z':Zn}{H H':Hp}
theorem FT.sq{a:Addr}{vs:List V}(h:FT R Z H a vs):SqT R.K H a vs:=by
 rcases h with⟨_,h⟩ | ⟨o,b,n,c,d,e,f,g,_⟩
 ·exact .inl h
 ·exact .inr ⟨o,b,n,c,d,e,f,g⟩
theorem FL.sqx{a:Addr}{vs:List V}(h:FL R Z H a vs):SqX R.K H a vs:=by
 rcases h with⟨_,h⟩ | h
 ·exact .inl h
 ·exact .inr h
theorem FL.sq{a:Addr}{vs:List V}(h:FL R Z H a vs):SqL R.K H a vs:=h.sqx.sq
theorem Rd.agree{a:Addr}{u:HO}(e:H' a=H a)(h:Rd H a u):Rd H' a u:=by
 unfold Rd at h ⊢;rw[e];exact h
theorem FT.frame{a:Addr}{vs:List V}(hz:∀ a,Z a->Z' a)(b:∀ a,Z a->H' a=H a)(h:FT R Z H a vs):FT R Z' H' a vs:=by
 rcases h with⟨z,h⟩ | h
 ·exact .inl ⟨hz a z,Rd.agree (b a z) h⟩
 ·exact .inr h
theorem FL.frame{a:Addr}{vs:List V}(hz:∀ a,Z a->Z' a)(b:∀ a,Z a->H' a=H a)(h:FL R Z H a vs):FL R Z' H' a vs:=by
 rcases h with⟨z,h⟩ | h
 ·exact .inl ⟨hz a z,Rd.agree (b a z) h⟩
 ·exact .inr h
mutual
theorem Rep.frame(hz:∀ a,Z a->Z' a)(hH:∀ a,Z a->H' a=H a):∀{d:D}{v:V}{O:List Addr},Rep R Z H d v O->(∀ a∈O,H' a=H a)->Rep R Z' H' d v O
 | .non,_,_,h,_=>by rw[Rep] at h ⊢;exact h
 | .bl _,_,_,h,_=>by rw[Rep] at h ⊢;exact h
 | .int _,_,_,h,_=>by rw[Rep] at h ⊢;exact h
 | .str _,_,_,h,_=>by rw[Rep] at h ⊢;exact h
 | .dead,_,_,h,_=>by rw[Rep] at h ⊢;exact h
 | .tok _,_,_,h,_=>by rw[Rep] at h ⊢;exact h
 | .exc _ _,_,_,h,_=>by
  rw[Rep] at h ⊢;obtain⟨a,dx,e,z1,z2,h1,h2,h3⟩:=h;exact⟨a,dx,e,hz a z1,hz dx z2,(hH a z1).trans h1,(hH dx z2).trans h2,h3⟩
 | .tup l,_,_,h,hO=>by
  rw[Rep] at h ⊢;obtain⟨a,vs,e,t,r⟩:=h;exact⟨a,vs,e,t.frame hz hH,Reps.frame hz hH r hO⟩
 | .lst o l,_,_,h,hO=>by
  rw[Rep] at h ⊢;obtain⟨a,vs,O',e,r,h⟩:=h;cases o with
  | true =>
   obtain⟨h1,rfl⟩:=h;exact⟨a,vs,O',e,Reps.frame hz hH r λb hb=>hO b (L5 _ hb),by rw[cond_true,hO a L6];exact⟨h1,rfl⟩⟩
  | false =>
   obtain⟨h1,rfl,rfl⟩:=h;exact⟨a,vs,[],e,Reps.frame hz hH r (λb hb=>nomatch hb),h1.frame hz hH,rfl,rfl⟩
 | .dK o ks l,_,_,h,hO=>by
  rw[Rep] at h ⊢;obtain⟨a,vs,O',e,r,hl,hd,h⟩:=h;cases o with
  | true =>
   have h:=(show _=_ from h);subst h;exact⟨a,vs,O',e,Reps.frame hz hH r λb hb=>hO b (L5 _ hb),hl,by show H' a=some _;rw[hO a L6];exact hd,rfl⟩
  | false =>
   obtain⟨h1,rfl,rfl⟩:=h;exact⟨a,vs,[],e,Reps.frame hz hH r (λb hb=>nomatch hb),hl,Rd.agree (hH a h1) hd,hz a h1,rfl,rfl⟩
 | .dT o ks l,_,_,h,hO=>by
  rw[Rep] at h ⊢;obtain⟨a,vs,O',e,r,hl,hd,h⟩:=h;cases o with
  | true =>
   have h:=(show _=_ from h);subst h;exact⟨a,vs,O',e,Reps.frame hz hH r λb hb=>hO b (L5 _ hb),hl,by rw[hO a L6];exact hd,rfl⟩
  | false =>
   obtain⟨h1,rfl,rfl⟩:=h;exact⟨a,vs,[],e,Reps.frame hz hH r (λb hb=>nomatch hb),hl,by rw[hH a h1];exact hd,hz a h1,rfl,rfl⟩
 | .ins o c ns l,_,_,h,hO=>by
  rw[Rep] at h ⊢;obtain⟨a,dx,vs,O',e,r,hl,hd,h⟩:=h;cases o with
  | true =>
   have h:=(show _=_ from h);subst h;exact⟨a,dx,vs,O',e,Reps.frame hz hH r λb hb=>hO b (L5 _ hb),hl,by rw[hO a L6];exact hd,rfl⟩
  | false =>
   obtain⟨h1,rfl,rfl⟩:=h;exact⟨a,dx,vs,[],e,Reps.frame hz hH r (λb hb=>nomatch hb),hl,by rw[hH a h1];exact hd,hz a h1,rfl,rfl⟩
theorem Reps.frame(hz:∀ a,Z a->Z' a)(hH:∀ a,Z a->H' a=H a):∀{l:List D}{vs:List V}{O:List Addr},Reps R Z H l vs O->(∀ a∈O,H' a=H a)->Reps R Z' H' l vs O
 | [],_,_,h,_=>by rw[Reps] at h ⊢;exact h
 | d::l,_,_,h,hO=>by
  rw[Reps] at h ⊢;obtain⟨v,vs,O1,O2,e,rfl,r1,r2⟩:=h;exact⟨v,vs,O1,O2,e,rfl,Rep.frame hz hH r1 λa ha=>hO a (List.mem_append_left _ ha),Reps.frame hz hH r2 λa ha=>hO a (U2 _ ha)⟩
end
mutual
theorem Rep.nil:∀{d:D}{v:V}{O:List Addr},Rep R Z H d v O->frz d=true->O=[]
 | .non,_,_,h,_=>by rw[Rep] at h;exact h.2
 | .bl _,_,_,h,_=>by rw[Rep] at h;exact h.2
 | .int _,_,_,h,_=>by rw[Rep] at h;exact h.2
 | .str _,_,_,h,_=>by rw[Rep] at h;exact h.2
 | .dead,_,_,h,_=>by rw[Rep] at h;exact h
 | .tok _,_,_,h,_=>by rw[Rep] at h;exact h.2
 | .exc _ _,_,_,h,_=>by rw[Rep] at h;obtain⟨_,_,_,_,_,_,_,h⟩:=h;exact h
 | .tup l,_,_,h,f=>by
  rw[Rep] at h;rw[frz] at f;obtain⟨a,vs,e,t,r⟩:=h;exact Reps.nil r f
 | .lst o l,_,_,h,f=>by
  rw[Rep] at h;rw[frz] at f;obtain⟨a,vs,O',e,r,h⟩:=h;cases o with
  | true=>exact absurd f (by simp)
  | false=>exact h.2.2
 | .dK o ks l,_,_,h,f=>by
  rw[Rep] at h;rw[frz] at f;obtain⟨a,vs,O',e,r,hl,hd,h⟩:=h;cases o with
  | true=>exact absurd f (by simp)
  | false=>exact h.2.2
 | .dT o ks l,_,_,h,f=>by
  rw[Rep] at h;rw[frz] at f;obtain⟨a,vs,O',e,r,hl,hd,h⟩:=h;cases o with
  | true=>exact absurd f (by simp)
  | false=>exact h.2.2
 | .ins o c ns l,_,_,h,f=>by
  rw[Rep] at h;rw[frz] at f;obtain⟨a,dx,vs,O',e,r,hl,hd,h⟩:=h;cases o with
  | true=>exact absurd f (by simp)
  | false=>exact h.2.2
theorem Reps.nil:∀{l:List D}{vs:List V}{O:List Addr},Reps R Z H l vs O->frzs l=true->O=[]
 | [],_,_,h,_=>by rw[Reps] at h;exact h.2
 | d::l,_,_,h,f=>by
  rw[Reps] at h;rw[frzs,L9] at f;obtain⟨v,vs,O1,O2,e,rfl,r1,r2⟩:=h;rw[Rep.nil r1 f.1,Reps.nil r2 f.2];rfl
end
mutual
theorem Rep.freeze:∀{d:D}{v:V}{O:List Addr},Rep R Z H d v O->(∀ a,Z a->Z' a)->(∀ a∈O,Z' a)->Rep R Z' H (fz d) v []
 | .non,_,_,h,_,_=>by rw[Rep] at h;rw[fz,Rep];exact⟨h.1,rfl⟩
 | .bl _,_,_,h,_,_=>by rw[Rep] at h;rw[fz,Rep];exact⟨h.1,rfl⟩
 | .int _,_,_,h,_,_=>by rw[Rep] at h;rw[fz,Rep];exact⟨h.1,rfl⟩
 | .str _,_,_,h,_,_=>by rw[Rep] at h;rw[fz,Rep];exact⟨h.1,rfl⟩
 | .dead,_,_,h,_,_=>by rw[fz,Rep]
 | .tok _,_,_,h,_,_=>by rw[Rep] at h;rw[fz,Rep];exact⟨h.1,rfl⟩
 | .exc _ _,_,_,h,hz,_=>by
  rw[Rep] at h;rw[fz,Rep];obtain⟨a,dx,e,z1,z2,h1,h2,_⟩:=h;exact⟨a,dx,e,hz a z1,hz dx z2,h1,h2,rfl⟩
 | .tup l,_,_,h,hz,hO=>by
  rw[Rep] at h;rw[fz,Rep];obtain⟨a,vs,e,t,r⟩:=h;exact⟨a,vs,e,t.frame hz λ_ _=>rfl,Reps.freeze r hz hO⟩
 | .lst o l,_,_,h,hz,hO=>by
  rw[Rep] at h;rw[fz,Rep];obtain⟨a,vs,O',e,r,h⟩:=h;cases o with
  | true =>
   obtain⟨h1,rfl⟩:=h;exact⟨a,vs,[],e,Reps.freeze r hz λb hb=>hO b (L5 _ hb),.inl ⟨hO a L6,.inl h1⟩,rfl,rfl⟩
  | false =>
   obtain⟨h1,rfl,rfl⟩:=h;exact⟨a,vs,[],e,Reps.freeze r hz (λb hb=>nomatch hb),h1.frame hz (λ_ _=>rfl),rfl,rfl⟩
 | .dK o ks l,_,_,h,hz,hO=>by
  rw[Rep] at h;rw[fz,Rep];obtain⟨a,vs,O',e,r,hl,hd,h⟩:=h;have hl':ks.length=(fzs l).length:=by rw[qP,L0];exact hl
  cases o with
  | true =>
   have h:=(show _=_ from h);subst h;exact⟨a,vs,[],e,Reps.freeze r hz λb hb=>hO b (L5 _ hb),hl',.inl hd,hO a L6,rfl,rfl⟩
  | false =>
   obtain⟨h1,rfl,rfl⟩:=h;exact⟨a,vs,[],e,Reps.freeze r hz (λb hb=>nomatch hb),hl',hd,hz a h1,rfl,rfl⟩
 | .dT o ks l,_,_,h,hz,hO=>by
  rw[Rep] at h;rw[fz,Rep];obtain⟨a,vs,O',e,r,hl,hd,h⟩:=h;have hl':ks.length=(fzs l).length:=by rw[qP,L0];exact hl
  cases o with
  | true =>
   have h:=(show _=_ from h);subst h;exact⟨a,vs,[],e,Reps.freeze r hz λb hb=>hO b (L5 _ hb),hl',hd,hO a L6,rfl,rfl⟩
  | false =>
   obtain⟨h1,rfl,rfl⟩:=h;exact⟨a,vs,[],e,Reps.freeze r hz (λb hb=>nomatch hb),hl',hd,hz a h1,rfl,rfl⟩
 | .ins o c ns l,_,_,h,hz,hO=>by
  rw[Rep] at h;rw[fz,Rep];obtain⟨a,dx,vs,O',e,r,hl,hd,h⟩:=h;have hl':ns.length=(fzs l).length:=by rw[qP,L0];exact hl
  cases o with
  | true =>
   have h:=(show _=_ from h);subst h;exact⟨a,dx,vs,[],e,Reps.freeze r hz λb hb=>hO b (L5 _ hb),hl',hd,hO a L6,rfl,rfl⟩
  | false =>
   obtain⟨h1,rfl,rfl⟩:=h;exact⟨a,dx,vs,[],e,Reps.freeze r hz (λb hb=>nomatch hb),hl',hd,hz a h1,rfl,rfl⟩
theorem Reps.freeze:∀{l:List D}{vs:List V}{O:List Addr},Reps R Z H l vs O->(∀ a,Z a->Z' a)->(∀ a∈O,Z' a)->Reps R Z' H (fzs l) vs []
 | [],_,_,h,_,_=>by rw[Reps] at h;rw[fzs,Reps];exact⟨h.1,rfl⟩
 | d::l,_,_,h,hz,hO=>by
  rw[Reps] at h;rw[fzs,Reps];obtain⟨v,vs,O1,O2,e,rfl,r1,r2⟩:=h;exact⟨v,vs,[],[],e,rfl,Rep.freeze r1 hz λa ha=>hO a (List.mem_append_left _ ha),Reps.freeze r2 hz λa ha=>hO a (U2 _ ha)⟩
end
theorem Reps.length:∀{l:List D}{vs:List V}{O:List Addr},Reps R Z H l vs O->vs.length=l.length
 | [],_,_,h=>by rw[Reps] at h;rw[h.1];rfl
 | d::l,_,_,h=>by
  rw[Reps] at h;obtain⟨v,vs,b,c,rfl,rfl,e,a⟩:=h;rw[M0,M0,Reps.length a]
theorem Reps.append:∀{l m:List D}{vs ws:List V}{O P:List Addr},Reps R Z H l vs O->Reps R Z H m ws P->Reps R Z H (l++m) (vs++ws) (O++P)
 | [],m,_,_,_,_,h,k=>by rw[Reps] at h;obtain⟨rfl,rfl⟩:=h;exact k
 | d::l,m,_,_,_,_,h,k=>by
  rw[Reps] at h;obtain⟨v,vs,a,e,rfl,rfl,b,c⟩:=h;rw[List.cons_append,Reps];exact⟨v,_,a,_,rfl,List.append_assoc ..,b,Reps.append c k⟩
theorem Reps.one{d:D}{v:V}{O:List Addr}(h:Rep R Z H d v O):Reps R Z H [d] [v] O:=by
 rw[Reps];exact⟨v,[],O,[],rfl,(M9 O).symm,h,by rw[Reps];exact⟨rfl,rfl⟩⟩
theorem Reps.cons{d:D}{v:V}{O P:List Addr}{l:List D}{vs:List V}(h:Rep R Z H d v O)(k:Reps R Z H l vs P):Reps R Z H (d::l) (v::vs) (O++P):=by
 rw[Reps];exact⟨v,vs,O,P,rfl,rfl,h,k⟩
theorem Reps.empty:Reps R Z H [] [] []:=by rw[Reps];exact⟨rfl,rfl⟩
theorem Reps.at:∀{l:List D}{vs:List V}{O:List Addr}{i:Nat}{d:D},Reps R Z H l vs O->l[i]?=some d ->
  ∃ v A P B,vs[i]?=some v/\O=A++P++B/\Rep R Z H d v P/\∀{Z':Zn}{H':Hp}{d':D}{v':V}{P':List Addr},Rep R Z' H' d' v' P'->(∀ a,Z a->Z' a)->(∀ a,Z a->H' a=H a)->(∀ a∈A,H' a=H a)->(∀ a∈B,H' a=H a)->Reps R Z' H' (l.set i d') (vs.set i v') (A++P'++B)
 | [],_,_,_,_,_,e=>by simp at e
 | c::l,_,_,0,d,h,e=>by
  rw[Reps] at h;obtain⟨v,vs,b,j,rfl,rfl,m,n⟩:=h;have e:c=d:=by simpa using e
  subst e;refine⟨v,[],b,j,rfl,rfl,m,λr f g o p=>?_⟩;rw[List.set_cons_zero,List.set_cons_zero,Reps];exact⟨_,vs,_,j,rfl,rfl,r,Reps.frame f g n p⟩
 | c::l,_,_,i+1,d,h,e=>by
  rw[Reps] at h;obtain⟨v,vs,b,j,rfl,rfl,m,n⟩:=h;obtain⟨w,A,P,B,s,rfl,t,k⟩:=Reps.at (i:=i) (d:=d) n (by simpa using e);refine⟨w,b++A,P,B,by simpa using s,by simp,t,λ{Z' H' d' v' P'} r f g o p=>?_⟩;rw[List.set_cons_succ,List.set_cons_succ,Reps];exact⟨v,_,b,A++P'++B,rfl,by simp,Rep.frame f g m λa q=>o a (List.mem_append_left _ q),k r f g (λa q=>o a (U2 _ q)) p⟩
theorem Reps.item{l:List D}{vs:List V}{i:Nat}{d:D}(h:Reps R Z H l vs [])(e:l[i]?=some d):∃ v,vs[i]?=some v/\Rep R Z H d v []:=by
 obtain⟨v,A,P,B,a,e2,r,_⟩:=h.at e;have:P=[]:=by
  have:=congrArg List.length e2;simp at this;exact List.eq_nil_of_length_eq_zero (by omega)
 subst this;exact⟨v,a,r⟩
theorem Reps.take:∀{l:List D}{vs:List V}(n:Nat),Reps R Z H l vs []->Reps R Z H (l.take n) (vs.take n) []
 | _,_,0,_=>by simp;exact .empty
 | [],_,n+1,h=>by rw[Reps] at h;rw[h.1];exact .empty
 | d::l,_,n+1,h=>by
  rw[Reps] at h;obtain⟨v,vs,c,f,rfl,e,a,b⟩:=h;obtain⟨rfl,rfl⟩:=List.append_eq_nil_iff.mp e.symm;rw[List.take_succ_cons,List.take_succ_cons];exact .cons a (Reps.take n b)
theorem Reps.drop:∀{l:List D}{vs:List V}(n:Nat),Reps R Z H l vs []->Reps R Z H (l.drop n) (vs.drop n) []
 | _,_,0,h=>h
 | [],_,n+1,h=>by rw[Reps] at h;rw[h.1];exact .empty
 | d::l,_,n+1,h=>by
  rw[Reps] at h;obtain⟨v,vs,b,c,rfl,e,f,a⟩:=h;obtain⟨rfl,rfl⟩:=List.append_eq_nil_iff.mp e.symm;rw[List.drop_succ_cons,List.drop_succ_cons];exact Reps.drop n a
structure WF(Z:Zn)(H:Hp)(O:List Addr):Prop where
 nd:O.Nodup
 nz:∀ a∈O,¬ Z a
 od:∀ a∈O,H a≠none
 zd:∀ a,Z a->H a≠none
structure Go(Z:Zn)(H:Hp)(O:List Addr)(Z':Zn)(H':Hp)(O':List Addr):Prop where
 wf:WF Z' H' O'
 zz:∀ a,Z a->Z' a
 fr:∀ a,H a≠none->a∉O->H' a=H a
 zn:∀ a,Z' a->Z a \/ a∈O \/ H a=none
 sub:∀ a∈O',a∈O \/ H a=none
 dm:∀ a,H a≠none->H' a≠none
variable {O O' O'' A B:List Addr}{Z'':Zn}{H'':Hp}
theorem Go.refl(w:WF Z H O):Go Z H O Z H O:=⟨w,λ_ z=>z,λ_ _ _=>rfl,λ_ z=>.inl z,λ_ h=>.inl h,λ_ h=>h⟩
theorem Go.trans(g:Go Z H O Z' H' O')(k:Go Z' H' O' Z'' H'' O''):Go Z H O Z'' H'' O'':=by
 refine⟨k.wf,λa z=>k.zz a (g.zz a z),λa h n=>?_,λa z=>?_,λa h=>?_,λa h=>k.dm a (g.dm a h)⟩
 ·rw[k.fr a (g.dm a h) λb=>(g.sub a b).elim n λe=>h e,g.fr a h n]
 ·rcases k.zn a z with z | z | z
  ·exact g.zn a z
  ·rcases g.sub a z with q | q
   ·exact .inr (.inl q)
   ·exact .inr (.inr q)
  ·by_cases h:H a=none
   ·exact .inr (.inr h)
   ·exact absurd z (g.dm a h)
 ·rcases k.sub a h with q | q
  ·exact g.sub a q
  ·by_cases h:H a=none
   ·exact .inr h
   ·exact absurd q (g.dm a h)
theorem Go.zH(w:WF Z H O)(g:Go Z H O Z' H' O'):∀ a,Z a->H' a=H a:=λa z=>g.fr a (w.zd a z) λh=>w.nz a h z
theorem WF.sub(w:WF Z H O)(h:∀ a∈O',a∈O)(n:O'.Nodup):WF Z H O':=⟨n,λa z=>w.nz a (h a z),λa z=>w.od a (h a z),w.zd⟩
theorem WF.mid(w:WF Z H (A++O++B)):WF Z H O:=w.sub (λa h=>by simp[h]) (by have:=w.nd;simp[U8] at this;exact this.2.1.1)
theorem WF.left(w:WF Z H (A++B)):WF Z H A:=w.sub (λa h=>by simp[h]) (U8.mp w.nd).1
theorem WF.right(w:WF Z H (A++B)):WF Z H B:=w.sub (λa h=>by simp[h]) (U8.mp w.nd).2.1
theorem Go.frame(w:WF Z H (A++O++B))(g:Go Z H O Z' H' O'):Go Z H (A++O++B) Z' H' (A++O'++B):=by
 have nd:=w.nd;simp only[U8,N1] at nd;have new:∀ a∈O',a∉A/\a∉B:=λa h=>by
  rcases g.sub a h with q | q
  ·exact⟨λz=>nd.1.2.2 a z a q rfl,λz=>nd.2.2 a (.inr q) a z rfl⟩
  ·exact⟨λz=>w.od a (by simp[z]) q,λz=>w.od a (by simp[z]) q⟩
 have keep:∀ a,a∈A \/ a∈B->a∉O:=λa h z=>by
  rcases h with h | h
  ·exact nd.1.2.2 a h a z rfl
  ·exact nd.2.2 a (.inr z) a h rfl
 refine⟨⟨?_,λa h z=>?_,λa h=>?_,g.wf.zd⟩,g.zz,λa h n=>?_,λa z=>?_,λa h=>?_,g.dm⟩
 ·simp only[U8,N1];exact⟨⟨nd.1.1,g.wf.nd,λa h b k e=>(new b k).1 (e▸h)⟩,nd.2.1,λa h b k e=>by
   rcases h with h | h
   ·exact nd.2.2 a (.inl h) b k e
   ·exact(new a h).2 (e▸k)⟩
 ·simp only[N1] at h;rcases h with(h | h) | h
  ·rcases g.zn a z with q | q | q
   ·exact w.nz a (by simp[h]) q
   ·exact keep a (.inl h) q
   ·exact w.od a (by simp[h]) q
  ·exact g.wf.nz a h z
  ·rcases g.zn a z with q | q | q
   ·exact w.nz a (by simp[h]) q
   ·exact keep a (.inr h) q
   ·exact w.od a (by simp[h]) q
 ·simp only[N1] at h;rcases h with(h | h) | h
  ·exact g.dm a (w.od a (by simp[h]))
  ·exact g.wf.od a h
  ·exact g.dm a (w.od a (by simp[h]))
 ·simp only[N1,not_or] at n;exact g.fr a h n.1.2
 ·rcases g.zn a z with q | q | q
  ·exact .inl q
  ·exact .inr (.inl (by simp[q]))
  ·exact .inr (.inr q)
 ·simp only[N1] at h ⊢;rcases h with(h | h) | h
  ·exact .inl (.inl (.inl h))
  ·rcases g.sub a h with q | q
   ·exact .inl (.inl (.inr q))
   ·exact .inr q
  ·exact .inl (.inr h)
theorem Go.keepA(w:WF Z H (A++O++B))(g:Go Z H O Z' H' O'):(∀ a∈A,H' a=H a)/\∀ a∈B,H' a=H a:=by
 have nd:=w.nd;simp only[U8,N1] at nd;exact⟨λa h=>g.fr a (w.od a (by simp[h])) λz=>nd.1.2.2 a h a z rfl,λa h=>g.fr a (w.od a (by simp[h])) λz=>nd.2.2 a (.inr z) a h rfl⟩
theorem Go.drop(g:Go Z H O Z' H' O')(h:∀ a∈O'',a∈O')(n:O''.Nodup):Go Z H O Z' H' O'':=⟨g.wf.sub h n,g.zz,g.fr,g.zn,λa q=>g.sub a (h a q),g.dm⟩
theorem Go.dropL(g:Go Z H O Z' H' (A++B)):Go Z H O Z' H' B:=g.drop (λa h=>by simp[h]) (U8.mp g.wf.nd).2.1
theorem Go.dropR(g:Go Z H O Z' H' (A++B)):Go Z H O Z' H' A:=g.drop (λa h=>by simp[h]) (U8.mp g.wf.nd).1
theorem Go.freeze(w:WF Z H O):Go Z H O (λa=>Z a \/ a∈O) H [] :=
 ⟨⟨List.nodup_nil,λa h=>(nomatch h),λa h=>(nomatch h),λa h=>h.elim (w.zd a) (w.od a)⟩,λa z=>.inl z,λ_ _ _=>rfl,λa z=>z.elim .inl λq=>.inr (.inl q),λa h=>(nomatch h),λ_ h=>h⟩
theorem Go.newF{p:Addr}{o:HO}(w:WF Z H O)(b:H p=none):Go Z H O (λa=>Z a \/ a=p) (upd H p o) O:=by
 have ne:∀ a,H a≠none->a≠p:=λa h e=>h (e▸b);refine⟨⟨w.nd,λa h z=>z.elim (w.nz a h) (ne a (w.od a h)),λa h=>?_,λa z=>?_⟩,λa z=>.inl z,λa h _=>jf (ne a h),λa z=>z.elim .inl λe=>.inr (.inr (e▸b)),λa h=>.inl h,λa h=>?_⟩
 ·rw[jf (ne a (w.od a h))];exact w.od a h
 ·by_cases e:a=p
  ·rw[e,jr];exact λh=>nomatch h
  ·rw[jf e];exact w.zd a (z.resolve_right e)
 ·rw[jf (ne a h)];exact h
theorem Go.newO{p:Addr}{o:HO}(w:WF Z H O)(b:H p=none):Go Z H O Z (upd H p o) (p::O):=by
 have ne:∀ a,H a≠none->a≠p:=λa h e=>h (e▸b);refine⟨⟨List.nodup_cons.mpr ⟨λh=>w.od p h b,w.nd⟩,λa h z=>?_,λa h=>?_,λa z=>?_⟩,λa z=>z,λa h _=>jf (ne a h),λa z=>.inl z,λa h=>?_,λa h=>?_⟩
 ·rcases M4.mp h with e | e
  ·exact w.zd a z (e▸b)
  ·exact w.nz a e z
 ·rcases M4.mp h with e | e
  ·rw[e,jr];exact λh=>nomatch h
  ·rw[jf (ne a (w.od a e))];exact w.od a e
 ·rw[jf (ne a (w.zd a z))];exact w.zd a z
 ·rcases M4.mp h with e | e
  ·exact .inr (e▸b)
  ·exact .inl e
 ·rw[jf (ne a h)];exact h
theorem Go.put{p:Addr}{o:HO}(w:WF Z H O)(c:p∈O):Go Z H O Z (upd H p o) O:=by
 have b:∀ a,upd H p o a=none->a≠p/\H a=none:=λa h=>by
  by_cases e:a=p
  ·rw[e,jr] at h;cases h
  ·rw[jf e] at h;exact⟨e,h⟩
 exact⟨⟨w.nd,w.nz,λa h z=>w.od a h (b a z).2,λa z e=>w.zd a z (b a e).2⟩,λa z=>z,λa h n=>jf λe=>n (e▸c),λa z=>.inl z,λa h=>.inl h,λa h z=>h (b a z).2⟩
end
noncomputable def jeU:D->Option Bool
 | .bl b=>some b
 | _=>none
@[simp] theorem blOf_bl(b:Bool):jeU (.bl b)=some b:=rfl
theorem Q8{d:D}{b:Bool}(h:jeU d=some b):d=.bl b:=by cases d<;>cases h<;>rfl
noncomputable def vx:D->Option Int
 | .int i=>some i
 | _=>none
@[simp] theorem intOf_int(i:Int):vx (.int i)=some i:=rfl
theorem jY{d:D}{n:Int}(h:vx d=some n):d=.int n:=by cases d<;>cases h<;>rfl
noncomputable def K8:D->Option (List D)
 | .lst true l=>some l
 | _=>none
@[simp] theorem Jr(l:List D):K8 (.lst true l)=some l:=rfl
theorem Yd{d:D}{l:List D}(h:K8 d=some l):d=.lst true l:=by
 cases d with
 | lst o _=>cases o<;>cases h;rfl
 | _=>cases h
noncomputable def jdB:D->Option (List D)
 | .tup l=>some l
 | _=>none
@[simp] theorem tupOf_tup(l:List D):jdB (.tup l)=some l:=rfl
noncomputable def jc4:D->Option (List KA×List D)
 | .dK true ks l=>some (ks,l)
 | _=>none
@[simp] theorem dkOf_dK(ks:List KA)(l:List D):jc4 (.dK true ks l)=some (ks,l):=rfl
theorem zg{d:D}{p:List KA×List D}(h:jc4 d=some p):d=.dK true p.1 p.2:=by
 cases d with
 | dK o _ _=>cases o<;>cases h;rfl
 | _=>cases h
noncomputable def je9:D->Option (List KA×List D)
 | .dK _ ks l=>some (ks,l)
 | _=>none
@[simp] theorem dkAny_e(o:Bool)(ks:List KA)(l:List D):je9 (.dK o ks l)=some (ks,l):=rfl
theorem jdD{d:D}{p:List KA×List D}(h:je9 d=some p):∃ o,d=.dK o p.1 p.2:=by
 cases d with
 | dK o _ _=>cases h;exact⟨o,rfl⟩
 | _=>cases h
noncomputable def jj2:D->Option (List (List KA)×List D)
 | .dT true ks l=>some (ks,l)
 | _=>none
@[simp] theorem dtOf_dT(ks:List (List KA))(l:List D):jj2 (.dT true ks l)=some (ks,l):=rfl
noncomputable def Qe:D->Option (Nat×List Str×List D)
 | .ins true c ns l=>some (c,ns,l)
 | _=>none
@[simp] theorem insOf_ins(c:Nat)(ns:List Str)(l:List D):Qe (.ins true c ns l)=some (c,ns,l):=rfl
theorem Jk{d:D}{c:Nat}{ns:List Str}{l:List D}(h:Qe d=some (c,ns,l)):d=.ins true c ns l:=by
 cases d with
 | ins o _ _ _=>cases o<;>cases h;rfl
 | _=>cases h
noncomputable def jk7:D->Option (Nat×List Str×List D)
 | .ins _ c ns l=>some (c,ns,l)
 | _=>none
@[simp] theorem inOf_ins(o:Bool)(c:Nat)(ns:List Str)(l:List D):jk7 (.ins o c ns l)=some (c,ns,l):=rfl
theorem jgA{d:D}{c:Nat}{ns:List Str}{l:List D}(h:jk7 d=some (c,ns,l)):∃ o,d=.ins o c ns l:=by
 cases d with
 | ins o _ _ _=>cases h;exact⟨o,rfl⟩
 | _=>cases h
noncomputable def jd2:D->Option (List D)
 | .lst _ l=>some l
 | _=>none
@[simp] theorem lsOf_lst(o:Bool)(l:List D):jd2 (.lst o l)=some l:=rfl
theorem JP{d:D}{l:List D}(h:jd2 d=some l):∃ o,d=.lst o l:=by
 cases d with
 | lst o _=>cases h;exact⟨o,rfl⟩
 | _=>cases h
theorem xZ{d:D}{l:List D}(h:jdB d=some l):d=.tup l:=by cases d<;>cases h<;>rfl
noncomputable def jd7:List D->Option D
 | [x]=>some x
 | _=>none
theorem qX{l:List D}{x:D}(h:jd7 l=some x):l=[x]:=by
 match l with
 | [_]=>cases h;rfl
noncomputable def two1:List D->Option (D×D)
 | [x,y]=>some (x,y)
 | _=>none
theorem two1_of{l:List D}{p:D×D}(h:two1 l=some p):l=[p.1,p.2]:=by
 match l with
 | [_,_]=>cases h;rfl
theorem ob{α β:Type}{C:Prop}{o:Option α}{f:α->Option β}{b:β}(e:o.bind f=some b)(k:∀ a,o=some a->f a=some b->C):C:=by
 cases o with
 | none=>cases e
 | some a=>exact k a rfl e
theorem oc{β:Type}{C:Prop}{c:Bool}{x:Option β}{b:β}(e:(bif c then x else none)=some b)(k:c=true->x=some b->C):C:=by
 cases c with
 | false=>cases e
 | true=>exact k rfl e
noncomputable abbrev Rh:=List (Option D)
def Slots(R:RC)(Z:Zn)(H:Hp):Rh->St->List Addr->Prop
 | [],σ,O=>σ=[]/\O=[]
 | none::ρ,σ,O=>∃ s σ',σ=s::σ'/\Slots R Z H ρ σ' O
 | some d::ρ,σ,O=>∃ v σ' O1 O2,σ=some v::σ'/\O=O1++O2/\Rep R Z H d v O1/\Slots R Z H ρ σ' O2
theorem Slots.frame(hz:∀ a,Z a->Z' a)(c:∀ a,Z a->H' a=H a):∀{ρ:Rh}{σ:St}{O:List Addr},Slots R Z H ρ σ O->(∀ a∈O,H' a=H a)->Slots R Z' H' ρ σ O
 | [],_,_,h,_=>h
 | none::ρ,_,_,h,b=>by
  obtain⟨s,f,e,r⟩:=h;exact⟨s,f,e,Slots.frame hz c r b⟩
 | some d::ρ,_,_,h,b=>by
  obtain⟨v,f,i,j,e,rfl,k,l⟩:=h;exact⟨v,f,i,j,e,rfl,k.frame hz c λa g=>b a (List.mem_append_left _ g),Slots.frame hz c l λa g=>b a (U2 _ g)⟩
inductive SPut (R:RC) (Z:Zn) (H:Hp) (ρ:Rh) (σ:St) (O:List Addr) (i:Nat):Prop
 | mk:∀(A P B:List Addr),O=A++P++B->(∀ d,ρ[i]?=some (some d)->∃ v,σ[i]?=some (some v)/\Rep R Z H d v P) ->
  (∀{Z':Zn}{H':Hp}{d':D}{v':V}{P':List Addr},Rep R Z' H' d' v' P'->(∀ a,Z a->Z' a)->(∀ a,Z a->H' a=H a)->(∀ a∈A,H' a=H a)->(∀ a∈B,H' a=H a)->Slots R Z' H' (ρ.set i (some d')) (σ.set i (some v')) (A++P'++B)) ->
  Slots R Z H (ρ.set i none) σ (A++B)->SPut R Z H ρ σ O i
theorem Slots.put:∀{ρ:Rh}{σ:St}{O:List Addr}{i:Nat},Slots R Z H ρ σ O->i < ρ.length->SPut R Z H ρ σ O i
 | [],_,_,_,_,hi=>absurd hi (Nat.not_lt_zero _)
 | none::ρ,_,_,0,h,hi=>by
  obtain⟨s,b,rfl,r⟩:=h;refine⟨[],[],_,rfl,λd e=>by simp at e,λq f g k j=>?_,?_⟩
  ·exact⟨_,b,_,_,rfl,rfl,q,Slots.frame f g r j⟩
  ·exact⟨s,b,rfl,r⟩
 | some c::ρ,_,_,0,h,hi=>by
  obtain⟨v,b,l,w,rfl,rfl,m,n⟩:=h;refine⟨[],l,w,rfl,λd e=>?_,λq f g k j=>?_,?_⟩
  ·have e:c=d:=by simpa using e
   subst e;exact⟨v,rfl,m⟩
  ·exact⟨_,b,_,_,rfl,rfl,q,Slots.frame f g n j⟩
  ·exact⟨_,b,rfl,n⟩
 | none::ρ,_,_,i+1,h,hi=>by
  obtain⟨s,b,rfl,r⟩:=h;obtain⟨A,P,B,rfl,o,p,t⟩:=Slots.put (i:=i) r (by simpa using hi);refine⟨A,P,B,rfl,λd e=>o d (by simpa using e),λq f g k j=>?_,?_⟩
  ·exact⟨s,_,rfl,p q f g k j⟩
  ·exact⟨s,b,rfl,t⟩
 | some c::ρ,_,_,i+1,h,hi=>by
  obtain⟨v,b,l,w,rfl,rfl,m,n⟩:=h;obtain⟨A,P,B,rfl,o,p,t⟩:=Slots.put (i:=i) n (by simpa using hi);refine⟨l++A,P,B,by simp,λd e=>o d (by simpa using e),λ{y z C D x} q f g k j=>?_,?_⟩
  ·exact⟨v,_,l,A++x++B,rfl,by simp,m.frame f g λa u=>k a (List.mem_append_left _ u),p q f g (λa u=>k a (U2 _ u)) j⟩
  ·exact⟨v,b,l,A++B,rfl,by simp,m,t⟩
theorem yZ:∀{l:List α}{i:Nat}{x:α},l[i]?=some x->l.set i x=l
 | [],_,_,h=>by simp at h
 | y::l,0,x,h=>by simp at h;subst h;rfl
 | y::l,i+1,x,h=>by rw[List.set_cons_succ,yZ (by simpa using h)]
abbrev FE:=Rh->Option (D×Rh)
abbrev FT':=Rh->Option (Bool×Rh)
abbrev FA:=Rh->Option (List D×Rh)
def DE(R:RC)(te:TE)(f:FE):Prop:=∀{σ:St}{ρ ρ':Rh}{Z:Zn}{H:Hp}{O:List Addr}{d:D},WF Z H O->Slots R Z H ρ σ O->f ρ=some (d,ρ') ->
 ∀{Q:VK},(∀{v:V}{Z':Zn}{H':Hp}{P O':List Addr},Go Z H O Z' H' (P++O')->Rep R Z' H' d v P->Slots R Z' H' ρ' σ O'->Q v H')->te σ H Q
def DT(R:RC)(tt:TT)(f:FT'):Prop:=∀{σ:St}{ρ ρ':Rh}{Z:Zn}{H:Hp}{O:List Addr}{b:Bool},WF Z H O->Slots R Z H ρ σ O->f ρ=some (b,ρ') ->
 ∀{Q:Bool->Hp->Prop},(∀{Z':Zn}{H':Hp}{O':List Addr},Go Z H O Z' H' O'->Slots R Z' H' ρ' σ O'->Q b H')->tt σ H Q
def DA(R:RC)(ta:TA)(f:FA):Prop:=∀{σ:St}{ρ ρ':Rh}{Z:Zn}{H:Hp}{O:List Addr}{ds:List D},WF Z H O->Slots R Z H ρ σ O->f ρ=some (ds,ρ') ->
 ∀{Q:List V->Hp->Prop},(∀{vs:List V}{Z':Zn}{H':Hp}{P O':List Addr},Go Z H O Z' H' (P++O')->Reps R Z' H' ds vs P->Slots R Z' H' ρ' σ O'->Q vs H')->ta σ H Q
def DC(R:RC)(r:List V->Hp->VK->Prop)(g:List D->Option D):Prop:=∀{Z:Zn}{H:Hp}{xs:List D}{d:D}{vs:List V}{O:List Addr},WF Z H O->Reps R Z H xs vs O->g xs=some d ->
 ∀{Q:VK},(∀{w:V}{Z':Zn}{H':Hp}{P:List Addr},Go Z H O Z' H' P->Rep R Z' H' d w P->Q w H')->r vs H Q
inductive Out where
 | nx (ρ:Rh) | rt (d:D) (ρ:Rh) | bk (ρ:Rh) | ct (ρ:Rh)
abbrev FS:=Rh->Option Out
noncomputable def Out.thn:Out->FS->Option Out
 | .nx ρ,g=>g ρ
 | .rt d ρ,_=>some (.rt d ρ)
 | .bk ρ,_=>some (.bk ρ)
 | .ct ρ,_=>some (.ct ρ)
@[simp] theorem thn_nx(ρ:Rh)(g:FS):(Out.nx ρ).thn g=g ρ:=rfl
@[simp] theorem thn_rt(d:D)(ρ:Rh)(g:FS):(Out.rt d ρ).thn g=some (.rt d ρ):=rfl
@[simp] theorem thn_bk(ρ:Rh)(g:FS):(Out.bk ρ).thn g=some (.bk ρ):=rfl
@[simp] theorem thn_ct(ρ:Rh)(g:FS):(Out.ct ρ).thn g=some (.ct ρ):=rfl
noncomputable def Out.val:Out->Option D
 | .rt d _=>some d
 | .nx _=>some .non
 | _=>none
@[simp] theorem val_rt(d:D)(ρ:Rh):(Out.rt d ρ).val=some d:=rfl
@[simp] theorem val_nx(ρ:Rh):(Out.nx ρ).val=some .non:=rfl
noncomputable def Out.loop:Out->FS->Option Out
 | .nx ρ,g=>g ρ
 | .ct ρ,g=>g ρ
 | .bk ρ,_=>some (.nx ρ)
 | .rt d ρ,_=>some (.rt d ρ)
@[simp] theorem jbv(ρ:Rh)(g:FS):(Out.nx ρ).loop g=g ρ:=rfl
@[simp] theorem loop_ct(ρ:Rh)(g:FS):(Out.ct ρ).loop g=g ρ:=rfl
@[simp] theorem loop_bk(ρ:Rh)(g:FS):(Out.bk ρ).loop g=some (.nx ρ):=rfl
@[simp] theorem loop_rt(d:D)(ρ:Rh)(g:FS):(Out.rt d ρ).loop g=some (.rt d ρ):=rfl
abbrev PF:=Rh->Option D
noncomputable def pV(i:Nat):PF:=λρ=>match ρ[i]? with
 | some (some d)=>some d
 | _=>none
theorem JN(h:pV i ρ=some d):ρ[i]?=some (some d):=by
 unfold pV at h;split at h
 ·rename_i x a;rw[a];rw[X7 h]
 ·cases h
def Keep(pm:List Nat)(σ σ':St):Prop:=∀ i∈pm,σ'[i]?=σ[i]?
def OutOk(R:RC)(pm:List Nat)(Z:Zn)(H:Hp)(O:List Addr)(σ:St)(D':Ends):Out->Prop
 | .nx ρ'=>∀{σ':St}{Z':Zn}{H':Hp}{O':List Addr},Go Z H O Z' H' O'->Slots R Z' H' ρ' σ' O'->Keep pm σ σ'->D'.nx σ' H'
 | .bk ρ'=>∀{σ':St}{Z':Zn}{H':Hp}{O':List Addr},Go Z H O Z' H' O'->Slots R Z' H' ρ' σ' O'->Keep pm σ σ'->D'.bk σ' H'
 | .ct ρ'=>∀{σ':St}{Z':Zn}{H':Hp}{O':List Addr},Go Z H O Z' H' O'->Slots R Z' H' ρ' σ' O'->Keep pm σ σ'->D'.ct σ' H'
 | .rt d ρ'=>∀{v:V}{σ':St}{Z':Zn}{H':Hp}{P O':List Addr},Go Z H O Z' H' (P++O')->Rep R Z' H' d v P->Slots R Z' H' ρ' σ' O'->Keep pm σ σ'->D'.rt v H'
def DS(R:RC)(pm:List Nat)(ts:TS)(f:FS):Prop:=∀{σ:St}{ρ:Rh}{Z:Zn}{H:Hp}{O:List Addr}{o:Out},WF Z H O->Slots R Z H ρ σ O->f ρ=some o->∀{D':Ends},OutOk R pm Z H O σ D' o->ts D' σ H
def DG(R:RC)(pm:List Nat)(tg:TG)(f:D->Rh->Option Rh):Prop:=∀{σ:St}{ρ ρ':Rh}{Z:Zn}{H:Hp}{O P:List Addr}{d:D}{v:V},WF Z H (P++O)->Rep R Z H d v P->Slots R Z H ρ σ O->f d ρ=some ρ' ->
 ∀{Q:St->Hp->Prop},(∀{σ':St}{Z':Zn}{H':Hp}{O':List Addr},Go Z H (P++O) Z' H' O'->Slots R Z' H' ρ' σ' O'->Keep pm σ σ'->Q σ' H')->tg v σ H Q
theorem Keep.refl(pm:List Nat)(σ:St):Keep pm σ σ:=λ_ _=>rfl
theorem Keep.trans(h:Keep pm σ σ')(k:Keep pm σ' σ''):Keep pm σ σ'':=λi hi=>(k i hi).trans (h i hi)
theorem Keep.set(h:i∉pm):Keep pm σ (σ.set i x):=λj a=>by
 have ne:i≠j:=λe=>h (by rw[e];exact a);rw[List.getElem?_set,if_neg ne]
@[simp] def dMv(i:Nat)(ρ:Rh):Option (D×Rh):=(pV i ρ).bind λd=>some (d,ρ.set i none)
theorem jkG:DE R (kX i) (dMv i):=by
 intro σ ρ o Z H O d w h e Q k;refine ob e λc f e=>?_;have f:=JN f;obtain⟨A,P,B,rfl,l,p,m⟩:=h.put (L8.mp f).1;obtain⟨v,n,r⟩:=l c f;cases e;refine⟨v,n,k (P:=P) ((Go.refl w).drop (λa q=>?_) ?_) r m⟩
 ·simp at q ⊢;rcases q with q | q | q<;>simp[q]
 ·have nd:=w.nd;simp only[U8,N1] at nd ⊢;exact⟨nd.1.2.1,⟨nd.1.1,nd.2.1,λa g b j=>nd.2.2 a (.inl g) b j⟩,λa g b j e=>j.elim (λq=>nd.1.2.2 b q a g e.symm) λq=>nd.2.2 a (.inr g) b q e⟩
theorem jfP(c:Go Z H O Z' H' (P1++O1))(b:Go Z' H' O1 Z'' H'' (P2++O2)):Go Z H O Z'' H'' (P1++(P2++O2))/\(∀ a,Z' a->Z'' a)/\(∀ a,Z' a->H'' a=H' a)/\∀ a∈P1,H'' a=H' a:=by
 have w:WF Z' H' (P1++O1++[]):=by simpa using c.wf
 have f:=b.frame w;refine⟨c.trans (by simpa using f),b.zz,λa z=>b.zH c.wf.right a z,(Go.keepA w b).1⟩
@[simp] def dOp(g:D->D->Option D)(fa:FE)(fb:FE)(ρ:Rh):Option (D×Rh):=(fa ρ).bind λr=>(fb r.2).bind λt=>(g r.1 t.1).bind λz=>some (z,t.2)
@[simp] def jg9(ρ:Rh):Option (List D×Rh):=some ([],ρ)
@[simp] def vj(fa:FE)(fr:FA)(ρ:Rh):Option (List D×Rh):=(fa ρ).bind λx=>(fr x.2).bind λy=>some (x.1::y.1,y.2)
theorem jiM:DA R Ye jg9:=by
 intro σ ρ a Z H O d w h e Q k;cases e;exact k (P:=[]) (Go.refl w) Reps.empty h
theorem jgE(b:DE R ta fa)(c:DA R tr fr):DA R (j9 ta tr) (vj fa fr):=by
 intro σ ρ r Z H O d w h e Q k;refine ob e λp f e=>?_;obtain⟨x,s⟩:=p;dsimp only at e;refine ob e λp e2 e=>?_;obtain⟨t,u⟩:=p;cases e;refine b w h f λ{v y z g A} a i s1=>?_;refine c a.wf.right s1 e2 λ{B C D j E} l m n=>?_;obtain⟨g3,zz,o,q⟩:=jfP a l;exact k (P:=g++j) (by simpa using g3) (.cons (i.frame zz o q) m) n
noncomputable def dCB(g:List D->Option D)(fa:FA):FE:=λρ=>(fa ρ).bind λp5=>(g p5.1).bind λz=>some (z,p5.2)
theorem jh7(f:DC R r g)(i:DA R ta fa):DE R (tCB r ta) (dCB g fa):=by
 intro σ ρ y Z H O d w h e Q k;refine ob e λp j e=>?_;obtain⟨x,A⟩:=p;dsimp only at e;refine ob e λz e3 e=>?_;cases e;refine i w h j λ{v l m n o} b q s1=>?_;refine f b.wf.left q e3 λ{B Z3 C s} g4 t=>?_;have c:WF l m ([]++n++o):=by simpa using b.wf
 have u:=g4.frame c;refine k (P:=s) (b.trans (by simpa using u)) t (s1.frame g4.zz (λa z=>g4.zH b.wf.left a z) (Go.keepA c g4).2)
def jha(fa:FA):FE:=dCB (λxs=>bif decide (xs.length<=1000) then some (.tup xs) else none) fa
def jjV(fa:FA):FE:=dCB (λxs=>bif decide (xs.length<=1000) then some (.lst true xs) else none) fa
theorem jd5(h:n<=1000):n<=sizeLine:=Nat.le_of_lt (jaS h)
theorem Rep.tupNew(w:WF Z H O)(b:H p=none)(r:Reps R Z H l vs O):Rep R (λa=>Z a \/ a=p) (upd H p (.tup vs)) (.tup l) (.ref p) O:=by
 have ne:∀ a,H a≠none->a≠p:=λa h e=>h (e▸b);rw[Rep];exact⟨p,vs,rfl,.inl ⟨.inr rfl,.inl jr⟩,r.frame (λa z=>.inl z) (λa z=>jf (ne a (w.zd a z))) λa h=>jf (ne a (w.od a h))⟩
theorem Rep.lstNew(w:WF Z H O)(b:H p=none)(r:Reps R Z H l vs O):Rep R Z (upd H p (.lst vs)) (.lst true l) (.ref p) (p::O):=by
 have ne:∀ a,H a≠none->a≠p:=λa h e=>h (e▸b);rw[Rep];exact⟨p,vs,O,rfl,r.frame (λa z=>z) (λa z=>jf (ne a (w.zd a z))) λa h=>jf (ne a (w.od a h)),jr,rfl⟩
theorem jjk(g:DA R ta fa):DE R (xR ta) (jha fa):=by
 refine jh7 (r:=λa c Q=>a.length<=sizeLine/\∀ p,c p=none->Q (.ref p) (upd c p (.tup a))) ?_ g;intro Z H a d h O w r e Q k;dsimp only at e;by_cases b:a.length<=1000
 ·rw[X4 b,cond_true] at e;cases e;exact⟨by rw[r.length];exact jd5 b,λp f=>k (Go.newF w f) (Rep.tupNew w f r)⟩
 ·rw[X5 b,cond_false] at e;cases e
theorem jiV(g:DA R ta fa):DE R (jht ta) (jjV fa):=by
 refine jh7 (r:=λa c Q=>a.length<=sizeLine/\∀ p,c p=none->Q (.ref p) (upd c p (.lst a))) ?_ g;intro Z H a d h O w r e Q k;dsimp only at e;by_cases b:a.length<=1000
 ·rw[X4 b,cond_true] at e;cases e;exact⟨by rw[r.length];exact jd5 b,λp f=>k (Go.newO w f) (Rep.lstNew w f r)⟩
 ·rw[X5 b,cond_false] at e;cases e
theorem Rep.bl_of(r:Rep R Z H (.bl b) v O):v=.bl b/\O=[]:=by rw[Rep] at r;exact r
theorem Rep.bl_mk:Rep R Z H (.bl b) (.bl b) []:=by rw[Rep];exact⟨rfl,rfl⟩
theorem OutOk.pre(g:Go Z H O Z1 H1 O1)(kp:Keep pm σ σ1)(k:OutOk R pm Z H O σ D' o):OutOk R pm Z1 H1 O1 σ1 D' o:=by
 cases o with
 | nx ρ=>exact λa b c=>k (g.trans a) b (kp.trans c)
 | bk ρ=>exact λa b c=>k (g.trans a) b (kp.trans c)
 | ct ρ=>exact λa b c=>k (g.trans a) b (kp.trans c)
 | rt d ρ=>exact λa e b c=>k (g.trans a) e b (kp.trans c)
@[simp] def jM(ρ:Rh):Option Out:=some (.nx ρ)
noncomputable def jg(f g:FS):FS:=λρ=>match f ρ with
 | some (.nx ρ1)=>g ρ1
 | o=>o
@[simp] theorem jeg:jg f g ρ=(f ρ).bind λo=>o.thn g:=by
 unfold jg;cases h:f ρ with
 | none=>rfl
 | some o=>cases o<;>rfl
theorem jgw:DS R pm jgF jM:=by
 intro σ ρ Z H O o w h e a k;cases e;exact k (Go.refl w) h (Keep.refl _ _)
theorem jhz(i:DS R pm t f)(j:DS R pm u g):DS R pm (jke t u) (jg f g):=by
 intro σ ρ Z H O o w h e a k;rw[jeg] at e;refine ob e λl m e=>i w h m (D':={ a with nx:=u a }) ?_;cases l with
 | nx b=>exact λ{p q r s} c s1 n=>j c.wf s1 e (k.pre c n)
 | bk b=>cases e;exact k
 | ct b=>cases e;exact k
 | rt d b=>cases e;exact k
@[simp] def sBreak(ρ:Rh):Option Out:=some (.bk ρ)
@[simp] def sCont(ρ:Rh):Option Out:=some (.ct ρ)
@[simp] def J1(fe:FE)(ρ:Rh):Option Out:=(fe ρ).bind λx=>some (.nx x.2)
theorem jez(a:DE R ta fa):DS R pm (Yr ta) (J1 fa):=by
 intro σ ρ Z H O o w h e d k;refine ob e λp b e=>?_;obtain⟨x,f⟩:=p;cases e;exact a w h b λc g s1=>k c.dropL s1 (Keep.refl _ _)
@[simp] def yQ(fe:FE)(ρ:Rh):Option Out:=(fe ρ).bind λx=>some (.rt x.1 x.2)
theorem jia(a:DE R ta fa):DS R pm (jlD ta) (yQ fa):=by
 intro σ ρ Z H O o w h e f k;refine ob e λp b e=>?_;obtain⟨x,g⟩:=p;cases e;exact a w h b λc d s1=>k c d s1 (Keep.refl _ _)
@[simp] def sRetN(ρ:Rh):Option Out:=some (.rt .non ρ)
@[simp] def sIf(ft:FT')(f:FS)(g:FS)(ρ:Rh):Option Out:=(ft ρ).bind λx=>bif x.1 then f x.2 else g x.2
theorem jkt(b:DT R tt ft)(d:DS R pm t f)(i:DS R pm u g):DS R pm (jkD tt t u) (sIf ft f g):=by
 intro σ ρ Z H O o w h e l k;refine ob e λp j e=>?_;obtain⟨c,m⟩:=p;dsimp only at e;refine b w h j λ{n q r} a s1=>?_;cases c with
 | true=>exact jg4 (d a.wf s1 e (k.pre a (Keep.refl _ _)))
 | false=>exact jg3 (i a.wf s1 e (k.pre a (Keep.refl _ _)))
@[simp] def vf(ρ:Rh):Option Out:=none
theorem jb9:DS R pm jai vf:=by
 intro σ ρ Z H O o w h e a k;cases e
@[simp] def jc(pm:List Nat)(i:Nat)(d:D)(ρ:Rh):Option Rh:=bif decide (i < ρ.length)&&!decide (i∈pm) then some (ρ.set i (some d)) else none
theorem Kq:DG R pm (Ky i) (jc pm i):=by
 intro σ ρ l Z H O P d v w r h e Q k;unfold jc at e;by_cases hi:i < ρ.length
 ·by_cases f:i∈pm
  ·rw[X4 f] at e;simp at e
  ·rw[X4 hi,X5 f] at e;cases e;obtain⟨A,m,B,rfl,n,j,o⟩:=h.put hi;refine k (O':=A++P++B) ((Go.refl w).drop (λa q=>?_) ?_) (j r (λ_ z=>z) (λ_ _=>rfl) (λ_ _=>rfl) (λ_ _=>rfl)) (Keep.set f)
   ·simp at q ⊢;rcases q with q | q | q<;>simp[q]
   ·have nd:=w.nd;simp only[U8,N1] at nd ⊢;exact⟨⟨nd.2.1.1.1,nd.1,λa g b c e=>nd.2.2 b c a (.inl (.inl g)) e.symm⟩,nd.2.1.2.1,λa g b c e=>g.elim (λq=>nd.2.1.2.2 a (.inl q) b c e) λq=>nd.2.2 a q b (.inr c) e⟩
 ·rw[X5 hi] at e;simp at e
@[simp] def jB(fe:FE)(G:D->Rh->Option Rh)(ρ:Rh):Option Out:=(fe ρ).bind λx=>(G x.1 x.2).bind λr=>some (.nx r)
theorem jah(b:DE R ta fa)(c:DG R pm tg g):DS R pm (je8 ta tg) (jB fa g):=by
 intro σ ρ Z H O o w h e m k;refine ob e λp d e=>?_;obtain⟨x,n⟩:=p;dsimp only at e;refine ob e λq e2 e=>?_;cases e;exact b w h d λa f s1=>c a.wf f s1 e2 λi j l=>k (Go.trans a i) j l
def DGs(R:RC)(pm:List Nat)(tg:TGs)(f:List D->Rh->Option Rh):Prop:=∀{σ:St}{ρ ρ':Rh}{Z:Zn}{H:Hp}{O P:List Addr}{ds:List D}{vs:List V},WF Z H (P++O)->Reps R Z H ds vs P->Slots R Z H ρ σ O->f ds ρ=some ρ' ->
 ∀{Q:St->Hp->Prop},(∀{σ':St}{Z':Zn}{H':Hp}{O':List Addr},Go Z H (P++O) Z' H' O'->Slots R Z' H' ρ' σ' O'->Keep pm σ σ'->Q σ' H')->tg vs σ H Q
noncomputable def gN:List D->Rh->Option Rh:=λds ρ=>match ds with
 | []=>some ρ
 | _=>none
noncomputable def gC(g:D->Rh->Option Rh)(gs:List D->Rh->Option Rh):List D->Rh->Option Rh:=λds ρ=>match ds with
 | []=>none
 | d::r=>(g d ρ).bind λρ1=>gs r ρ1
noncomputable def gT(n:Nat)(gs:List D->Rh->Option Rh):D->Rh->Option Rh:=λd ρ=>match d with
 | .tup l=>bif decide (l.length=n) then gs l ρ else none
 | _=>none
abbrev PTf:=Rh->Option Bool
abbrev PAf:=Rh->Option (List D)
section
variable {R:RC}{Z Z':Zn}{H H':Hp}
mutual
theorem Rep.dom:∀{d:D}{v:V}{O:List Addr},Rep R Z H d v O->∀ a∈O,H a≠none
 | .non,_,_,h,a,ha=>by rw[Rep] at h;rw[h.2] at ha;cases ha
 | .bl _,_,_,h,a,ha=>by rw[Rep] at h;rw[h.2] at ha;cases ha
 | .int _,_,_,h,a,ha=>by rw[Rep] at h;rw[h.2] at ha;cases ha
 | .str _,_,_,h,a,ha=>by rw[Rep] at h;rw[h.2] at ha;cases ha
 | .dead,_,_,h,a,ha=>by rw[Rep] at h;rw[h] at ha;cases ha
 | .tok _,_,_,h,a,ha=>by rw[Rep] at h;rw[h.2] at ha;cases ha
 | .exc _ _,_,_,h,a,ha=>by rw[Rep] at h;obtain⟨_,_,_,_,_,_,_,h⟩:=h;rw[h] at ha;cases ha
 | .tup l,_,_,h,a,ha=>by
  rw[Rep] at h;obtain⟨b,vs,e,t,r⟩:=h;exact Reps.dom r a ha
 | .lst o l,_,_,h,a,ha=>by
  rw[Rep] at h;obtain⟨b,vs,O',e,r,h⟩:=h;cases o with
  | true =>
   obtain⟨h1,rfl⟩:=h;rcases M4.mp ha with e | e
   ·rw[e,h1];exact λz=>(nomatch z)
   ·exact Reps.dom r a e
  | false=>rw[h.2.2] at ha;cases ha
 | .dK o ks l,_,_,h,a,ha=>by
  rw[Rep] at h;obtain⟨b,vs,O',e,r,hl,hd,h⟩:=h;cases o with
  | true =>
   have h:=(show _=_ from h);subst h;rcases M4.mp ha with e | e
   ·rw[e,hd];exact λz=>(nomatch z)
   ·exact Reps.dom r a e
  | false=>rw[h.2.2] at ha;cases ha
 | .dT o ks l,_,_,h,a,ha=>by
  rw[Rep] at h;obtain⟨b,vs,O',e,r,hl,hd,h⟩:=h;cases o with
  | true =>
   have h:=(show _=_ from h);subst h;rcases M4.mp ha with e | e
   ·rw[e,hd];exact λz=>(nomatch z)
   ·exact Reps.dom r a e
  | false=>rw[h.2.2] at ha;cases ha
 | .ins o c ns l,_,_,h,a,ha=>by
  rw[Rep] at h;obtain⟨b,dx,vs,O',e,r,hl,hd,h⟩:=h;cases o with
  | true =>
   have h:=(show _=_ from h);subst h;rcases M4.mp ha with e | e
   ·rw[e,hd];exact λz=>(nomatch z)
   ·exact Reps.dom r a e
  | false=>rw[h.2.2] at ha;cases ha
theorem Reps.dom:∀{l:List D}{vs:List V}{O:List Addr},Reps R Z H l vs O->∀ a∈O,H a≠none
 | [],_,_,h,a,ha=>by rw[Reps] at h;rw[h.2] at ha;cases ha
 | d::l,_,_,h,a,ha=>by
  rw[Reps] at h;obtain⟨v,vs,O1,O2,e,rfl,r1,r2⟩:=h;rcases N1.mp ha with q | q
  ·exact Rep.dom r1 a q
  ·exact Reps.dom r2 a q
end
theorem Slots.dom:∀{ρ:Rh}{σ:St}{O:List Addr},Slots R Z H ρ σ O->∀ a∈O,H a≠none
 | [],_,_,h,a,b=>by rw[h.2] at b;cases b
 | none::ρ,_,_,h,a,b=>by obtain⟨s,c,rfl,r⟩:=h;exact Slots.dom r a b
 | some d::ρ,_,_,h,a,b=>by
  obtain⟨v,c,g,i,rfl,rfl,e,f⟩:=h;rcases N1.mp b with q | q
  ·exact e.dom a q
  ·exact Slots.dom f a q
abbrev Zd(Z:Zn)(H:Hp):Prop:=∀ a,Z a->H a≠none
theorem wf0(z:Zd Z H):WF Z H []:=⟨List.nodup_nil,λa h=>(nomatch h),λa h=>(nomatch h),z⟩
theorem Go.id(z:Zd Z H):Go Z H [] Z H []:=Go.refl (wf0 z)
theorem Go.same{P:List Addr}(g:Go Z H [] Z' H' P):∀ a,H a≠none->H' a=H a:=λa h=>g.fr a h (λz=>(nomatch z))
theorem Go.rep{P O:List Addr}{d:D}{v:V}(z:Zd Z H)(g:Go Z H [] Z' H' P)(r:Rep R Z H d v O):Rep R Z' H' d v O:=r.frame g.zz (λa h=>g.same a (z a h)) λa h=>g.same a (r.dom a h)
theorem Go.reps{P O:List Addr}{l:List D}{vs:List V}(z:Zd Z H)(g:Go Z H [] Z' H' P)(r:Reps R Z H l vs O):Reps R Z' H' l vs O:=r.frame g.zz (λa h=>g.same a (z a h)) λa h=>g.same a (r.dom a h)
theorem Go.slots{P O:List Addr}{ρ:Rh}{σ:St}(z:Zd Z H)(g:Go Z H [] Z' H' P)(r:Slots R Z H ρ σ O):Slots R Z' H' ρ σ O:=r.frame g.zz (λa h=>g.same a (z a h)) λa h=>g.same a (r.dom a h)
theorem Go.pair{P a:List Addr}{Z'':Zn}{H'':Hp}(g:Go Z H [] Z' H' P)(k:Go Z' H' [] Z'' H'' a):Go Z H [] Z'' H'' (P++a):=by
 have w:WF Z' H' (P++[]++[]):=by simpa using g.wf
 have f:=k.frame w;exact g.trans (by simpa using f)
theorem Go.to0{O P:List Addr}(g:Go Z H O Z' H' P):Go Z H O Z' H' []:=g.drop (λa h=>(nomatch h)) List.nodup_nil
theorem Go.widen{P O:List Addr}(w:WF Z H O)(g:Go Z H [] Z' H' P):Go Z H O Z' H' (P++O):=by
 have f:=g.frame (A:=[]) (B:=O) (by simpa using w);simpa using f
def PP(R:RC)(te:TE)(p:PF):Prop:=∀{σ:St}{ρ:Rh}{Z:Zn}{H:Hp}{O:List Addr}{d:D},Zd Z H->Slots R Z H ρ σ O->p ρ=some d ->
 ∀{Q:VK},(∀{v:V}{Z':Zn}{H':Hp}{P:List Addr},Go Z H [] Z' H' P->Rep R Z' H' d v P->Q v H')->te σ H Q
def PB(R:RC)(te:TE)(p:PF):Prop:=∀{σ:St}{ρ:Rh}{Z:Zn}{H:Hp}{O:List Addr}{d:D},Zd Z H->Slots R Z H ρ σ O->p ρ=some d ->
 ∀{Q:VK},(∀{v:V}{Z':Zn}{H':Hp}{P:List Addr},Go Z H [] Z' H' []->Rep R Z' H' d v P->Q v H')->te σ H Q
def PPs(R:RC)(ta:TA)(p:PAf):Prop:=∀{σ:St}{ρ:Rh}{Z:Zn}{H:Hp}{O:List Addr}{ds:List D},Zd Z H->Slots R Z H ρ σ O->p ρ=some ds ->
 ∀{Q:List V->Hp->Prop},(∀{vs:List V}{Z':Zn}{H':Hp}{P:List Addr},Go Z H [] Z' H' P->Reps R Z' H' ds vs P->Q vs H')->ta σ H Q
def PBs(R:RC)(ta:TA)(p:PAf):Prop:=∀{σ:St}{ρ:Rh}{Z:Zn}{H:Hp}{O:List Addr}{ds:List D},Zd Z H->Slots R Z H ρ σ O->p ρ=some ds ->
 ∀{Q:List V->Hp->Prop},(∀{vs:List V}{Z':Zn}{H':Hp}{P:List Addr},Go Z H [] Z' H' []->Reps R Z' H' ds vs P->Q vs H')->ta σ H Q
def PTt(R:RC)(tt:TT)(p:PTf):Prop:=∀{σ:St}{ρ:Rh}{Z:Zn}{H:Hp}{O:List Addr}{b:Bool},Zd Z H->Slots R Z H ρ σ O->p ρ=some b ->
 ∀{Q:Bool->Hp->Prop},(∀{Z':Zn}{H':Hp},Go Z H [] Z' H' []->Q b H')->tt σ H Q
theorem PP.b{te:TE}{p:PF}(h:PP R te p):PB R te p:=λz s e _ k=>h z s e λg r=>k g.to0 r
theorem PPs.b{te:TA}{p:PAf}(h:PPs R te p):PBs R te p:=λz s e _ k=>h z s e λg r=>k g.to0 r
@[simp] def pF(pa:PF)(ρ:Rh):Option D:=(pa ρ).bind λd=>bif frz d then some d else none
theorem PB.f{te:TE}{p:PF}(h:PB R te p):PP R te (pF p):=by
 intro σ ρ Z H O d z s e Q k;refine ob e λc a e=>oc e λb e=>?_;cases e;exact h z s a λg r=>by
  cases r.nil b;exact k g r
@[simp] def dP(pa:PF)(ρ:Rh):Option (D×Rh):=(pa ρ).bind λd=>some (d,ρ)
@[simp] def dPT(q:PTf)(ρ:Rh):Option (Bool×Rh):=(q ρ).bind λd=>some (d,ρ)
theorem PP.d{te:TE}{p:PF}(h:PP R te p):DE R te (dP p):=by
 intro σ ρ b Z H O d w s e Q k;refine ob e λc a e=>?_;cases e;exact h w.zd s a λg r=>k (g.widen w) r (g.slots w.zd s)
theorem PTt.d{te:TT}{p:PTf}(h:PTt R te p):DT R te (dPT p):=by
 intro σ ρ b Z H O d w s e Q k;refine ob e λc a e=>?_;cases e;exact h w.zd s a λg=>k (by simpa using g.widen w) (g.slots w.zd s)
@[simp] def pC(d:D)(ρ:Rh):Option D:=some d
theorem jib{i:Nat}:PB R (kX i) (pV i):=by
 intro σ ρ Z H O d z s e Q k;unfold pV at e;split at e
 ·rename_i c a;cases e;obtain⟨A,P,B,rfl,b,_⟩:=s.put (L8.mp a).1;obtain⟨v,f,r⟩:=b d a;exact⟨v,f,k (Go.id z) r⟩
 ·cases e
theorem jjR{d:D}{v:V}(a:∀(Z:Zn) (H:Hp),Rep R Z H d v []):PP R (tC v) (pC d):=by
 intro σ ρ Z H O b z s e Q k;cases e;exact k (Go.id z) (a Z H)
theorem Rep.int_mk{i:Int}:Rep R Z H (.int i) (.int i) []:=by rw[Rep];exact⟨rfl,rfl⟩
theorem Rep.str_mk{s:List Nat}:Rep R Z H (.str s) (.str (S s)) []:=by rw[Rep];exact⟨rfl,rfl⟩
theorem Rep.non_mk:Rep R Z H .non .non []:=by rw[Rep];exact⟨rfl,rfl⟩
theorem Rep.int_of{i:Int}{v:V}{O:List Addr}(r:Rep R Z H (.int i) v O):v=.int i/\O=[]:=by rw[Rep] at r;exact r
theorem Rep.str_of{s:List Nat}{v:V}{O:List Addr}(r:Rep R Z H (.str s) v O):v=.str (S s)/\O=[]:=by rw[Rep] at r;exact r
theorem Rep.non_of{v:V}{O:List Addr}(r:Rep R Z H .non v O):v=.non/\O=[]:=by rw[Rep] at r;exact r
def BO(R:RC)(r:R2)(g:D->D->Option D):Prop:=∀{Z:Zn}{H:Hp}{x y d:D}{v u:V}{O1 O2:List Addr},Zd Z H->Rep R Z H x v O1->Rep R Z H y u O2->g x y=some d ->
 ∀{Q:VK},(∀{w:V}{Z':Zn}{H':Hp}{P:List Addr},Go Z H [] Z' H' P->Rep R Z' H' d w P->Q w H')->r v u H Q
def BO'(R:RC)(r:R2)(g:D->D->Option D):Prop:=∀{Z:Zn}{H:Hp}{x y d:D}{v u:V}{O1 O2:List Addr},Zd Z H->Rep R Z H x v O1->Rep R Z H y u O2->g x y=some d ->
 ∀{Q:VK},(∀{w:V}{P:List Addr},Rep R Z H d w P->Q w H)->r v u H Q
def BU(R:RC)(r:V->Hp->VK->Prop)(g:D->Option D):Prop:=∀{Z:Zn}{H:Hp}{x d:D}{v:V}{O:List Addr},Zd Z H->Rep R Z H x v O->g x=some d ->
 ∀{Q:VK},(∀{w:V}{Z':Zn}{H':Hp}{P:List Addr},Go Z H [] Z' H' P->Rep R Z' H' d w P->Q w H')->r v H Q
def BC(R:RC)(r:List V->Hp->VK->Prop)(g:List D->Option D):Prop:=∀{Z:Zn}{H:Hp}{xs:List D}{d:D}{vs:List V}{O:List Addr},Zd Z H->Reps R Z H xs vs O->g xs=some d ->
 ∀{Q:VK},(∀{w:V}{Z':Zn}{H':Hp}{P:List Addr},Go Z H [] Z' H' P->Rep R Z' H' d w P->Q w H')->r vs H Q
@[simp] def p2(G:D->D->Option D)(pa:PF)(pb:PF)(ρ:Rh):Option D:=(pa ρ).bind λx=>(pb ρ).bind λy=>G x y
@[simp] def p1(G:D->Option D)(pa:PF)(ρ:Rh):Option D:=(pa ρ).bind G
theorem KR{r:R2}{g:D->D->Option D}{ta tb:TE}{pa pb:PF}(c:BO R r g)(f:PB R ta pa)(h:PB R tb pb):PP R (tOp r ta tb) (p2 g pa pb):=by
 intro σ ρ Z H O d z s e Q k;refine ob e λx i e=>ob e λy e2 e=>?_;refine f z s i λ{v n o p} a j=>?_;refine h a.wf.zd (a.slots z s) e2 λ{u q t w} b l=>?_;exact c b.wf.zd (b.rep a.wf.zd j) l e λg3 m=>k ((a.pair b).pair g3) m
theorem jkX{r:R2}{g:D->D->Option D}{ta tb:TE}{pa pb:PF}(c:BO' R r g)(f:PB R ta pa)(h:PB R tb pb):PB R (tOp r ta tb) (p2 g pa pb):=by
 intro σ ρ Z H O d z s e Q k;refine ob e λx i e=>ob e λy e2 e=>?_;refine f z s i λ{v n o p} a j=>?_;refine h a.wf.zd (a.slots z s) e2 λ{u q t w} b l=>?_;exact c b.wf.zd (b.rep a.wf.zd j) l e λm=>k (a.pair b) m
theorem jkJ{r:V->Hp->VK->Prop}{g:D->Option D}{ta:TE}{pa:PF}(b:BU R r g)(c:PB R ta pa):PP R (tUn r ta) (p1 g pa):=by
 intro σ ρ Z H O d z s e Q k;refine ob e λx f e=>?_;exact c z s f λ{v j l m} a h=>b a.wf.zd h e λg3 i=>k (by simpa using a.pair g3) i
@[simp] def pN(ρ:Rh):Option (List D):=some []
@[simp] def ja(pa:PF)(p:PAf)(ρ:Rh):Option (List D):=(pa ρ).bind λx=>(p ρ).bind λxs=>some (x::xs)
theorem pps_nil:PPs R Ye pN:=by
 intro σ ρ Z H O d z s e Q k;cases e;exact k (Go.id z) Reps.empty
theorem pps_cons{ta:TE}{pa:PF}{tr:TA}{pr:PAf}(c:PP R ta pa)(f:PPs R tr pr):PPs R (j9 ta tr) (ja pa pr):=by
 intro σ ρ Z H O d z s e Q k;refine ob e λx g e=>ob e λj e2 e=>?_;cases e;refine c z s g λ{v l m n} a h=>?_;refine f a.wf.zd (a.slots z s) e2 λ{u o p q} b i=>?_;exact k (a.pair b) (.cons (b.rep a.wf.zd h) i)
theorem jgJ:PBs R Ye pN:=pps_nil.b
theorem jcw{ta:TE}{pa:PF}{tr:TA}{pr:PAf}(c:PB R ta pa)(f:PBs R tr pr):PBs R (j9 ta tr) (ja pa pr):=by
 intro σ ρ Z H O d z s e Q k;refine ob e λx g e=>ob e λj e2 e=>?_;cases e;refine c z s g λ{v l m n} a h=>?_;refine f a.wf.zd (a.slots z s) e2 λ{u o p q} b i=>?_;exact k (a.pair b) (.cons (b.rep a.wf.zd h) i)
@[simp] def pCB(G:List D->Option D)(p:PAf)(ρ:Rh):Option D:=(p ρ).bind G
theorem jhG{r:List V->Hp->VK->Prop}{g:List D->Option D}{ta:TA}{pa:PAf}(b:BC R r g)(c:PBs R ta pa):PP R (tCB r ta) (pCB g pa):=by
 intro σ ρ Z H O d z s e Q k;refine ob e λx f e=>?_;exact c z s f λ{v j l m} a h=>b a.wf.zd h e λg3 i=>k (by simpa using a.pair g3) i
noncomputable def lim(n:Nat):Bool:=decide (n<=100000)
theorem qE{n:Nat}(h:lim n=true):n<=sizeLine:=N6 (X6 h) (by decide)
theorem Qv{n:Nat}(h:lim n=true):n < sizeLine:=E5 (X6 h) (by decide)
@[simp] def vR(p:PAf)(ρ:Rh):Option D:=(p ρ).bind λxs=>bif lim xs.length then some (.tup xs) else none
@[simp] def v9(p:PAf)(ρ:Rh):Option D:=(p ρ).bind λxs=>bif lim xs.length then some (.lst true xs) else none
theorem jiu{ta:TA}{pa:PAf}(f:PPs R ta pa):PP R (xR ta) (vR pa):=by
 intro σ ρ Z H O d z s e Q k;refine ob e λi g e=>oc e λh e=>?_;cases e;exact f z s g λ{v j l m} a b=>⟨by rw[b.length];exact qE h,λp c=>k (a.trans (Go.newF a.wf c)) (Rep.tupNew a.wf c b)⟩
theorem jhV{ta:TA}{pa:PAf}(f:PPs R ta pa):PP R (jht ta) (v9 pa):=by
 intro σ ρ Z H O d z s e Q k;refine ob e λi g e=>oc e λh e=>?_;cases e;exact f z s g λ{v j l m} a b=>⟨by rw[b.length];exact qE h,λp c=>k (a.trans (Go.newO a.wf c)) (Rep.lstNew a.wf c b)⟩
@[simp] def ji(pa:PF)(ρ:Rh):Option Bool:=(pa ρ).bind jeU
@[simp] def KW(q:PTf)(q':PTf)(ρ:Rh):Option Bool:=(q ρ).bind λb=>bif b then q' ρ else some false
@[simp] def qOr(q:PTf)(q':PTf)(ρ:Rh):Option Bool:=(q ρ).bind λb=>bif b then some true else q' ρ
@[simp] def jeP(q:PTf)(ρ:Rh):Option Bool:=(q ρ).bind λb=>some (!b)
theorem uX{ta:TE}{pa:PF}(a:PB R ta pa):PTt R (jf0 ta) (ji pa):=by
 intro σ ρ Z H O b z s e Q k;refine ob e λx c e=>?_;cases Q8 e;refine a z s c λ{v g h i} d f=>?_;obtain⟨rfl,rfl⟩:=f.bl_of;exact⟨b,rfl,k d⟩
theorem jiF{ta tb:TT}{pa pb:PTf}(d:PTt R ta pa)(f:PTt R tb pb):PTt R (jkK ta tb) (KW pa pb):=by
 intro σ ρ Z H O b z s e Q k;refine ob e λc g e=>?_;refine d z s g λ{i j} a=>?_;cases c with
 | true=>exact jg4 (f a.wf.zd (a.slots z s) e λh=>k (a.pair h))
 | false=>cases e;exact jg3 (k a)
theorem jfV{ta:TT}{pa:PTf}(a:PTt R ta pa):PTt R (jly ta) (jeP pa):=by
 intro σ ρ Z H O b z s e Q k;refine ob e λc d e=>?_;cases e;exact a z s d λ{g h} f=>k f
@[simp] def jca(pa:PF)(pb:PF)(ρ:Rh):Option D:=(pa ρ).bind λd=>(jeU d).bind λb=>bif b then pb ρ else some (.bl false)
@[simp] def pOr(pa:PF)(pb:PF)(ρ:Rh):Option D:=(pa ρ).bind λd=>(jeU d).bind λb=>bif b then some (.bl true) else pb ρ
@[simp] def jkW(pa:PF)(ρ:Rh):Option D:=(pa ρ).bind λd=>(jeU d).bind λb=>some (.bl (!b))
theorem jhB{ta tb:TE}{pa pb:PF}(b:PB R ta pa)(f:PP R tb pb):PP R (jfK ta tb) (jca pa pb):=by
 intro σ ρ Z H O d z s e Q k;refine ob e λx g e=>ob e λc e2 e=>?_;cases Q8 e2;refine b z s g λ{v l m n} a h=>?_;obtain⟨rfl,rfl⟩:=h.bl_of;refine⟨c,rfl,?_⟩;cases c with
 | true=>exact jg4 (f a.wf.zd (a.slots z s) e λi j=>k (by simpa using a.pair i) j)
 | false=>cases e;exact jg3 (k a .bl_mk)
theorem jhM{ta:TE}{pa:PF}(a:PB R ta pa):PP R (jfq ta) (jkW pa):=by
 intro σ ρ Z H O d z s e Q k;refine ob e λx b e=>ob e λc e2 e=>?_;cases Q8 e2;cases e;refine a z s b λ{v h i j} f g=>?_;obtain⟨rfl,rfl⟩:=g.bl_of;exact⟨c,rfl,k f .bl_mk⟩
@[simp] def pIf(q:PTf)(pa:PF)(pb:PF)(ρ:Rh):Option D:=(q ρ).bind λb=>bif b then pa ρ else pb ρ
theorem jlz{g:TT}{ta tb:TE}{pt:PTf}{pa pb:PF}(h:PTt R g pt)(i:PP R ta pa)(j:PP R tb pb):PP R (tIf g ta tb) (pIf pt pa pb):=by
 intro σ ρ Z H O d z s e Q k;refine ob e λc l e=>?_;refine h z s l λ{m n} a=>?_;cases c with
 | true=>exact jg4 (i a.wf.zd (a.slots z s) e λb f=>k (by simpa using a.pair b) f)
 | false=>exact jg3 (j a.wf.zd (a.slots z s) e λb f=>k (by simpa using a.pair b) f)
@[simp] def pChain(G:D->D->Option D)(G':D->D->Option D)(pa:PF)(pb:PF)(pc:PF)(ρ:Rh):Option D:=(pa ρ).bind λx=>(pb ρ).bind λy=>(G x y).bind λd=>(jeU d).bind λb=>bif b then((pc ρ).bind λw=>G' y w) else some (.bl false)
end
section
variable {R:RC}{Z Z':Zn}{H H':Hp}{pm:List Nat}
def jg5(R:RC)(J:It)(Z:Zn)(H:Hp)(xs:List D):Prop:=∀{Z1:Zn}{H1:Hp},(∀ a,Z a->Z1 a)->(∀ a,Z a->H1 a=H a)->Zd Z1 H1->∀ i:Nat,
 (xs.length<=i->J.stop i H1)/\∀ x,xs[i]?=some x->J.go i H1/\∀ u H2,J.yld i H1 u H2->∃ Z2,Go Z1 H1 [] Z2 H2 []/\Rep R Z2 H2 x u []
def PIt(R:RC)(wi:TI)(p:PAf):Prop:=∀{σ:St}{ρ:Rh}{Z:Zn}{H:Hp}{O:List Addr}{xs:List D},Zd Z H->Slots R Z H ρ σ O->p ρ=some xs ->
 ∀{Q:It->Hp->Prop},(∀{J:It}{Z':Zn}{H':Hp},Go Z H [] Z' H' []->jg5 R J Z' H' xs->Q J H')->wi σ H Q
def jgV(K:PySem.W.Frag)(tl:TE):TI:=λσ H Q=>tl σ H λx H1 =>
 (∃ a,x=.ref a/\(∃ xs,SqL K H1 a xs)/\Q (Itl K a) H1) \/ (∃ a,x=.ref a/\(∃ xs,SqT K H1 a xs)/\Q (Itt K a) H1) \/ ∃ l,x=.str (S l)/\Q (Its l) H1
theorem jbx{X:Cx}{tg l:Expr}{tl:TE}(B:PE X l tl):PI X tg l (jgV X.K tl):=by
 intro c s σ H Q I h;have n:∀ v s1,EP X c σ (λx f=>(∃ a,x=.ref a/\(∃ g,SqL X.K f a g)/\Q (Itl X.K a) f) \/ (∃ a,x=.ref a/\(∃ g,SqT X.K f a g)/\Q (Itt X.K a) f) \/ ∃ l,x=.str (S l)/\Q (Its l) f) v s1->wpAny (model X.prog X.w) X.A (pyIter v) (PIE X c σ tg Q) X.xe s1:=by
  rintro v s1 ⟨x,f,d,r,C⟩
  -- each by the layer's own rule,at a name that holds the value
  rcases C with⟨a,rfl,⟨g,u⟩,q⟩ | ⟨a,rfl,⟨g,u⟩,q⟩ | ⟨l,rfl,q⟩
  ·cases r;obtain⟨j,D,p,E⟩:=d.list u;refine wpAny_pyIter_list p.isList ?_;refine⟨s1.heap.objs.size,[s1.heap.objs.size],_,_,f,rfl,d.kept (t':=s1.toks) λb o e=>L7 _ e,jbC a _,⟨_,E4 _ rfl,rfl,rfl⟩,λb k=>?_,q⟩;have e:b=s1.heap.objs.size:=by simpa using k
   subst e;exact d.fpOk (M8 _) (d.hok.fresh (M8 _))
  ·cases r;obtain⟨j,D,p,E⟩:=d.tuple u;refine wpAny_pyIter_tuple (show s1.heap.IsTuple a j.toArray from p) ?_;refine⟨s1.heap.objs.size,[s1.heap.objs.size],_,_,f,rfl,d.kept (t':=s1.toks) λb o e=>L7 _ e,uy a _,⟨_,E4 _ rfl,rfl,rfl⟩,λb k=>?_,q⟩;have e:b=s1.heap.objs.size:=by simpa using k
   subst e;exact d.fpOk (M8 _) (d.hok.fresh (M8 _))
  ·obtain⟨t,rfl⟩:=r;have m:∀(ty:String),(ty = "str_ascii_iterator" \/ ty = "str_iterator")->(∀ A:Around,A.handled=none->Walks X.prog X.w A s1.heap.objs.size [s1.heap.objs.size] [s1.heap.objs.size] (S l).cps.size (SignAt (S l)) (λi h=>h.IsStrIter s1.heap.objs.size ty (S l) t i)) ->
     PIE X c σ tg Q (.ref s1.heap.objs.size) { s1 with heap:=s1.heap.push { cls:=.type ty,data:=.fields #[.str (S l) t,.int 0 0] } }:=λty y W=>by
    refine⟨s1.heap.objs.size,[s1.heap.objs.size],_,_,f,rfl,d.kept (t':=s1.toks) λb o e=>L7 _ e,jcT _ l t ty y W,⟨_,E4 _ rfl,rfl,rfl⟩,λb k=>?_,q⟩;have e:b=s1.heap.objs.size:=by simpa using k
    subst e;exact d.fpOk (M8 _) (d.hok.fresh (M8 _))
   cases ha:(S l).cps.all (· < 128)
   ·exact wpAny_pyIter_wide ha (m _ (.inr rfl) λF z=>Walks.strWide z _ (S l) t)
   ·exact wpAny_pyIter_ascii ha (m _ (.inl rfl) λF z=>Walks.strAscii z _ (S l) t)
 exact thn (B c s σ H _ I h) n
def Ki:D->Option (List D)
 | .lst _ l=>some (fzs l)
 | .tup l=>some (fzs l)
 | .str s=>some (s.map λc=>.str [c])
 | _=>none
@[simp] def pIt(pa:PF)(ρ:Rh):Option (List D):=(pa ρ).bind Ki
theorem jjH{a:Addr}{vs:List V}{l:List D}(h:FL R Z H a vs)(r:Reps R Z H l vs []):jg5 R (Itl R.K a) Z H l:=by
 intro d k f g zd i;have b:=(h.frame f g).sq;have m:Reps R d k l vs []:=r.frame f g λa n=>(nomatch n);refine⟨λhi=>⟨vs,b,by rw[r.length];exact hi⟩,λx o=>?_⟩;obtain⟨v,j,p⟩:=m.item o;refine⟨⟨vs,v,b,j⟩,λu q c=>?_⟩;obtain⟨rfl,c⟩:=c;have e:=c vs b;rw[j] at e;cases e;exact⟨d,Go.id zd,p⟩
theorem jii{a:Addr}{vs:List V}{l:List D}(h:FT R Z H a vs)(r:Reps R Z H l vs []):jg5 R (Itt R.K a) Z H l:=by
 intro d k f g zd i;have b:=(h.frame f g).sq;have m:Reps R d k l vs []:=r.frame f g λa n=>(nomatch n);refine⟨λhi=>⟨vs,b,by rw[r.length];exact hi⟩,λx o=>?_⟩;obtain⟨v,j,p⟩:=m.item o;refine⟨⟨vs,v,b,j⟩,λu q c=>?_⟩;obtain⟨rfl,c⟩:=c;have e:=c vs b;rw[j] at e;cases e;exact⟨d,Go.id zd,p⟩
theorem jdR{s:List Nat}:jg5 R (Its s) Z H (s.map λc=>.str [c]):=by
 intro d g h j zd i;refine⟨λhi=>by show s.length<=i;simpa using hi,λx a=>?_⟩;rw[List.getElem?_map] at a;cases e:s[i]? with
 | none=>rw[e] at a;cases a
 | some c =>
  rw[e] at a;cases a;refine⟨(L8.mp e).1,λu k f=>?_⟩;obtain⟨rfl,l,b,rfl⟩:=f;rw[e] at b;cases b;exact⟨d,Go.id zd,.str_mk⟩
theorem Go.fz{P:List Addr}(g:Go Z H [] Z' H' P):Go Z H [] (λa=>Z' a \/ a∈P) H' []:=g.trans (Go.freeze g.wf)
theorem jla{te:TE}{p:PF}(h:PP R te p):PIt R (jgV R.K te) (pIt p):=by
 intro σ ρ Z H O r z s e Q k;refine ob e λd m e=>?_;refine h z s m λ{v n u q} f j=>?_;have c:=j.freeze (Z':=λa=>n a \/ a∈q) (λa z=>.inl z) λa z=>.inr z;cases d with
 | lst o l =>
  cases e;rw[fz,Rep] at c;obtain⟨a,g,w,rfl,i,b,rfl,_⟩:=c;exact .inl ⟨a,rfl,⟨g,FL.sq b⟩,k f.fz (jjH b i)⟩
 | tup l =>
  cases e;rw[fz,Rep] at c;obtain⟨a,g,rfl,b,i⟩:=c;exact .inr (.inl ⟨a,rfl,⟨g,FT.sq b⟩,k f.fz (jii b i)⟩)
 | str t =>
  cases e;obtain⟨rfl,rfl⟩:=j.str_of;exact .inr (.inr ⟨t,rfl,k f jdR⟩)
 | _=>cases e
noncomputable def vm(lo:Int)(n:Nat):List D:=(List.range n).map λ(i:Nat)=>D.int (lo+(i:Int))
theorem jiJ{lo:Int}{n:Nat}:jg5 R (Itr lo n) Z H (vm lo n):=by
 intro b d e f zd i;refine⟨λhi=>by show n<=i;simpa [vm] using hi,λx a=>?_⟩;unfold vm at a;rw[List.getElem?_map] at a;by_cases hi:i < n
 ·rw[List.getElem?_range hi] at a;cases a;refine⟨hi,λu g c=>?_⟩;obtain⟨rfl,rfl⟩:=c;exact⟨b,Go.id zd,.int_mk⟩
 ·rw[List.getElem?_eq_none (by simpa using hi)] at a;cases a
noncomputable def Vw(i:Int):Bool:=Nat.ble i.natAbs 4611686018427387903
theorem Vj{i:Int}(h:Vw i=true):-(2 ^ 62)<=i/\i < 2 ^ 62:=by
 have h:=Nat.le_of_ble_eq_true h;constructor<;>omega
def Va(l:List D):Option (List D):=(jd7 l).bind λx=>(vx x).bind λj=>bif Vw j then some (vm 0 j.toNat) else none
@[simp] def qD(p:PAf)(ρ:Rh):Option (List D):=(p ρ).bind Va
theorem Reps.one_of{d:D}{vs:List V}{O:List Addr}(r:Reps R Z H [d] vs O):∃ v,vs=[v]/\Rep R Z H d v O:=by
 rw[Reps] at r;obtain⟨v,b,e,f,rfl,rfl,c,a⟩:=r;rw[Reps] at a;obtain⟨rfl,rfl⟩:=a;exact⟨v,rfl,by simpa using c⟩
theorem Reps.two_of{d e:D}{vs:List V}{O:List Addr}(r:Reps R Z H [d,e] vs O):∃ v u O1 O2,vs=[v,u]/\O=O1++O2/\Rep R Z H d v O1/\Rep R Z H e u O2:=by
 rw[Reps] at r;obtain⟨v,a,O1,O2,rfl,rfl,b,c⟩:=r;obtain⟨u,rfl,f⟩:=c.one_of;exact⟨v,u,O1,O2,rfl,rfl,b,f⟩
theorem jet{ta:TA}{p:PAf}(h:PBs R ta p):PIt R (jeS ta) (qD p):=by
 intro σ ρ Z H O g z s e Q k;refine ob e λl b e=>ob e λx e2 e=>ob e λj e3 e=>oc e λa e=>?_;cases e;cases qX e2;cases jY e3;refine h z s b λ{v i m n} c d=>?_;obtain⟨u,rfl,f⟩:=d.one_of;obtain⟨rfl,_⟩:=f.int_of;exact⟨j,rfl,(Vj a).1,(Vj a).2,k c jiJ⟩
def PGt(R:RC)(pm:List Nat)(tg:TG)(f:D->Rh->Option Rh):Prop:=∀{σ:St}{ρ ρ':Rh}{Z:Zn}{H:Hp}{O:List Addr}{d:D}{v:V},Rep R Z H d v []->Slots R Z H ρ σ O->f d ρ=some ρ' ->
 ∀{Q:St->Hp->Prop},(∀{σ':St}{O':List Addr},(∀ a∈O',a∈O)->(O.Nodup->O'.Nodup)->Slots R Z H ρ' σ' O'->Keep pm σ σ'->Q σ' H)->tg v σ H Q
def jhR(R:RC)(pm:List Nat)(tg:TGs)(f:List D->Rh->Option Rh):Prop:=∀{σ:St}{ρ ρ':Rh}{Z:Zn}{H:Hp}{O:List Addr}{ds:List D}{vs:List V},Reps R Z H ds vs []->Slots R Z H ρ σ O->f ds ρ=some ρ' ->
 ∀{Q:St->Hp->Prop},(∀{σ':St}{O':List Addr},(∀ a∈O',a∈O)->(O.Nodup->O'.Nodup)->Slots R Z H ρ' σ' O'->Keep pm σ σ'->Q σ' H)->tg vs σ H Q
theorem jdh{i:Nat}:PGt R pm (Ky i) (jc pm i):=by
 intro σ ρ l Z H O d v r h e Q k;unfold jc at e;by_cases hi:i < ρ.length
 ·by_cases c:i∈pm
  ·rw[X4 c] at e;simp at e
  ·rw[X4 hi,X5 c] at e;cases e;obtain⟨A,m,B,rfl,n,f,o⟩:=h.put hi;refine k (O':=A++[]++B) (λa q=>?_) (λnd=>?_) (f r (λ_ z=>z) (λ_ _=>rfl) (λ_ _=>rfl) (λ_ _=>rfl)) (Keep.set c)
   ·simp at q ⊢;rcases q with q | q<;>simp[q]
   ·simp only[U8,N1] at nd;simp only[M9,U8];exact⟨nd.1.1,nd.2.1,λa g b j e=>nd.2.2 a (.inl g) b j e⟩
 ·rw[X5 hi] at e;simp at e
theorem jcR:jhR R pm jlp gN:=by
 intro σ ρ c Z H O b d r h e Q k;unfold gN at e;cases b with
 | cons _ _=>cases e
 | nil =>
  cases e;rw[Reps] at r;obtain⟨rfl,_⟩:=r;exact⟨rfl,k (λa h=>h) (λh=>h) h (Keep.refl _ _)⟩
theorem uE{t:TG}{u:TGs}{g:D->Rh->Option Rh}{c:List D->Rh->Option Rh}(i:PGt R pm t g)(j:jhR R pm u c):jhR R pm (jer t u) (gC g c):=by
 intro σ ρ A Z H O f B r h e Q k;unfold gC at e;cases f with
 | nil=>cases e
 | cons d f =>
  dsimp only at e;refine ob e λC l e=>?_;rw[Reps] at r;obtain⟨v,b,E,F,rfl,e3,m,n⟩:=r;obtain⟨rfl,rfl⟩:=List.append_eq_nil_iff.mp e3.symm;exact⟨v,b,rfl,i m h l λs1 o p s=>j n p e λw x y z=>k (λa q=>s1 a (w a q)) (λq=>x (o q)) y (s.trans z)⟩
theorem jf2{n:Nat}{u:TGs}{c:List D->Rh->Option Rh}(g:jhR R pm u c):PGt R pm (jjT R.K n u) (gT n c):=by
 intro σ ρ m Z H O d v r h e Q k;cases d with
 | tup l =>
  unfold gT at e;dsimp only at e;by_cases b:l.length=n
  ·rw[X4 b,cond_true] at e;rw[Rep] at r;obtain⟨a,i,rfl,j,f⟩:=r;exact⟨a,i,rfl,j.sq,by rw[f.length];exact b,g f h e k⟩
  ·rw[X5 b,cond_false] at e;cases e
 | _=>cases e
noncomputable def j8(g:D->Rh->Option Rh)(f:FS):List D->FS
 | [],ρ=>some (.nx ρ)
 | x::xs,ρ=>(g x ρ).bind λr=>(f r).bind λo=>o.loop (j8 g f xs)
@[simp] def Jx(p:PAf)(G:D->Rh->Option Rh)(f:FS)(ρ:Rh):Option Out:=(p ρ).bind λxs=>j8 G f xs ρ
theorem kh{α:Type}{l:List α}{i:Nat}{x:α}(h:l[i]?=some x):l.drop i=x::l.drop (i+1):=by
 obtain⟨hi,rfl⟩:=L8.mp h;exact List.drop_eq_getElem_cons hi
inductive LpF (R:RC) (pm:List Nat) (g:D->Rh->Option Rh) (f:FS) (σ:L2.St) (Z0:Zn) (H0:Hp) (O:List Addr) (xs:List D) (o:Out) (i m:Nat) (σ':L2.St) (H':Hp):Prop
 | mk:m=xs.length - i->i<=xs.length->∀(ρ':Rh) (Z':Zn) (O':List Addr),Go Z0 H0 O Z' H' O'->Slots R Z' H' ρ' σ' O'->Keep pm σ σ'->j8 g f (xs.drop i) ρ'=some o->LpF R pm g f σ Z0 H0 O xs o i m σ' H'
theorem jin{wi:TI}{tg:TG}{tb:TS}{p:PAf}{g:D->Rh->Option Rh}{f:FS}(hi:PIt R wi p)(U:PGt R pm tg g)(V:DS R pm tb f):DS R pm (jiG wi tg tb) (Jx p g f):=by
 intro σ ρ Z H O o w s e D' k;refine ob e λh W e=>?_;refine hi w.zd s W λ{J t C} M X=>?_;have b:Go Z H O t C O:=by simpa using M.widen w
 refine⟨LpF R pm g f σ t C O h o,
  ⟨h.length,rfl,U4 _,ρ,t,O,Go.refl b.wf,M.slots w.zd s,Keep.refl _ _,e⟩,?_⟩
 rintro i m σ' N ⟨rfl,Y,ρ',P,Q,j,s1,kp,e2⟩;have v:=X (Z1:=P) (H1:=N) j.zz (λa z=>j.zH b.wf a z) j.wf.zd i;by_cases x:i < h.length
 ·right
  have S:h[i]?=some h[i]:=by simp[x]
  obtain⟨go,yl⟩:=v.2 _ S;rw[kh S] at e2;refine ob e2 λρ1 e3 e2=>ob e2 λo1 e4 e2=>?_;refine⟨go,λG l=>∃ c n E,Go t C O n l E/\Slots R n l c G E/\Keep pm σ G/\j8 g f (h.drop (i+1)) c=some o,λG l ⟨c,n,E,a1,a2,a3,a4⟩=>⟨h.length - (i+1),by omega,rfl,x,c,n,E,a1,a2,a3,a4⟩,λu l hy=>?_⟩;obtain⟨n,T,r2⟩:=yl u l hy;have y:Go P N Q n l Q:=by simpa using T.widen j.wf
  refine U r2 (T.slots j.wf.zd s1) e3 λ{σ3 O3} sub nd s3 F=>?_;have g3:Go t C O n l O3:=(j.trans y).drop sub (nd y.wf.nd);refine V g3.wf s3 e4 ?_;cases o1 with
  | nx c=>exact λ{I A K B} g4 q r=>⟨c,A,B,g3.trans g4,q,kp.trans (F.trans r),e2⟩
  | ct c=>exact λ{I A K B} g4 q r=>⟨c,A,B,g3.trans g4,q,kp.trans (F.trans r),e2⟩
  | bk c=>cases e2;exact λ{I A K B} g4 q r=>k (b.trans (g3.trans g4)) q (kp.trans (F.trans r))
  | rt d c=>cases e2;exact λ{v4 I A K P4 B} g4 r4 q r=>k (b.trans (g3.trans g4)) r4 q (kp.trans (F.trans r))
 ·left
  have L:i=h.length:=by omega
  refine⟨v.1 (by omega),?_⟩;rw[L,List.drop_length] at e2;cases e2;exact k (b.trans j) s1 kp
noncomputable def jw(ix:List (Option Nat))(ρ:Rh):Rh:=ix.map λo=>o.bind λj=>(ρ[j]?).join
theorem qZ{ρ:Rh}{σ:St}{O:List Addr}(s:Slots R Z H ρ σ O):∀ ix:List (Option Nat),∃ O',Slots R Z H (jw ix ρ) (yO ix σ) O'
 | []=>⟨[],rfl,rfl⟩
 | o::ix=>by
  obtain⟨O',b⟩:=qZ s ix;show ∃ O',Slots R Z H ((o.bind λj=>(ρ[j]?).join)::jw ix ρ) ((o.bind λj=>(σ[j]?).join)::yO ix σ) O';cases e:o.bind λj=>(ρ[j]?).join with
  | none=>exact⟨O',_,_,rfl,b⟩
  | some d =>
   cases o with
   | none=>cases e
   | some j =>
    have a:(ρ[j]?).join=some d:=e;have e2:ρ[j]?=some (some d):=by
     cases q:ρ[j]? with
     | none=>rw[q] at a;cases a
     | some u=>rw[q] at a;rw[show u=some d from a]
    obtain⟨A,P,B,_,c,_⟩:=s.put (L8.mp e2).1;obtain⟨v,f,r⟩:=c d e2;refine⟨P++O',v,_,P,O',?_,rfl,r,b⟩;show((σ[j]?).join::yO ix σ)=some v::yO ix σ;rw[f];rfl
@[simp] def qT(ρ:Rh):Option Bool:=some true
theorem jeu:PTt R (λ_ H Q=>Q true H) qT:=by
 intro σ ρ Z H O b z s e Q k;cases e;exact k (Go.id z)
noncomputable def yC(g:D->Rh->Option Rh)(q:PTf)(p:PF):List D->Rh->Option (List D)
 | [],_=>some []
 | x::xs,ρ=>(g x ρ).bind λρ1=>(q ρ1).bind λb=>bif b then((p ρ1).bind λy=>(yC g q p xs ρ1).bind λys=>some (y::ys)) else yC g q p xs ρ1
@[simp] def yR(pi:PAf)(G:D->Rh->Option Rh)(q:PTf)(pa:PF)(ix:List (Option Nat))(ρ:Rh):Option D:=(pi ρ).bind λxs=>bif lim xs.length then((yC G q pa xs (jw ix ρ)).bind λys=>some (.lst true ys)) else none
def spP(R:RC)(m:List D->Option D)(n:Nat):Sp:=λvs H Q _=>∃ Z ds d,Zd Z H/\ds.length=n/\Reps R Z H ds vs []/\m ds=some d/\∀{v:V}{Z':Zn}{H':Hp}{P:List Addr},Go Z H [] Z' H' P->Rep R Z' H' d v P->Q v H'
def fnP(n:Nat)(f:FS)(ds:List D):Option D:=(f (ds.map some++List.replicate (n - ds.length) none)).bind Out.val
theorem JB:∀ n:Nat,Slots R Z H (List.replicate n none) (List.replicate n none) []
 | 0=>⟨rfl,rfl⟩
 | n+1=>⟨none,_,rfl,JB n⟩
theorem JK:∀{ds:List D}{vs:List V}{O:List Addr}{ρ:Rh}{σ:St}{P:List Addr},Reps R Z H ds vs O->Slots R Z H ρ σ P->Slots R Z H (ds.map some++ρ) (vs.map some++σ) (O++P)
 | [],_,_,_,_,_,r,s=>by rw[Reps] at r;obtain⟨rfl,rfl⟩:=r;exact s
 | d::ds,_,_,_,_,_,r,s=>by
  rw[Reps] at r;obtain⟨v,a,b,f,rfl,rfl,c,e⟩:=r;exact⟨v,_,b,_,rfl,List.append_assoc ..,c,JK e s⟩
theorem jfS{N:List Str}{ts:TS}{f:FS}{vs:List V}{Q:VK}{E:XK}{n:Nat}(b:DS R [] ts f)(h:spP R (fnP N.length f) n vs H Q E):ts { nx:=λ_ H'=>Q .non H',rt:=Q } (L2.start N vs) H:=by
 obtain⟨Z,a,d,z,l,r,e,k⟩:=h;unfold fnP at e;have s:Slots R Z H (a.map some++List.replicate (N.length - a.length) none) (L2.start N vs) []:=by
  have q:=JK r (JB (R:=R) (Z:=Z) (H:=H) (N.length - a.length));unfold L2.start;rw[r.length];exact q
 refine ob e λo c e=>?_;cases o with
 | rt m i=>cases e;exact b (wf0 z) s c λg j _ _=>k g.dropR j
 | nx i=>cases e;exact b (wf0 z) s c λg _ _=>k (P:=[]) g.to0 .non_mk
 | _=>cases e
theorem je2{m:List D->Option D}{n:Nat}{vs:List V}{Q:VK}{E:XK}(h:spP R m n vs H Q E):vs.length=n:=by
 obtain⟨Z,b,d,z,a,r,_⟩:=h;rw[r.length,a]
mutual
noncomputable def yF:D->Bool
 | .tup l=>jO l
 | .lst o l=>o&&jO l
 | .dK o _ l=>o&&jO l
 | .dT o _ l=>o&&jO l
 | .ins o _ _ l=>o&&jO l
 | .non=>true | .bl _=>true | .int _=>true | .str _=>true | .dead=>true | .tok _=>true | .exc _ _=>false
noncomputable def jO:List D->Bool
 | []=>true
 | d::l=>yF d&&jO l
end
mutual
theorem Rep.thaw(ht:∀ a vs,Z a->Rd H a (.tup vs)->Z' a):∀{d:D}{v:V}{O:List Addr},Rep R Z H d v O->yF d=true->Rep R Z' H d v O
 | .non,_,_,h,_=>by rw[Rep] at h ⊢;exact h
 | .bl _,_,_,h,_=>by rw[Rep] at h ⊢;exact h
 | .int _,_,_,h,_=>by rw[Rep] at h ⊢;exact h
 | .str _,_,_,h,_=>by rw[Rep] at h ⊢;exact h
 | .dead,_,_,h,_=>by rw[Rep] at h ⊢;exact h
 | .tok _,_,_,h,_=>by rw[Rep] at h ⊢;exact h
 | .exc _ _,_,_,_,f=>by rw[yF] at f;cases f
 | .tup l,_,_,h,f=>by
  rw[Rep] at h ⊢;rw[yF] at f;obtain⟨a,vs,e,t,r⟩:=h;refine⟨a,vs,e,?_,Reps.thaw ht r f⟩;rcases t with⟨z,q⟩ | q
  ·exact .inl ⟨ht a vs z q,q⟩
  ·exact .inr q
 | .lst o l,_,_,h,f=>by
  rw[Rep] at h ⊢;rw[yF,L9] at f;obtain⟨a,vs,O',e,r,h⟩:=h;cases f.1;exact⟨a,vs,O',e,Reps.thaw ht r f.2,h⟩
 | .dK o ks l,_,_,h,f=>by
  rw[Rep] at h ⊢;rw[yF,L9] at f;obtain⟨a,vs,O',e,r,h⟩:=h;cases f.1;exact⟨a,vs,O',e,Reps.thaw ht r f.2,h⟩
 | .dT o ks l,_,_,h,f=>by
  rw[Rep] at h ⊢;rw[yF,L9] at f;obtain⟨a,vs,O',e,r,h⟩:=h;cases f.1;exact⟨a,vs,O',e,Reps.thaw ht r f.2,h⟩
 | .ins o c ns l,_,_,h,f=>by
  rw[Rep] at h ⊢;rw[yF,L9] at f;obtain⟨a,dx,vs,O',e,r,h⟩:=h;cases f.1;exact⟨a,dx,vs,O',e,Reps.thaw ht r f.2,h⟩
theorem Reps.thaw(ht:∀ a vs,Z a->Rd H a (.tup vs)->Z' a):∀{l:List D}{vs:List V}{O:List Addr},Reps R Z H l vs O->jO l=true->Reps R Z' H l vs O
 | [],_,_,h,_=>by rw[Reps] at h ⊢;exact h
 | d::l,_,_,h,f=>by
  rw[Reps] at h ⊢;rw[jO,L9] at f;obtain⟨v,vs,O1,O2,e,rfl,r1,r2⟩:=h;exact⟨v,vs,O1,O2,e,rfl,Rep.thaw ht r1 f.1,Reps.thaw ht r2 f.2⟩
end
mutual
theorem Rep.notTup:∀{d:D}{v:V}{O:List Addr},Rep R Z H d v O->∀ a∈O,∀ vs,¬ Rd H a (.tup vs)
 | .non,_,_,h,a,ha=>by rw[Rep] at h;rw[h.2] at ha;cases ha
 | .bl _,_,_,h,a,ha=>by rw[Rep] at h;rw[h.2] at ha;cases ha
 | .int _,_,_,h,a,ha=>by rw[Rep] at h;rw[h.2] at ha;cases ha
 | .str _,_,_,h,a,ha=>by rw[Rep] at h;rw[h.2] at ha;cases ha
 | .dead,_,_,h,a,ha=>by rw[Rep] at h;rw[h] at ha;cases ha
 | .tok _,_,_,h,a,ha=>by rw[Rep] at h;rw[h.2] at ha;cases ha
 | .exc _ _,_,_,h,a,ha=>by rw[Rep] at h;obtain⟨_,_,_,_,_,_,_,h⟩:=h;rw[h] at ha;cases ha
 | .tup l,_,_,h,a,ha=>by
  rw[Rep] at h;obtain⟨b,vs,e,t,r⟩:=h;exact Reps.notTup r a ha
 | .lst o l,_,_,h,a,ha=>by
  rw[Rep] at h;obtain⟨b,vs,O',e,r,h⟩:=h;cases o with
  | true =>
   obtain⟨h1,rfl⟩:=h;rcases M4.mp ha with e | e
   ·subst e;rintro ws (q | ⟨_,q⟩)<;>rw[h1] at q<;>cases q
   ·exact Reps.notTup r a e
  | false=>rw[h.2.2] at ha;cases ha
 | .dK o ks l,_,_,h,a,ha=>by
  rw[Rep] at h;obtain⟨b,vs,O',e,r,hl,hd,h⟩:=h;cases o with
  | true =>
   have h:=(show _=_ from h);subst h;rcases M4.mp ha with e | e
   ·subst e;rintro ws (q | ⟨_,q⟩)<;>rw[hd] at q<;>cases q
   ·exact Reps.notTup r a e
  | false=>rw[h.2.2] at ha;cases ha
 | .dT o ks l,_,_,h,a,ha=>by
  rw[Rep] at h;obtain⟨b,vs,O',e,r,hl,hd,h⟩:=h;cases o with
  | true =>
   have h:=(show _=_ from h);subst h;rcases M4.mp ha with e | e
   ·subst e;rintro ws (q | ⟨_,q⟩)<;>rw[hd] at q<;>cases q
   ·exact Reps.notTup r a e
  | false=>rw[h.2.2] at ha;cases ha
 | .ins o c ns l,_,_,h,a,ha=>by
  rw[Rep] at h;obtain⟨b,dx,vs,O',e,r,hl,hd,h⟩:=h;cases o with
  | true =>
   have h:=(show _=_ from h);subst h;rcases M4.mp ha with e | e
   ·subst e;rintro ws (q | ⟨_,q⟩)<;>rw[hd] at q<;>cases q
   ·exact Reps.notTup r a e
  | false=>rw[h.2.2] at ha;cases ha
theorem Reps.notTup:∀{l:List D}{vs:List V}{O:List Addr},Reps R Z H l vs O->∀ a∈O,∀ vs,¬ Rd H a (.tup vs)
 | [],_,_,h,a,ha=>by rw[Reps] at h;rw[h.2] at ha;cases ha
 | d::l,_,_,h,a,ha=>by
  rw[Reps] at h;obtain⟨v,vs,O1,O2,e,rfl,r1,r2⟩:=h;rcases N1.mp ha with q | q
  ·exact Rep.notTup r1 a q
  ·exact Reps.notTup r2 a q
end
@[simp] def jK(m:List D->Option D)(p:PAf)(ρ:Rh):Option D:=(p ρ).bind λds=>(m (fzs ds)).bind λd=>bif frzs ds||yF d then some d else none
theorem YB(l:List D):(fzs l).length=l.length:=by rw[qP,L0]
theorem jbo{m:List D->Option D}{ds:List D}{d:D}{vs:List V}{f:List Addr}{n:Nat}{E:XK}{Q:VK}(j:Zd Z H)(e:Reps R Z H ds vs f)(l:ds.length=n)(e2:m (fzs ds)=some d)(c:(frzs ds||yF d)=true)
  (k:∀{v:V}{Z':Zn}{H':Hp}{P:List Addr},Go Z H [] Z' H' P->Rep R Z' H' d v P->Q v H'):spP R m n (vs++[]) H Q E:=by
 refine⟨λa=>Z a \/ a∈f,fzs ds,d,λa h=>h.elim (j a) (e.dom a),by rw[YB];exact l,by rw[M9];exact e.freeze (λa z=>.inl z) λa z=>.inr z,e2,λ{v Z' H' P} b i=>?_⟩;rw[Bool.or_eq_true] at c;rcases c with c | c
 ·cases e.nil c;exact k ⟨b.wf,λa z=>b.zz a (.inl z),b.fr,λa z=>(b.zn a z).imp (λq=>q.resolve_right (λq=>(nomatch q))) id,b.sub,b.dm⟩ i
 ·refine k (Z':=λa=>Z' a/\(a∉f \/ Z a)) ⟨⟨b.wf.nd,λa h q=>b.wf.nz a h q.1,b.wf.od,λa q=>b.wf.zd a q.1⟩,λa z=>⟨b.zz a (.inl z),.inr z⟩,b.fr,λa z=>?_,b.sub,b.dm⟩ (i.thaw (λa o p r=>⟨p,?_⟩) c)
  ·rcases b.zn a z.1 with(q | q) | q
   ·exact .inl q
   ·exact .inl (z.2.resolve_left λn=>n q)
   ·exact .inr q
  ·by_cases g:a∈f
   ·exact absurd (Rd.agree (b.same a (e.dom a g)).symm r) (e.notTup a g o)
   ·exact .inl g
theorem jeX{m:List D->Option D}{ta:TA}{p:PAf}{n:Nat}(f:PBs R ta p)(g:∀ ρ ds,p ρ=some ds->ds.length=n):PP R (wA (spP R m n) [] E0 ta) (jK m p):=by
 intro σ ρ Z H O d z s e Q k;refine ob e λds a e=>ob e λc e2 e=>oc e λh e=>?_;cases e;exact f z s a λb i=>jbo b.wf.zd i (g ρ ds a) e2 h λj l=>k (by simpa using b.pair j) l
@[simp] def sFz(i:Nat)(f:FS)(ρ:Rh):Option Out:=match pV i ρ with | some d=>f (ρ.set i (some (fz d))) | none=>f ρ
theorem jk0{i:Nat}{t:TS}{f:FS}(h:DS R pm t f):DS R pm t (sFz i f):=by
 intro σ ρ Z H O o w s e m k;unfold sFz at e;split at e
 ·rename_i d hd;have hd:=JN hd;obtain⟨A,P,B,rfl,c,j,_⟩:=s.put (L8.mp hd).1;obtain⟨v,l,r⟩:=c d hd;have g:Go Z H (A++P++B) (λa=>Z a \/ a∈P) H (A++[]++B):=(Go.freeze w.mid).frame w;have b:=j (r.freeze (Z':=λa=>Z a \/ a∈P) (λa z=>.inl z) λa z=>.inr z) (λa z=>.inl z) (λ_ _=>rfl) (λ_ _=>rfl) (λ_ _=>rfl);rw[yZ l] at b;exact h g.wf b e (k.pre g (Keep.refl _ _))
 ·exact h w s e k
theorem Jp{l m:List Addr}(h:∀ c,l.count c<=m.count c)(n:m.Nodup):l.Nodup:=List.nodup_iff_count.mpr λc=>N6 (h c) (List.nodup_iff_count.mp n c)
theorem Vb{l m:List Addr}(h:∀ c,l.count c<=m.count c):∀ c∈l,c∈m:=λc a=>List.count_pos_iff.mp (U3 (List.count_pos_iff.mpr a) (h c))
theorem Go.at{O P:List Addr}{a:Addr}{o:HO}(g:Go Z H O Z' H' P)(b:a∉O)(h:H a=some o):H' a=some o:=(g.fr a (by rw[h];exact λz=>nomatch z) b).trans h
theorem Go.at0{P:List Addr}{a:Addr}{o:HO}(g:Go Z H [] Z' H' P)(h:H a=some o):H' a=some o:=g.at (λz=>nomatch z) h
noncomputable abbrev Ln:=D->Option (D×(D->D))
inductive LnR (R:RC) (Z:Zn) (H:Hp) (ρ:Rh) (σ:L2.St) (O:List Addr) (tb:TE) (i:Nat) (x:D) (k:D->D):Prop
 | mk:∀(v:V) (A P B:List Addr),O=A++P++B->Rep R Z H x v P->(∀{Q:VK},Q v H->tb σ H Q) ->
  (∀{Z':Zn}{H':Hp}{x':D}{P':List Addr},Rep R Z' H' x' v P'->(∀ a,Z a->Z' a)->(∀ a,Z a->H' a=H a)->(∀ a∈A,H' a=H a)->(∀ a∈B,H' a=H a)->Slots R Z' H' (ρ.set i (some (k x'))) σ (A++P'++B))->LnR R Z H ρ σ O tb i x k
def Q0(R:RC)(tb:TE)(i:Nat)(L:Ln):Prop:=∀{σ:L2.St}{ρ:Rh}{Z:Zn}{H:Hp}{O:List Addr}{d x:D}{k:D->D},Slots R Z H ρ σ O->ρ[i]?=some (some d)->L d=some (x,k)->LnR R Z H ρ σ O tb i x k
noncomputable def jS:Ln:=λd=>some (d,λx=>x)
theorem KU{i:Nat}:Q0 R (kX i) i jS:=by
 intro σ ρ Z H O d x k s h e;cases e;obtain⟨A,P,B,rfl,b,c,_⟩:=s.put (L8.mp h).1;obtain⟨v,a,r⟩:=b _ h;refine⟨v,A,P,B,rfl,r,λq=>⟨v,a,q⟩,λf g j l m=>?_⟩;have q:=c f g j l m;rw[yZ a] at q;exact q
inductive OwR (R:RC) (Z:Zn) (H:Hp) (l:List D) (sh:Addr->List V->HO) (sd:Prop) (v:V) (O:List Addr):Prop
 | mk:∀(a dx:Addr) (vs:List V) (O':List Addr),v=.ref a->Reps R Z H l vs O'->sd->H a=some (sh dx vs)->O=a::O'->OwR R Z H l sh sd v O
def Own(R:RC)(T:D)(l:List D)(sh:Addr->List V->HO)(sd:Prop):Prop:=∀{Z:Zn}{H:Hp}{v:V}{O:List Addr},Rep R Z H T v O↔OwR R Z H l sh sd v O
theorem ow_lst{l:List D}:Own R (.lst true l) l (λ_ vs=>.lst vs) True:=by
 intro Z H v O;rw[Rep];exact⟨λh=>by obtain⟨a,vs,b,e,c,d,f⟩:=h;exact⟨a,0,vs,b,e,c,trivial,d,f⟩,λh=>by obtain⟨a,_,vs,b,e,c,_,d,f⟩:=h;exact⟨a,vs,b,e,c,d,f⟩⟩
theorem ow_dK{ks:List KA}{l:List D}:Own R (.dK true ks l) l (λ_ vs=>.dK ((ks.map kaV).zip vs)) (ks.length=l.length):=by
 intro Z H v O;rw[Rep];exact⟨λh=>by obtain⟨a,vs,b,e,c,h,d,f⟩:=h;exact⟨a,0,vs,b,e,c,h,d,f⟩,λh=>by obtain⟨a,_,vs,b,e,c,h,d,f⟩:=h;exact⟨a,vs,b,e,c,h,d,f⟩⟩
theorem ow_ins{c:Nat}{ns:List Str}{l:List D}:Own R (.ins true c ns l) l (λdx vs=>.ins (R.cls c) dx (ns.zip vs)) (ns.length=l.length):=by
 intro Z H v O;rw[Rep];exact⟨λh=>by obtain⟨a,dx,vs,b,e,d,h,f,g⟩:=h;exact⟨a,dx,vs,b,e,d,h,f,g⟩,λh=>by obtain⟨a,dx,vs,b,e,d,h,f,g⟩:=h;exact⟨a,dx,vs,b,e,d,h,f,g⟩⟩
theorem Y6{C:Prop}{σ:L2.St}{ρ:Rh}{O P0:List Addr}{i:Nat}{tb:TE}{L:Ln}{t y:D}{p:D->D}{l:List D}{u:Addr->List V->HO}{E:Prop}(I:Q0 R tb i L)(w:WF Z H (P0++O))(s:Slots R Z H ρ σ O)(hi:pV i ρ=some t)(e:L t=some (y,p))(J:Own R y l u E)
  (k:∀ a dx vs O',Reps R Z H l vs O'->E->H a=some (u dx vs)->(∀{Q:VK},Q (.ref a) H->tb σ H Q)->(∀{O2 P1:List Addr}{Z2:Zn}{H2:Hp}{x':D}{l':List D}{vs':List V}{sh':Addr->List V->HO}{sd':Prop},Own R x' l' sh' sd'->sd'->Go Z H [] Z2 H2 P1->Reps R Z2 H2 l' vs' O2->(∀ q,O2.count q<=O'.count q+P0.count q+P1.count q) ->
   ∃ O3,Go Z H (P0++O) Z2 (upd H2 a (sh' dx vs')) O3/\Slots R Z2 (upd H2 a (sh' dx vs')) (ρ.set i (some (p x'))) σ O3)->C):C:=by
 obtain⟨v,A,P,B,rfl,r,K,M⟩:=I s (JN hi) e;obtain⟨a,dx,vs,O',rfl,N,hd,S,rfl⟩:=J.mp r;refine k a dx vs O' N hd S K λ{O2 P1 Z2 H2 x' l' vs' sh' sd'} n o g T cnt=>?_;have j:=g.widen w;have nd:=j.wf.nd;have ct:=List.nodup_iff_count.mp nd a;simp only[U7,List.count_cons,beq_self_eq_true,if_true] at ct;have pos:∀{m:List Addr},a∈m->0 < m.count a:=λh=>List.count_pos_iff.mpr h;generalize U:sh' dx vs'=ob;have d:∀ b,Z2 b->upd H2 a ob b=H2 b:=λb c=>jf λz=>j.wf.nz a (by simp) (z▸c);have f:∀ m:List Addr,(∀ b∈m,b∈A++(a::O')++B)->m.count a=0->∀ b∈m,upd H2 a ob b=H b:=λm W Y b c=>(jf λz=>by subst z;have:=pos c;omega).trans (g.same b (w.od b (U2 _ (W b c))));have X:=M (n.mpr ⟨a,dx,vs',O2,rfl,T.frame (λ_ z=>z) d λb c=>jf λz=>by subst z;have:=pos c;have:=cnt b;omega,o,by rw[U];exact jr,rfl⟩) g.zz (λx F=>(d x (g.zz x F)).trans (g.same x (w.zd x F))) (f A (λb c=>by simp[c]) (by omega)) (f B (λb c=>by simp[c]) (by omega));have G:∀ q,(A++(a::O2)++B).count q<=(P1++(P0++(A++(a::O')++B))).count q:=λq=>by
  have:=cnt q;simp only[U7,List.count_cons];omega
 exact⟨_,(j.trans (Go.put j.wf (by simp))).drop (Vb G) (Jp G nd),X⟩
@[simp] def yp(i:Nat)(L:Ln)(pv:PF)(ρ:Rh):Option Out:=(pv ρ).bind λd=>(pV i ρ).bind λt=>(L t).bind λy=>(K8 y.1).bind λl=>bif lim l.length then some (.nx (ρ.set i (some (y.2 (.lst true (l++[d])))))) else none
theorem uI{i:Nat}{tb te:TE}{L:Ln}{p:PF}(m:Q0 R tb i L)(h:PP R te p):DS R pm (Yr (tBM R.K "list" qV tb (j9 te Ye))) (yp i L p):=by
 intro σ ρ Z H O o w s e A k;refine ob e λd n e=>ob e λt hi e=>ob e λ⟨y,k0⟩ e3 e=>ob e λl r e=>oc e λb e=>?_;cases e;cases Yd r;refine Y6 (P0:=[]) m w s hi e3 ow_lst λa _ f B g _ j v put=>v ⟨.inl ⟨rfl,f,SqL.of j⟩,h w.zd s n λ{u C D E} c x=>?_⟩;obtain⟨F,g3,z⟩:=put ow_lst trivial c ((c.reps w.zd g).append (.one x)) λq=>by simp
 exact⟨a,f,u,rfl,rfl,c.at0 j,by rw[g.length];exact Qv b,k g3 z (Keep.refl _ _)⟩
@[simp] def Km(i:Nat)(pa:PF)(ρ:Rh):Option Out:=(pa ρ).bind λd=>(pV i ρ).bind λx=>(K8 x).bind λl=>bif lim l.length then some (.nx (ρ.set i (some (.lst true (l++[d]))))) else none
theorem jjl{i:Nat}{te:TE}{p:PF}(h:PP R te p):DS R pm (Yr (tBM R.K "list" qV (kX i) (j9 te Ye))) (Km i p):=uI KU h
end
section
variable {X:Cx}{R:RC}{Z Z':Zn}{H H':Hp}
theorem JU{f:Value->Value->Sem Value}{r b:R2}(h:OpR X f r)(h':OpR X f b):OpR X f (λx y H Q=>r x y H Q \/ b x y H Q):=by
 intro a s σ H x y v u Q I c d q;rcases q with q | q
 ·exact h a s σ H x y v u Q I c d q
 ·exact h' a s σ H x y v u Q I c d q
theorem Rep.lst_of{o:Bool}{l:List D}{v:V}{O:List Addr}(r:Rep R Z H (.lst o l) v O):∃ a vs O',v=.ref a/\SqX R.K H a vs/\Reps R Z H l vs O':=by
 rw[Rep] at r;obtain⟨a,vs,O',rfl,b,h⟩:=r;cases o with
 | true=>exact⟨a,vs,O',rfl,SqX.of h.1,b⟩
 | false=>exact⟨a,vs,O',rfl,FL.sqx h.1,b⟩
theorem Rep.tup_of{l:List D}{v:V}{O:List Addr}(r:Rep R Z H (.tup l) v O):∃ a vs,v=.ref a/\SqT R.K H a vs/\Reps R Z H l vs O:=by
 rw[Rep] at r;obtain⟨a,vs,rfl,h,b⟩:=r;exact⟨a,vs,rfl,h.sq,b⟩
theorem Reps.frozen{l:List D}{vs:List V}{O:List Addr}(r:Reps R Z H l vs O)(f:frzs l=true):Reps R Z H l vs []:=by
 cases r.nil f;exact r
noncomputable def jhc(i:Int):Bool:=decide (Builtin.Int.intBits i<=2 ^ 20)
theorem jbE{i:Int}(h:i.natAbs < 2 ^ 1000):jhc i=true:=X4 (wT h (by decide))
def jo(x y:D):Option D:=match x with
 | .int i=>(match y with
  | .int j=>some (.int (i+j))
  | _=>none)
 | .str a=>(match y with
  | .str b=>bif lim (a.length+b.length) then some (.str (a++b)) else none
  | _=>none)
 | .lst _ a=>(match y with
  | .lst _ b=>bif lim (a.length+b.length)&&(frzs a&&frzs b) then some (.lst true (a++b)) else none
  | _=>none)
 | .tup a=>(match y with
  | .tup b=>bif lim (a.length+b.length)&&(frzs a&&frzs b)&&!a.isEmpty then some (.tup (a++b)) else none
  | _=>none)
 | _=>none
def jkZ:R2:=λx y H Q=>∃ a b,x=.str (S a)/\y=.str (S b)/\a.length+b.length<=sizeLine/\Q (.str (S (a++b))) H
def jcU(K:PySem.W.Frag):R2:=λx y H Q=>rI0 (λi j=>.int (i+j)) x y H Q \/ jkZ x y H Q \/ jhU K x y H Q \/ jhx K x y H Q
theorem jev:OpR X (binaryOp .Add) (jcU X.K):=JU jhu (JU jgp (JU jfr jfx))
theorem jhe:BO R (jcU R.K) jo:=by
 intro Z H x y d v u F G z g l e Q k;cases x with
 | int i =>
  cases y with
  | int j =>
   cases e;obtain⟨rfl,_⟩:=g.int_of;obtain⟨rfl,_⟩:=l.int_of;exact .inl ⟨i,j,rfl,rfl,k (Go.id z) .int_mk⟩
  | _=>cases e
 | str a =>
  cases y with
  | str b =>
   simp only[jo] at e;refine oc e λc e=>?_;cases e;obtain⟨rfl,_⟩:=g.str_of;obtain⟨rfl,_⟩:=l.str_of;exact .inr (.inl ⟨a,b,rfl,rfl,qE c,k (Go.id z) .str_mk⟩)
  | _=>cases e
 | lst o a =>
  cases y with
  | lst I b =>
   simp only[jo] at e;refine oc e λc e=>?_;cases e;simp only[L9] at c;obtain⟨p,m,J,rfl,n,f⟩:=g.lst_of;obtain⟨q,r,B,rfl,s,rt⟩:=l.lst_of;have t:=(f.frozen c.2.1).append (rt.frozen c.2.2);exact .inr (.inr (.inl ⟨p,q,m,r,rfl,rfl,n,s,by rw[f.length,rt.length];exact qE c.1,λb h=>k (Go.newO (wf0 z) h) (Rep.lstNew (wf0 z) h t)⟩))
  | _=>cases e
 | tup a =>
  cases y with
  | tup b =>
   simp only[jo] at e;refine oc e λc e=>?_;cases e;simp only[L9] at c;obtain⟨p,m,rfl,n,f⟩:=g.tup_of;obtain⟨q,r,rfl,s,rt⟩:=l.tup_of;have t:=(f.frozen c.1.2.1).append (rt.frozen c.1.2.2);have w:m≠[]:=by
    intro C;have:=f.length;rw[C] at this;have A:a=[]:=List.eq_nil_of_length_eq_zero this.symm;rw[A] at c;simp at c
   refine .inr (.inr (.inr ⟨p,q,m,r,rfl,rfl,n,s,w,by rw[f.length,rt.length];exact qE c.1.1,(λA=>?_),λ_ b h=>k (Go.newF (wf0 z) h) (Rep.tupNew (wf0 z) h t)⟩));have D:b=[]:=List.eq_nil_of_length_eq_zero (by rw[<- rt.length,A];rfl);subst D;rw[M9] at k;have E:=f.nil c.1.2.1;subst E;exact k (Go.id z) g
  | _=>cases e
 | _=>cases e
def two(f:Int->Int->Option D)(x y:D):Option D:=(vx x).bind λi=>(vx y).bind λj=>f i j
theorem two_of{f:Int->Int->Option D}{x y d:D}(e:two f x y=some d):∃ i j,x=.int i/\y=.int j/\f i j=some d:=ob e λi a e=>ob e λj e2 e=>⟨i,j,jY a,jY e2,e⟩
def vb:D->D->Option D:=two λi j=>some (.int (i - j))
theorem jhy:BO R (rI0 λi j=>.int (i - j)) vb:=by
 intro Z H x y d v u c f z a b e Q k;replace e:=two_of e;obtain⟨i,j,rfl,rfl,e⟩:=e;cases e;obtain⟨rfl,_⟩:=a.int_of;obtain⟨rfl,_⟩:=b.int_of;exact⟨i,j,rfl,rfl,k (Go.id z) .int_mk⟩
def jX(x y:D):Option D:=match y with
 | .int n=>(match x with
  | .int i=>bif jhc i&&jhc n then some (.int (i*n)) else none
  | .str a=>bif decide (a.length<=1000)&&(decide (0<=n)&&decide (n<=1000)) then some (.str (List.replicate n.toNat a).flatten) else none
  | _=>none)
 | _=>none
def jgY:R2:=λx y H Q=>rI (λi j=>Builtin.Int.intBits i<=2 ^ 20/\Builtin.Int.intBits j<=2 ^ 20) (λi j=>.int (i*j)) x y H Q \/
 ∃(a:List Nat) (n:Int),x=.str (S a)/\y=.int n/\a.length<=1000/\0<=n/\n<=1000/\Q (.str (S (List.replicate n.toNat a).flatten)) H
theorem jgM:OpR X (binaryOp .Mult) jgY:=JU jfw jfO
theorem jjy:BO R jgY jX:=by
 intro Z H x y d v u g h z c f e Q k;cases y with
 | int n =>
  cases x with
  | int i =>
   simp only[jX] at e;refine oc e λb e=>?_;cases e;rw[L9] at b;obtain⟨rfl,_⟩:=c.int_of;obtain⟨rfl,_⟩:=f.int_of;exact .inl ⟨i,n,rfl,rfl,⟨X6 b.1,X6 b.2⟩,k (Go.id z) .int_mk⟩
  | str a =>
   simp only[jX] at e;refine oc e λb e=>?_;cases e;simp only[L9,decide_eq_true_eq] at b;obtain⟨rfl,_⟩:=c.str_of;obtain⟨rfl,_⟩:=f.int_of;exact .inr ⟨a,n,rfl,rfl,b.1,b.2.1,b.2.2,k (Go.id z) .str_mk⟩
  | _=>cases e
 | _=>cases e
noncomputable def wz(j:Int):Bool:=decide (0 < j)&&decide (j < 2 ^ 300)
theorem jb3{j:Int}(h:wz j=true):0 < j/\j.natAbs.log2 < 9000:=by
 unfold wz at h;simp only[L9,decide_eq_true_eq] at h;refine⟨h.1,?_⟩;have a:j.natAbs < 2 ^ 300:=by omega
 have b:j.natAbs≠0:=by omega
 have:=(Nat.log2_lt b (k:=300)).mpr a;omega
theorem jdu:OpR X (binaryOp .FloorDiv) (rI (λ_ j=>wz j=true) λi j=>.int (i / j)):=opI λi j t u s Q E a q=>by
 obtain⟨b,c⟩:=jb3 a;have e:i / j=i.fdiv j:=(Int.fdiv_eq_ediv_of_nonneg i (Int.le_of_lt b)).symm;rw[e] at q;exact PyProof.Rows.floordiv_int (by omega) q (.inl (PyProof.noPylong_of_log2 c))
def jz:D->D->Option D:=two λi j=>bif wz j then some (.int (i / j)) else none
def jl:D->D->Option D:=two λi j=>bif decide (0 < j) then some (.int (i % j)) else none
def Vt:D->D->Option D:=two λi j=>bif decide (0<=j)&&decide (j<=100)&&decide (i.natAbs < 2 ^ 64) then some (.int (i ^ j.toNat)) else none
theorem jje:BO R (rI (λ_ j=>wz j=true) λi j=>.int (i / j)) jz:=by
 intro Z H x y d v u f g z a b e Q k;replace e:=two_of e;obtain⟨i,j,rfl,rfl,e⟩:=e;refine oc e λc e=>?_;cases e;obtain⟨rfl,_⟩:=a.int_of;obtain⟨rfl,_⟩:=b.int_of;exact⟨i,j,rfl,rfl,c,k (Go.id z) .int_mk⟩
theorem jiT:BO R (rI (λ_ j=>0 < j) λi j=>.int (i % j)) jl:=by
 intro Z H x y d v u f g z b c e Q k;replace e:=two_of e;obtain⟨i,j,rfl,rfl,e⟩:=e;by_cases a:0 < j
 ·rw[X4 a] at e;cases e;obtain⟨rfl,_⟩:=b.int_of;obtain⟨rfl,_⟩:=c.int_of;exact⟨i,j,rfl,rfl,a,k (Go.id z) .int_mk⟩
 ·rw[X5 a] at e;cases e
theorem jiU:BO R (rI jkb λi j=>.int (i ^ j.toNat)) Vt:=by
 intro Z H x y d v u f g z b c e Q k;replace e:=two_of e;obtain⟨i,j,rfl,rfl,e⟩:=e;refine oc e λa e=>?_;cases e;simp only[L9,decide_eq_true_eq] at a;obtain⟨rfl,_⟩:=b.int_of;obtain⟨rfl,_⟩:=c.int_of;exact⟨i,j,rfl,rfl,⟨a.1.1,by omega,a.2⟩,k (Go.id z) .int_mk⟩
noncomputable def xi:D->Option D
 | .int i=>some (.int (-i))
 | _=>none
theorem jid:BU R (rU λi=>.int (-i)) xi:=by
 intro Z H x d v O z a e Q k;cases x with
 | int i =>
  cases e;obtain⟨rfl,_⟩:=a.int_of;exact⟨i,rfl,k (Go.id z) .int_mk⟩
 | _=>cases e
def opB(g:Int->Int->Bool):D->D->Option D:=two λi j=>some (.bl (g i j))
theorem jk8{g:Int->Int->Bool}:BO R (rI0 λi j=>.bl (g i j)) (opB g):=by
 intro Z H x y d v u c f z a b e Q k;replace e:=two_of e;obtain⟨i,j,rfl,rfl,e⟩:=e;cases e;obtain⟨rfl,_⟩:=a.int_of;obtain⟨rfl,_⟩:=b.int_of;exact⟨i,j,rfl,rfl,k (Go.id z) .bl_mk⟩
abbrev jdF:D->D->Option D:=opB λi j=>decide (i < j)
abbrev KQ:D->D->Option D:=opB λi j=>decide (j < i)
abbrev jkU:D->D->Option D:=opB λi j=>decide (j<=i)
noncomputable def jdq:D->Bool
 | .non=>true
 | _=>false
noncomputable def jig:D->Bool
 | .dead=>true
 | _=>false
def uC(x y:D):Option D:=bif jdq y&&!jig x then some (.bl (jdq x)) else none
theorem jcY{y:D}(h:jdq y=true):y=.non:=by
 cases y with
 | non=>rfl
 | _=>cases h
theorem uL{x:D}{v:V}{O:List Addr}(r:Rep R Z H x v O)(hd:∀(h:x=.dead),False):decide (v=V.non)=jdq x:=by
 cases x with
 | non=>obtain⟨rfl,_⟩:=r.non_of;rfl
 | bl b=>obtain⟨rfl,_⟩:=r.bl_of;rfl
 | int i=>obtain⟨rfl,_⟩:=r.int_of;rfl
 | str s=>obtain⟨rfl,_⟩:=r.str_of;rfl
 | tup l=>rw[Rep] at r;obtain⟨a,d,rfl,_⟩:=r;rfl
 | lst o l=>rw[Rep] at r;obtain⟨a,d,e,rfl,_⟩:=r;rfl
 | dK o f l=>rw[Rep] at r;obtain⟨a,d,e,rfl,_⟩:=r;rfl
 | dT o f l=>rw[Rep] at r;obtain⟨a,d,e,rfl,_⟩:=r;rfl
 | ins o c ns l=>rw[Rep] at r;obtain⟨a,g,d,e,rfl,_⟩:=r;rfl
 | tok a=>rw[Rep] at r;obtain⟨rfl,_⟩:=r;rfl
 | exc c p=>rw[Rep] at r;obtain⟨a,g,rfl,_⟩:=r;rfl
 | dead=>exact(hd rfl).elim
theorem jk3:BO R (λx y H Q=>y=.non/\Q (.bl (decide (x=.non))) H) uC:=by
 intro Z H x y d v u f g z b c e Q k;unfold uC at e;refine oc e λa e=>?_;cases e;rw[L9] at a;have hd:∀(h:x=.dead),False:=λh=>by rw[h] at a;exact absurd a.2 (by decide)
 cases jcY a.1;obtain⟨rfl,_⟩:=c.non_of;refine⟨rfl,?_⟩;rw[uL b hd];exact k (Go.id z) .bl_mk
noncomputable def qC:D->Bool
 | .non=>true | .bl _=>true | .int _=>true | .str _=>true
 | _=>false
noncomputable def eqF:D->D->Bool
 | .non,.non=>true
 | .bl a,.bl b=>a==b
 | .int a,.int b=>a==b
 | .str a,.str b=>a==b
 | _,_=>false
noncomputable def V5:D->D->Bool
 | .bl _,.int _=>false
 | .int _,.bl _=>false
 | _,_=>true
theorem jbw{x y:D}{v u:V}{e O2:List Addr}(d:Rep R Z H x v e)(c:Rep R Z H y u O2)(h:(qC x&&qC y&&V5 x y)=true):jll v u=true/\decide (v=u)=eqF x y:=by
 cases x with
 | non =>
  obtain⟨rfl,_⟩:=d.non_of;cases y with
  | non=>obtain⟨rfl,_⟩:=c.non_of;exact⟨rfl,rfl⟩
  | bl b=>obtain⟨rfl,_⟩:=c.bl_of;exact⟨rfl,rfl⟩
  | int b=>obtain⟨rfl,_⟩:=c.int_of;exact⟨rfl,rfl⟩
  | str b=>obtain⟨rfl,_⟩:=c.str_of;exact⟨rfl,rfl⟩
  | _=>cases h
 | bl a =>
  obtain⟨rfl,_⟩:=d.bl_of;cases y with
  | non=>obtain⟨rfl,_⟩:=c.non_of;exact⟨rfl,rfl⟩
  | bl b=>obtain⟨rfl,_⟩:=c.bl_of;exact⟨rfl,by rw[jbT];rfl⟩
  | str b=>obtain⟨rfl,_⟩:=c.str_of;exact⟨rfl,rfl⟩
  | _=>cases h
 | int a =>
  obtain⟨rfl,_⟩:=d.int_of;cases y with
  | non=>obtain⟨rfl,_⟩:=c.non_of;exact⟨rfl,rfl⟩
  | int b=>obtain⟨rfl,_⟩:=c.int_of;exact⟨rfl,by rw[Q6];rfl⟩
  | str b=>obtain⟨rfl,_⟩:=c.str_of;exact⟨rfl,rfl⟩
  | _=>cases h
 | str a =>
  obtain⟨rfl,_⟩:=d.str_of;cases y with
  | non=>obtain⟨rfl,_⟩:=c.non_of;exact⟨rfl,rfl⟩
  | bl b=>obtain⟨rfl,_⟩:=c.bl_of;exact⟨rfl,rfl⟩
  | int b=>obtain⟨rfl,_⟩:=c.int_of;exact⟨rfl,rfl⟩
  | str b =>
   obtain⟨rfl,_⟩:=c.str_of;refine⟨rfl,?_⟩;rw[Bool.eq_iff_iff];simp[eqF,jlu]
  | _=>cases h
 | _=>cases h
def inL(x:D)(l:List D):Bool:=l.any λy=>eqF y x
def jcK(x:D)(l:List D):Bool:=qC x&&l.all λy=>qC y&&V5 y x
def wI(neg:Bool)(x y:D):Option D:=match y with
 | .str s=>(match x with
  | .str [c]=>some (.bl (neg != decide (c∈s)))
  | _=>none)
 | .lst _ l=>bif jcK x l then some (.bl (neg != inL x l)) else none
 | .tup l=>bif jcK x l then some (.bl (neg != inL x l)) else none
 | _=>none
theorem Reps.flat{x:D}{v:V}{P:List Addr}(c:Rep R Z H x v P)(d:qC x=true):∀{l:List D}{vs:List V}{O:List Addr},Reps R Z H l vs O->(l.all λy=>qC y&&V5 y x)=true->YC v=true/\vs.all YC=true/\inV v vs=inL x l
 | [],_,_,h,_=>by
  rw[Reps] at h;obtain⟨rfl,_⟩:=h;refine⟨?_,rfl,rfl⟩;cases x with
  | non=>obtain⟨rfl,_⟩:=c.non_of;rfl
  | bl b=>obtain⟨rfl,_⟩:=c.bl_of;rfl
  | int b=>obtain⟨rfl,_⟩:=c.int_of;rfl
  | str b=>obtain⟨rfl,_⟩:=c.str_of;rfl
  | _=>cases d
 | y::l,_,_,h,f=>by
  rw[Reps] at h;obtain⟨u,vs,n,o,rfl,rfl,g,i⟩:=h;rw[List.all_cons,L9] at f;obtain⟨j,k,m⟩:=Reps.flat c d i f.2;have e:YC u=true/\eqV u v=eqF y x:=by
   cases y with
   | non =>
    obtain⟨rfl,_⟩:=g.non_of;cases x with
    | non=>obtain⟨rfl,_⟩:=c.non_of;exact⟨rfl,rfl⟩
    | bl b=>obtain⟨rfl,_⟩:=c.bl_of;exact⟨rfl,rfl⟩
    | int b=>obtain⟨rfl,_⟩:=c.int_of;exact⟨rfl,rfl⟩
    | str b=>obtain⟨rfl,_⟩:=c.str_of;exact⟨rfl,rfl⟩
    | _=>cases d
   | bl a =>
    obtain⟨rfl,_⟩:=g.bl_of;cases x with
    | non=>obtain⟨rfl,_⟩:=c.non_of;exact⟨rfl,rfl⟩
    | bl b=>obtain⟨rfl,_⟩:=c.bl_of;exact⟨rfl,rfl⟩
    | str b=>obtain⟨rfl,_⟩:=c.str_of;exact⟨rfl,rfl⟩
    | int b=>exact absurd f.1 (by simp[V5])
    | _=>cases d
   | int a =>
    obtain⟨rfl,_⟩:=g.int_of;cases x with
    | non=>obtain⟨rfl,_⟩:=c.non_of;exact⟨rfl,rfl⟩
    | int b=>obtain⟨rfl,_⟩:=c.int_of;exact⟨rfl,rfl⟩
    | str b=>obtain⟨rfl,_⟩:=c.str_of;exact⟨rfl,rfl⟩
    | bl b=>exact absurd f.1 (by simp[V5])
    | _=>cases d
   | str a =>
    obtain⟨rfl,_⟩:=g.str_of;cases x with
    | non=>obtain⟨rfl,_⟩:=c.non_of;exact⟨rfl,rfl⟩
    | bl b=>obtain⟨rfl,_⟩:=c.bl_of;exact⟨rfl,rfl⟩
    | int b=>obtain⟨rfl,_⟩:=c.int_of;exact⟨rfl,rfl⟩
    | str b =>
     obtain⟨rfl,_⟩:=c.str_of;refine⟨rfl,?_⟩;rw[Bool.eq_iff_iff];simp[eqF,eqV,jlu]
    | _=>cases d
   | _=>exact absurd f.1 (by simp[qC])
  refine⟨j,by rw[List.all_cons,e.1,k];rfl,?_⟩;show(eqV u v||inV v vs)=(eqF y x||inL x l);rw[e.2,m]
def jmi(neg:Bool):R2:=λx y H Q=>∃ c l,x=.str (S [c])/\y=.str (S l)/\Q (.bl (if neg then !decide (c∈l) else decide (c∈l))) H
def jg7(K:PySem.W.Frag)(neg:Bool):R2:=λx y H Q=>jmi neg x y H Q \/ rIn K neg x y H Q
theorem jjG:OpR X (compareOp .In) (jg7 X.K false):=JU jjw jbO
theorem jby:OpR X (compareOp .NotIn) (jg7 X.K true):=JU jao QU
theorem z6(neg b:Bool):(if neg=true then !b else b)=(neg != b):=by cases neg<;>cases b<;>rfl
theorem jjq{neg:Bool}:BO R (jg7 R.K neg) (wI neg):=by
 intro Z H x y d v u r w z b g e Q k;cases y with
 | str s =>
  cases x with
  | str t =>
   match t,e,b with
   | [c],e,b =>
    cases e;obtain⟨rfl,_⟩:=b.str_of;obtain⟨rfl,_⟩:=g.str_of;refine .inl ⟨c,s,rfl,rfl,?_⟩;rw[z6];exact k (Go.id z) .bl_mk
   | [],e,b=>cases e
   | _::_::_,e,b=>cases e
  | _=>cases e
 | lst o l =>
  have f:(bif jcK x l then some (D.bl (neg != inL x l)) else none)=some d:=e;refine oc f λa f=>?_;cases f;unfold jcK at a;rw[L9] at a;obtain⟨p,h,A,rfl,i,j⟩:=g.lst_of;obtain⟨m,n,q⟩:=j.flat b a.1 a.2;refine .inr ⟨p,h,rfl,.inl i.sq,m,n,?_⟩;rw[q,z6];exact k (Go.id z) .bl_mk
 | tup l =>
  have f:(bif jcK x l then some (D.bl (neg != inL x l)) else none)=some d:=e;refine oc f λa f=>?_;cases f;unfold jcK at a;rw[L9] at a;obtain⟨p,h,rfl,i,j⟩:=g.tup_of;obtain⟨m,n,q⟩:=j.flat b a.1 a.2;refine .inr ⟨p,h,rfl,.inr i,m,n,?_⟩;rw[q,z6];exact k (Go.id z) .bl_mk
 | _=>cases e
def jd(x y:D):Option D:=match y with
 | .int i=>(match x with
  | .lst _ l=>atI l i
  | .tup l=>atI l i
  | .str s=>bif lim s.length then(atI s i).bind λc=>some (.str [c]) else none
  | _=>none)
 | _=>none
theorem Reps.atI{l:List D}{vs:List V}{O:List Addr}{i:Int}{d:D}(r:Reps R Z H l vs O)(e:L2.atI l i=some d):∃ v P,L2.atI vs i=some v/\Rep R Z H d v P:=by
 unfold L2.atI at e ⊢;rw[r.length];cases h:ixN l.length i with
 | none=>rw[h] at e;cases e
 | some j =>
  rw[h] at e;obtain⟨v,A,P,B,a,_,b,_⟩:=r.at (show l[j]?=some d from e);exact⟨v,P,a,b⟩
theorem jkr:BO' R (rIx R.K) jd:=by
 intro Z H x y d v u r t z a n e Q k;cases y with
 | int i =>
  obtain⟨rfl,_⟩:=n.int_of;cases x with
  | lst o l =>
   obtain⟨p,b,A,rfl,f,g⟩:=a.lst_of;obtain⟨w,P,j,m⟩:=g.atI e;exact .inl ⟨p,b,i,w,rfl,rfl,f.sq,j,k m⟩
  | tup l =>
   obtain⟨p,b,rfl,f,g⟩:=a.tup_of;obtain⟨w,P,j,m⟩:=g.atI e;exact .inr (.inl ⟨p,b,i,w,rfl,rfl,f,j,k m⟩)
  | str s =>
   obtain⟨rfl,_⟩:=a.str_of;simp only[jd] at e;refine oc e λq e=>ob e λc h e=>?_;cases e;refine .inr (.inr ⟨S s,i,c,rfl,rfl,by rw[JR];exact qE q,by rw[qF];exact h,?_⟩);rw[jf5];exact k .str_mk
  | _=>cases e
 | _=>cases e
abbrev OF:=Rh->Option (Option Int)
def PO'(R:RC)(t:TO)(p:OF):Prop:=∀{σ:St}{ρ:Rh}{Z:Zn}{H:Hp}{O:List Addr}{i:Option Int},Zd Z H->Slots R Z H ρ σ O->p ρ=some i ->
 ∀{Q:Option Int->Hp->Prop},(∀{Z':Zn}{H':Hp},Go Z H [] Z' H' []->Q i H')->t σ H Q
@[simp] def oN(ρ:Rh):Option (Option Int):=some none
@[simp] def oS(pa:PF)(ρ:Rh):Option (Option Int):=(pa ρ).bind λd=>(vx d).bind λi=>some (some i)
theorem jl1:PO' R xl oN:=by
 intro σ ρ Z H O i z s e Q k;cases e;exact k (Go.id z)
theorem jl2{te:TE}{p:PF}(h:PB R te p):PO' R (jfa te) (oS p):=by
 intro σ ρ Z H O i z s e Q k;refine ob e λx a e=>ob e λj e2 e=>?_;cases e;cases jY e2;refine h z s a λ{v d f g} b c=>?_;obtain⟨rfl,_⟩:=c.int_of;exact⟨j,rfl,k b⟩
def jdP(lo hi:Option Int):D->Option D
 | .str s=>bif lim s.length then some (.str (yM s lo hi)) else none
 | .lst _ l=>bif frzs l then some (.lst true (yM l lo hi)) else none
 | .tup l=>bif frzs l&&decide ((yM l lo hi).length < l.length) then some (.tup (yM l lo hi)) else none
 | _=>none
def jkI(K:PySem.W.Frag):V->Option Int->Option Int->Hp->VK->Prop:=λx lo hi H Q=>jlJ x lo hi H Q \/ jlO K x lo hi H Q \/ jlR K x lo hi H Q
theorem jmf:SlR X (jkI X.K):=SlR.or jjv (SlR.or jeG jh9)
@[simp] def pSl(pa:PF)(pl:OF)(ph:OF)(ρ:Rh):Option D:=(pa ρ).bind λx=>(pl ρ).bind λlo=>(ph ρ).bind λhi=>jdP lo hi x
theorem Reps.cut{l:List D}{vs:List V}(r:Reps R Z H l vs [])(lo hi:Option Int):Reps R Z H (yM l lo hi) (jem vs lo hi) []:=by
 unfold yM jem;rw[r.length];exact(r.drop _).take _
theorem jku{te:TE}{tl th:TO}{pa:PF}{pl w:OF}(B:PB R te pa)(C:PO' R tl pl)(D:PO' R th w):PP R (tSl (jkI R.K) te tl th) (pSl pa pl w):=by
 intro σ ρ Z H O d z s e Q k;refine ob e λx E e=>ob e λlo e2 e=>ob e λhi e3 e=>?_;refine B z s E λ{v I J L} i F=>?_;refine C i.wf.zd (i.slots z s) e2 λ{M N} m=>?_;have f:=i.pair m;refine D m.wf.zd (f.slots z s) e3 λ{Z3 G} g3=>?_;have a:Go Z H [] Z3 G []:=f.pair g3;have n:=(m.pair g3).rep i.wf.zd F;cases x with
 | str t =>
  simp only[jdP] at e;refine oc e λc e=>?_;cases e;obtain⟨rfl,_⟩:=n.str_of;exact .inl ⟨t,rfl,qE c,k a .str_mk⟩
 | lst o l =>
  simp only[jdP] at e;refine oc e λc e=>?_;cases e;obtain⟨p,q,P,rfl,r,j⟩:=n.lst_of;have g:=g3.wf.zd;exact .inr (.inl ⟨p,q,rfl,r.sq,λb h=>k (by simpa using a.pair (Go.newO (wf0 g) h)) (Rep.lstNew (wf0 g) h ((j.frozen c).cut lo hi))⟩)
 | tup l =>
  simp only[jdP] at e;refine oc e λc e=>?_;cases e;simp only[L9,decide_eq_true_eq] at c;obtain⟨p,q,rfl,r,j⟩:=n.tup_of;have g:=g3.wf.zd;refine .inr (.inr ⟨p,q,rfl,r,?_,λb h=>k (by simpa using a.pair (Go.newF (wf0 g) h)) (Rep.tupNew (wf0 g) h ((j.frozen c.1).cut lo hi))⟩);rintro⟨y,A⟩;have u:=c.2;unfold yM at u;rw[j.length] at y A;rw[y,A,List.drop_zero,Nat.sub_zero,List.take_length] at u;exact absurd u (Nat.lt_irrefl _)
 | _=>cases e
def jlY:D->Option D
 | .lst _ l=>some (.int l.length)
 | .tup l=>some (.int l.length)
 | .str s=>bif lim s.length then some (.int s.length) else none
 | _=>none
def kt(l:List D):Option D:=(jd7 l).bind jlY
theorem jh0:BC R (λxs H Q=>∃ x n,xs=[x]/\jjU R.K x H n/\Q (.int n) H) kt:=by
 intro Z H xs d i O z r e Q k;refine ob e λx g e=>?_;rw[qX g] at r;obtain⟨v,rfl,a⟩:=r.one_of;cases x with
 | lst o l =>
  cases e;obtain⟨p,b,j,rfl,c,f⟩:=a.lst_of;exact⟨_,_,rfl,.inl ⟨b,c.sq,rfl⟩,by rw[f.length];exact k (Go.id z) .int_mk⟩
 | tup l =>
  cases e;obtain⟨p,b,rfl,c,f⟩:=a.tup_of;exact⟨_,_,rfl,.inr ⟨b,c,rfl⟩,by rw[f.length];exact k (Go.id z) .int_mk⟩
 | str s =>
  refine oc e λh e=>?_;cases e;obtain⟨rfl,_⟩:=a.str_of;exact⟨_,_,rfl,⟨by rw[JR];exact qE h,rfl⟩,by rw[JR];exact k (Go.id z) .int_mk⟩
 | _=>cases e
noncomputable def ul:List D->Option (List Int)
 | []=>some []
 | d::l=>match d with
  | .int i=>((ul l).bind λr=>some (i::r))
  | _=>none
theorem Reps.ints:∀{l:List D}{vs:List V}{O:List Addr}{ns:List Int},Reps R Z H l vs O->ul l=some ns->vs=ns.map V.int:=by
 intro l
 induction l with
 | nil=>intro vs O ns h e;rw[Reps] at h;cases e;exact h.1
 | cons d l a =>
  intro vs O ns h e;rw[Reps] at h;obtain⟨v,vs,g,j,rfl,rfl,b,c⟩:=h;cases d with
  | int i =>
   refine ob e λr f e=>?_;cases e;rw[a c f,b.int_of.1];rfl
  | _=>cases e
def Yv(l:List D):Option D:=(jd7 l).bind λx=>(jd2 x).bind λl=>(ul l).bind λns=>some (.int ns.sum)
theorem jjL:BC R (λxs H Q=>∃(p:Addr) (ns:List Int),xs=[.ref p]/\SqL R.K H p (ns.map V.int)/\Q (.int ns.sum) H) Yv:=by
 intro Z H xs d i O z r e Q k;refine ob e λx a e=>ob e λl b e=>ob e λns c e=>?_;cases e;obtain⟨o,rfl⟩:=JP b;rw[qX a] at r;obtain⟨v,rfl,f⟩:=r.one_of;obtain⟨p,j,m,rfl,g,h⟩:=f.lst_of;have:=h.ints c;subst this;exact⟨p,ns,rfl,g.sq,k (Go.id z) .int_mk⟩
def f2I(g:Int->Int->Int)(l:List D):Option D:=(two1 l).bind λp=>two (λi j=>some (.int (g i j))) p.1 p.2
theorem jj4{g:Int->Int->Int}:BC R (λxs H Q=>∃ i j,xs=[.int i,.int j]/\Q (.int (g i j)) H) (f2I g):=by
 intro Z H xs d f O z r e Q k;refine ob e λp a e=>?_;obtain⟨i,j,e2,e3,e⟩:=two_of e;cases e;rw[two1_of a,e2,e3] at r;obtain⟨v,u,h,l,rfl,_,b,c⟩:=r.two_of;obtain⟨rfl,_⟩:=b.int_of;obtain⟨rfl,_⟩:=c.int_of;exact⟨i,j,rfl,k (Go.id z) .int_mk⟩
abbrev wm:List D->Option D:=f2I λi j=>if j < i then j else i
def jlZ:D->Option D
 | .lst _ l=>bif frzs l then some (.lst true l) else none
 | .tup l=>bif frzs l then some (.lst true l) else none
 | _=>none
def Vq(l:List D):Option D:=(jd7 l).bind jlZ
def wx(l:List D):Option D:=(jd7 l).bind λx=>(jd2 x).bind λl=>bif frzs l then some (.tup l) else none
theorem jff:BC R (λxs H Q=>∃ p ys,xs=[.ref p]/\(SqL R.K H p ys \/ SqT R.K H p ys)/\∀ l,H l=none->Q (.ref l) (upd H l (.lst ys))) Vq:=by
 intro Z H xs d m O z r e Q k;refine ob e λx j e=>?_;rw[qX j] at r;obtain⟨v,rfl,i⟩:=r.one_of;cases x with
 | lst o l =>
  refine oc e λc e=>?_;cases e;obtain⟨p,f,n,rfl,g,h⟩:=i.lst_of;exact⟨p,f,rfl,.inl g.sq,λb a=>k (Go.newO (wf0 z) a) (Rep.lstNew (wf0 z) a (h.frozen c))⟩
 | tup l =>
  refine oc e λc e=>?_;cases e;obtain⟨p,f,rfl,g,h⟩:=i.tup_of;exact⟨p,f,rfl,.inr g,λb a=>k (Go.newO (wf0 z) a) (Rep.lstNew (wf0 z) a (h.frozen c))⟩
 | _=>cases e
theorem jce:BC R (λxs H Q=>∃ p ys,xs=[.ref p]/\((SqL R.K H p ys/\∀ l,H l=none->Q (.ref l) (upd H l (.tup ys))) \/ (SqT R.K H p ys/\Q (.ref p) H))) wx:=by
 intro Z H xs d n O z r e Q k;refine ob e λx c e=>ob e λl f e=>oc e λg e=>?_;cases e;obtain⟨o,rfl⟩:=JP f;rw[qX c] at r;obtain⟨v,rfl,h⟩:=r.one_of;obtain⟨p,i,q,rfl,j,m⟩:=h.lst_of;exact⟨p,i,rfl,.inl ⟨j.sq,λb a=>k (Go.newF (wf0 z) a) (Rep.tupNew (wf0 z) a (m.frozen g))⟩⟩
noncomputable def tyD:D->Option String
 | .non=>some "NoneType" | .bl _=>some "bool" | .int _=>some "int" | .str _=>some "str" | .tup _=>some "tuple" | .lst _ _=>some "list"
 | .dK true _ _=>some "dict"
 | _=>none
noncomputable def zC(t T:String):Bool:=t==T||(t=="bool"&&T=="int")
@[simp] def KI(T:String)(pa:PF)(ρ:Rh):Option D:=(pa ρ).bind λd=>(tyD d).bind λt=>some (.bl (zC t T))
theorem jfe(K:PySem.W.Frag){t T:String}(a:t∈["NoneType","bool","int","str","tuple","list","dict"])(b:T∈["bool","int","str","tuple","list","dict"]):PySem.W.kitOne K (.type t) (.type T)=some (zC t T):=by
 simp only[M4,List.not_mem_nil,or_false] at a b;rcases a with rfl | rfl | rfl | rfl | rfl | rfl | rfl<;>rcases b with rfl | rfl | rfl | rfl | rfl | rfl<;>rfl
theorem Rep.ty{x:D}{v:V}{O:List Addr}{t:String}(r:Rep R Z H x v O)(e:tyD x=some t):TyQ R.K H v t/\t∈["NoneType","bool","int","str","tuple","list","dict"]:=by
 cases x with
 | non=>cases e;obtain⟨rfl,_⟩:=r.non_of;exact⟨.non,by simp⟩
 | bl b=>cases e;obtain⟨rfl,_⟩:=r.bl_of;exact⟨.bl _,by simp⟩
 | int i=>cases e;obtain⟨rfl,_⟩:=r.int_of;exact⟨.int _,by simp⟩
 | str s=>cases e;obtain⟨rfl,_⟩:=r.str_of;exact⟨.str _,by simp⟩
 | tup l=>cases e;obtain⟨p,d,rfl,c,f⟩:=r.tup_of;exact⟨.tup c,by simp⟩
 | lst o l=>cases e;obtain⟨p,d,g,rfl,c,f⟩:=r.lst_of;exact⟨.lst c.sq,by simp⟩
 | dK o h l=>cases o with
  | false=>cases e
  | true=>cases e;rw[Rep] at r;obtain⟨a,j,g,rfl,_,_,hd,_⟩:=r;exact⟨.dK hd,by simp⟩
 | _=>cases e
theorem jif{T:String}(a:T∈["bool","int","str","tuple","list","dict"]){te:TE}{p:PF}(h:PB R te p) :
  PP R (tCB (λxs H Q=>∃ x T t b,xs=[x,.ty T]/\TyQ R.K H x t/\PySem.W.kitOne R.K (.type t) (.type T)=some b/\Q (.bl b) H) (j9 te (j9 (tC (.ty T)) Ye))) (KI T p):=by
 intro σ ρ Z H O d z s e Q k;refine ob e λx c e=>ob e λt e2 e=>?_;cases e;refine h z s c λ{v l m n} f g=>?_;obtain⟨i,j⟩:=g.ty e2;exact⟨v,T,t,zC t T,rfl,i,jfe _ j a,k f .bl_mk⟩
end
noncomputable def yc:Nat->List D->List D
 | _,[]=>[]
 | k,x::l=>.tup [.int k,x]::yc (k+1) l
theorem yd:∀(k:Nat) (l:List D),(yc k l).length=l.length
 | _,[]=>rfl
 | k,x::l=>by rw[yc,M0,M0,yd]
theorem kJ:∀(k:Nat) (l:List D) (i:Nat) (y:D),(yc k l)[i]?=some y->∃ x,l[i]?=some x/\y=.tup [.int ((k+i:Nat):Int),x]
 | _,[],_,_,e=>by simp[yc] at e
 | k,x::l,0,y,e=>by simp[yc] at e;exact⟨x,rfl,e.symm⟩
 | k,x::l,i+1,y,e=>by
  obtain⟨z,a,e2⟩:=kJ (k+1) l i y (by simpa [yc] using e);exact⟨z,by simpa using a,by rw[e2];congr 3;lia⟩
def jdT(l:List D):Option (List D):=(jd7 l).bind λx=>(jd2 x).bind λl=>some (yc 0 (fzs l))
@[simp] def J4(p:PAf)(ρ:Rh):Option (List D):=(p ρ).bind jdT
theorem wt(z:Zd Z H)(b:H p=none)(c:Rep R Z H x u [])(d:Rep R Z H y v []):Rep R (λa=>Z a \/ a=p) (upd H p (.tup [u,v])) (.tup [x,y]) (.ref p) [] :=
 Rep.tupNew (wf0 z) b (.cons c (.cons d .empty))
theorem jcz(h:PPs R ta p):PIt R (jf6 R.K ta) (J4 p):=by
 intro σ ρ Z H O T z s e Q k;refine ob e λx B e=>ob e λy e2 e=>ob e λl e3 e=>?_;cases e;obtain⟨o,rfl⟩:=JP e3;cases qX e2;refine h z s B λ{U C V D} E F=>?_;obtain⟨v,rfl,G⟩:=F.one_of;have g:=G.freeze (Z':=λa=>C a \/ a∈D) (λa z=>.inl z) λa z=>.inr z;rw[fz,Rep] at g;obtain⟨a,b,W,rfl,I,j,rfl,_⟩:=g;refine⟨a,b,rfl,FL.sq j,k E.fz ?_⟩;intro J L m n zd i;have c:=(j.frame m n).sq;have r:Reps R J L (fzs l) b []:=I.frame m n λa M=>(nomatch M);refine⟨λhi=>⟨b,c,by rw[r.length];rw[yd] at hi;exact hi⟩,λx N=>?_⟩;obtain⟨y,P,rfl⟩:=kJ 0 _ i x N;obtain⟨u,t,S⟩:=r.item P;refine⟨⟨b,u,c,t⟩,λw X d=>?_⟩;obtain⟨q,Y,f,rfl,A,rfl⟩:=d;have:=f b c;rw[t] at this;cases this;refine⟨_,Go.newF (wf0 zd) A,?_⟩;have:=wt (R:=R) (x:=.int i) (u:=.int i) zd A .int_mk S;simpa using this
theorem jdO(h:ixN n i=some j):j < n:=(zi h).2.1
@[simp] def gIx(pm:List Nat)(i:Nat)(pi:PF)(d:D)(ρ:Rh):Option Rh:=(pi ρ).bind λk=>(vx k).bind λk=>(pV i ρ).bind λx=>(K8 x).bind λl=>(ixN l.length k).bind λj=>some (ρ.set i (some (.lst true (l.set j d))))
theorem jbJ(rs:Reps R Z H l vs O)(a:j < l.length)(rd:Rep R Z H d u P):∃ O2,Reps R Z H (l.set j d) (vs.set j u) O2/\∀ q,O2.count q<=O.count q+P.count q:=by
 obtain⟨b,c,e,f,g,rfl,h,put⟩:=rs.at (show l[j]?=some l[j] by simp[a]);exact⟨_,put rd (λ_ z=>z) (λ_ _=>rfl) (λ_ _=>rfl) (λ_ _=>rfl),λq=>by simp only[U7];lia⟩
theorem jlf(h:PB R te pi):DG R pm (jkg (kX i) te jbp) (gIx pm i pi):=by
 intro σ ρ D Z H O P d v w r s e Q k;refine ob e λx f e=>ob e λn e3 e=>ob e λy g e=>ob e λl m e=>ob e λj e2 e=>?_;cases e;cases jY e3;cases Yd m;refine Y6 KU w s g rfl ow_lst λa _ o E c _ p t put=>t (h w.zd s f λ{u F G I} b z=>?_);obtain⟨rfl,_⟩:=z.int_of;obtain⟨J,A,B⟩:=jbJ (b.reps w.zd c) (jdO e2) (b.rep w.zd r);obtain⟨K,g3,C⟩:=put ow_lst trivial b A λq=>by have:=B q;simp;lia
 exact⟨a,o,n,j,rfl,rfl,b.at0 p,by rw[c.length];exact e2,k g3 C (Keep.refl _ _)⟩
@[simp] def jbr(i:Nat)(pi:PF)(g:Int->Int->Int)(pe:PF)(ρ:Rh):Option Out:=(pi ρ).bind λk=>(vx k).bind λk=>(pV i ρ).bind λx=>(K8 x).bind λl=>(ixN l.length k).bind λj=>(l[j]?).bind λy=>(vx y).bind λa=>(pe ρ).bind λz=>(vx z).bind λb=>some (.nx (ρ.set i (some (.lst true (l.set j (.int (g a b)))))))
theorem jcn(hi:PB R ti pi)(r:PB R te pe):DS R pm (jfL (kX i) ti te (jjz R.K) (ipI g) jbp) (jbr i pi g pe):=by
 intro σ ρ Z H O o w s e L k;refine ob e λc1 t e=>ob e λn v e=>ob e λh z e=>ob e λl e5 e=>ob e λj e2 e=>ob e λM A e=>ob e λx B e=>ob e λN e3 e=>ob e λy C e=>?_;cases e;cases jY v;cases Yd e5;cases jY B;cases jY C;refine Y6 (P0:=[]) KU w s z rfl ow_lst λa _ m P d _ p D put=>D (hi w.zd s t λ{u Q S T} c E=>?_);obtain⟨rfl,_⟩:=E.int_of;obtain⟨U,V,f,F⟩:=d.atI (show L2.atI l n=some (.int x) by unfold L2.atI;rw[e2];exact A);obtain⟨rfl,_⟩:=F.int_of;refine⟨a,m,n,.int x,rfl,rfl,SqL.of (c.at0 p),f,r c.wf.zd (c.slots w.zd s) e3 λ{W Z3 X Y} g3 G=>?_⟩;obtain⟨rfl,_⟩:=G.int_of;have b:=c.pair g3;obtain⟨O2,I,h⟩:=jbJ (b.reps w.zd d) (jdO e2) (Rep.int_mk (i:=g x y));obtain⟨O3,g4,J⟩:=put ow_lst trivial b I λq=>by have:=h q;simp at this ⊢;lia
 exact⟨x,y,rfl,rfl,a,m,n,j,rfl,rfl,b.at0 p,by rw[d.length];exact e2,k g4 J (Keep.refl _ _)⟩
end QD
namespace QD
open PySem L2 PySem.Spec PyProof.Rows
section
variable (c:Nat->Addr)(pm:List Nat)(X:Cx)
structure QP(e:Expr)(te:TE)(p:PF):Prop where
 sem:PE X e te
 den:PP ⟨X.K,c⟩ te p
structure QB(e:Expr)(te:TE)(p:PF):Prop where
 sem:PE X e te
 den:PB ⟨X.K,c⟩ te p
structure QPs(es:List Expr)(ta:TA)(p:PAf):Prop where
 sem:PA X es ta
 den:PPs ⟨X.K,c⟩ ta p
structure QBs(es:List Expr)(ta:TA)(p:PAf):Prop where
 sem:PA X es ta
 den:PBs ⟨X.K,c⟩ ta p
 n:∀ ρ ds,p ρ=some ds->ds.length=es.length
structure QT(e:Expr)(tt:TT)(q:PTf):Prop where
 sem:PT X e tt
 den:PTt ⟨X.K,c⟩ tt q
structure QW(e:Expr)(tt:TT)(q:PTf):Prop where
 sem:PW X e tt
 den:PTt ⟨X.K,c⟩ tt q
structure QI(tg e:Expr)(wi:TI)(p:PAf):Prop where
 sem:PI X tg e wi
 den:PIt ⟨X.K,c⟩ wi p
structure QG(tg:Expr)(t:TG)(g:D->Rh->Option Rh):Prop where
 sem:PG X tg t
 den:PGt ⟨X.K,c⟩ pm t g
structure QGs(tg:List Expr)(t:TGs)(g:List D->Rh->Option Rh):Prop where
 sem:PGs X tg t
 den:jhR ⟨X.K,c⟩ pm t g
structure QE(e:Expr)(te:TE)(f:FE):Prop where
 sem:PE X e te
 den:DE ⟨X.K,c⟩ te f
structure QS(st:Stmt)(ts:TS)(f:FS):Prop where
 sem:PS X st ts
 den:DS ⟨X.K,c⟩ pm ts f
structure QSs(st:List Stmt)(ts:TS)(f:FS):Prop where
 sem:PSs X st ts
 den:DS ⟨X.K,c⟩ pm ts f
structure QO(e:Option Expr)(t:TO)(p:OF):Prop where
 sem:PO X e t
 den:PO' ⟨X.K,c⟩ t p
structure QIf(ifs:List Expr)(tc:TT)(q:PTf):Prop where
 sem:PIf X ifs tc
 den:PTt ⟨X.K,c⟩ tc q
end
section
variable {cl:Nat->Addr}{pm:List Nat}{X:Cx}{a b c e o:Expr}{es:List Expr}{ta tb tc te:TE}{pa pb pc pe:PF}{tA tB:TT}{qa qb:PTf}{tr:TA}{pr:PAf}{pos:Pos}
theorem QP.bb(h:QP cl X e te pe):QB cl X e te pe:=⟨h.sem,PP.b h.den⟩
theorem QB.f(h:QB cl X e te pe):QP cl X e te (pF pe):=⟨h.sem,PB.f h.den⟩
theorem QP.d(h:QP cl X e te pe):QE cl X e te (dP pe):=⟨h.sem,PP.d h.den⟩
theorem jlC(i:Nat){x:Str}(b:X.N[i]?=some x:=by rfl)(c:Vis X.env.scope x:=by first | exact Or.inl rfl | exact Or.inr (Or.inl rfl) | exact Or.inr (Or.inr rfl))(hd:(x==("__debug__" : Str))=false:=by decide)
  (a:(x==("__classdict__" : Str))=false:=by decide):QB cl X (.Name x pos) (kX i) (pV i):=⟨jej b c hd a,jib⟩
theorem jl6(i:Nat){x:Str}(b:X.N[i]?=some x:=by rfl)(c:Vis X.env.scope x:=by first | exact Or.inl rfl | exact Or.inr (Or.inl rfl) | exact Or.inr (Or.inr rfl))(hd:(x==("__debug__" : Str))=false:=by decide)
  (a:(x==("__classdict__" : Str))=false:=by decide):QE cl X (.Name x pos) (kX i) (dMv i):=⟨jej b c hd a,jkG⟩
theorem jhF{i:Int}{j}:QP cl X (.Constant (.int i) j pos) (tC (.int i)) (pC (.int i)):=⟨jdS,jjR λ_ _=>.int_mk⟩
theorem jl0{i:Bool}{j}:QP cl X (.Constant (.bool i) j pos) (tC (.bl i)) (pC (.bl i)):=⟨jkC,jjR λ_ _=>.bl_mk⟩
theorem jkx{j}:QP cl X (.Constant .none j pos) (tC .non) (pC .non):=⟨jhI,jjR λ_ _=>.non_mk⟩
theorem jim{x:Str}{j}(l:List Nat)(h:x=S l):QP cl X (.Constant (.str x) j pos) (tC (.str x)) (pC (.str l)):=⟨jhE,by subst h;exact jjR λ_ _=>.str_mk⟩
theorem ji6(c:QB cl X a ta pa)(d:QB cl X b tb pb):QP cl X (.BinOp a .Add b pos) (tOp (jcU X.K) ta tb) (p2 jo pa pb):=⟨ux jev c.sem d.sem,KR jhe c.den d.den⟩
theorem jlq(c:QB cl X a ta pa)(d:QB cl X b tb pb):QP cl X (.BinOp a .Sub b pos) (tOp (rI0 λi j=>.int (i - j)) ta tb) (p2 vb pa pb):=⟨ux jjn c.sem d.sem,KR jhy c.den d.den⟩
theorem jkd(c:QB cl X a ta pa)(d:QB cl X b tb pb):QP cl X (.BinOp a .Mult b pos) (tOp jgY ta tb) (p2 jX pa pb):=⟨ux jgM c.sem d.sem,KR jjy c.den d.den⟩
theorem jjX(c:QB cl X a ta pa)(d:QB cl X b tb pb):QP cl X (.BinOp a .FloorDiv b pos) (tOp (rI (λ_ j=>wz j=true) λi j=>.int (i / j)) ta tb) (p2 jz pa pb):=⟨ux jdu c.sem d.sem,KR jje c.den d.den⟩
theorem jkO(c:QB cl X a ta pa)(d:QB cl X b tb pb):QP cl X (.BinOp a .Mod b pos) (tOp (rI (λ_ j=>0 < j) λi j=>.int (i % j)) ta tb) (p2 jl pa pb):=⟨ux jhQ c.sem d.sem,KR jiT c.den d.den⟩
theorem jkm(c:QB cl X a ta pa)(d:QB cl X b tb pb):QP cl X (.BinOp a .Pow b pos) (tOp (rI jkb λi j=>.int (i ^ j.toNat)) ta tb) (p2 Vt pa pb):=⟨ux jjF c.sem d.sem,KR jiU c.den d.den⟩
theorem jj1(b:QB cl X a ta pa):QP cl X (.UnaryOp .USub a pos) (tUn (rU λi=>.int (-i)) ta) (p1 xi pa):=⟨jkN jhX b.sem,jkJ jid b.den⟩
theorem jj6(b:QB cl X a ta pa):QP cl X (.UnaryOp .Not a pos) (jfq ta) (jkW pa):=⟨jhZ b.sem,jhM b.den⟩
structure CmpR(cl:Nat->Addr)(X:Cx)(op:CmpOp)(b:Expr)(r:R2)(g:D->D->Option D):Prop where
 o:OpR X (compareOp op) r
 g:BO ⟨X.K,cl⟩ r g
 m:behindInMarks op b=false
theorem jl3:CmpR cl X .Lt b (rI0 λi j=>.bl (decide (i < j))) jdF:=⟨jlE,jk8,VH _⟩
theorem jl5:CmpR cl X .Gt b (rI0 λi j=>.bl (decide (j < i))) KQ:=⟨jkq,jk8,VH _⟩
theorem jmk:CmpR cl X .GtE b (rI0 λi j=>.bl (decide (j<=i))) jkU:=⟨jka,jk8,VH _⟩
theorem jma:CmpR cl X .Is b (λx y H Q=>y=.non/\Q (.bl (decide (x=.non))) H) uC:=⟨jhN,jk3,VH _⟩
theorem jmd(a:behindInMarks .In b=false):CmpR cl X .In b (jg7 X.K false) (wI false):=⟨jjG,jjq,a⟩
theorem c_notin(a:behindInMarks .NotIn b=false):CmpR cl X .NotIn b (jg7 X.K true) (wI true):=⟨jby,jjq,a⟩
theorem jkR{c:CmpOp}{r:R2}{g:D->D->Option D}(h:CmpR cl X c b r g)(d:QB cl X a ta pa)(e:QB cl X b tb pb):QP cl X (.Compare a [c] [b] pos) (tOp r ta tb) (p2 g pa pb):=⟨jen h.o d.sem e.sem h.m,KR h.g d.den e.den⟩
theorem jiW{c:CmpOp}{r:R2}{g:D->D->Option D}(h:CmpR cl X c b r g)(d:QB cl X a ta pa)(e:QB cl X b tb pb):QT cl X (.Compare a [c] [b] pos) (jf0 (tOp r ta tb)) (ji (p2 g pa pb)):=⟨jfp h.o d.sem e.sem h.m,uX (PP.b (KR h.g d.den e.den))⟩
theorem jjs(b:QB cl X a ta pa)(c:∀ whole,isTrue a X.env whole=(do let v <- whole;standAt a.pos;holding [v] (truthy v)):=by intro _;rfl):QT cl X a (L2.tB ta) (ji pa):=⟨jiq b.sem c,uX b.den⟩
theorem jhT(b:QT cl X a tA qa):QT cl X (.UnaryOp .Not a pos) (jly tA) (jeP qa):=⟨jhk b.sem,jfV b.den⟩
theorem jgH(b:QT cl X a tA qa):QW cl X (.BoolOp .And [a] pos) tA qa:=⟨jfT b.sem,b.den⟩
theorem jhl(c:QT cl X a tA qa)(d:QW cl X (.BoolOp .And (b::es) pos) tB qb):QW cl X (.BoolOp .And (a::b::es) pos) (jkK tA tB) (KW qa qb):=⟨jjI c.sem d.sem,jiF c.den d.den⟩
theorem QW.t(h:QW cl X a tA qa):QT cl X a tA qa:=⟨PW.pt h.sem,h.den⟩
theorem jkP{op}(h:QP cl X a ta pa):QP cl X (.BoolOp op [a] pos) ta pa:=⟨jiN h.sem,h.den⟩
theorem jkp(c:QB cl X a ta pa)(d:QP cl X (.BoolOp .And (b::es) pos) tb pb):QP cl X (.BoolOp .And (a::b::es) pos) (jfK ta tb) (jca pa pb):=⟨jjJ c.sem d.sem,jhB c.den d.den⟩
theorem jmg(d:QT cl X c tA qa)(e:QP cl X a ta pa)(f:QP cl X b tb pb):QP cl X (.IfExp c a b pos) (tIf tA ta tb) (pIf qa pa pb):=⟨jdM d.sem e.sem f.sem,jlz d.den e.den f.den⟩
theorem jiR:QPs cl X [] Ye pN:=⟨kF,pps_nil⟩
theorem jf1(a:QP cl X e te pe)(b:QPs cl X es tr pr)(c:starEach (e::es) X.env=(false,eval e X.env)::starEach es X.env:=by rfl):QPs cl X (e::es) (j9 te tr) (ja pe pr):=⟨ya a.sem b.sem c,pps_cons a.den b.den⟩
theorem jhL:QBs cl X [] Ye pN:=⟨kF,jgJ,λρ a e=>by cases e;rfl⟩
theorem jgk(b:QB cl X e te pe)(a:QBs cl X es tr pr)(c:starEach (e::es) X.env=(false,eval e X.env)::starEach es X.env:=by rfl):QBs cl X (e::es) (j9 te tr) (ja pe pr) :=
 ⟨ya b.sem a.sem c,jcw b.den a.den,λρ f h=>by
  refine ob h λx g h=>ob h λd e2 h=>?_;cases h;rw[M0,M0,a.n ρ d e2]⟩
theorem jlj{x1}(h:QPs cl X es tr pr):QP cl X (.Tuple es x1 pos) (xR tr) (vR pr):=⟨VB h.sem,jiu h.den⟩
theorem jlF(h:QPs cl X es tr pr):QP cl X (.List es pos) (jht tr) (v9 pr):=⟨jdN h.sem,jhV h.den⟩
theorem jlI(c:QB cl X a ta pa)(d:QB cl X b tb pb)(e:Kx b:=by exact λ_ _=>rfl):QB cl X (.Subscript a b pos) (tOp (rIx X.K) ta tb) (p2 jd pa pb):=⟨jjB jd9 c.sem d.sem e,jkX jkr c.den d.den⟩
theorem jgI:QO cl X none xl oN:=⟨jeZ,jl1⟩
theorem jgQ(h:QB cl X e te pe):QO cl X (some e) (jfa te) (oS pe):=⟨jgt h.sem,jl2 h.den⟩
theorem jme{lo hi:Option Expr}{tl th:TO}{pl c:OF}{b:Pos}(d:QB cl X a ta pa)(e:QO cl X lo tl pl)(f:QO cl X hi th c):QP cl X (.Subscript a (.Slice lo hi none b) pos) (tSl (jkI X.K) ta tl th) (pSl pa pl c) :=
 ⟨jcc jmf d.sem e.sem f.sem,jku d.den e.den f.den⟩
def OkF(P:Program)(w:World)(K:PySem.W.Frag)(mg:Str->Option Value)(x:Str)(st:Stmt)(k:Nat)(ps:List Str)(sp:Sp):Prop:=∃ f fd,FnFact K mg x x st f fd ps/\∀ base,FnOk P w K mg base CX0 k f fd ps sp
theorem jja{k n:Nat}{ps:List Str}{m:List D->Option D}{x:Str}{st:Stmt}{p:Pos}(O:OkF X.prog X.w X.K X.mg x st k ps (spP ⟨X.K,cl⟩ m n))(d:Room k X.A)
  (a:QBs cl X (e::es) tr pr) (f:(e::es).length=n:=by rfl) (g:Gl X x:=by rfl) (b:(x==("__debug__" : Str))=false:=by decide)
  (i:starEach (e::es) X.env=(false,eval e X.env)::starEach es X.env:=by rfl) (c:(backTo pos (starEach es X.env)).any (·.1)=false:=by rfl):QP cl X (.Call (.Name x p) (e::es) [] pos) (wA (spP ⟨X.K,cl⟩ m n) [] E0 tr) (jK m pr):=by
 obtain⟨_,_,F,G⟩:=O;exact⟨jjK F (G _) d a.sem g b i c,jeX a.den λρ j h=>(a.n ρ j h).trans f⟩
theorem Ko{x:Str}{p:Pos}{id:String}{r:List V->Hp->VK->Prop}{g:List D->Option D}(d:JM X (.builtin id) r)(f:BC ⟨X.K,cl⟩ r g)(h:X.mg x=none)(i:bootBuiltins x=some (.builtin id))(c:QBs cl X (e::es) tr pr)(j:Gl X x:=by rfl)
  (k:x≠"__name__":=by decide) (a:(x==("__debug__" : Str))=false:=by decide) (l:starEach (e::es) X.env=(false,eval e X.env)::starEach es X.env:=by rfl) (b:(backTo pos (starEach es X.env)).any (·.1)=false:=by rfl) :
  QP cl X (.Call (.Name x p) (e::es) [] pos) (tCB r tr) (pCB g pr):=⟨xI d j h i c.sem k a l b,jhG f c.den⟩
theorem xk{x:Str}{p:Pos}{T:String}{r:List V->Hp->VK->Prop}{g:List D->Option D}(d:JM X (.type T) r)(f:BC ⟨X.K,cl⟩ r g)(h:X.mg x=none)(i:bootBuiltins x=some (.type T))(c:QBs cl X (e::es) tr pr)(j:Gl X x:=by rfl)
  (k:x≠"__name__":=by decide) (a:(x==("__debug__" : Str))=false:=by decide) (l:starEach (e::es) X.env=(false,eval e X.env)::starEach es X.env:=by rfl) (b:(backTo pos (starEach es X.env)).any (·.1)=false:=by rfl) :
  QP cl X (.Call (.Name x p) (e::es) [] pos) (tCB r tr) (pCB g pr):=⟨QV d j h i c.sem k a l b,jhG f c.den⟩
theorem jjc(b:X.mg "len" = none){p:Pos}(c:QBs cl X [e] tr pr)(d:Gl X "len":=by rfl)(f:starEach [e] X.env=(false,eval e X.env)::starEach [] X.env:=by rfl)(a:(backTo pos (starEach [] X.env)).any (·.1)=false:=by rfl) :
  QP cl X (.Call (.Name "len" p) [e] [] pos) (tCB (λxs H Q=>∃ x n,xs=[x]/\jjU X.K x H n/\Q (.int n) H) tr) (pCB kt pr):=Ko jcJ jh0 b PySem.boot_len c d (by decide) (by decide) f a
theorem jaa:bootBuiltins "sum" = some (.builtin "sum"):=by decide +kernel
theorem jaE:bootBuiltins "min" = some (.builtin "min"):=by decide +kernel
theorem J2:bootBuiltins "isinstance" = some (.builtin "isinstance"):=by decide +kernel
theorem jbD:bootBuiltins "int" = some (.type "int"):=by decide +kernel
theorem jas:bootBuiltins "str" = some (.type "str"):=by decide +kernel
theorem JJ:bootBuiltins "list" = some (.type "list"):=by decide +kernel
theorem Y7:bootBuiltins "tuple" = some (.type "tuple"):=by decide +kernel
theorem uz:bootBuiltins "bool" = some (.type "bool"):=by decide +kernel
theorem wV:bootBuiltins "dict" = some (.type "dict"):=by decide +kernel
theorem u8{T:String}{x:Str}{p p1:Pos}(j:T∈["bool","int","str","tuple","list","dict"])(k:X.mg "isinstance" = none)(c:X.mg x=none)(d:bootBuiltins x=some (.type T))(h:QB cl X a ta pa)(l:Gl X "isinstance":=by rfl)(e:Gl X x:=by rfl)
  (m:x≠"__name__":=by decide) (f:(x==("__debug__" : Str))=false:=by decide) (i:starEach [a,.Name x p1] X.env=(false,eval a X.env)::starEach [.Name x p1] X.env:=by rfl) (g:(backTo pos (starEach [.Name x p1] X.env)).any (·.1)=false:=by rfl)
  (h1:starEach [.Name x p1] X.env=(false,eval (.Name x p1) X.env)::starEach [] X.env:=by rfl) :
  QP cl X (.Call (.Name "isinstance" p) [a,.Name x p1] [] pos) (tCB (λxs H Q=>∃ x T t b,xs=[x,.ty T]/\TyQ X.K H x t/\PySem.W.kitOne X.K (.type t) (.type T)=some b/\Q (.bl b) H) (j9 ta (j9 (tC (.ty T)) Ye))) (KI T pa) :=
 ⟨xI Qr l k J2 (ya h.sem (ya (jgL e c d rfl m f) kF h1) i) (by decide) (by decide) i g,jif j h.den⟩
variable {tg iter elt:Expr}{ifs:List Expr}{wi:TI}{pi:PAf}{t:TG}{g:D->Rh->Option Rh}
theorem jhj(h:QP cl X e te pe):QI cl X tg e (jgV X.K te) (pIt pe):=⟨jbx h.sem,jla h.den⟩
theorem jfo{p:Pos}(b:X.mg "range" = none)(h:QBs cl X [a] tr pr)(c:Gl X "range":=by rfl)(d:starEach [a] X.env=[(false,eval a X.env)]:=by rfl):QI cl X tg (.Call (.Name "range" p) [a] [] pos) (jeS tr) (qD pr):=⟨jaI c b h.sem d,jet h.den⟩
theorem jfH{b:List Expr}{n:Nat}{tpos p:Pos}(c:X.mg "enumerate" = none)(h:QPs cl X [a] tr pr)(d:Gl X "enumerate":=by rfl)(e:starEach [a] X.env=[(false,eval a X.env)]:=by rfl):QI cl X (.Tuple b n tpos) (.Call (.Name "enumerate" p) [a] [] pos) (jf6 X.K tr) (J4 pr):=⟨jex d c h.sem e,jcz h.den⟩
theorem jgo{i:Nat}{x:Str}(a:X.N.Nodup)(hi:X.N[i]?=some x:=by rfl)(b:Loc X.env.scope x:=by first | exact Or.inl rfl | exact Or.inr rfl)(c:X.fn x=true \/ X.env.scope.names.lookup x=some .local:=by first | exact .inl rfl | exact .inr rfl) :
  QG cl pm X (.Name x pos) (Ky i) (jc pm i):=⟨jbm a hi b c,jdh⟩
theorem jeE:QGs cl pm X [] jlp gN:=⟨jeH,jcR⟩
theorem jcV{ts:TGs}{a:List D->Rh->Option Rh}(h1:QG cl pm X e t g)(h2:QGs cl pm X es ts a)(b:(assignEach (e::es) X.env).map (·.2)=assign e X.env::(assignEach es X.env).map (·.2):=by rfl):QGs cl pm X (e::es) (jer t ts) (gC g a):=⟨jcL h1.sem h2.sem b,uE h1.den h2.den⟩
theorem jd1{ts:TGs}{b:List D->Rh->Option Rh}{k n:Nat}(c:X.calm=true)(h:QGs cl pm X es ts b)(d:(assignEach es X.env).length=n:=by rfl)(a:(assignEach es X.env).findIdx? (·.1)=none:=by rfl):QG cl pm X (.Tuple es k pos) (jjT X.K n ts) (gT n b):=⟨jhP c h.sem d a,jf2 h.den⟩
theorem jcD:QIf cl X [] (λ_ H Q=>Q true H) qT:=⟨.inl ⟨rfl,rfl⟩,jeu⟩
theorem jdz(h:QT cl X c tA qa):QIf cl X [c] tA qa:=⟨.inr ⟨c,rfl,h.sem⟩,h.den⟩
variable {st:Stmt}{rest:List Stmt}{ts tu:TS}{f fe:FS}{fE:FE}
theorem jg1:QSs cl pm X [] jgF jM:=⟨jgs,jgw⟩
theorem jeQ(h:QS cl pm X st ts f):QSs cl pm X [st] ts f:=⟨jfk h.sem,h.den⟩
theorem jcA(h:QS cl pm X st ts f)(k:QSs cl pm X rest tu fe):QSs cl pm X (st::rest) (jke ts tu) (jg f fe):=⟨jct h.sem k.sem,jhz h.den k.den⟩
theorem jfl(h:QE cl X e te fE)(a:swapsWith e none pos.line X.env=pure false:=by rfl):QS cl pm X (.Expr e pos) (Yr te) (J1 fE):=⟨Vf h.sem a,jez h.den⟩
theorem jhK(h:QE cl X e te fE):QS cl pm X (.Return (some e) pos) (jlD te) (yQ fE):=⟨ji1 h.sem,jia h.den⟩
theorem jkl{x y:List Stmt}(a:QT cl X c tA qa)(b:QSs cl pm X x ts f)(e:QSs cl pm X y tu fe):QS cl pm X (.If c x y pos) (jkD tA ts tu) (sIf (dPT qa) f fe):=⟨jlk a.sem b.sem e.sem,jkt (PTt.d a.den) b.den e.den⟩
theorem jcd:QS cl pm X st jai vf:=⟨jc3,jb9⟩
theorem jhs{i:Nat}{x:Str}{pos':Pos}(a:X.N.Nodup)(h:QE cl X e te fE)(hi:X.N[i]?=some x:=by rfl)(b:Loc X.env.scope x:=by first | exact Or.inl rfl | exact Or.inr rfl)(c:swapsWith e (some (.Name x pos')) pos.line X.env=pure false:=by rfl)
  (d:X.fn x=true \/ X.env.scope.names.lookup x=some .local:=by first | exact .inl rfl | exact .inr rfl):QS cl pm X (.Assign [.Name x pos'] e pos) (je8 te (Ky i)) (jB fE (jc pm i)):=⟨jjh a hi b h.sem c d,jah h.den Kq⟩
@[simp] def sAsgT(fe:FE)(G:D->Rh->Option Rh)(ρ:Rh):Option Out:=(fe ρ).bind λx=>(bif frz x.1 then G x.1 x.2 else none).bind λr=>some (.nx r)
theorem jdp{i:Nat}{x:Str}{a c:Pos}(d:QB cl X (.Name x a) (kX i) (pV i))(hi:QB cl X b tb pb)(h:QE cl X e te fE)
  (f:∀ v,assign (.Subscript (.Name x a) b c) X.env v=(do
   let ov <- holding [v] (eval (.Name x a) X.env)
   let iv <- holding [v,ov] (eval b X.env)
   standAt c
   holding [v,ov,iv] (setItem ov iv v)
   release [v,ov,iv] []):=by intro _;rfl)
  (g:swapsWithSole [.Subscript (.Name x a) b c] e pos.line X.env=pure false:=by rfl) (j:swappedStores [.Subscript (.Name x a) b c] e X.env=pure none:=by rfl)
  (h1:(assignEach [.Subscript (.Name x a) b c] X.env).map (·.2)=[assign (.Subscript (.Name x a) b c) X.env]:=by rfl) :
  QS cl pm X (.Assign [.Subscript (.Name x a) b c] e pos) (je8 te (jkg (kX i) tb jbp)) (jB fE (gIx pm i pb)):=⟨jhi h.sem (jiS d.sem hi.sem xQ f) g j h1,jah h.den (jlf hi.den)⟩
theorem jc6:jlL X (jjz X.K):=by
 intro a s σ H o i C D Q I m n h;obtain⟨p,E,k,z,rfl,rfl,u,v,q⟩:=h;cases m;obtain⟨t,rfl⟩:=n;obtain⟨d,r,pl,F⟩:=I.list u;obtain⟨j,c,x,G,y,A⟩:=Kt v;obtain⟨w,g,e⟩:=r.get x;have B:=r.length;have J:=VI;have b:EP X a σ Q w s:=⟨z,H,I,e,q⟩;by_cases l:0<=k
 ·have f:k.toNat=j:=by
   rw[seqIndex_of l A] at c;exact X7 c
  exact wpAny_getItem_list pl.isList l (by omega) (by rw[f];simpa using g) b
 ·have f:(k+(d.toArray.size:Int)).toNat=j:=by
   rw[seqIndex_neg (by omega) y] at c;rw[N2,<- B];exact X7 c
  exact wpAny_getItem_list_neg pl.isList (by omega) (by rw[N2]<;>omega) (by omega) (by rw[f];simpa using g) b
theorem jdC{i:Nat}{x:Str}{a c:Pos}{f:Operator}{d:Int->Int->Int}(g:QB cl X (.Name x a) (kX i) (pV i))(hi:QB cl X b tb pb)(j:PIp X f (ipI d))(h:QB cl X e te pe)
  (k:∀ ov iv new,augStore b ov iv new=(do holding [new,ov,iv] (setItem ov iv new);release [new,ov,iv] [];pure .next):=by intros;rfl):QS cl pm X (.AugAssign (.Subscript (.Name x a) b c) f e pos) (jfL (kX i) tb te (jjz X.K) (ipI d) jbp) (jbr i pb d pe) :=
 ⟨jfD g.sem hi.sem jc6 h.sem j xQ k,jcn hi.den h.den⟩
@[simp] def jeq(pm:List Nat)(i:Nat)(g:Int->Int->Int)(pa:PF)(ρ:Rh):Option Out:=(pV i ρ).bind λx=>(vx x).bind λa=>(pa ρ).bind λy=>(vx y).bind λb=>(jc pm i (.int (g a b)) ρ).bind λr=>some (.nx r)
theorem jfu{R:RC}{i:Nat}{b:Int->Int->Int}{p:PF}(h:PB R te p):DS R pm (jli i te (ipI b)) (jeq pm i b p):=by
 intro σ ρ Z H O o w s e z k;refine ob e λc1 a e=>ob e λx e3 e=>ob e λC f e=>ob e λy g e=>ob e λD e2 e=>?_;cases e;cases jY e3;cases jY g;have a:=JN a;obtain⟨A,P,B,rfl,j,_,_⟩:=s.put (L8.mp a).1;obtain⟨v,l,r⟩:=j _ a;obtain⟨rfl,_⟩:=r.int_of;refine⟨_,l,h w.zd s f λ{u E F G} c m=>?_⟩;obtain⟨rfl,_⟩:=m.int_of;have d:=c.widen w;exact⟨x,y,rfl,rfl,Kq (P:=[]) d.wf (Rep.int_mk (i:=b x y)) (c.slots w.zd s) e2 λn q t=>k (d.trans n) q t⟩
theorem jgq{i:Nat}{x:Str}{pos':Pos}{b:Operator}{a:Int->Int->Int}(c:X.N.Nodup)(d:PIp X b (ipI a))(h:QB cl X e te pe)(hi:X.N[i]?=some x:=by rfl)(f:Loc X.env.scope x:=by first | exact Or.inl rfl | exact Or.inr rfl)
  (g:X.fn x=true \/ X.env.scope.names.lookup x=some .local:=by first | exact .inl rfl | exact .inr rfl):QS cl pm X (.AugAssign (.Name x pos') b e pos) (jli i te (ipI a)) (jeq pm i a pe):=⟨jhq c hi f h.sem d g,jfu h.den⟩
theorem ji7{i:Nat}{x:Str}{a apos cpos:Pos}(j:QB cl X (.Name x a) (kX i) (pV i))(h:QP cl X e te pe)(c:attributeBase (.Name x a) "append" X.env (eval (.Name x a) X.env)=eval (.Name x a) X.env:=by rfl)
  (f:((backTo cpos (starEach [e] X.env)).all (λx=>!x.1)&&(backToKw cpos (keywordEach [] X.env)).all (λx=>x.1.isSome)
   && decide ([e].length+([]:List Keyword).length+(if([]:List Keyword).isEmpty then 0 else 1) < 30))=true:=by rfl)
  (d:(apos.endLine==cpos.line)=true:=by rfl) (g:starEach [e] X.env=(false,eval e X.env)::starEach [] X.env:=by rfl) (b:(backTo cpos (starEach [] X.env)).any (·.1)=false:=by rfl)
  (hsw:swapsWith (.Call (.Attribute (.Name x a) "append" apos) [e] [] cpos) none pos.line X.env=pure false:=by rfl) :
  QS cl pm X (.Expr (.Call (.Attribute (.Name x a) "append" apos) [e] [] cpos) pos) (Yr (tBM X.K "list" qV (kX i) (j9 te Ye))) (Km i pe) :=
 ⟨Vf (jbd PySem.F.plainAttrs_list PySem.F.slot_list_append PySem.F.type_list_append Jn j.sem (ya h.sem kF g) c f d g b) hsw,jjl h.den⟩
theorem jiP{body:List Stmt}(c:PassesOwn (model X.prog X.w) X.A X.env X.xe)(d:X.calm=true)(hi:QI cl X tg iter wi pi)(a:QG cl pm X tg t g)(b:QSs cl pm X body ts f)(e:∀ x,foldedSetIterable iter X.env x=pure x:=by intro _;rfl):QS cl pm X (.For tg iter body [] pos) (jiG wi t ts) (Jx pi g f) :=
 ⟨jdV c d hi.sem a.sem b.sem e,jin hi.den a.den b.den⟩
theorem QS.fz(i:Nat)(h:QS cl pm X st ts f):QS cl pm X st ts (sFz i f):=⟨h.sem,jk0 h.den⟩
theorem jki{P:Program}{w:World}{K:PySem.W.Frag}{mg:Str->Option Value}{base:Heap}{x qual:Str}{a:Stmt}{fa:Addr}{fd:FuncData}{N ps:List Str}{k n:Nat}{fs:FS}(F:Fun K x qual a fa fd)(c:FnScope N ps (jC a))(d:ps.length=n)
  (b:∀(cdv:Value) (A:Around) (outer:List Env) (s:Shared) (H:Hp) (E:XK),Room k (A.deeper (envOfC qual (jC a) s.heap.objs.size fa cdv)) ->
   ∃ ts,QSs cl [] (jeb CX0 P w K mg base N qual (jC a) fa cdv A outer s H E).nox (vE a) ts fs):FnOk P w K mg base CX0 (k+1) fa fd ps (spP ⟨K,cl⟩ (fnP N.length fs) n):=by
 refine F.ok c (λe H Q E h=>by rw[je2 h,d]) λcdv A outer s H e Q E f h=>?_;obtain⟨ts,q⟩:=b cdv A outer s H E f;exact⟨ts,q.sem,jfS q.den h⟩
end
mutual
noncomputable def jbY:D->PyData
 | .non=>.none | .bl b=>.bool b | .int i=>.int i | .str s=>.str (S s)
 | .tup l=>.tuple (kZ l)
 | .lst _ l=>.list (kZ l)
 | .dK _ _ _=>.none | .dT _ _ _=>.none | .ins _ _ _ _=>.none | .dead=>.none | .tok _=>.none | .exc _ _=>.none
noncomputable def kZ:List D->List PyData
 | []=>[]
 | d::l=>jbY d::kZ l
end
mutual
noncomputable def okE:Nat->D->Bool
 | _,.non=>true | _,.bl _=>true | _,.int _=>true
 | _,.str s=>s.all λc=>decide (c < 1114112)
 | n+1,.tup l=>kI n l
 | n+1,.lst _ l=>kI n l
 | _,_=>false
noncomputable def kI:Nat->List D->Bool
 | _,[]=>true
 | n,d::l=>okE n d&&kI n l
end
mutual
noncomputable def eqD:D->D->Bool
 | .non,.non=>true
 | .bl a,.bl b=>a==b
 | .bl a,.int j=>(if a then 1 else 0)==j
 | .int i,.bl b=>i==(if b then 1 else 0)
 | .int i,.int j=>i==j
 | .str a,.str b=>a==b
 | .tup l,.tup m=>KG l m
 | .lst _ l,.lst _ m=>KG l m
 | _,_=>false
noncomputable def KG:List D->List D->Bool
 | [],[]=>true
 | x::l,y::m=>eqD x y&&KG l m
 | _,_=>false
end
theorem Kw:∀(n:Nat) (l:List D),kI n l=l.all (okE n)
 | _,[]=>rfl
 | n,d::l=>by rw[kI,Kw n l];rfl
mutual
theorem jbU:∀(n:Nat) (x y:D),okE n x=true->okE n y=true->PyData.eqv (jbY x) (jbY y)=eqD x y
 | n,.non,y,hx,hy=>by cases y<;>first | rfl | (cases n<;>simp_all [okE])
 | n,.bl a,y,hx,hy=>by cases y<;>first | rfl | (cases n<;>simp_all [okE])
 | n,.int a,y,hx,hy=>by cases y<;>first | rfl | (cases n<;>simp_all [okE])
 | n,.str a,y,hx,hy=>by
  cases y with
  | str b =>
   show(S a==S b)=(a==b);rw[Bool.eq_iff_iff];simp[jlu]
  | _=>first | rfl | (cases n<;>simp_all [okE])
 | 0,.tup l,y,hx,hy=>by simp[okE] at hx
 | n+1,.tup l,y,hx,hy=>by
  cases y with
  | tup m=>show PyData.eqvAll (kZ l) (kZ m)=KG l m;exact zO n l m (by simpa [okE] using hx) (by simpa [okE] using hy)
  | _=>first | rfl | (simp_all [okE])
 | 0,.lst o l,y,hx,hy=>by simp[okE] at hx
 | n+1,.lst o l,y,hx,hy=>by
  cases y with
  | lst o' m=>show PyData.eqvAll (kZ l) (kZ m)=KG l m;exact zO n l m (by simpa [okE] using hx) (by simpa [okE] using hy)
  | _=>first | rfl | (simp_all [okE])
 | n,.dK _ _ _,y,hx,hy=>by cases n<;>simp[okE] at hx
 | n,.dT _ _ _,y,hx,hy=>by cases n<;>simp[okE] at hx
 | n,.ins _ _ _ _,y,hx,hy=>by cases n<;>simp[okE] at hx
 | n,.dead,y,hx,hy=>by cases n<;>simp[okE] at hx
 | n,.tok _,y,hx,hy=>by cases n<;>simp[okE] at hx
 | n,.exc _ _,y,hx,hy=>by cases n<;>simp[okE] at hx
theorem zO:∀(n:Nat) (l m:List D),kI n l=true->kI n m=true->PyData.eqvAll (kZ l) (kZ m)=KG l m
 | n,[],[],_,_=>rfl
 | n,[],_::_,_,_=>rfl
 | n,_::_,[],_,_=>rfl
 | n,x::l,y::m,hx,hy=>by
  rw[kI,L9] at hx hy;show(PyData.eqv (jbY x) (jbY y)&&PyData.eqvAll (kZ l) (kZ m))=(eqD x y&&KG l m);rw[jbU n x y hx.1 hy.1,zO n l m hx.2 hy.2]
end
mutual
theorem wq:∀(n:Nat) (x:D),okE n x=true->(jbY x).canLay0=true/\(jbY x).depth<=n
 | n,.non,_=>⟨rfl,U4 _⟩
 | n,.bl _,_=>⟨rfl,U4 _⟩
 | n,.int _,_=>⟨rfl,U4 _⟩
 | n,.str s,h=>by
  refine⟨?_,U4 _⟩;have h:(s.all λc=>decide (c < 1114112))=true:=by cases n<;>simpa [okE] using h
  show PyData.strOk (S s)=true;unfold PyData.strOk S;rw[Array.all_eq_true'];intro c hc;rw[List.all_eq_true] at h;exact h c (by simpa using hc)
 | 0,.tup l,h=>by simp[okE] at h
 | n+1,.tup l,h=>by
  obtain⟨h1,h2⟩:=YN n l (by simpa [okE] using h);exact⟨h1,Nat.succ_le_succ h2⟩
 | 0,.lst o l,h=>by simp[okE] at h
 | n+1,.lst o l,h=>by
  obtain⟨h1,h2⟩:=YN n l (by simpa [okE] using h);exact⟨h1,Nat.succ_le_succ h2⟩
 | n,.dK _ _ _,hx=>by cases n<;>simp[okE] at hx
 | n,.dT _ _ _,hx=>by cases n<;>simp[okE] at hx
 | n,.ins _ _ _ _,hx=>by cases n<;>simp[okE] at hx
 | n,.dead,hx=>by cases n<;>simp[okE] at hx
 | n,.tok _,hx=>by cases n<;>simp[okE] at hx
 | n,.exc _ _,hx=>by cases n<;>simp[okE] at hx
theorem YN:∀(n:Nat) (l:List D),kI n l=true->PyData.canLayAll0 (kZ l)=true/\PyData.depthAll (kZ l)<=n
 | n,[],_=>⟨rfl,U4 _⟩
 | n,x::l,h=>by
  rw[kI,L9] at h;obtain⟨h1,h2⟩:=wq n x h.1;obtain⟨h3,h4⟩:=YN n l h.2;rw[kZ];refine⟨?_,?_⟩
  ·show((jbY x).canLay0&&PyData.canLayAll0 (kZ l))=true;rw[h1,h3];rfl
  ·show max (jbY x).depth (PyData.depthAll (kZ l))<=n;exact Nat.max_le.mpr ⟨h2,h4⟩
end
section
variable {X:Cx}{cl:Nat->Addr}{Z Z':Zn}{H H':Hp}{pins:List (Addr×Obj)}{σ:L2.St}{s:Shared}
mutual
theorem Rep.reads(I:Inv X pins σ H s):∀(n:Nat) {x:D}{v:V}{u:Value}{O:List Addr},Rep ⟨X.K,cl⟩ Z H x v O->RelV v u->okE n x=true->∃ as,Reads s.heap u (jbY x) as
 | n,.non,_,_,_,r,q,_=>by obtain⟨rfl,_⟩:=r.non_of;cases q;exact⟨_,.none⟩
 | n,.bl b,_,_,_,r,q,_=>by obtain⟨rfl,_⟩:=r.bl_of;cases q;exact⟨_,.bool b⟩
 | n,.int i,_,_,_,r,q,_=>by obtain⟨rfl,_⟩:=r.int_of;obtain⟨t,rfl⟩:=q;exact⟨_,.int i t⟩
 | n,.str w,_,_,_,r,q,_=>by obtain⟨rfl,_⟩:=r.str_of;obtain⟨t,rfl⟩:=q;exact⟨_,.str _ t⟩
 | 0,.tup l,_,_,_,r,q,h=>by simp[okE] at h
 | n+1,.tup l,_,_,_,r,q,h=>by
  obtain⟨a,vs,rfl,hx,rs⟩:=r.tup_of;cases q;obtain⟨its,rv,⟨o,h1,h2,k,h3⟩,_⟩:=I.tuple hx;obtain⟨as,hr⟩:=Reps.reads I n rs rv (by simpa [okE] using h);exact⟨_,reads_tuple_at h1 h2 h3 (by simpa using hr)⟩
 | 0,.lst o l,_,_,_,r,q,h=>by simp[okE] at h
 | n+1,.lst o l,_,_,_,r,q,h=>by
  obtain⟨a,vs,O',rfl,hx,rs⟩:=r.lst_of;cases q;obtain⟨its,rv,⟨o,k,h1,h2,_,h3⟩,_⟩:=I.list hx.sq;obtain⟨as,hr⟩:=Reps.reads I n rs rv (by simpa [okE] using h);exact⟨_,reads_list_at h1 h2 h3 (by simpa using hr)⟩
 | n,.dK _ _ _,_,_,_,_,_,hx=>by cases n<;>simp[okE] at hx
 | n,.dT _ _ _,_,_,_,_,_,hx=>by cases n<;>simp[okE] at hx
 | n,.ins _ _ _ _,_,_,_,_,_,hx=>by cases n<;>simp[okE] at hx
 | n,.dead,_,_,_,_,_,hx=>by cases n<;>simp[okE] at hx
 | n,.tok _,_,_,_,_,_,hx=>by cases n<;>simp[okE] at hx
 | n,.exc _ _,_,_,_,_,_,hx=>by cases n<;>simp[okE] at hx
theorem Reps.reads(I:Inv X pins σ H s):∀(n:Nat) {l:List D}{vs:List V}{us:List Value}{O:List Addr},Reps ⟨X.K,cl⟩ Z H l vs O->Vals vs us->kI n l=true->∃ as,ReadsAll s.heap us (kZ l) as
 | n,[],_,_,_,r,q,_=>by rw[Reps] at r;obtain⟨rfl,_⟩:=r;cases q;exact⟨_,.nil⟩
 | n,x::l,_,_,_,r,q,h=>by
  rw[Reps] at r;obtain⟨v,vs,O1,O2,rfl,rfl,r1,r2⟩:=r;rw[kI,L9] at h;cases q with
  | cons q1 q2 =>
   obtain⟨as,h1⟩:=Rep.reads I n r1 q1 h.1;obtain⟨bs,h2⟩:=Reps.reads I n r2 q2 h.2;exact⟨_,.cons h1 h2⟩
end
def jg8(R:RC)(neg:Bool):R2:=λx y H Q=>∃ Z d e O P,Rep R Z H d x O/\Rep R Z H e y P/\okE 20 d=true/\okE 20 e=true/\Q (.bl (neg != eqD d e)) H
theorem jjS{x:D}(h:okE 20 x=true):SeqAt.shaped (jbY x)=true:=by
 obtain⟨a,b⟩:=wq 20 x h;unfold SeqAt.shaped;rw[a,Bool.true_and];exact X4 (N6 b (by decide))
theorem jhC(f:X.A.units+64 < cLine):OpR X (compareOp .Eq) (jg8 ⟨X.K,cl⟩ false):=by
 intro c s σ H x y v u Q I g i h;obtain⟨Z,d,e,O,P,j,k,a,b,q⟩:=h;obtain⟨n,l⟩:=j.reads I 20 g a;obtain⟨bs,m⟩:=k.reads I 20 i b;refine eq_dataH l m (jjS a) (jjS b) f ?_;rw[jbU 20 d e a b];exact⟨.bl _,H,I,rfl,by simpa using q⟩
theorem jhW(f:X.A.units+64 < cLine):OpR X (compareOp .NotEq) (jg8 ⟨X.K,cl⟩ true):=by
 intro c s σ H x y v u Q I g i h;obtain⟨Z,d,e,O,P,j,k,a,b,q⟩:=h;obtain⟨n,l⟩:=j.reads I 20 g a;obtain⟨bs,m⟩:=k.reads I 20 i b;refine ne_dataH l m (jjS a) (jjS b) f ?_;rw[jbU 20 d e a b];exact⟨.bl _,H,I,rfl,by simpa using q⟩
def v7(x y:D):Option D:=bif qC x&&qC y&&V5 x y then some (.bl (eqF x y)) else bif okE 20 x&&okE 20 y then some (.bl (eqD x y)) else none
def KH(x y:D):Option D:=bif qC x&&qC y&&V5 x y then some (.bl (!eqF x y)) else bif okE 20 x&&okE 20 y then some (.bl (!eqD x y)) else none
theorem jln{R:RC}:BO R (λx y H Q=>rEq x y H Q \/ jg8 R false x y H Q) v7:=by
 intro Z H x y d v u f g z b c e Q k;unfold v7 at e;cases hl:qC x&&qC y&&V5 x y with
 | true =>
  rw[hl] at e;cases e;obtain⟨h,i⟩:=jbw b c hl;exact .inl ⟨h,by rw[i];exact k (Go.id z) .bl_mk⟩
 | false =>
  rw[hl,cond_false] at e;refine oc e λa e=>?_;cases e;rw[L9] at a;exact .inr ⟨Z,x,y,f,g,b,c,a.1,a.2,by simpa using k (Go.id z) .bl_mk⟩
theorem jkk{R:RC}:BO R (λx y H Q=>rNe x y H Q \/ jg8 R true x y H Q) KH:=by
 intro Z H x y d v u f g z b c e Q k;unfold KH at e;cases hl:qC x&&qC y&&V5 x y with
 | true =>
  rw[hl] at e;cases e;obtain⟨h,i⟩:=jbw b c hl;exact .inl ⟨h,by rw[i];exact k (Go.id z) .bl_mk⟩
 | false =>
  rw[hl,cond_false] at e;refine oc e λa e=>?_;cases e;rw[L9] at a;exact .inr ⟨Z,x,y,f,g,b,c,a.1,a.2,by simpa using k (Go.id z) .bl_mk⟩
theorem jmj{b:Expr}{k:Nat}(a:Room k X.A):CmpR cl X .Eq b (λx y H Q=>rEq x y H Q \/ jg8 ⟨X.K,cl⟩ false x y H Q) v7:=⟨JU jk1 (jhC a.units),jln,VH _⟩
theorem jmc{b:Expr}{k:Nat}(a:Room k X.A):CmpR cl X .NotEq b (λx y H Q=>rNe x y H Q \/ jg8 ⟨X.K,cl⟩ true x y H Q) KH:=⟨JU jkz (jhW a.units),jkk,VH _⟩
def BM(R:RC)(T:String)(r:V->List V->Hp->VK->Prop)(g:D->List D->Option D):Prop:=∀{Z:Zn}{H:Hp}{x d:D}{xs:List D}{v:V}{vs:List V}{O1 O2:List Addr},Zd Z H->Rep R Z H x v O1->Reps R Z H xs vs O2->g x xs=some d ->
 ∀{Q:VK},(∀{w:V}{Z':Zn}{H':Hp}{P:List Addr},Go Z H [] Z' H' P->Rep R Z' H' d w P->Q w H')->r v vs H Q
noncomputable def isT:String->D->Bool
 | "str",.str _=>true
 | _,_=>false
@[simp] def pBM(T:String)(g:D->List D->Option D)(pa:PF)(pr:PAf)(ρ:Rh):Option D:=(pa ρ).bind λx=>bif isT T x then(pr ρ).bind λxs=>g x xs else none
theorem jic{R:RC}{T:String}{x:D}{v:V}{O:List Addr}(r:Rep R Z H x v O)(h:isT T x=true):tyV R.K T v H:=by
 unfold isT at h;split at h
 ·obtain⟨rfl,_⟩:=r.str_of;rfl
 ·cases h
theorem jks{R:RC}{T:String}{r:V->List V->Hp->VK->Prop}{g:D->List D->Option D}{to:TE}{ta:TA}{pa:PF}{pr:PAf}(f:BM R T r g)(h:PB R to pa)(i:PBs R ta pr):PP R (tBM R.K T r to ta) (pBM T g pa pr):=by
 intro σ ρ Z H O d z s e Q k;refine ob e λx j e=>oc e λl e=>ob e λo e2 e=>?_;refine h z s j λ{v p q t} a c=>⟨jic c l,?_⟩;refine i a.wf.zd (a.slots z s) e2 λ{u w y A} b m=>?_;exact f b.wf.zd (b.rep a.wf.zd c) m e λg3 n=>k ((a.pair b).pair g3) n
end
end QD
namespace QD
open PySem L2
section
variable {R:RC}{Z Z':Zn}{H H':Hp}{pm:List Nat}
def ItB(R:RC)(J:It)(Z:Zn)(H:Hp)(xs:List D):Prop:=∀{Z1:Zn}{H1:Hp},(∀ a,Z a->Z1 a)->(∀ a,H a≠none->H1 a=H a)->Zd Z1 H1->∀ i:Nat,
 (xs.length<=i->J.stop i H1)/\∀ x,xs[i]?=some x->J.go i H1/\∀ u H2,J.yld i H1 u H2->∃ Z2,Go Z1 H1 [] Z2 H2 []/\Rep R Z2 H2 x u []
def jhA(R:RC)(wi:TI)(p:PAf):Prop:=∀{σ:St}{ρ:Rh}{Z:Zn}{H:Hp}{O:List Addr}{xs:List D},Zd Z H->Slots R Z H ρ σ O->p ρ=some xs ->
 ∀{Q:It->Hp->Prop},(∀{J:It}{Z':Zn}{H':Hp},Go Z H [] Z' H' []->ItB R J Z' H' xs->Q J H')->wi σ H Q
theorem PIt.b(h:PIt R wi p):jhA R wi p:=by
 intro σ ρ Z H O j z s e Q k;refine h z s e λg c=>k g ?_;intro l m d f zd i;exact c d (λa z=>f a (g.wf.zd a z)) zd i
def itB:D->Option (List D)
 | .lst _ l=>bif frzs l then some l else none
 | .tup l=>bif frzs l then some l else none
 | .str s=>some (s.map λc=>.str [c])
 | _=>none
@[simp] def YT(p:PF)(ρ:Rh):Option (List D):=(p ρ).bind itB
theorem jco(b:∀ a,H a≠none->H' a=H a)(h:SqX K H a vs):SqX K H' a vs:=by
 rcases h with h | h
 ·refine .inl (Rd.agree (b a ?_) h);rcases h with h | ⟨o,h⟩<;>rw[h]<;>exact λz=>(nomatch z)
 ·exact .inr h
theorem jcP(b:∀ a,H a≠none->H' a=H a)(h:SqT K H a vs):SqT K H' a vs:=by
 rcases h with h | h
 ·refine .inl (Rd.agree (b a ?_) h);rcases h with h | ⟨o,h⟩<;>rw[h]<;>exact λz=>(nomatch z)
 ·exact .inr h
theorem jjo(h:PB R te p):jhA R (jgV R.K te) (YT p):=by
 intro σ ρ Z H O P z s e Q k;refine ob e λc G e=>?_;cases c with
 | lst o l =>
  refine oc e λI e=>?_;cases e;refine h z s G λ{v J L S} g A=>?_;obtain⟨a,f,U,rfl,B,C⟩:=A.lst_of;have j:=C.frozen I;refine .inl ⟨a,rfl,⟨f,B.sq⟩,k g ?_⟩;intro y F D m zd i;have d:=SqX.sq (jco m B);have n:Reps R y F P f []:=j.frame D (λb z=>m b (g.wf.zd b z)) λb M=>(nomatch M);refine⟨λhi=>⟨f,d,by rw[C.length];exact hi⟩,λx q=>?_⟩;obtain⟨u,E,N⟩:=n.item q;refine⟨⟨f,u,d,E⟩,λw T r=>?_⟩;obtain⟨rfl,r⟩:=r;have e2:=r f d;rw[E] at e2;cases e2;exact⟨y,Go.id zd,N⟩
 | tup l =>
  refine oc e λI e=>?_;cases e;refine h z s G λ{v J L S} g A=>?_;obtain⟨a,f,rfl,B,C⟩:=A.tup_of;have j:=C.frozen I;refine .inr (.inl ⟨a,rfl,⟨f,B⟩,k g ?_⟩);intro y F D m zd i;have d:=jcP m B;have n:Reps R y F P f []:=j.frame D (λb z=>m b (g.wf.zd b z)) λb M=>(nomatch M);refine⟨λhi=>⟨f,d,by rw[C.length];exact hi⟩,λx q=>?_⟩;obtain⟨u,E,N⟩:=n.item q;refine⟨⟨f,u,d,E⟩,λw T r=>?_⟩;obtain⟨rfl,r⟩:=r;have e2:=r f d;rw[E] at e2;cases e2;exact⟨y,Go.id zd,N⟩
 | str t =>
  cases e;refine h z s G λ{v J L S} g A=>?_;obtain⟨rfl,_⟩:=A.str_of;refine .inr (.inr ⟨t,rfl,k g ?_⟩);intro y F D m zd i;exact jdR (Z:=J) (H:=L) D (λb z=>m b (g.wf.zd b z)) zd i
 | _=>cases e
inductive CpI (R:RC) (g:D->Rh->Option Rh) (q:PTf) (p:PF) (Z0:Zn) (H0:Hp) (a:Addr) (xs all:List D) (i m:Nat) (σ2:L2.St) (H2:Hp):Prop
 | mk:m=xs.length - i->i<=xs.length->∀(ρ2:Rh) (Z2:Zn) (O2:List Addr) (ys:List D) (vs:List V) (Py:List Addr) (rest:List D),Go Z0 H0 [] Z2 H2 (a::Py)->H2 a=some (.lst vs)->Reps R Z2 H2 ys vs Py->(∀ b∈O2,b≠a)->Slots R Z2 H2 ρ2 σ2 O2->yC g q p (xs.drop i) ρ2=some rest->all=ys++rest->ys.length<=i->CpI R g q p Z0 H0 a xs all i m σ2 H2
theorem Jb{tg:TG}{tc:TT}{te:TE}{g:D->Rh->Option Rh}{q:PTf}{p:PF}{ix:List (Option Nat)}(hg:PGt R [] tg g)(hq:PTt R tc q)(he:PP R te p)
  {J:It}{l:Zn}{c:Hp}{ρ:Rh}{σ:L2.St}{O:List Addr}{xs all:List D}(G:Zd l c) (s:Slots R l c ρ σ O) (it:ItB R J l c xs) (hl:lim xs.length=true) (e2:yC g q p xs (jw ix ρ)=some all)
  {Q:VK}(k:∀{v:V}{Z':Zn}{H':Hp}{P:List Addr},Go l c [] Z' H' P->Rep R Z' H' (.lst true all) v P->Q v H'):∀ a,c a=none->xE tc te tg J a (yO ix σ) (upd c a (.lst [])) λH2=>Q (.ref a) H2:=by
 intro a ha;obtain⟨Oi,si⟩:=qZ s ix;have gp:Go l c [] l (upd c a (.lst [])) [a]:=Go.newO (wf0 G) ha;refine⟨CpI R g q p l c a xs all,
  ⟨xs.length,rfl,U4 _,_,l,Oi,[],[],[],all,gp,jr,Reps.empty,λb d e=>si.dom b d (e▸ha),gp.slots G si,e2,rfl,M8 _⟩,?_⟩
 rintro i m σ2 H2 ⟨rfl,W,ρ2,Z2,O2,X,o,h,rest,j,H,M,Y,s2,e3,N,w⟩;have I:=it (Z1:=Z2) (H1:=H2) j.zz (λb z=>j.same b z) j.wf.zd i;by_cases x:i < xs.length
 ·right
  have hx:xs[i]?=some xs[i]:=by simp[x]
  obtain⟨go,yl⟩:=I.2 _ hx;refine⟨go,λu H3 hy=>?_⟩;obtain⟨Z3,g3,r3⟩:=yl u H3 hy;rw[kh hx] at e3;refine ob e3 λρ3 e5 e3=>?_;refine hg r3 (g3.slots j.wf.zd s2) e5 λ{σ4 O4} sub nd S _=>?_;refine ob e3 λb e6 e3=>?_;refine hq g3.wf.zd S e6 λ{Z5 H5} K=>?_;have r:=g3.pair K;cases b with
  | true =>
   refine jg4 ?_;rw[cond_true] at e3;refine ob e3 λy e7 e3=>ob e3 λZ e8 e3=>?_;cases e3;refine he K.wf.zd (K.slots g3.wf.zd S) e7 λ{T E t F} g6 r6=>?_;have C:Go Z2 H2 [] E t F:=by simpa using r.pair g6
   have ea6:t a=some (.lst o):=by rw[C.same a (by rw[H];exact λz=>(nomatch z))];exact H
   have hvl:o.length < sizeLine:=by
    rw[M.length];exact Qv (n:=X.length) (X4 (N6 w (N6 W (X6 hl))))
   have U:Go l c [] E t (a::h++F):=by
    have f:=C.frame (A:=a::h) (B:=[]) (by simpa using j.wf);exact j.trans (by simpa using f)
   have w6:=U.wf;have gB:Go E t (a::h++F) E (upd t a (.lst (o++[T]))) (a::h++F):=Go.put w6 L6;have nd6:=List.nodup_cons.mp w6.nd;have ne:∀ b,b∈h++F->upd t a (.lst (o++[T])) b=t b:=λb d=>jf λz=>nd6.1 (z▸d);have L:∀ b,E b->upd t a (.lst (o++[T])) b=t b:=λb d=>jf λz=>w6.nz a L6 (z▸d);refine⟨o,ea6,hvl,xs.length - (i+1),by lia,rfl,x,ρ3,E,O4,X++[y],o++[T],h++F,Z,U.trans gB,jr,?_,λb d=>Y b (sub b d),?_,e8,by rw[N];simp,by rw[N3];exact Nat.add_le_add_right w 1⟩
   ·refine((C.reps j.wf.zd M).append (.one r6)).frame (λb z=>z) L ne
   ·exact((K.pair g6).slots g3.wf.zd S).frame (λb z=>z) L λb d=>jf (Y b (sub b d))
  | false =>
   refine jg3 ?_;rw[cond_false] at e3;have U:Go l c [] Z5 H5 (a::h):=by
    have f:=r.frame (A:=a::h) (B:=[]) (by simpa using j.wf);exact j.trans (by simpa using f)
   exact⟨xs.length - (i+1),by lia,rfl,x,ρ3,Z5,O4,X,o,h,rest,U,by rw[r.same a (by rw[H];exact λz=>(nomatch z))];exact H,r.reps j.wf.zd M,λb d=>Y b (sub b d),K.slots g3.wf.zd S,e3,N,Nat.le_succ_of_le w⟩
 ·left
  have hi2:i=xs.length:=by lia
  refine⟨I.1 (by lia),?_⟩;rw[hi2,List.drop_length] at e3;cases e3;rw[M9] at N;subst N;refine k (P:=a::h) j ?_;rw[Rep];exact⟨a,o,h,rfl,M,H,rfl⟩
theorem xM{wi:TI}{tg:TG}{tc:TT}{te:TE}{pi:PAf}{g:D->Rh->Option Rh}{q:PTf}{p:PF}{ix:List (Option Nat)}(hi:jhA R wi pi)(b:PGt R [] tg g)(c:PTt R tc q)(f:PP R te p) :
  PP R (xh wi tg tc te ix) (yR pi g q p ix):=by
 intro σ ρ Z H O d z s e Q k;refine ob e λn h e=>oc e λi e=>ob e λall e2 e=>?_;cases e;refine hi z s h λ{J o r} a j=>?_;exact Jb b c f a.wf.zd (a.slots z s) j i e2 λl m=>k (by simpa using a.pair l) m
end
section
variable {cl:Nat->Addr}{pm:List Nat}{X:Cx}{c e elt tg iter:Expr}{te:TE}{pe:PF}{ifs:List Expr}{wi:TI}{pi:PAf}{t:TG}{g:D->Rh->Option Rh}{pos:Pos}{ts:TS}{f:FS}
structure QIb(cl:Nat->Addr)(X:Cx)(tg e:Expr)(wi:TI)(p:PAf):Prop where
 sem:PI X tg e wi
 den:jhA ⟨X.K,cl⟩ wi p
theorem QI.b'(h:QI cl X tg e wi pi):QIb cl X tg e wi pi:=⟨h.sem,PIt.b h.den⟩
theorem jew(h:QB cl X e te pe):QIb cl X tg e (jgV X.K te) (YT pe):=⟨jbx h.sem,jjo h.den⟩
theorem jgn{scope:Scope}{N':List Str}{ix:List (Option Nat)}{a:TT}{c:PTf}(B:BlockOk X scope N' ix)(f:X.calm=true)(hi:QIb cl X tg iter wi pi)
  (d:∀ C s H fp,QG cl [] (yt X scope N' C s H fp) tg t g) (b:∀ C s H fp,QIf cl (yt X scope N' C s H fp) ifs a c) (e:∀ C s H fp,QP cl (yt X scope N' C s H fp) elt te pe)
  (h:∀ x,foldedSetIterable iter X.env x=pure x:=by intro _;rfl):QP cl X (.ListComp elt [⟨tg,iter,ifs,0⟩] scope pos) (xh wi t a te ix) (yR pi g c pe ix) :=
 ⟨jal B f hi.sem (λC s H fp=>(d C s H fp).sem) (λC s H fp=>(b C s H fp).sem) (λC s H fp=>(e C s H fp).sem) h,
  xM hi.den (d 0 X.s₀ X.H₀ []).den (b 0 X.s₀ X.H₀ []).den (e 0 X.s₀ X.H₀ []).den⟩
theorem zK{i:Nat}{x:Str}{pos' a:Pos}{scope:Scope}{N':List Str}{ix:List (Option Nat)}{b:TT}{f:PTf}(B:BlockOk X scope N' ix)(k:X.calm=true)(hi:QIb cl X tg iter wi pi)
  (h:∀ C s H fp,QG cl [] (yt X scope N' C s H fp) tg t g) (c:∀ C s H fp,QIf cl (yt X scope N' C s H fp) ifs b f) (j:∀ C s H fp,QP cl (yt X scope N' C s H fp) elt te pe)
  (l:X.N.Nodup) (e:X.N[i]?=some x:=by rfl) (m:Loc X.env.scope x:=by first | exact Or.inl rfl | exact Or.inr rfl)
  (hsw:swapsWith (.ListComp elt [⟨tg,iter,ifs,0⟩] scope pos) (some (.Name x pos')) a.line X.env=pure true:=by with_unfolding_all rfl)
  (n:∀ x,foldedSetIterable iter X.env x=pure x:=by intro _;rfl)
  (o:X.fn x=true \/ X.env.scope.names.lookup x=some .local:=by first | exact .inl rfl | exact .inr rfl) :
  QS cl pm X (.Assign [.Name x pos'] (.ListComp elt [⟨tg,iter,ifs,0⟩] scope pos) a) (je8 (xh wi t b te ix) (Ky i)) (jB (dP (yR pi g f pe ix)) (jc pm i)) :=
 ⟨wF B k hi.sem (λC s H fp=>(h C s H fp).sem) (λC s H fp=>(c C s H fp).sem) (λC s H fp=>(j C s H fp).sem) l e m hsw n o,
  jah (PP.d (xM hi.den (h 0 X.s₀ X.H₀ []).den (c 0 X.s₀ X.H₀ []).den (j 0 X.s₀ X.H₀ []).den)) Kq⟩
end
@[simp] theorem pV0:pV 0 (o::ρ)=o:=by unfold pV;cases o<;>rfl
@[simp] theorem pVs:pV (i+1) (o::ρ)=pV i ρ:=rfl
@[simp] theorem gN_e:gN [] ρ=some ρ:=rfl
@[simp] theorem gC_e:gC G Gs (d::r) ρ=(G d ρ).bind λρ1=>Gs r ρ1:=rfl
@[simp] theorem gT_e:gT n Gs (.tup l) ρ=bif decide (l.length=n) then Gs l ρ else none:=rfl
@[simp] theorem itB_lst(o:Bool)(l:List D):itB (.lst o l)=bif frzs l then some l else none:=rfl
@[simp] theorem itB_tup(l:List D):itB (.tup l)=bif frzs l then some l else none:=rfl
@[simp] theorem itB_str(l:List Nat):itB (.str l)=some (l.map λc=>D.str [c]):=rfl
@[simp] theorem enumOf_e(o:Bool)(l:List D):jdT [.lst o l]=some (yc 0 (fzs l)):=rfl
theorem Qq(h:-(2 ^ 62) < j)(k:j < 2 ^ 62):Vw j=true:=Nat.ble_eq_true_of_le (by lia)
theorem yr(h:-(2 ^ 62) < j)(k:j < 2 ^ 62):Va [.int j]=some (vm 0 j.toNat):=by
 show(bif Vw j then some (vm 0 j.toNat) else none)=_;rw[Qq h k];rfl
theorem jR(n:Nat)(f:FS)(ds:List D):fnP n f ds=(f (ds.map some++List.replicate (n - ds.length) none)).bind Out.val:=rfl
@[simp] theorem sLoop_nil:j8 G f [] ρ=some (.nx ρ):=rfl
theorem vt:j8 G f (x::xs) ρ=(G x ρ).bind λr=>(f r).bind λo=>o.loop (j8 G f xs):=rfl
@[simp] theorem cLoop_nil:yC G q p [] ρ=some []:=rfl
theorem JD:yC G q p (x::xs) ρ=(G x ρ).bind λr=>(q r).bind λb=>bif b then((p r).bind λy=>(yC G q p xs r).bind λys=>some (y::ys)) else yC G q p xs r:=rfl
theorem j7(P:Nat->Rh->Prop)(step:∀ i x ρ,xs[i]?=some x->P i ρ->∃ ρ1 ρ2,G x ρ=some ρ1/\(f ρ1=some (.nx ρ2) \/ f ρ1=some (.ct ρ2))/\P (i+1) ρ2)  (d:P 0 ρ) :
  ∃ ρ',j8 G f xs ρ=some (.nx ρ')/\P xs.length ρ':=by
 have b:∀(n i:Nat) (ρ:Rh),xs.length - i=n->i<=xs.length->P i ρ->∃ ρ',j8 G f (xs.drop i) ρ=some (.nx ρ')/\P xs.length ρ':=by
  intro n
  induction n with
  | zero =>
   intro i ρ e hi p;have:i=xs.length:=by lia
   subst this;exact⟨ρ,by rw[List.drop_length];rfl,p⟩
  | succ n g =>
   intro i ρ e hi p;have a:i < xs.length:=by lia
   have c:xs[i]?=some xs[i]:=by simp[a]
   obtain⟨ρ1,ρ2,h,e2,p2⟩:=step i _ ρ c p;obtain⟨ρ',e3,p3⟩:=g (i+1) ρ2 (by lia) a p2;refine⟨ρ',?_,p3⟩;rw[kh c,vt,h];rcases e2 with e2 | e2<;>simp[e2,e3]
 exact b _ 0 ρ rfl (U4 _) d
theorem jE{G:D->Rh->Option Rh}{xs:List D}{l:List α}{en:α->D}{out:α->D}(a:xs=l.map en)(P:Rh->Prop)(step:∀ x∈l,∀ ρ,P ρ->∃ ρ1,G (en x) ρ=some ρ1/\p ρ1=some (out x)/\P ρ1){ρ:Rh}(b:P ρ):yC G qT p xs ρ=some (l.map out):=by
 subst a
 induction l generalizing ρ with
 | nil=>rfl
 | cons x l c =>
  obtain⟨ρ1,d,e2,p1⟩:=step x L6 ρ b;rw[L4,JD,d];simp[e2,c (λy e=>step y (L5 _ e)) p1]
@[simp] theorem cond_dec(p:Prop) [Decidable p] (x y:α):(bif decide p then x else y)=if p then x else y:=by by_cases h:p<;>simp[h]
@[simp] theorem cond_beq_int(i j:Int)(x y:α):(bif i==j then x else y)=if i=j then x else y:=by
 by_cases h:i=j
 ·subst h;simp
 ·rw[if_neg h,U1.mpr h];rfl
@[simp] theorem ite_bind(p:Prop) [Decidable p] (x y:Option α) (f:α->Option β):(if p then x else y).bind f=if p then x.bind f else y.bind f:=by by_cases h:p<;>simp[h]
@[simp] theorem add_ii(i j:Int):jo (.int i) (.int j)=some (.int (i+j)):=rfl
@[simp] theorem sub_ii(i j:Int):vb (.int i) (.int j)=some (.int (i - j)):=rfl
theorem yJ(h:i.natAbs < 2 ^ 1000)(k:j.natAbs < 2 ^ 1000):jX (.int i) (.int j)=some (.int (i*j)):=by
 show(bif jhc i&&jhc j then some (D.int (i*j)) else none)=_;rw[jbE h,jbE k];rfl
theorem jI(h:0 < j)(k:j < 2 ^ 300):jz (.int i) (.int j)=some (.int (i / j)):=by
 show(bif decide (0 < j)&&decide (j < 2 ^ 300) then some (D.int (i / j)) else none)=_;rw[X4 h,X4 k];rfl
theorem jD(h:0 < j):jl (.int i) (.int j)=some (.int (i % j)):=by
 show(bif decide (0 < j) then some (D.int (i % j)) else none)=_;rw[X4 h];rfl
@[simp] theorem opB_ii(g:Int->Int->Bool)(i j:Int):opB g (.int i) (.int j)=some (.bl (g i j)):=rfl
@[simp] theorem eq_ii(i j:Int):v7 (.int i) (.int j)=some (.bl (i==j)):=rfl
@[simp] theorem ne_ii(i j:Int):KH (.int i) (.int j)=some (.bl (!(i==j))):=rfl
@[simp] theorem qJ(g:Int->Int->Int)(i j:Int):f2I g [.int i,.int j]=some (.int (g i j)):=rfl
@[simp] theorem frz_int(i:Int):frz (.int i)=true:=rfl
@[simp] theorem frz_bl(i:Bool):frz (.bl i)=true:=rfl
@[simp] theorem frz_str(i:List Nat):frz (.str i)=true:=rfl
@[simp] theorem frz_non:frz .non=true:=rfl
@[simp] theorem fz_int(i:Int):fz (.int i)=.int i:=rfl
@[simp] theorem fz_bl(i:Bool):fz (.bl i)=.bl i:=rfl
@[simp] theorem fz_str(i:List Nat):fz (.str i)=.str i:=rfl
@[simp] theorem fz_non:fz .non=.non:=rfl
@[simp] theorem fz_lst(o:Bool)(l:List D):fz (.lst o l)=.lst false (fzs l):=rfl
@[simp] theorem fz_tup(l:List D):fz (.tup l)=.tup (fzs l):=rfl
@[simp] theorem frz_lst(o:Bool)(l:List D):frz (.lst o l)=(!o&&frzs l):=rfl
@[simp] theorem frz_tup(l:List D):frz (.tup l)=frzs l:=rfl
@[simp] theorem fzs_nil:fzs []=[]:=rfl
@[simp] theorem jcm(d:D)(l:List D):fzs (d::l)=fz d::fzs l:=rfl
@[simp] theorem frzs_nil:frzs []=true:=rfl
@[simp] theorem QR(d:D)(l:List D):frzs (d::l)=(frz d&&frzs l):=rfl
@[simp] theorem clean_int(i:Int):yF (.int i)=true:=rfl
@[simp] theorem clean_bl(i:Bool):yF (.bl i)=true:=rfl
@[simp] theorem clean_str(i:List Nat):yF (.str i)=true:=rfl
@[simp] theorem clean_non:yF .non=true:=rfl
@[simp] theorem clean_lst(o:Bool)(l:List D):yF (.lst o l)=(o&&jO l):=rfl
@[simp] theorem clean_tup(l:List D):yF (.tup l)=jO l:=rfl
@[simp] theorem cleans_nil:jO []=true:=rfl
@[simp] theorem cleans_cons(d:D)(l:List D):jO (d::l)=(yF d&&jO l):=rfl
@[simp] theorem qj(l:List Int):fzs (l.map D.int)=l.map D.int:=by
 rw[qP,U0];rfl
@[simp] theorem vz(l:List Int):frzs (l.map D.int)=true:=by
 rw[Yh,List.all_map,List.all_eq_true];intro x _;rfl
theorem yW:∀ l:List D,jO l=l.all yF
 | []=>rfl
 | d::l=>by rw[jO,yW l];rfl
@[simp] theorem zw(l:List Int):jO (l.map D.int)=true:=by
 rw[yW,List.all_map,List.all_eq_true];intro x _;rfl
@[simp] theorem intsD_ints(l:List Int):ul (l.map D.int)=some l:=by
 induction l with
 | nil=>rfl
 | cons x l a=>show(ul (l.map D.int)).bind _=_;rw[a];rfl
@[simp] theorem vq(o:Bool)(l:List D):Yv [.lst o l]=(ul l).bind λns=>some (.int ns.sum):=rfl
@[simp] theorem yh(o:Bool)(l:List D):kt [.lst o l]=some (.int l.length):=rfl
@[simp] theorem fLen_tup(l:List D):kt [.tup l]=some (.int l.length):=rfl
@[simp] theorem fList_lst(o:Bool)(l:List D):Vq [.lst o l]=bif frzs l then some (.lst true l) else none:=rfl
@[simp] theorem itemsOf_lst(o:Bool)(l:List D):Ki (.lst o l)=some (fzs l):=rfl
@[simp] theorem itemsOf_tup(l:List D):Ki (.tup l)=some (fzs l):=rfl
@[simp] theorem tyD_int(i:Int):tyD (.int i)=some "int":=rfl
@[simp] theorem tyD_bl(i:Bool):tyD (.bl i)=some "bool":=rfl
@[simp] theorem tyD_str(i:List Nat):tyD (.str i)=some "str":=rfl
@[simp] theorem tyD_non:tyD .non=some "NoneType":=rfl
@[simp] theorem tyD_lst(o:Bool)(l:List D):tyD (.lst o l)=some "list":=rfl
@[simp] theorem tyD_tup(l:List D):tyD (.tup l)=some "tuple":=rfl
theorem KP:∀(l m:List Int),KG (l.map D.int) (m.map D.int)=decide (l=m)
 | [],[]=>rfl
 | [],_::_=>rfl
 | _::_,[]=>rfl
 | x::l,y::m=>by
  show((x==y)&&KG (l.map D.int) (m.map D.int))=_;rw[KP l m];by_cases h:x=y<;>simp[h]
theorem Qx(n:Nat)(l:List Int):kI n (l.map D.int)=true:=by
 rw[Kw,List.all_map,List.all_eq_true];intro x _;cases n<;>rfl
theorem uZ(o o':Bool)(l m:List Int):v7 (.lst o (l.map D.int)) (.lst o' (m.map D.int))=some (.bl (decide (l=m))):=by
 show(bif okE 20 (.lst o (l.map D.int))&&okE 20 (.lst o' (m.map D.int)) then some (D.bl (KG (l.map D.int) (m.map D.int))) else none)=_;rw[KP];show(bif kI 19 (l.map D.int)&&kI 19 (m.map D.int) then _ else _)=_;rw[Qx,Qx];rfl
theorem jip{c:Nat->Addr}{m:List D->Option D}{ns:List Int}(h:m [.lst false (ns.map D.int)]=some (.bl true))(d:SqX K H a (ns.map V.int)):spP ⟨K,c⟩ m 1 [.ref a] H (λv _=>v=.bl true) E:=by
 refine⟨λb=>b=a/\H a≠none,[.lst false (ns.map D.int)],.bl true,λb e=>by rw[e.1];exact e.2,rfl,.one ?_,h,λg r=>r.bl_of.1⟩;rw[Rep];have f:∀(l:List Int),Reps ⟨K,c⟩ (λb=>b=a/\H a≠none) H (l.map D.int) (l.map V.int) []:=by
  intro l
  induction l with
  | nil=>exact .empty
  | cons x l i=>exact .cons (O:=[]) (P:=[]) .int_mk i
 refine⟨a,ns.map V.int,[],rfl,f ns,?_⟩;show FL _ _ _ _ _/\_;refine⟨?_,rfl,rfl⟩;rcases d with d | d
 ·refine .inl ⟨⟨rfl,?_⟩,d⟩;rcases d with d | ⟨o,d⟩<;>rw[d]<;>exact λz=>(nomatch z)
 ·exact .inr d
end QD
namespace L2
open PySem PySem.Spec PyProof.Rows
theorem Y0:∀{ws:List Str}{us:List Value},Vals (ws.map V.str) us->∃ l:List (Str×Tok),us=strValues l/\l.map (·.1)=ws
 | [],us,h=>by
  cases h;exact⟨[],rfl,rfl⟩
 | w::ws,us,h=>by
  cases h with
  | cons a b =>
   obtain⟨t,rfl⟩:=a;obtain⟨l,rfl,e⟩:=Y0 b;exact⟨(w,t)::l,rfl,by rw[L4,e]⟩
theorem je1{X:Cx}:MtR X "str.join" (λx vs H Q=>∃(a:Str) (p:Addr) (ws:List Str),x=.str a/\vs=[.ref p]/\SqL X.K H p (ws.map V.str)/\JoinOk a ws=true/\Q (.str (Txt.join a ws)) H):=by
 intro c s σ H x vs v j Q I d b h;obtain⟨a,p,ws,rfl,rfl,f,hok,q⟩:=h;obtain⟨t,rfl⟩:=d;obtain⟨u,rfl,g⟩:=b.one;cases g;obtain⟨i,b,pl,m⟩:=I.list f;obtain⟨l,rfl,e⟩:=Y0 b;exact SC.join pl.isList e hok λn k=>⟨.str _,H,I.tok _,⟨_,rfl⟩,q⟩
end L2
namespace QD
open PySem L2 PySem.Spec PyProof.Rows
noncomputable def Kf(sep:List Nat):List (List Nat)->List Nat
 | []=>[]
 | [x]=>x
 | x::y::r=>x++sep++Kf sep (y::r)
theorem uT(a:List Nat):∀ ws:List (List Nat),Str.join (S a) (ws.map S)=S (Kf a ws)
 | []=>rfl
 | [x]=>rfl
 | x::y::r=>by
  show S x++S a++Str.join (S a) ((y::r).map S)=_;rw[uT a (y::r),jgb,jgb];rfl
noncomputable def Vs:List D->Option (List (List Nat))
 | []=>some []
 | .str w::l=>match Vs l with
  | some ws=>some (w::ws)
  | none=>none
 | _::_=>none
@[simp] theorem strsD_strs(l:List (List Nat)):Vs (l.map D.str)=some l:=by
 induction l with
 | nil=>rfl
 | cons x l a=>simp[Vs,a]
section
variable {R:RC}{Z:Zn}{H:Hp}
theorem xp:∀{l:List D}{ws:List (List Nat)}{vs:List V}{O:List Addr},Vs l=some ws->Reps R Z H l vs O->vs=(ws.map S).map V.str
 | [],ws,vs,O,e,r=>by
  cases e;have:=r.length;exact List.length_eq_zero_iff.mp this
 | x::l,ws,vs,O,e,r=>by
  cases x with
  | str w =>
   simp only[Vs] at e;cases e1:Vs l with
   | none=>rw[e1] at e;cases e
   | some a =>
    rw[e1] at e;cases e;obtain⟨v,b,P,f,rfl,-,c,d⟩:=r;obtain⟨rfl,_⟩:=c.str_of;rw[xp e1 d];rfl
  | _=>cases e
noncomputable def qU(sep:List Nat)(ws:List (List Nat)):Bool:=decide ((ws.map List.length).sum+ws.length*sep.length<=1000000)
theorem jbi{a:List Nat}{ws:List (List Nat)}(h:qU a ws=true):JoinOk (S a) (ws.map S)=true:=by
 unfold qU at h;have h:=X6 h;unfold JoinOk;rw[StrLaws.joinTotal];have e:((ws.map S).map (·.length))=ws.map List.length:=by
  rw[U0];exact List.map_congr_left λw _=>JR w
 rw[e,L0,JR];unfold Builtin.Str.tooLong;have:sizeLine=16777216:=by decide
 simp
 lia
def wO:D->List D->Option D
 | .str sep,[.lst _ l]=>match Vs l with
  | some ws=>bif qU sep ws then some (.str (Kf sep ws)) else none
  | none=>none
 | _,_=>none
theorem jeJ:BM R "str" (λx vs H Q=>∃(a:Str) (p:Addr) (ws:List Str),x=.str a/\vs=[.ref p]/\SqL R.K H p (ws.map V.str)/\JoinOk a ws=true/\Q (.str (Txt.join a ws)) H) wO:=by
 intro Z H x d h v vs i j z r c e Q k;unfold wO at e;split at e
 ·rename_i b o l;cases e1:Vs l with
  | none=>rw[e1] at e;cases e
  | some ws =>
   rw[e1] at e;dsimp only at e;cases hm:qU b ws with
   | false=>rw[hm] at e;cases e
   | true =>
    rw[hm] at e;cases e;obtain⟨rfl,_⟩:=r.str_of;obtain⟨v,rfl,f⟩:=c.one_of;obtain⟨p,m,n,rfl,g,c⟩:=f.lst_of;have:=xp e1 c;subst this;refine⟨S b,p,ws.map S,rfl,rfl,g.sq,jbi hm,?_⟩;have e2:Txt.join (S b) (ws.map S)=S (Kf b ws):=(StrLaws.glued_eq_join _ _).trans (uT b ws);rw[e2];exact k (Go.id z) .str_mk
 ·cases e
end
section
variable {cl:Nat->Addr}{X:Cx}{o e:Expr}{es:List Expr}{to:TE}{po:PF}{tr:TA}{pr:PAf}{name:Str}{apos cpos:Pos}{T id:String}{r:V->List V->Hp->VK->Prop}{g:D->List D->Option D}
theorem jmb(pa:PlainAttrs T)(slot:Slot T name id)(f:typeOf (.builtin id)=pure (.type "method_descriptor"))(j:MtR X id r)(k:BM ⟨X.K,cl⟩ T r g)(h:QB cl X o to po)(i:QBs cl X (e::es) tr pr)
  (b:attributeBase o name X.env (eval o X.env)=eval o X.env:=by rfl)
  (d:((backTo cpos (starEach (e::es) X.env)).all (λx=>!x.1)&&(backToKw cpos (keywordEach [] X.env)).all (λx=>x.1.isSome)
   && decide ((e::es).length+([]:List Keyword).length+(if([]:List Keyword).isEmpty then 0 else 1) < 30))=true:=by rfl)
  (c:(apos.endLine==cpos.line)=true:=by rfl) (l:starEach (e::es) X.env=(false,eval e X.env)::starEach es X.env:=by rfl) (a:(backTo cpos (starEach es X.env)).any (·.1)=false:=by rfl) :
  QP cl X (.Call (.Attribute o name apos) (e::es) [] cpos) (tBM X.K T r to tr) (pBM T g po pr) :=
 ⟨jbd pa slot f j h.sem i.sem b d c l a,jks k h.den i.den⟩
end
@[simp] theorem isT_str(w:List Nat):isT "str" (.str w)=true:=rfl
@[simp] theorem fJoin_e(a:List Nat)(o:Bool)(l:List D):wO (.str a) [.lst o l]=(Vs l).bind λws=>bif qU a ws then some (.str (Kf a ws)) else none:=by
 unfold wO;cases h:Vs l<;>simp[h]
end QD
namespace QK
open PySem L2 QD PySem.Spec PyProof.Rows
section
variable {cl:Nat->Addr}{pm:List Nat}{X:Cx}{a b c e o:Expr}{es:List Expr}{ta tb tc te to:TE}{pa pb pc pe po:PF}{tr:TA}{pr:PAf}{pos:Pos}{K:PySem.W.Frag}
variable {tg iter elt:Expr}{ifs:List Expr}{wi:TI}{pi:PAf}{t:TG}{g:D->Rh->Option Rh}
theorem add(c:X.K=K)(d:QB cl X a ta pa)(e:QB cl X b tb pb):QP cl X (.BinOp a .Add b pos) (tOp (jcU K) ta tb) (p2 jo pa pb):=by subst c;exact ji6 d e
theorem ix(c:X.K=K)(d:QB cl X a ta pa)(e:QB cl X b tb pb)(f:Kx b:=by exact λ_ _=>rfl):QB cl X (.Subscript a b pos) (tOp (rIx K) ta tb) (p2 jd pa pb):=by subst c;exact jlI d e f
theorem len(b:X.K=K)(c:X.mg "len" = none){p:Pos}(d:QBs cl X [e] tr pr)(f:Gl X "len":=by rfl)(g:starEach [e] X.env=(false,eval e X.env)::starEach [] X.env:=by rfl)(a:(backTo pos (starEach [] X.env)).any (·.1)=false:=by rfl) :
  QP cl X (.Call (.Name "len" p) [e] [] pos) (tCB (λxs H Q=>∃ x n,xs=[x]/\jjU K x H n/\Q (.int n) H) tr) (pCB kt pr):=by subst b;exact jjc c d f g a
theorem c_notin(a:X.K=K)(c:behindInMarks .NotIn b=false):CmpR cl X .NotIn b (jg7 K true) (wI true):=by subst a;exact QD.c_notin c
theorem g_tup{ts:TGs}{b:List D->Rh->Option Rh}{k n:Nat}(c:X.K=K)(d:X.calm=true)(h:QGs cl pm X es ts b)(e:(assignEach es X.env).length=n:=by rfl)(a:(assignEach es X.env).findIdx? (·.1)=none:=by rfl):QG cl pm X (.Tuple es k pos) (jjT K n ts) (gT n b):=by subst c;exact jd1 d h e a
end
end QK
namespace QD
open PySem L2 PySem.Spec PyProof.Rows
@[simp] def jae(i:Nat)(p:PAf)(ρ:Rh):Option (D×Rh):=(pV i ρ).bind λd=>(p ρ).bind λds=>bif lim (ds.length+1) then some (.tup (d::ds),ρ.set i none) else none
theorem jc5(y:PPs R ta p):DE R (xR (j9 (kX i) ta)) (jae i p):=by
 intro σ ρ J Z H O d w h e Q k;refine ob e λc l e=>ob e λK C e=>oc e λD e=>?_;cases e;have l:=JN l;obtain⟨A,P,B,rfl,E,L,F⟩:=h.put (L8.mp l).1;obtain⟨v,G,r⟩:=E c l;refine⟨v,G,y w.zd h C λ{M t n I} o u=>⟨by rw[M0,u.length];exact qE D,λq s=>?_⟩⟩;have x:=o.widen w;have f:=x.wf.nd;have m:Go Z H (A++P++B) t n ((P++I)++(A++B)):=x.drop (λa q=>by simp at q ⊢;rcases q with q | q | q | q<;>simp[q]) (by
  simp only[U8,N1] at f ⊢;refine⟨⟨f.2.1.1.2.1,f.1,λa j b g e=>f.2.2 b g a (.inl (.inr j)) e.symm⟩,⟨f.2.1.1.1,f.2.1.2.1,λa j b g=>f.2.1.2.2 a (.inl j) b g⟩,λa j b g e=>?_⟩;rcases j with j | j
  ·rcases g with g | g
   ·exact f.2.1.1.2.2 b g a j e.symm
   ·exact f.2.1.2.2 a (.inr j) b g e
  ·rcases g with g | g
   ·exact f.2.2 a j b (.inl (.inl g)) e
   ·exact f.2.2 a j b (.inr g) e)
 have ne:∀ a,n a≠none->a≠q:=λa h e=>h (e▸s);have s1:Slots R t n (ρ.set i none) σ (A++B):=o.slots w.zd F;refine k (m.trans (Go.newF m.wf s)) (Rep.tupNew m.wf.left s (Reps.cons (o.rep w.zd r) u)) (s1.frame (λa z=>.inl z) (λa z=>jf (ne a (m.wf.zd a z))) λa j=>jf (ne a (s1.dom a j)))
theorem jgZ{x1}(i:Nat)  (a:QB cl X (.Name x xpos) (kX i) (pV i)) (h:QPs cl X es tr pr) (b:starEach (.Name x xpos::es) X.env=(false,eval (.Name x xpos) X.env)::starEach es X.env:=by rfl) :
  QE cl X (.Tuple (.Name x xpos::es) x1 pos) (xR (j9 (kX i) tr)) (jae i pr):=⟨VB (ya a.sem h.sem b),jc5 h.den⟩
structure QGo(cl:Nat->Addr)(pm:List Nat)(X:Cx)(tg:Expr)(t:TG)(g:D->Rh->Option Rh):Prop where
 sem:PG X tg t
 den:DG ⟨X.K,cl⟩ pm t g
structure QGos(cl:Nat->Addr)(pm:List Nat)(X:Cx)(tg:List Expr)(t:TGs)(g:List D->Rh->Option Rh):Prop where
 sem:PGs X tg t
 den:DGs ⟨X.K,cl⟩ pm t g
theorem jeV(a:X.N.Nodup)(hi:X.N[i]?=some x:=by rfl)(b:Loc X.env.scope x:=by first | exact Or.inl rfl | exact Or.inr rfl)(c:X.fn x=true \/ X.env.scope.names.lookup x=some .local:=by first | exact .inl rfl | exact .inr rfl) :
  QGo cl pm X (.Name x pos) (Ky i) (jc pm i):=⟨jbm a hi b c,Kq⟩
section
variable {R:RC}{Z Z':Zn}{H H':Hp}{pm:List Nat}
noncomputable def vg:D->Option KA
 | .int i=>some (.int i)
 | .str s=>some (.str s)
 | _=>none
theorem yH(e:vg d=some k)(r:Rep R Z H d v O):v=kV (kaV k)/\O=[]:=by
 cases d with
 | int i=>cases e;rw[Rep] at r;exact r
 | str s=>cases e;rw[Rep] at r;exact r
 | _=>cases e
theorem Yq(h:kaV a=kaV b):a=b:=by
 cases a<;>cases b<;>simp only[kaV] at h
 ·cases h;rfl
 ·cases h
 ·cases h
 ·have:=jio (Sum.inr.inj h);rw[this]
noncomputable def KF:List KA->List D->KA->Option D
 | k::ks,d::l,a=>if k=a then some d else KF ks l a
 | _,_,_=>none
theorem Jo:∀{ks:List KA}{l:List D}{vs:List V}{O:List Addr}{a:KA},Reps R Z H l vs O->ks.length=l.length ->
  (∀ d,KF ks l a=some d->∃ v P,K3 ((ks.map kaV).zip vs) (kaV a)=some v/\Rep R Z H d v P)/\(KF ks l a=none->K3 ((ks.map kaV).zip vs) (kaV a)=none)
 | [],l,vs,O,a,r,c=>⟨λd e=>(by cases l<;>cases e),λ_=>rfl⟩
 | k::ks,[],vs,O,a,r,c=>by simp at c
 | k::ks,x::l,vs,O,a,r,c=>by
  rw[Reps] at r;obtain⟨v,b,f,n,rfl,rfl,g,i⟩:=r;have j:=Jo (a:=a) i (by simpa using c);by_cases e:k=a
  ·subst e;refine⟨λd h=>?_,λh=>?_⟩
   ·simp only[KF,if_true] at h;cases h;exact⟨v,f,Jq rfl,g⟩
   ·simp[KF] at h
  ·have m:¬ (kaV k=kaV a):=λz=>e (Yq z);have q:K3 (((k::ks).map kaV).zip (v::b)) (kaV a)=K3 ((ks.map kaV).zip b) (kaV a):=Jg m;rw[q];simp only[KF,if_neg e];exact j
theorem DkA.rd(h:DkA o H a kvs):Rd H a (.dK kvs):=by
 cases o with
 | true=>exact .inl h
 | false=>exact h
theorem DGet.r(e:Rd H a (.dK kvs)):DGet H a (kV k) (K3 kvs k):=.inl ⟨kvs,k,e,rfl,rfl⟩
theorem Rep.dK_of(r:Rep R Z H (.dK o ks l) v O):∃ a vs O',v=.ref a/\Rd H a (.dK ((ks.map kaV).zip vs))/\Reps R Z H l vs O'/\ks.length=l.length:=by
 rw[Rep] at r;obtain⟨a,vs,O',rfl,b,c,d,_⟩:=r;exact⟨a,vs,O',rfl,d.rd,b,c⟩
theorem jgK:PP R jbh (pC (.dK true [] [])):=by
 intro σ ρ Z H O d z s e Q k;cases e;intro p a;refine k (Go.newO (wf0 z) a) ?_;rw[Rep];exact⟨p,[],[],rfl,.empty,rfl,jr,rfl⟩
def jG:D->D->Option D
 | .dK _ ks l,y=>(vg y).bind λk=>KF ks l k
 | _,_=>none
theorem jfI(f:PB R td pa)(g:PB R ty pb):PB R (zG td ty) (p2 jG pa pb):=by
 intro σ ρ Z H O d z s e Q k;unfold p2 at e;refine ob e λx h e=>ob e λy e2 e=>?_;refine f z s h λ{v B C D} b i=>?_;refine g b.wf.zd (b.slots z s) e2 λ{u E F G} c j=>?_;have m:=c.rep b.wf.zd i;cases x with
 | dK o I l =>
  simp only[jG] at e;refine ob e λa e3 e=>?_;obtain⟨p,J,K,rfl,n,q,t⟩:=m.dK_of;obtain⟨rfl,_⟩:=yH e3 j;obtain⟨w,P,A,rw⟩:=(Jo q t).1 d e;exact⟨p,w,rfl,A▸DGet.r n,k (b.pair c) rw⟩
 | _=>cases e
@[simp] def p3(g:D->D->D->Option D)(pa:PF)(pb:PF)(pc:PF)(ρ:Rh):Option D:=(pa ρ).bind λx=>(pb ρ).bind λy=>(pc ρ).bind λz=>g x y z
def Q2(neg:Bool)(y x:D):Option D:=match x with
 | .dK _ ks l=>(vg y).bind λk=>some (.bl (neg != (KF ks l k).isSome))
 | _=>none
theorem jcf{c ty:TE}{pa pb:PF}{neg:Bool}(j:PB R ty pa)(m:PB R c pb){σ:L2.St}{ρ:Rh}{Z:Zn}{H:Hp}{O:List Addr}{d:D}(z:Zd Z H)(s:Slots R Z H ρ σ O)(e:p2 (Q2 neg) pa pb ρ=some d)
  {Q:VK}(k:∀{v:V}{Z':Zn}{H':Hp}{P:List Addr},Go Z H [] Z' H' P->Rep R Z' H' d v P->Q v H'):ty σ H λy H1=>c σ H1 λx H2=>∃ a o,x=.ref a/\DGet H2 a y o/\Q (.bl (neg != o.isSome)) H2:=by
 unfold p2 at e;refine ob e λy n e=>ob e λx e2 e=>?_;refine j z s n λ{v E H1 F} b q=>?_;refine m b.wf.zd (b.slots z s) e2 λ{u G H2 I} f t=>?_;cases x with
 | dK o A l =>
  simp only[Q2] at e;refine ob e λa e3 e=>?_;cases e;obtain⟨p,J,K,rfl,g,h,i⟩:=t.dK_of;obtain⟨rfl,_⟩:=yH e3 q;cases ev:KF A l a with
  | none =>
   refine⟨p,none,rfl,(Jo h i).2 ev▸DGet.r g,k (b.pair f) ?_⟩;rw[ev];exact .bl_mk
  | some d =>
   obtain⟨w,P,B,C⟩:=(Jo h i).1 d ev;refine⟨p,some w,rfl,B▸DGet.r g,k (b.pair f) ?_⟩;rw[ev];exact .bl_mk
 | _=>cases e
theorem jab{a ty:TE}{pa pb:PF}(b:PB R ty pa)(c:PB R a pb):PP R (V9 ty a) (p2 (Q2 true) pa pb):=λz s e _ k=>by
 have:=jcf (neg:=true) b c z s e k;simpa [V9] using this
noncomputable def jaw:List KA->List D->KA->D->List D
 | k::ks,x::l,a,d=>(if k=a then d else x)::jaw ks l a d
 | _,_,_,_=>[]
theorem xA:∀{ks:List KA}{l:List D}(a:KA) (d:D),ks.length=l.length->(jaw ks l a d).length=l.length
 | [],[],_,_,_=>rfl
 | [],_::_,_,_,h=>by simp at h
 | _::_,[],_,_,h=>by simp at h
 | k::ks,x::l,a,d,h=>by rw[jaw,M0,M0,xA a d (by simpa using h)]
theorem x6(rd:Rep R Z H d v [])(a:KA):∀{ks:List KA}{l:List D}{vs:List V}{O:List Addr},Reps R Z H l vs O->ks.length=l.length ->
  ∃ vs2 O2,Reps R Z H (jaw ks l a d) vs2 O2/\(ks.map kaV).zip vs2=((ks.map kaV).zip vs).map (λkv=>if kv.1=kaV a then(kv.1,v) else kv)/\O2.Sublist O
 | [],[],vs,O,r,b=>by
  rw[Reps] at r;obtain⟨rfl,rfl⟩:=r;exact⟨[],[],.empty,rfl,.slnil⟩
 | [],_::_,_,_,_,h=>by simp at h
 | _::_,[],_,_,_,h=>by simp at h
 | k::ks,x::l,vs,O,r,b=>by
  rw[Reps] at r;obtain⟨w,j,m,O2,rfl,rfl,n,o⟩:=r;obtain⟨c,f,g,e3,i⟩:=x6 rd a o (by simpa using b);by_cases e:k=a
  ·subst e;refine⟨v::c,[]++f,?_,?_,?_⟩
   ·rw[jaw,if_pos rfl];exact Reps.cons rd g
   ·simp only[L4,U6,if_true,e3]
   ·exact i.trans (List.sublist_append_right _ _)
  ·have p:¬ (kaV k=kaV a):=λz=>e (Yq z);refine⟨w::c,m++f,?_,?_,?_⟩
   ·rw[jaw,if_neg e];exact Reps.cons n g
   ·simp only[L4,U6,if_neg p,e3]
   ·exact List.Sublist.append (List.Sublist.refl _) i
theorem Kp(a:KA):∀{ks:List KA}{vs:List V},ks.length=vs.length->(((ks.map kaV).zip vs).any λkv=>decide (kv.1=kaV a))=decide (a∈ks)
 | [],vs,_=>by simp
 | k::ks,[],h=>by simp at h
 | k::ks,v::vs,h=>by
  rw[L4,U6,List.any_cons,Kp a (by simpa using h)];by_cases e:k=a
  ·subst e;simp
  ·have b:¬ (kaV k=kaV a):=λz=>e (Yq z);have e2:¬ (a=k):=λz=>e z.symm;simp[b,e2]
def v8(ks:List KA)(l:List D)(a:KA)(d:D):List KA×List D:=if a∈ks then(ks,jaw ks l a d) else(ks++[a],l++[d])
theorem V3(rd:Rep R Z H d v [])(a:KA)  (r:Reps R Z H l vs O) (b:ks.length=l.length) :
  ∃ vs2 O2,Reps R Z H (v8 ks l a d).2 vs2 O2/\(((v8 ks l a d).1).map kaV).zip vs2=vV ((ks.map kaV).zip vs) (kaV a) v/\O2.Sublist O/\(v8 ks l a d).1.length=(v8 ks l a d).2.length:=by
 have c:ks.length=vs.length:=by rw[r.length];exact b
 unfold v8 vV;rw[Kp a c];by_cases e:a∈ks
 ·rw[if_pos e,X4 e,if_pos rfl];obtain⟨f,P,g,e2,h⟩:=x6 rd a r b;exact⟨f,P,g,e2,h,by rw[xA a d b];exact b⟩
 ·rw[if_neg e,X5 e,if_neg (λz=>(nomatch z))];refine⟨vs++[v],O++[],r.append (Reps.one rd),?_,by simp,by simp[b]⟩;rw[N4,List.zip_append (by simpa using c)];rfl
@[simp] def sDSet(i:Nat)(pk:PF)(pv:PF)(ρ:Rh):Option Out:=(pv ρ).bind λd=>(pV i ρ).bind λx=>(jc4 x).bind λp=>(pk ρ).bind λy=>(vg y).bind λa=>bif frz d&&lim p.1.length then some (.nx (ρ.set i (some (.dK true (v8 p.1 p.2 a d).1 (v8 p.1 p.2 a d).2)))) else none
theorem jbl{ks:List α}{vs:List V}{f:α->β}(h:lim ks.length=true):((ks.map f).zip vs).length < sizeLine:=by rw[List.length_zip,L0];exact E5 (Nat.min_le_left _ _) (Qv h)
end
theorem jiD:QP cl X (.Dict [] [] pos) jbh (pC (.dK true [] [])):=⟨jcy,jgK⟩
theorem jjx(e:Room k X.A)(c:QB cl X a ta pa)(d:QB cl X b tb pb)(f:jjO b:=by exact λ_ _=>rfl):QB cl X (.Subscript a b pos) (zG ta tb) (p2 jG pa pb):=⟨zP (wy e) c.sem d.sem f,jfI c.den d.den⟩
@[simp] theorem keyOf_int(i:Int):vg (.int i)=some (.int i):=rfl
@[simp] theorem keyOf_str(s:List Nat):vg (.str s)=some (.str s):=rfl
@[simp] theorem opDIx_e(o:Bool)(ks:List KA)(l:List D)(y:D):jG (.dK o ks l) y=(vg y).bind λk=>KF ks l k:=rfl
@[simp] theorem opDIn_e(neg o:Bool)(ks:List KA)(l:List D)(y:D):Q2 neg y (.dK o ks l)=(vg y).bind λk=>some (.bl (neg != (KF ks l k).isSome)):=rfl
theorem jfv{P:Program}{w:World}{K:PySem.W.Frag}{cl:Nat->Addr}{mg:Str->Option Value}{base:Heap}{k n:Nat}{f:Addr}{fd:FuncData}{ps:List Str}:FnOk P w K mg base CX0 k f fd ps (spP ⟨K,cl⟩ (λ_=>none) n) :=
 ⟨λb H Q E ⟨_,_,_,_,_,_,h,_⟩=>(nomatch h),λA outer s H a c b Q E _ _ _ _ ⟨_,_,_,_,_,_,h,_⟩=>(nomatch h)⟩
def J0:List D->Option (List (KA×D))
 | []=>some []
 | .tup [k,v]::l=>(vg k).bind λa=>(J0 l).bind λr=>some ((a,v)::r)
 | _::_=>none
def xa(ps:List (KA×D)):List KA×List D:=ps.foldl (λacc kv=>v8 acc.1 acc.2 kv.1 kv.2) ([],[])
def yu:List D->Option D
 | [.lst _ l]=>(J0 l).bind λps=>bif frzs (ps.map (·.2))&&lim ps.length then some (.dK true (xa ps).1 (xa ps).2) else none
 | _=>none
theorem VJ:∀{l:List D}{ps:List (KA×D)}{ys:List V}{O:List Addr},J0 l=some ps->Reps R Z H l ys O->frzs (ps.map (·.2))=true ->
  ∃ ws:List V,Reps R Z H (ps.map (·.2)) ws []/\ys.length=ps.length/\∀(j:Nat) (y:V),ys[j]?=some y->∃ kv t,((ps.map λp=>kaV p.1).zip ws)[j]?=some kv/\y=.ref t/\SqT R.K H t [kV kv.1,kv.2]
 | [],ps,ys,O,e,r,b=>by
  cases e;rw[Reps] at r;obtain⟨rfl,rfl⟩:=r;exact⟨[],.empty,rfl,λj y c=>by simp at c⟩
 | d::l,ps,ys,O,e,r,b=>by
  match d,e with
  | .tup [k,v],e =>
   simp only[J0] at e;refine ob e λa i e=>ob e λm e2 e=>?_;cases e;rw[Reps] at r;obtain⟨C,n,E,F,rfl,rfl,g,o⟩:=r;rw[L4,QR,L9] at b;obtain⟨ws,f,s,q⟩:=VJ e2 o b.2;rw[Rep] at g;obtain⟨t,G,rfl,x,z⟩:=g;obtain⟨u,w,I,J,rfl,-,A,h⟩:=z.two_of;obtain⟨rfl,_⟩:=yH i A;have B:=h.nil b.1;subst B;refine⟨w::ws,Reps.cons (O:=[]) (P:=[]) h f,by simp[s],λj y c=>?_⟩;cases j with
   | zero =>
    cases c;exact⟨(kaV a,w),t,rfl,rfl,x.sq⟩
   | succ j=>exact q j y (by simpa using c)
theorem K0:∀{ps:List (KA×D)}{ws:List V}{ks:List KA}{l:List D}{us:List V},Reps R Z H (ps.map (·.2)) ws []->Reps R Z H l us []->ks.length=l.length ->
  ∃ us',Reps R Z H (ps.foldl (λacc kv=>v8 acc.1 acc.2 kv.1 kv.2) (ks,l)).2 us' []/\(((ps.foldl (λacc kv=>v8 acc.1 acc.2 kv.1 kv.2) (ks,l)).1).map kaV).zip us'=(((ps.map λp=>kaV p.1).zip ws).foldl (λa kv=>vV a kv.1 kv.2) ((ks.map kaV).zip us)) /\
   (ps.foldl (λacc kv=>v8 acc.1 acc.2 kv.1 kv.2) (ks,l)).1.length=(ps.foldl (λacc kv=>v8 acc.1 acc.2 kv.1 kv.2) (ks,l)).2.length
 | [],ws,ks,l,us,b,r,c=>⟨us,r,by simp,c⟩
 | p::ps,ws,ks,l,us,b,r,c=>by
  rw[L4,Reps] at b;obtain⟨w,g,s,t,rfl,e,h,i⟩:=b;obtain⟨rfl,rfl⟩:=List.append_eq_nil_iff.mp e.symm;obtain⟨j,k,m,e3,n,d⟩:=V3 h p.1 r c;have:k=[]:=List.sublist_nil.mp n;subst this;obtain⟨us',o,q,f⟩:=K0 (ps:=ps) i m d;refine⟨us',o,?_,f⟩;rw[L4,U6,U9,U9,q,e3]
theorem jge:BC R (λxs H Q=>∃(p:Addr) (ys:List V) (ps:List (Key×V)),xs=[.ref p]/\SqL R.K H p ys/\ys.length=ps.length/\ps.length<=100000 /\
  (∀(j:Nat) (y:V),ys[j]?=some y->∃ kv t,ps[j]?=some kv/\y=.ref t/\SqT R.K H t [kV kv.1,kv.2])/\∀ D,H D=none->Q (.ref D) (upd H D (.dK (ps.foldl (λa kv=>vV a kv.1 kv.2) [])))) yu:=by
 intro Z H xs d F O z r e Q k
 match xs,e,r with
 | [.lst o l],e,r =>
  simp only[yu] at e;refine ob e λps s e=>oc e λf e=>?_;cases e;rw[L9] at f;obtain⟨v,rfl,u⟩:=r.one_of;obtain⟨p,ys,G,rfl,w,A⟩:=u.lst_of;obtain⟨m,b,B,q⟩:=VJ s A f.1;obtain⟨g,C,E,i⟩:=K0 (ks:=[]) (l:=[]) (us:=[]) b .empty rfl;have c:m.length=ps.length:=by rw[b.length];simp
  refine⟨p,ys,(ps.map λp=>kaV p.1).zip m,rfl,w.sq,by simp[B,c],by simp[c];exact X6 f.2,q,λD n=>?_⟩;refine k (Go.newO (wf0 z) n) ?_;have ne:∀ a,H a≠none->a≠D:=λa h e=>h (e▸n);rw[Rep];exact⟨D,g,[],rfl,C.frame (λa z=>z) (λa h=>jf (ne a (z a h))) (λa h=>(nomatch h)),i,by show upd H D _ D=some _;rw[jr];exact congrArg (λx=>some (HO.dK x)) E.symm,rfl⟩
@[simp] theorem fDict_e(o:Bool)(l:List D):yu [.lst o l]=(J0 l).bind λps=>bif frzs (ps.map (·.2))&&lim ps.length then some (.dK true (xa ps).1 (xa ps).2) else none:=rfl
end QD
namespace QK
open PySem L2 QD PySem.Spec PyProof.Rows
end QK
namespace QD
open PySem L2 PySem.Spec PyProof.Rows
@[simp] def sRev(i:Nat)(ρ:Rh):Option Out:=(pV i ρ).bind λx=>(K8 x).bind λl=>bif frzs l then some (.nx (ρ.set i (some (.lst true l.reverse)))) else none
end QD
namespace L2
open PySem PySem.Spec PyProof.Rows
end L2
namespace QD
open PySem L2 PySem.Spec PyProof.Rows
theorem jd4(h:ixN l.length j=some i)(k:l[i]?=some x):L2.atI l j=some x:=by
 unfold L2.atI;rw[h];exact k
theorem Go.frz1(w:WF Z H (a::O)):Go Z H (a::O) (λb=>Z b \/ b=a) H O:=by
 have nd:=List.nodup_cons.mp w.nd;refine⟨⟨nd.2,λb c z=>?_,λb c=>w.od b (L5 _ c),λb z=>?_⟩,λb z=>.inl z,λ_ _ _=>rfl,λb z=>?_,λb c=>.inl (L5 _ c),λ_ h=>h⟩
 ·rcases z with z | rfl
  ·exact w.nz b (L5 _ c) z
  ·exact nd.1 c
 ·rcases z with z | rfl
  ·exact w.zd b z
  ·exact w.od b L6
 ·rcases z with z | rfl
  ·exact .inl z
  ·exact .inr (.inl L6)
def w8(fe:FE)(g:D->Rh->Option Rh)(f:FS):FS:=λρ=>match fe ρ with
 | some (.tup l,ρ1)=>j8 g f l ρ1
 | some (.lst true l,ρ1)=>j8 g f l ρ1
 | _=>none
theorem jjr{pm:List Nat}{g:D->Rh->Option Rh}(hg:DG R pm tg g)(hf:DS R pm tb f){J:It}{vs:List V}{l:List D}{O P:List Addr}{ρ:Rh}{D':Ends}
  (hJ:∀{Z':Zn}{H':Hp},(∀ a,Z a->Z' a)->(∀ a,Z a->H' a=H a)->∀ i,(l.length<=i->J.stop i H')/\(∀ x,vs[i]?=some x->J.go i H'/\∀ y H2,J.yld i H' y H2->H2=H'/\y=x))
  (w:WF Z H (P++O)) (rs:Reps R Z H l vs P) (s:Slots R Z H ρ σ O) (e:j8 g f l ρ=some o) (k:OutOk R pm Z H (P++O) σ D' o) :
  ∃ W:Nat->Nat->L2.St->Hp->Prop,(∃ m,W 0 m σ H)/\∀ i m σ H,W i m σ H->(J.stop i H/\D'.nx σ H) \/ (J.go i H/\∃ N:L2.St->Hp->Prop,(∀ σ' H',N σ' H'->∃ m',m' < m/\W (i+1) m' σ' H')/\∀ x H',J.yld i H x H'->tg x σ H' λσ2 H2=>tb { D' with nx:=N,ct:=N,bk:=D'.nx } σ2 H2):=by
 have E:=rs.length;refine⟨λi m σ' H'=>m=l.length - i/\i<=l.length/\∃ T Z' U F,Go Z H (P++O) Z' H' (U++F)/\Reps R Z' H' (l.drop i) (vs.drop i) U/\Slots R Z' H' T σ' F/\Keep pm σ σ'/\j8 g f (l.drop i) T=some o,
  ⟨l.length,rfl,U4 _,ρ,Z,P,O,Go.refl w,rs,s,Keep.refl _ _,e⟩,?_⟩
 rintro i m σ' H' ⟨rfl,hi',T,Z',U,F,G,X,s1,kp,e2⟩;obtain⟨h1,h2⟩:=hJ (Z':=Z') (H':=H') G.zz (λa z=>G.zH w a z) i;by_cases t:i < l.length
 ·right
  have hx:l[i]?=some l[i]:=by simp[t]
  have hv:vs[i]?=some (vs[i]'(by lia)):=by simp[E,t]
  obtain⟨go,yl⟩:=h2 _ hv;rw[kh hx] at e2 X;rw[kh hv,Reps] at X;obtain⟨v,vs',P1,I,ev,rfl,ri,rr⟩:=X;injection ev with ev1 ev2;subst ev1;subst ev2;unfold j8 at e2;refine ob e2 λρ1 e3 e2=>ob e2 λo1 e4 e2=>?_;refine⟨go,λσ2 H2=>∃ h K L n,Go Z H (P++O) K H2 (n++L)/\Reps R K H2 (l.drop (i+1)) (vs.drop (i+1)) n/\Slots R K H2 h σ2 L/\Keep pm σ σ2/\j8 g f (l.drop (i+1)) h=some o,λσ2 H2 ⟨h,K,L,n,a1,a2,a3,a4,a5⟩=>⟨l.length - (i+1),by lia,rfl,t,h,K,n,L,a1,a2,a3,a4,a5⟩,λu H2 hy=>?_⟩;obtain⟨rfl,rfl⟩:=yl u H2 hy
  -- what is owned,in the order that the frame wants: the rest of the items,then the item and the slots
  have M:Go Z H (P++O) Z' H2 (I++(P1++F)++[]):=G.drop (λa A=>by simp at A ⊢;rcases A with q | q | q<;>simp[q]) (by
   have nd:=G.wf.nd;simp only[U8,N1,M9] at nd ⊢;obtain⟨⟨n1,n2,n3⟩,n4,n5⟩:=nd;exact⟨n2,⟨n1,n4,λa A b Y=>n5 a (.inl A) b Y⟩,λa A b Y=>Y.elim (λq e=>n3 b q a A e.symm) (λq=>n5 a (.inr A) b q)⟩)
  have wi:WF Z' H2 (P1++F):=M.wf.mid;refine hg wi ri s1 e3 λ{σ3 Z3 H3 O3} g3 s3 Q=>?_;refine hf g3.wf s3 e4 ?_;have c:∀{j:Zn}{r:Hp}{p:List Addr},Go Z3 H3 O3 j r p->Go Z H (P++O) j r (I++p)/\Reps R j r (l.drop (i+1)) (vs.drop (i+1)) I:=by
   intro j r p g4;have S:=g3.trans g4;have g6:=S.frame M.wf;refine⟨M.trans (by simpa using g6),rr.frame S.zz (λa z=>S.zH wi a z) (Go.keepA M.wf S).1⟩
  cases o1 with
  | nx h=>exact λ{σ4 j r p} g4 B C=>⟨h,j,p,I,(c g4).1,(c g4).2,B,kp.trans (Q.trans C),e2⟩
  | ct h=>exact λ{σ4 j r p} g4 B C=>⟨h,j,p,I,(c g4).1,(c g4).2,B,kp.trans (Q.trans C),e2⟩
  | bk h=>cases e2;exact λ{σ4 j r p} g4 B C=>k ((c g4).1.dropL) B (kp.trans (Q.trans C))
  | rt d h=>cases e2;exact λ{v4 σ4 j r P4 p} g4 r4 B C=>k ((c g4).1.dropL) r4 B (kp.trans (Q.trans C))
 ·left
  have hi2:i=l.length:=by lia
  refine⟨h1 (by lia),?_⟩;rw[hi2,List.drop_length] at e2;cases e2;exact k (G.dropL) s1 kp
theorem jgm{pm:List Nat}{g:D->Rh->Option Rh}(I:DE R te fe)(L:DG R pm tg g)(M:DS R pm tb f):DS R pm (jiG (jgV R.K te) tg tb) (w8 fe g f):=by
 intro σ ρ Z H O o w s e X k;unfold w8 at e;have N:∀{j:Zn}{m:Hp}{n:List Addr},Go Z H O j m n->OutOk R pm j m n σ X o:=by
  intro j m n h;cases o with
  | nx B=>exact λg4 p q=>k (h.trans g4) p q
  | ct B=>exact λg4 p q=>k (h.trans g4) p q
  | bk B=>exact λg4 p q=>k (h.trans g4) p q
  | rt d B=>exact λg4 Y p q=>k (h.trans g4) Y p q
 split at e
 ·rename_i l Q C;refine I w s C λ{v j m P n} h r s1=>?_;rw[Rep] at r;obtain⟨a,c,rfl,S,t⟩:=r;refine .inr (.inl ⟨a,rfl,⟨c,S.sq⟩,?_⟩);refine jjr L M (J:=Itt R.K a) (vs:=c) (λ{Z' E} T F i=>?_) h.wf t s1 e (N h);have sq:SqT R.K E a c:=(S.frame T F).sq;refine⟨λhi=>⟨c,sq,by rw[t.length];exact hi⟩,λx u=>⟨⟨c,x,sq,u⟩,λy H2 A=>⟨A.1,?_⟩⟩⟩;have:=A.2 c sq;rw[u] at this;exact(X7 this).symm
 ·rename_i l Q C;refine I w s C λ{v j m P n} h r s1=>?_;rw[Rep] at r;obtain⟨a,c,U,rfl,t,V,rfl⟩:=r;refine .inl ⟨a,rfl,⟨c,SqL.of V⟩,?_⟩;have W:Go Z H O (λb=>j b \/ b=a) m (U++n):=h.trans (Go.frz1 h.wf);have G:Reps R (λb=>j b \/ b=a) m l c U:=t.frame (λb z=>.inl z) (λ_ _=>rfl) λ_ _=>rfl;have s2:Slots R (λb=>j b \/ b=a) m Q σ n:=s1.frame (λb z=>.inl z) (λ_ _=>rfl) λ_ _=>rfl;refine jjr L M (J:=Itl R.K a) (vs:=c) (λ{Z' E} T F i=>?_) W.wf G s2 e (N W);have sq:SqL R.K E a c:=SqL.of (by rw[F a (.inr rfl)];exact V);refine⟨λhi=>⟨c,sq,by rw[t.length];exact hi⟩,λx u=>⟨⟨c,x,sq,u⟩,λy H2 A=>⟨A.1,?_⟩⟩⟩;have:=A.2 c sq;rw[u] at this;exact(X7 this).symm
 ·cases e
structure QDs(cl:Nat->Addr)(X:Cx)(es:List Expr)(ta:TA)(f:FA):Prop where
 sem:PA X es ta
 den:DA ⟨X.K,cl⟩ ta f
theorem ji2:QDs cl X [] Ye jg9:=⟨kF,jiM⟩
theorem jfZ(h1:QE cl X e te fE)(h2:QDs cl X es tr fr)(a:starEach (e::es) X.env=(false,eval e X.env)::starEach es X.env:=by rfl):QDs cl X (e::es) (j9 te tr) (vj fE fr):=⟨ya h1.sem h2.sem a,jgE h1.den h2.den⟩
theorem jhY{x1}(h:QDs cl X es tr fr):QE cl X (.Tuple es x1 pos) (xR tr) (jha fr):=⟨VB h.sem,jjk h.den⟩
@[simp] theorem dTup_e:jha fa ρ=(fa ρ).bind λx=>bif decide (x.1.length<=1000) then some (.tup x.1,x.2) else none:=by
 unfold jha dCB;cases fa ρ with
 | none=>rfl
 | some x =>
  obtain⟨d,r⟩:=x;dsimp only[Option.bind];cases decide (d.length<=1000)<;>rfl
section
variable {R:RC}{Z Z':Zn}{H H':Hp}{pm:List Nat}
@[simp] def sDAugI(i:Nat)(pk:PF)(g:Int->Int->Int)(pv:PF)(ρ:Rh):Option Out:=(pk ρ).bind λy=>(vg y).bind λc=>(pV i ρ).bind λx=>(jc4 x).bind λkl=>(KF kl.1 kl.2 c).bind λm=>(vx m).bind λm=>(pv ρ).bind λn=>(vx n).bind λn =>
  bif lim kl.1.length then some (.nx (ρ.set i (some (.dK true (v8 kl.1 kl.2 c (.int (g m n))).1 (v8 kl.1 kl.2 c (.int (g m n))).2)))) else none
def qH(i:Nat)(L:Ln)(pk:PF)(g:Int->Int->Int)(pv:PF)(ρ:Rh):Option Out:=(pk ρ).bind λy=>(vg y).bind λc=>(pV i ρ).bind λt=>(L t).bind λy=>(jc4 y.1).bind λkl=>(KF kl.1 kl.2 c).bind λm=>(vx m).bind λm=>(pv ρ).bind λn=>(vx n).bind λn =>
  bif lim kl.1.length then some (.nx (ρ.set i (some (y.2 (.dK true (v8 kl.1 kl.2 c (.int (g m n))).1 (v8 kl.1 kl.2 c (.int (g m n))).2))))) else none
theorem jdl{i:Nat}{L:Ln}{tb ty tv:TE}{pk pv:PF}{g:Int->Int->Int}{rd:V->V->Hp->VK->Prop}(j:∀{m n:Int}{H:Hp}{Q:VK},Q (.int (g m n)) H->rd (.int m) (.int n) H Q)(C:Q0 R tb i L)(D:PB R ty pk)(E:PB R tv pv):DS R pm (jgD tb ty tv rd) (qH i L pk g pv):=by
 intro σ ρ Z H O o w s e D' k;refine ob e λq F e=>ob e λc e5 e=>ob e λt hi e=>ob e λ⟨y,k0⟩ e3 e=>ob e λ⟨ks,l⟩ G e=>ob e λx I e=>ob e λm J e=>ob e λx' K e=>ob e λn e2 e=>oc e λd e=>?_;cases e;cases zg G;cases jY J;cases jY e2;refine Y6 (P0:=[]) C w s hi e3 ow_dK λa _ vs O' A f B M put=>M (D w.zd s F λ{z Z1 H1 P1} h N=>?_);obtain⟨rfl,_⟩:=yH e5 N;obtain⟨mv,P3,p,r⟩:=(Jo (a:=c) A f).1 _ I;obtain⟨rfl,_⟩:=r.int_of;refine⟨a,.int m,rfl,by rw[<- p];exact DGet.k (h.at0 B),E h.wf.zd (h.slots w.zd s) K λ{u Z2 H2 P4} P S=>?_⟩;obtain⟨rfl,_⟩:=S.int_of;have b:=h.trans P;obtain⟨T,O2,U,W,X,v⟩:=V3 (Rep.int_mk (i:=g m n)) c (b.reps w.zd A) f;obtain⟨O3,Y,sF⟩:=put ow_dK v b U λq=>by simpa using X.count_le q
 refine j ⟨_,DPut.k (b.at0 B) (jbl d),?_⟩;rw[<- W];exact k Y sF (Keep.refl _ _)
noncomputable def kaD:KA->D
 | .int i=>.int i
 | .str s=>.str s
@[simp] def vw(pd:PF)(ρ:Rh):Option D:=(pd ρ).bind λd=>(je9 d).bind λk=>bif frzs k.2 then some (.lst true ((k.1.zip k.2).map λp=>.tup [kaD p.1,p.2])) else none
theorem jf4(a:KA):Rep R Z H (kaD a) (kV (kaV a)) []:=by
 cases a with
 | int i=>exact .int_mk
 | str s=>exact .str_mk
theorem jaV(h:PB R td pd):PP R (ze td) (vw pd):=by
 intro σ ρ Z H O d z s e Q k;refine ob e λx e1 e=>ob e λ⟨B,l⟩ e2 e=>oc e λhf e=>?_;cases e;obtain⟨o,rfl⟩:=jdD e2;refine h z s e1 λ{v I y P} g r=>?_;rw[Rep] at r;obtain⟨a,A,O',rfl,rs,J,ea,f⟩:=r;refine⟨a,_,rfl,(show Rd y a _ by cases o with | true=>exact .inl ea | false=>exact ea),λt m T F U has=>?_⟩;have n:=List.nodup_cons.mp U;have W:=rs.frozen hf;have X:=rs.length;have S:∀ b,y b≠none->jZ y m ((B.map kaV).zip A) t b=y b:=λb f=>by
  unfold jZ;rw[if_neg λq=>f (by rw[q];exact T),kz λq=>f (has b q)]
 have zd:=g.wf.zd;have K:∀ b∈m,jZ y m ((B.map kaV).zip A) t b≠none:=λb f=>by
  obtain⟨j,hj⟩:=List.mem_iff_getElem?.mp f;have Y:j < ((B.map kaV).zip A).length:=by rw[<- F];exact(L8.mp hj).1
  unfold jZ;rw[if_neg (show ¬ b=t from λq=>n.1 (q▸f)),Ka n.2 hj (X9 Y)];exact λz=>nomatch z
 have L:jZ y m ((B.map kaV).zip A) t t=some (.lst (m.map V.ref)):=by unfold jZ;rw[if_pos rfl]
 have g2:Go I y [] (λb=>I b \/ b∈m) (jZ y m ((B.map kaV).zip A) t) [t]:=by
  refine⟨⟨by simp,λb f q=>?_,λb f=>?_,λb q=>?_⟩,λb q=>.inl q,λb f _=>S b f,λb q=>?_,λb f=>?_,λb f=>?_⟩
  ·rw[M7.mp f] at q;rcases q with q | q
   ·exact zd _ q T
   ·exact n.1 q
  ·rw[M7.mp f,L];exact λz=>nomatch z
  ·rcases q with q | q
   ·rw[S b (zd b q)];exact zd b q
   ·exact K b q
  ·rcases q with q | q
   ·exact .inl q
   ·exact .inr (.inr (has b q))
  ·rw[M7.mp f];exact .inr T
  ·rw[S b f];exact f
 refine k (g.trans g2) ?_;rw[Rep];refine⟨t,m.map V.ref,[],rfl,?_,L,rfl⟩;have rs2:Reps R (λb=>I b \/ b∈m) (jZ y m ((B.map kaV).zip A) t) l A []:=W.frame (λb q=>.inl q) (λb q=>S b (zd b q)) (λb f=>nomatch f);have key:∀(w:List Addr) (i:List KA) (G:List D) (C:List V),Reps R (λb=>I b \/ b∈m) (jZ y m ((B.map kaV).zip A) t) G C []->i.length=G.length->w.length=i.length ->
   (∀(j:Nat) (b:Addr) (c:KA) (u:V),w[j]?=some b->i[j]?=some c->C[j]?=some u->b∈m/\jZ y m ((B.map kaV).zip A) t b=some (.tup [kV (kaV c),u])) ->
   Reps R (λb=>I b \/ b∈m) (jZ y m ((B.map kaV).zip A) t) ((i.zip G).map λp=>.tup [kaD p.1,p.2]) (w.map V.ref) []:=by
  intro w
  induction w with
  | nil =>
   intro i G C _ hk E _;have:i=[]:=List.length_eq_zero_iff.mp E.symm;subst this;exact .empty
  | cons b w ih =>
   intro i G C rr hk E hp;cases i with
   | nil=>simp at E
   | cons c i =>
    cases G with
    | nil=>simp at hk
    | cons d G =>
     rw[Reps] at rr;obtain⟨u,M,O1,O2,rfl,eO,r1,r2⟩:=rr;obtain⟨rfl,rfl⟩:=List.append_eq_nil_iff.mp eO.symm;obtain⟨f,eb⟩:=hp 0 b c u rfl rfl rfl;refine Reps.cons (O:=[]) (P:=[]) ?_ (ih i G M r2 (by simpa using hk) (by simpa using E) λj b' c' u' N h2 h3=>hp (j+1) b' c' u' (by simpa using N) (by simpa using h2) (by simpa using h3));rw[Rep];exact⟨b,[kV (kaV c),u],rfl,.inl ⟨.inr f,.inl eb⟩,Reps.cons (O:=[]) (P:=[]) (jf4 c) (.one r1)⟩
 refine key m B l A rs2 J (by rw[F,List.length_zip,L0,X,J];simp) λj b c u N h2 h3=>⟨List.mem_of_getElem? N,?_⟩;have hz:((B.map kaV).zip A)[j]?=some (kaV c,u):=by
  rw[List.getElem?_zip_eq_some];exact⟨by rw[List.getElem?_map,h2];rfl,h3⟩
 unfold jZ;rw[if_neg (show ¬ b=t from λq=>n.1 (q▸List.mem_of_getElem? N)),Ka n.2 N hz]
end
section
variable {cl:Nat->Addr}{pm:List Nat}{X:Cx}{a b e o tg iter:Expr}{body:List Stmt}{ta tb te to:TE}{pa pb pe po:PF}{pos:Pos}{k:Nat}{t:TG}{g:D->Rh->Option Rh}{fE:FE}{ts:TS}{f:FS}
theorem jcl(f:X.calm=true)(g:X.mg "list" = none)(e:QB cl X o to po)(h:Gl X "list":=by rfl)
  (a:attributeBase o "items" X.env (eval o X.env)=eval o X.env:=by rfl) (b:(apos.endLine==cpos.line)=true:=by rfl)
  (i:starEach [.Call (.Attribute o "items" apos) [] [] cpos] X.env=(false,eval (.Call (.Attribute o "items" apos) [] [] cpos) X.env)::starEach [] X.env:=by rfl)
  (c:(backTo pos (starEach [] X.env)).any (·.1)=false:=by rfl)
  (d:backTo pos (starEach [.Call (.Attribute o "items" apos) [] [] cpos] X.env)=[(false,eval (.Call (.Attribute o "items" apos) [] [] cpos) X.env)]:=by rfl) :
  QP cl X (.Call (.Name "list" p) [.Call (.Attribute o "items" apos) [] [] cpos] [] pos) (ze to) (vw po):=⟨jad f h g JJ e.sem a b i c d,jaV e.den⟩
theorem jgz(c:PassesOwn (model X.prog X.w) X.A X.env X.xe)(d:X.calm=true)(hi:QE cl X iter te fE)(a:QGo cl pm X tg t g)(b:QSs cl pm X body ts f)(e:∀ x,foldedSetIterable iter X.env x=pure x:=by intro _;rfl) :
  QS cl pm X (.For tg iter body [] pos) (jiG (jgV X.K te) t ts) (w8 fE g f):=⟨jdV c d (jbx hi.sem) a.sem b.sem e,jgm hi.den a.den b.den⟩
end
def spM(R:RC)(m:List D->Option (D×D))(n j:Nat):Sp:=λvs H Q _=>∃ Z ds d c O u,WF Z H O/\ds.length=n/\Reps R Z H ds vs O/\vs[j]?=some u/\m ds=some (d,c) /\
 ∀{v:V}{Z':Zn}{H':Hp}{P O':List Addr},Go Z H O Z' H' (P++O')->Rep R Z' H' d v P->Rep R Z' H' c u O'->Q v H'
def Yo(j:Nat):Out->Option (D×D)
 | .rt d ρ=>(pV j ρ).bind λc=>some (d,c)
 | .nx ρ=>(pV j ρ).bind λc=>some (.non,c)
 | _=>none
def fnM(n j:Nat)(f:FS):List D->Option (D×D):=λds=>(f (ds.map some++List.replicate (n - ds.length) none)).bind (Yo j)
theorem kD:fnM n j f ds=(f (ds.map some++List.replicate (n - ds.length) none)).bind (Yo j):=rfl
theorem Go.pick(g:Go Z H O Z' H' (P++(A++Q++B))):Go Z H O Z' H' (P++Q):=g.drop (λa h=>by simp at h ⊢;rcases h with h | h<;>simp[h]) (by
 have nd:=g.wf.nd;simp only[U8,N1] at nd ⊢;exact⟨nd.1,nd.2.1.1.2.1,λa c b d=>nd.2.2 a c b (.inl (.inr d))⟩)
theorem jf8(C:DS R [j] ts f)(h:spM R (fnM N.length j f) n j vs H Q E):ts { nx:=λ_ H'=>Q .non H',rt:=Q } (L2.start N vs) H:=by
 obtain⟨Z,t,d,c,O,u,w,M,r,D,e,k⟩:=h;rw[kD] at e;have s:Slots R Z H (t.map some++List.replicate (N.length - t.length) none) (L2.start N vs) O:=by
  have q:=JK r (JB (R:=R) (Z:=Z) (H:=H) (N.length - t.length));unfold L2.start;rw[r.length];rw[M9] at q;exact q
 have x:(L2.start N vs)[j]?=some (some u):=by
  unfold L2.start;have G:j < vs.length:=(L8.mp D).1;rw[List.getElem?_append_left (by simpa using G),List.getElem?_map,D];rfl
 have i:∀{a:Rh}{m:L2.St}{p:Zn}{H':Hp}{P y:List Addr}{v:V},a[j]?=some (some c)->Go Z H O p H' (P++y)->Rep R p H' d v P->Slots R p H' a m y->Keep [j] (L2.start N vs) m->Q v H':=by
  intro a m p H' P y v b g z l kp;obtain⟨A,S,B,rfl,I,_,_⟩:=l.put (L8.mp b).1;obtain⟨T,J,K⟩:=I c b;have:m[j]?=some (some u):=by rw[kp j (by simp),x]
  rw[J] at this;cases this;exact k g.pick z K
 refine ob e λo F e=>?_;cases o with
 | rt U a=>exact ob e λL b e=>by cases e;exact C w s F λg z l kp=>i (JN b) g z l kp
 | nx a=>exact ob e λL b e=>by cases e;exact C w s F λg l kp=>i (P:=[]) (JN b) (by simpa using g) .non_mk l kp
 | bk a=>cases e
 | ct a=>cases e
theorem jft(h:spM R m n j vs H Q E):vs.length=n:=by
 obtain⟨Z,b,d,c,O,u,w,a,r,_⟩:=h;rw[r.length,a]
def PJ(R:RC)(i j:Nat)(ta:TA)(p:PAf):Prop:=∀{σ:L2.St}{ρ:Rh}{Z:Zn}{H:Hp}{O:List Addr}{ds:List D},Zd Z H->Slots R Z H ρ σ O->p ρ=some ds->∀{u:V},σ[i]?=some (some u) ->
 ∀{Q:List V->Hp->Prop},(∀{v1 v2:List V}{Z':Zn}{H':Hp},Go Z H [] Z' H' []->v1.length=j->Reps R Z' H' (ds.take j) v1 []->Reps R Z' H' (ds.drop j) v2 []->Q (v1++u::v2) H')->ta σ H Q
@[simp] def pFs(p:PAf)(ρ:Rh):Option (List D):=(p ρ).bind λds=>bif frzs ds then some ds else none
@[simp] def dCallM(m:List D->Option (D×D))(i:Nat)(j:Nat)(p:PAf)(ρ:Rh):Option (D×Rh):=(p ρ).bind λds=>(pV i ρ).bind λc=>(m (ds.take j++c::ds.drop j)).bind λr=>some (r.1,ρ.set i (some r.2))
theorem Go.turn(g:Go Z H O Z' H' (A++(P++Q)++B)):Go Z H O Z' H' (P++(A++Q++B)):=g.drop (λa h=>by simp at h ⊢;rcases h with h | h | h | h<;>simp[h]) (by
 have nd:=g.wf.nd;simp only[U8,N1] at nd ⊢;obtain⟨⟨j,⟨k,l,m⟩,f⟩,n,i⟩:=nd;refine⟨k,⟨⟨j,l,λa d b c=>f a d b (.inr c)⟩,n,λa d b c=>i a (d.elim .inl λq=>.inr (.inr q)) b c⟩,λa d b c e=>?_⟩;rcases c with(c | c) | c
 ·exact f b c a (.inl d) e.symm
 ·exact m a d b c e
 ·exact i a (.inr (.inl d)) b c e)
structure QJ(cl:Nat->Addr)(X:Cx)(i j:Nat)(es:List Expr)(ta:TA)(p:PAf):Prop where
 sem:PA X es ta
 den:PJ ⟨X.K,cl⟩ i j ta p
 n:∀ ρ ds,p ρ=some ds->ds.length+1=es.length/\j<=ds.length
theorem ji9{cl:Nat->Addr}{P:Program}{w:World}{K:PySem.W.Frag}{mg:Str->Option Value}{base:Heap}{x qual:Str}{a:Stmt}{fa:Addr}{fd:FuncData}{N ps:List Str}{k n j:Nat}{fs:FS}(F:Fun K x qual a fa fd)(c:FnScope N ps (jC a))(d:ps.length=n)
  (b:∀(cdv:Value) (A:Around) (outer:List Env) (s:Shared) (H:Hp) (E:XK),Room k (A.deeper (envOfC qual (jC a) s.heap.objs.size fa cdv)) ->
   ∃ ts,QSs cl [j] (jeb CX0 P w K mg base N qual (jC a) fa cdv A outer s H E).nox (vE a) ts fs):FnOk P w K mg base CX0 (k+1) fa fd ps (spM ⟨K,cl⟩ (fnM N.length j fs) n j):=by
 refine F.ok c (λe H Q E h=>by rw[jft h,d]) λcdv A outer s H e Q E f h=>?_;obtain⟨ts,q⟩:=b cdv A outer s H E f;exact⟨ts,q.sem,jf8 q.den h⟩
def oF(g:D->D->Option D):D->D->Option D:=λx y=>(g x y).bind λd=>bif frz d then some d else none
def DIt(R:RC)(wi:TI)(fi:FA):Prop:=∀{σ:L2.St}{ρ ρ':Rh}{Z:Zn}{H:Hp}{O:List Addr}{xs:List D},WF Z H O->Slots R Z H ρ σ O->fi ρ=some (xs,ρ') ->
 ∀{Q:It->Hp->Prop},(∀{J:It}{Z':Zn}{H':Hp}{O':List Addr},Go Z H O Z' H' O'->Slots R Z' H' ρ' σ O'->jg5 R J Z' H' xs->Q J H')->wi σ H Q
structure QTE(cl:Nat->Addr)(X:Cx)(e:Expr)(tt:TT)(f:FT'):Prop where
 sem:PT X e tt
 den:DT ⟨X.K,cl⟩ tt f
structure QWE(cl:Nat->Addr)(X:Cx)(e:Expr)(tt:TT)(f:FT'):Prop where
 sem:PW X e tt
 den:DT ⟨X.K,cl⟩ tt f
structure QIE(cl:Nat->Addr)(X:Cx)(tg e:Expr)(wi:TI)(p:FA):Prop where
 sem:PI X tg e wi
 den:DIt ⟨X.K,cl⟩ wi p
theorem jch:∀(ρ:Rh) (ds:List D),pN ρ=some ds->ds.length=0:=λρ ds h=>by cases h;rfl
theorem ja1(h:∀(ρ:Rh) (ds:List D),pr ρ=some ds->ds.length=n):∀(ρ:Rh) (ds:List D),ja p pr ρ=some ds->ds.length=n+1:=λρ ds e=>by
 rw[ja] at e;refine ob e λd a e=>ob e λl e2 e=>?_;cases e;rw[M0,h ρ l e2]
def jbz:D->Option (List D)
 | .lst _ m=>bif frzs m then some m else none
 | .tup m=>bif frzs m then some m else none
 | _=>none
end QD
namespace QD
open PySem L2
theorem jb{n:Nat}(h:n<=100000):lim n=true:=X4 h
theorem zr{α:Type}{l:List α}{i:Int}(a:0<=i)(h:i < l.length):atI l i=l[i.toNat]?:=by
 unfold atI ixN;rw[if_pos (by omega),if_pos (by omega)];rfl
theorem jbL{n i:Nat}(h:i < n):ixN n (i:Int)=some i:=by
 unfold ixN;rw[if_pos (by omega),if_pos (by omega)];simp
theorem vh{lo:Int}{n i:Nat}{x:D}(h:(vm lo n)[i]?=some x):x=.int (lo+i)/\i < n:=by
 unfold vm at h;rw[List.getElem?_map] at h;by_cases hi:i < n
 ·rw[List.getElem?_range hi] at h;cases h;exact⟨rfl,hi⟩
 ·rw[List.getElem?_eq_none (by simpa using hi)] at h;cases h
theorem yi(lo:Int)(n:Nat):(vm lo n).length=n:=by simp[vm]
@[simp] theorem eq_ss(a b:List Nat):v7 (.str a) (.str b)=some (.bl (a==b)):=rfl
@[simp] theorem ne_ss(a b:List Nat):KH (.str a) (.str b)=some (.bl (!(a==b))):=rfl
@[simp] theorem is_i(i:Int):uC (.int i) .non=some (.bl false):=rfl
@[simp] theorem is_n:uC .non .non=some (.bl true):=rfl
@[simp] theorem is_s(a:List Nat):uC (.str a) .non=some (.bl false):=rfl
@[simp] theorem in_cs(neg:Bool)(c:Nat)(s:List Nat):wI neg (.str [c]) (.str s)=some (.bl (neg != decide (c∈s))):=rfl
@[simp] theorem neg_i(i:Int):xi (.int i)=some (.int (-i)):=rfl
theorem jji{a:List Nat}{n:Int}(h:a.length<=1000)(b:0<=n)(h1:n<=1000):jX (.str a) (.int n)=some (.str (List.replicate n.toNat a).flatten):=by
 show(bif decide (a.length<=1000)&&(decide (0<=n)&&decide (n<=1000)) then some (D.str (List.replicate n.toNat a).flatten) else none)=_;rw[X4 h,X4 b,X4 h1];rfl
theorem jlG{s:List Nat}{i:Int}(a:s.length<=100000)(b:0<=i)(h:i < s.length):jd (.str s) (.int i)=some (.str [s.getD i.toNat 0]):=by
 show(bif lim s.length then((atI s i).bind λc=>some (D.str [c])) else none)=_;rw[jb a,zr b h];have:i.toNat < s.length:=by omega
 simp[this]
theorem wU{α:Type}(xs:List α){k:Int}(h:0<=k):yM xs (some k) none=xs.drop k.toNat:=by
 obtain⟨n,rfl⟩:∃ n:Nat,k=(n:Int):=⟨k.toNat,by omega⟩;rw[jaQ];simp
@[simp] theorem itemsOf_str(s:List Nat):Ki (.str s)=some (s.map λc=>D.str [c]):=rfl
@[simp] theorem fTuple_lst(o:Bool)(l:List D):wx [.lst o l]=bif frzs l then some (.tup l) else none:=rfl
theorem ja4(w:List Nat)(l:List (List Nat)):jcK (.str w) (l.map D.str)=true:=by
 unfold jcK;rw[L9];refine⟨rfl,List.all_eq_true.mpr λy a=>?_⟩;obtain⟨z,_,rfl⟩:=M5.mp a;rfl
theorem jdd(w:List Nat)(l:List (List Nat)):inL (.str w) (l.map D.str)=decide (w∈l):=by
 unfold inL;rw[Bool.eq_iff_iff,List.any_eq_true,decide_eq_true_eq];constructor
 ·rintro⟨y,a,e⟩;obtain⟨z,b,rfl⟩:=M5.mp a;have:z=w:=by
   have e:(z==w)=true:=e;exact eq_of_beq e
  exact this▸b
 ·intro h;exact⟨.str w,M5.mpr ⟨w,h,rfl⟩,by show(w==w)=true;simp⟩
theorem jaW(neg o:Bool)(w:List Nat)(l:List (List Nat)):wI neg (.str w) (.lst o (l.map D.str))=some (.bl (neg != decide (w∈l))):=by
 show(bif jcK (.str w) (l.map D.str) then some (D.bl (neg != inL (.str w) (l.map D.str))) else none)=_;rw[ja4,jdd];rfl
mutual
theorem jdI:∀(n:Nat) (d:D),okE n d=true->eqD d d=true
 | n,.non,_=>rfl
 | n,.bl _,_=>by show(_==_)=true;simp
 | n,.int _,_=>by show(_==_)=true;simp
 | n,.str _,_=>by show(_==_)=true;simp
 | n+1,.tup l,h=>by rw[eqD];exact YF n l (by simpa [okE] using h)
 | n+1,.lst _ l,h=>by rw[eqD];exact YF n l (by simpa [okE] using h)
 | 0,.tup l,h=>by simp[okE] at h
 | 0,.lst _ l,h=>by simp[okE] at h
 | n,.dK _ _ _,h=>by cases n<;>simp[okE] at h
 | n,.dT _ _ _,h=>by cases n<;>simp[okE] at h
 | n,.ins _ _ _ _,h=>by cases n<;>simp[okE] at h
 | n,.dead,h=>by cases n<;>simp[okE] at h
 | n,.tok _,h=>by cases n<;>simp[okE] at h
 | n,.exc _ _,h=>by cases n<;>simp[okE] at h
theorem YF:∀(n:Nat) (l:List D),kI n l=true->KG l l=true
 | n,[],_=>rfl
 | n,d::l,h=>by
  rw[kI,L9] at h;rw[KG,jdI n d h.1,YF n l h.2];rfl
end
theorem jdb{o o':Bool}{l m:List D}(h:kI 19 l=true)(h':kI 19 m=true):KH (.lst o l) (.lst o' m)=some (.bl (!KG l m)):=by
 show(bif okE 20 (.lst o l)&&okE 20 (.lst o' m) then some (D.bl (!KG l m)) else none)=_;show(bif kI 19 l&&kI 19 m then _ else _)=_;rw[h,h'];rfl
theorem jam{n:Nat}{l:List D}(h:∀ d∈l,okE n d=true):kI n l=true:=by rw[Kw];exact List.all_eq_true.mpr h
theorem yI:∀{l:List D},(∀ d∈l,frz d=true)->frzs l=true
 | [],_=>rfl
 | d::l,h=>by rw[QR,h d (by simp),yI λx a=>h x (by simp[a])];rfl
theorem vC:∀{l:List D},(∀ d∈l,fz d=d)->fzs l=l
 | [],_=>rfl
 | d::l,h=>by rw[jcm,h d (by simp),vC λx a=>h x (by simp[a])]
theorem zm{n:Nat}{w:List Nat}(h:∀ c∈w,c < 1114112):okE n (.str w)=true:=by
 have:okE n (.str w)=w.all λc=>decide (c < 1114112):=by cases n<;>rfl
 rw[this];exact List.all_eq_true.mpr λc a=>X4 (h c a)
@[simp] theorem okE_int(n:Nat)(i:Int):okE n (.int i)=true:=by cases n<;>rfl
theorem uF{l:List Nat}{i N:Nat}(h:∀ c∈l,c < N)(a:0 < N):l.getD i 0 < N:=by
 rw[List.getD_eq_getElem?_getD];cases e:l[i]? with
 | none=>exact a
 | some c=>exact h c (List.mem_of_getElem? e)
theorem VY(a:List Nat):∀(w:List Nat) (ws:List (List Nat)),Kf a (w::ws)=w++(ws.map (a++·)).flatten
 | w,[]=>by simp[Kf]
 | w,v::ws=>by rw[Kf,VY a v ws];simp
theorem xH{α:Type}{f:α->D}{Q:α->Prop}:∀{ys:List D},(∀ y∈ys,∃ a,y=f a/\Q a)->∃ l:List α,ys=l.map f/\∀ a∈l,Q a
 | [],_=>⟨[],rfl,by simp⟩
 | y::ys,h=>by
  obtain⟨a,e,q⟩:=h y (by simp);obtain⟨l,e2,c⟩:=xH (ys:=ys) λz d=>h z (by simp[d]);exact⟨a::l,by rw[e,e2];rfl,λb g=>(M4.mp g).elim (λz=>z▸q) (c b)⟩
theorem jkc{o:Bool}{l:List D}{lo hi:Option Int}(a:frzs l=true):jdP lo hi (.lst o l)=some (.lst true (yM l lo hi)):=by
 show(bif frzs l then some (D.lst true (yM l lo hi)) else none)=_;rw[a];rfl
theorem uD{o:Bool}{l:List D}{i:Int}(a:0<=i)(h:i < l.length):jd (.lst o l) (.int i)=l[i.toNat]?:=zr a h
theorem jko{l:List D}{i:Int}(a:0<=i)(h:i < l.length):jd (.tup l) (.int i)=l[i.toNat]?:=zr a h
def Wd(w:List Nat):Prop:=w.length<=30/\∀ c∈w,c < 1114112
@[simp] theorem j5(l:List (List Nat)):fzs (l.map D.str)=l.map D.str:=by
 rw[qP,U0];rfl
@[simp] theorem ju(l:List (List Nat)):frzs (l.map D.str)=true:=by
 rw[Yh,List.all_map,List.all_eq_true];intro x _;rfl
@[simp] theorem Ja(l:List (List Nat)):jO (l.map D.str)=true:=by
 rw[yW,List.all_map,List.all_eq_true];intro x _;rfl
theorem Yu{o:Bool}{l:List (List Nat)}{i:Int}(a:0<=i)(h:i < l.length):jd (.lst o (l.map D.str)) (.int i)=some (.str (l.getD i.toNat [])):=by
 rw[uD a (by rw[L0];exact h),List.getElem?_map,List.getD_eq_getElem?_getD,X9 (by omega)];rfl
theorem Yc{α:Type}{l:List α}{i:Nat}{d:α}(h:i < l.length):l.getD i d∈l:=by
 rw[List.getD_eq_getElem?_getD,X9 h];exact List.getElem_mem h
theorem Kz{α β:Type}(f:α->β)(l:List α)(lo hi:Option Int):yM (l.map f) lo hi=(yM l lo hi).map f:=by
 unfold yM;rw[L0,List.map_take,List.map_drop]
theorem jdK{α:Type}{l:List α}{lo hi:Option Int}{x:α}(h:x∈yM l lo hi):x∈l:=List.mem_of_mem_drop (List.mem_of_mem_take h)
theorem xm{α:Type}(l:List α)(lo hi:Option Int):(yM l lo hi).length<=l.length:=by
 unfold yM;rw[E1,List.length_drop];omega
theorem uq{α:Type}{l:List α}{lo hi:Option Int}(h:l.Nodup):(yM l lo hi).Nodup:=(h.sublist (List.drop_sublist _ _)).sublist (List.take_sublist _ _)
theorem jaD(o:Bool)(l:List (List Nat))(lo hi:Option Int):jdP lo hi (.lst o (l.map D.str))=some (.lst true ((yM l lo hi).map D.str)):=by
 rw[jkc (ju l),Kz]
theorem wH{G:D->Rh->Option Rh}{q:PTf}{p:PF}{α:Type}{l:List α}{en out:α->D}{b:α->Bool}(P:Rh->Prop)(step:∀ x∈l,∀ ρ,P ρ->∃ ρ1,G (en x) ρ=some ρ1/\q ρ1=some (b x)/\p ρ1=some (out x)/\P ρ1){ρ:Rh}(a:P ρ):yC G q p (l.map en) ρ=some ((l.filter b).map out):=by
 induction l generalizing ρ with
 | nil=>rfl
 | cons x l c =>
  obtain⟨ρ1,d,e2,e3,p1⟩:=step x L6 ρ a;have:=c (λy e=>step y (L5 _ e)) p1;rw[L4,JD,d,L3,e2,L3];cases hb:b x with
  | true=>simp[e3,this,hb]
  | false=>simp[this,hb]
mutual
theorem jir:∀(n:Nat) (d:D),okE n d=true->eqD (fz d) d=true
 | n,.non,_=>rfl
 | n,.bl _,_=>by show(_==_)=true;simp
 | n,.int _,_=>by show(_==_)=true;simp
 | n,.str _,_=>by show(_==_)=true;simp
 | n+1,.tup l,h=>by rw[fz,eqD];exact z5 n l (by simpa [okE] using h)
 | n+1,.lst _ l,h=>by rw[fz,eqD];exact z5 n l (by simpa [okE] using h)
 | 0,.tup l,h=>by simp[okE] at h
 | 0,.lst _ l,h=>by simp[okE] at h
 | n,.dK _ _ _,h=>by cases n<;>simp[okE] at h
 | n,.dT _ _ _,h=>by cases n<;>simp[okE] at h
 | n,.ins _ _ _ _,h=>by cases n<;>simp[okE] at h
 | n,.dead,h=>by cases n<;>simp[okE] at h
 | n,.tok _,h=>by cases n<;>simp[okE] at h
 | n,.exc _ _,h=>by cases n<;>simp[okE] at h
theorem z5:∀(n:Nat) (l:List D),kI n l=true->KG (fzs l) l=true
 | n,[],_=>rfl
 | n,d::l,h=>by
  rw[kI,L9] at h;rw[fzs,KG,jir n d h.1,z5 n l h.2];rfl
end
mutual
theorem jdQ:∀(n:Nat) (d e:D),okE n d=true->fz d=fz e->eqD d e=true
 | n,.non,e,_,h=>by cases e<;>simp[fz] at h;rfl
 | n,.bl _,e,_,h=>by cases e<;>simp[fz] at h;subst h;show(_==_)=true;simp
 | n,.int _,e,_,h=>by cases e<;>simp[fz] at h;subst h;show(_==_)=true;simp
 | n,.str _,e,_,h=>by cases e<;>simp[fz] at h;subst h;show(_==_)=true;simp
 | n+1,.tup l,e,h,q=>by
  cases e<;>simp[fz] at q;rw[eqD];exact zu n l _ (by simpa [okE] using h) q
 | n+1,.lst _ l,e,h,q=>by
  cases e<;>simp[fz] at q;rw[eqD];exact zu n l _ (by simpa [okE] using h) q
 | 0,.tup l,e,h,_=>by simp[okE] at h
 | 0,.lst _ l,e,h,_=>by simp[okE] at h
 | n,.dK _ _ _,e,h,_=>by cases n<;>simp[okE] at h
 | n,.dT _ _ _,e,h,_=>by cases n<;>simp[okE] at h
 | n,.ins _ _ _ _,e,h,_=>by cases n<;>simp[okE] at h
 | n,.dead,e,h,_=>by cases n<;>simp[okE] at h
 | n,.tok _,e,h,_=>by cases n<;>simp[okE] at h
 | n,.exc _ _,e,h,_=>by cases n<;>simp[okE] at h
theorem zu:∀(n:Nat) (l m:List D),kI n l=true->fzs l=fzs m->KG l m=true
 | n,[],[],_,_=>rfl
 | n,[],_::_,_,q=>by simp[fzs] at q
 | n,_::_,[],_,q=>by simp[fzs] at q
 | n,d::l,e::m,h,q=>by
  rw[kI,L9] at h;rw[fzs,fzs] at q;injection q with q1 q2;rw[KG,jdQ n d e h.1 q1,zu n l m h.2 q2];rfl
end
theorem jfB{d e:D}(h:okE 20 d=true)(h':okE 20 e=true)(q:fz d=fz e)(a:qC d=false:=by rfl):KH d e=some (.bl false):=by
 unfold KH;rw[a,h,h',jdQ 20 d e h q];rfl
theorem YQ:∀ l:List (List Nat×D),J0 (l.map λp=>.tup [.str p.1,p.2])=some (l.map λp=>(KA.str p.1,p.2))
 | []=>rfl
 | p::l=>by
  rw[L4,J0,YQ l];rfl
theorem Vd:∀(ps:List (KA×D)) (ks:List KA) (vs:List D),(ks++ps.map (·.1)).Nodup->ps.foldl (λacc kv=>v8 acc.1 acc.2 kv.1 kv.2) (ks,vs)=(ks++ps.map (·.1),vs++ps.map (·.2))
 | [],ks,vs,_=>by simp
 | p::ps,ks,vs,h=>by
  have a:p.1∉ks:=by
   rw[L4] at h;intro z;exact(U8.mp h).2.2 p.1 z p.1 (by simp) rfl
  rw[U9];have b:v8 ks vs p.1 p.2=(ks++[p.1],vs++[p.2]):=by unfold v8;rw[if_neg a]
  show ps.foldl _ (v8 ks vs p.1 p.2)=_;rw[b,Vd ps (ks++[p.1]) (vs++[p.2]) (by simpa using h)];simp
theorem wR{o:Bool}{l:List (List Nat×D)}(g:(l.map (·.1)).Nodup)(i:∀ p∈l,frz p.2=true)(j:l.length<=100000):yu [.lst o (l.map λp=>.tup [.str p.1,p.2])]=some (.dK true (l.map λp=>KA.str p.1) (l.map (·.2))):=by
 have k:((l.map λp=>(KA.str p.1,p.2)).map (·.1)).Nodup:=by
  rw[U0];have:((λx:KA×D=>x.1) ∘ λp:List Nat×D=>(KA.str p.1,p.2))=KA.str ∘ (·.1):=rfl;rw[this,<- U0];exact List.Pairwise.map _ (λa b h z=>h (by cases z;rfl)) g
 have e:=Vd (l.map λp=>(KA.str p.1,p.2)) [] [] (by simpa using k);show((J0 (l.map λp=>.tup [.str p.1,p.2])).bind λc=>bif frzs (c.map (·.2))&&lim c.length then some (D.dK true (xa c).1 (xa c).2) else none)=_;rw[YQ,L3];have f:((l.map λp=>(KA.str p.1,p.2)).map (·.2))=l.map (·.2):=by rw[U0];rfl
 rw[f,yI (by intro d hd;obtain⟨p,m,rfl⟩:=M5.mp hd;exact i p m),L0,jb j];unfold xa;rw[e,f];simp[U0]
noncomputable def lkp{α:Type}(w:List Nat):List (List Nat×α)->Option α
 | []=>none
 | p::l=>if p.1=w then some p.2 else lkp w l
noncomputable def dct(o:Bool)(N:List (List Nat))(f:List Nat->Int):D:=.dK o (N.map KA.str) (N.map λn=>D.int (f n))
theorem V8(f:List Nat->Int):∀{N:List (List Nat)},c∈N->KF (N.map KA.str) (N.map λn=>D.int (f n)) (.str c)=some (.int (f c))
 | [],h=>by cases h
 | n::N,h=>by
  rw[L4,L4,KF];by_cases e:n=c
  ·rw[if_pos (by rw[e]),e]
  ·rw[if_neg λz=>e (by cases z;rfl)];exact V8 f ((M4.mp h).resolve_left λz=>e z.symm)
theorem vA(h:c∈N):jG (dct o N f) (.str c)=some (.int (f c)):=V8 f h
theorem x8(f:List Nat->Int)(c:List Nat)(v:Int):∀ N:List (List Nat),jaw (N.map KA.str) (N.map λn=>D.int (f n)) (.str c) (.int v)=N.map λn=>D.int (if n=c then v else f n)
 | []=>rfl
 | n::N=>by
  rw[L4,L4,jaw,x8 f c v N,L4];by_cases e:n=c
  ·rw[if_pos (by rw[e]),if_pos e]
  ·rw[if_neg λz=>e (by cases z;rfl),if_neg e]
theorem wv{N:List (List Nat)}{f:List Nat->Int}{c:List Nat}{v:Int}(h:c∈N):v8 (N.map KA.str) (N.map λn=>D.int (f n)) (.str c) (.int v)=(N.map KA.str,N.map λn=>D.int (if n=c then v else f n)):=by
 unfold v8;rw[if_pos (M5.mpr ⟨c,h,rfl⟩),x8]
theorem Ql:∀{l:List (List Nat×α)},(l.map (·.1)).Nodup->∀ p∈l,lkp p.1 l=some p.2
 | [],_,_,h=>by cases h
 | q::l,a,p,h=>by
  rw[L4,List.nodup_cons] at a;rw[lkp];rcases M4.mp h with rfl | h
  ·rw[if_pos rfl]
  ·rw[if_neg λz=>a.1 (by rw[z];exact M5.mpr ⟨p,h,rfl⟩)];exact Ql a.2 p h
def fnOf(S:List (List Nat×Int))(n:List Nat):Int:=(lkp n S).getD 0
theorem uB{S:List (List Nat×Int)}(a:(S.map (·.1)).Nodup){p:List Nat×Int}(h:p∈S):fnOf S p.1=p.2:=by
 unfold fnOf;rw[Ql a p h];rfl
theorem yx{S:List (List Nat×Int)}(b:(S.map (·.1)).Nodup)(c:S.length<=100000):yu [.lst o (S.map λp=>.tup [.str p.1,.int p.2])]=some (dct true (S.map (·.1)) (fnOf S)):=by
 have e:=wR (o:=o) (l:=S.map λq=>(q.1,D.int q.2)) (by rw[U0];exact b) (by intro q d;obtain⟨a,_,rfl⟩:=M5.mp d;rfl) (by rw[L0];exact c);rw[U0,U0,U0] at e;refine e.trans ?_;unfold dct;rw[U0,U0];congr 2;refine List.map_congr_left λp f=>?_;show D.int p.2=D.int (fnOf S p.1);rw[uB b f]
theorem jdm(N:List (List Nat))(f:List Nat->Int):frzs (N.map λn=>D.int (f n))=true:=yI λd hd=>by
 obtain⟨n,_,rfl⟩:=M5.mp hd;rfl
theorem jbk(N:List (List Nat))(f:List Nat->Int):(((N.map KA.str).zip (N.map λn=>D.int (f n))).map λp=>D.tup [kaD p.1,p.2])=N.map λn=>D.tup [.str n,.int (f n)]:=by
 induction N with
 | nil=>rfl
 | cons n N a =>
  rw[L4,L4,U6,L4,L4,a];rfl
@[simp] theorem jc8(N:List (List Nat))(f:List Nat->Int):jc4 (dct true N f)=some (N.map KA.str,N.map λn=>D.int (f n)):=rfl
variable {ρ:Rh}{fa fb fe:FE}{ft fu:FT'}{fr:FA}{p:PAf}{pi:PAf}{g:D->D->Option D}{gl:List D->Option D}{G:D->Rh->Option Rh}{f:FS}{m:List D->Option (D×D)}{mp:List D->Option D}{i j:Nat}
@[simp] theorem dCBx_e:dCB gl fr ρ=(fr ρ).bind λr=>(gl r.1).bind λz=>some (z,r.2):=rfl
@[simp] theorem oF_e:oF g x y=(g x y).bind λd=>bif frz d then some d else none:=rfl
end QD
namespace L2
open PySem PySem.Spec PyProof.Rows
end L2
namespace QD
open PySem L2 PySem.Spec PyProof.Rows
noncomputable def J7:Int->List D->List D
 | _,[]=>[]
 | n,x::l=>.tup [.int n,x]::J7 (n+1) l
theorem Qu:∀(n:Int) (l:List D),(J7 n l).length=l.length
 | _,[]=>rfl
 | n,x::l=>by rw[J7,M0,M0,Qu]
theorem Qi:∀(n:Int) (l:List D) (i:Nat) (y:D),(J7 n l)[i]?=some y->∃ x,l[i]?=some x/\y=.tup [.int (n+i),x]
 | _,[],_,_,e=>by simp[J7] at e
 | n,x::l,0,y,e=>by simp[J7] at e;exact⟨x,rfl,by rw[<- e];simp⟩
 | n,x::l,i+1,y,e=>by
  obtain⟨z,a,e2⟩:=Qi (n+1) l i y (by simpa [J7] using e);exact⟨z,by simpa using a,by rw[e2];congr 3;lia⟩
def jiI(p:PAf)(q:PF)(ρ:Rh):Option (List D):=(p ρ).bind λx=>(jd7 x).bind λx=>(jd2 x).bind λl=>(q ρ).bind λy=>(vx y).bind λn=>bif Vw n then some (J7 n (fzs l)) else none
theorem jhh(h:PPs R ta p)(g:PB R tb q):PIt R (jkQ R.K ta tb) (jiI p q):=by
 intro σ ρ Z H O xs z s e Q k;refine ob e λx j e=>ob e λy e3 e=>ob e λl I e=>ob e λy' e2 e=>ob e λn e5 e=>oc e λJ e=>?_;cases e;cases jY e5;obtain⟨o,rfl⟩:=JP I;cases qX e3;refine h z s j λ{vs L H1 M} N P=>?_;obtain⟨v,rfl,S⟩:=P.one_of;have D:=S.freeze (Z':=λa=>L a \/ a∈M) (λa z=>.inl z) λa z=>.inr z;rw[fz,Rep] at D;obtain⟨a,c,O',rfl,T,U,rfl,_⟩:=D;have b:=N.fz;refine g b.wf.zd (b.slots z s) e2 λ{u Z2 H2 P2} d m=>?_;obtain⟨rfl,_⟩:=m.int_of;have f:=U.frame d.zz (λa z=>d.same a (b.wf.zd a z));have r:=T.frame d.zz (λa z=>d.same a (b.wf.zd a z)) (λa A=>(nomatch A));have hb:=Vj J;refine⟨a,c,n,rfl,rfl,by unfold Builtin.SmallTypes.fitsIndex;simp;lia,FL.sq f,k (b.pair d) ?_⟩;intro Z3 V E F zd i;have B:=(f.frame E F).sq;have m:Reps R Z3 V (fzs l) c []:=r.frame E F λa A=>(nomatch A);refine⟨λhi=>⟨c,B,by rw[m.length];rw[Qu] at hi;exact hi⟩,λx W=>?_⟩;obtain⟨y,X,rfl⟩:=Qi _ _ i x W;obtain⟨u,G,Y⟩:=m.item X;refine⟨⟨c,u,B,G⟩,λw H4 C=>?_⟩;obtain⟨q,t,ht,rfl,g,rfl⟩:=C;have j:=ht c B;rw[G] at j;cases j;exact⟨_,Go.newF (wf0 zd) g,wt zd g .int_mk Y⟩
noncomputable def jkM:List (List KA)->List D->List KA->Option D
 | k::ks,d::l,a=>if k=a then some d else jkM ks l a
 | _,_,_=>none
theorem xS{a b:List KA}(h:a.map kaV=b.map kaV):a=b:=by
 induction a generalizing b with
 | nil=>cases b with
  | nil=>rfl
  | cons y b=>simp at h
 | cons x a c=>cases b with
  | nil=>simp at h
  | cons y b =>
   simp only[L4,List.cons.injEq] at h;rw[Yq h.1,c h.2]
abbrev jky(ta tb:TE):TE:=xR (j9 ta (j9 tb Ye))
def jcW(pa pb:PF)(ρ:Rh):Option (List KA):=(pa ρ).bind λx=>(pb ρ).bind λy=>(vg x).bind λa=>(vg y).bind λb=>some [a,b]
theorem jcQ (f : PB R ta pa) (g : PB R tb pb)  (z : Zd Z H) (s : Slots R Z H ρ σ O) (e : jcW pa pb ρ = some k)
     (go:∀{p:Addr}{Z':Zn}{H':Hp},Go Z H [] Z' H' []->Z' p->H' p=some (.tup ((k.map kaV).map kV))->Q (.ref p) H'):jky ta tb σ H Q:=by
 unfold jcW at e;refine ob e λx h e=>ob e λy e2 e=>ob e λa e3 e=>ob e λb i e=>?_;cases e;refine f z s h λ{v n o q} c j=>?_;refine g c.wf.zd (c.slots z s) e2 λ{u r t w} d l=>?_;obtain⟨rfl,_⟩:=yH e3 j;obtain⟨rfl,_⟩:=yH i l;refine⟨by show 2<=sizeLine;decide,λp m=>?_⟩;exact go ((c.pair d).trans (Go.newF d.wf m)) (.inr rfl) jr
def jef(x:D)(k:List KA)(z:D):Option D:=match x with
 | .dT _ ks l=>some ((jkM ks l k).getD z)
 | _=>none
@[simp] theorem opTGet_e(o:Bool)(ks:List (List KA))(l:List D)(k:List KA)(z:D):jef (.dT o ks l) k z=some ((jkM ks l k).getD z):=rfl
@[simp] def pTGet(pd:PF)(pa:PF)(pb:PF)(pc:PF)(ρ:Rh):Option D:=(pd ρ).bind λx=>(jcW pa pb ρ).bind λk=>(pc ρ).bind λz=>jef x k z
@[simp] theorem jh5:jcW pa pb ρ=(pa ρ).bind λx=>(pb ρ).bind λy=>(vg x).bind λa=>(vg y).bind λb=>some [a,b]:=rfl
noncomputable def jcI:List (List KA)->List D->List KA->D->List D
 | k::ks,x::l,a,d=>(if k=a then d else x)::jcI ks l a d
 | _,_,_,_=>[]
theorem xT:∀{ks:List (List KA)}{l:List D}(a:List KA) (d:D),ks.length=l.length->(jcI ks l a d).length=l.length
 | [],[],_,_,_=>rfl
 | [],_::_,_,_,h=>by simp at h
 | _::_,[],_,_,h=>by simp at h
 | k::ks,x::l,a,d,h=>by rw[jcI,M0,M0,xT a d (by simpa using h)]
theorem wl(rd:Rep R Z H d v [])(a:List KA):∀{ks:List (List KA)}{l:List D}{vs:List V}{O:List Addr},Reps R Z H l vs O->ks.length=l.length ->
  ∃ vs2 O2,Reps R Z H (jcI ks l a d) vs2 O2/\(ks.map (List.map kaV)).zip vs2=((ks.map (List.map kaV)).zip vs).map (λkv=>if kv.1=a.map kaV then(kv.1,v) else kv)/\O2.Sublist O
 | [],[],vs,O,r,b=>by
  rw[Reps] at r;obtain⟨rfl,rfl⟩:=r;exact⟨[],[],.empty,rfl,.slnil⟩
 | [],_::_,_,_,_,h=>by simp at h
 | _::_,[],_,_,_,h=>by simp at h
 | k::ks,x::l,vs,O,r,b=>by
  rw[Reps] at r;obtain⟨w,j,m,O2,rfl,rfl,n,o⟩:=r;obtain⟨c,f,g,e3,i⟩:=wl rd a o (by simpa using b);by_cases e:k=a
  ·subst e;refine⟨v::c,[]++f,?_,?_,?_⟩
   ·rw[jcI,if_pos rfl];exact Reps.cons rd g
   ·simp only[L4,U6,if_true,e3]
   ·exact i.trans (List.sublist_append_right _ _)
  ·have p:¬ (k.map kaV=a.map kaV):=λz=>e (xS z);refine⟨w::c,m++f,?_,?_,?_⟩
   ·rw[jcI,if_neg e];exact Reps.cons n g
   ·simp only[L4,U6,if_neg p,e3]
   ·exact List.Sublist.append (List.Sublist.refl _) i
theorem wu(a:List KA):∀{ks:List (List KA)}{vs:List V},ks.length=vs.length->(((ks.map (List.map kaV)).zip vs).any λkv=>decide (kv.1=a.map kaV))=decide (a∈ks)
 | [],vs,_=>by simp
 | k::ks,[],h=>by simp at h
 | k::ks,v::vs,h=>by
  rw[L4,U6,List.any_cons,wu a (by simpa using h)];by_cases e:k=a
  ·subst e;simp
  ·have b:¬ (k.map kaV=a.map kaV):=λz=>e (xS z);have e2:¬ (a=k):=λz=>e z.symm;simp[b,e2]
def K5(ks:List (List KA))(l:List D)(a:List KA)(d:D):List (List KA)×List D:=if a∈ks then(ks,jcI ks l a d) else(ks++[a],l++[d])
theorem jc9(rd:Rep R Z H d v [])(a:List KA)  (r:Reps R Z H l vs O) (b:ks.length=l.length) :
  ∃ vs2 O2,Reps R Z H (K5 ks l a d).2 vs2 O2/\(((K5 ks l a d).1).map (List.map kaV)).zip vs2=vV ((ks.map (List.map kaV)).zip vs) (a.map kaV) v/\O2.Sublist O/\(K5 ks l a d).1.length=(K5 ks l a d).2.length:=by
 have c:ks.length=vs.length:=by rw[r.length];exact b
 unfold K5 vV;rw[wu a c];by_cases e:a∈ks
 ·rw[if_pos e,X4 e,if_pos rfl];obtain⟨f,P,g,e2,h⟩:=wl rd a r b;exact⟨f,P,g,e2,h,by rw[xT a d b];exact b⟩
 ·rw[if_neg e,X5 e,if_neg (λz=>(nomatch z))];refine⟨vs++[v],O++[],r.append (Reps.one rd),?_,by simp,by simp[b]⟩;rw[N4,List.zip_append (by simpa using c)];rfl
@[simp] def sTSet(i:Nat)(pa:PF)(pb:PF)(pv:PF)(ρ:Rh):Option Out:=(pv ρ).bind λd=>(pV i ρ).bind λx=>(jj2 x).bind λp=>(jcW pa pb ρ).bind λa=>bif frz d&&lim p.1.length then some (.nx (ρ.set i (some (.dT true (K5 p.1 p.2 a d).1 (K5 p.1 p.2 a d).2)))) else none
theorem jlA(d:X.mg "enumerate" = none)(h:QPs cl X [a] tr pr)(c:QB cl X b tb pb)(e:Gl X "enumerate":=by rfl)(f:starEach [a] X.env=[(false,eval a X.env)]:=by rfl) :
  QI cl X (.Tuple elts n tpos) (.Call (.Name "enumerate" p) [a] [⟨some "start",b,kpos⟩] pos) (jkQ X.K tr tb) (jiI pr pb):=⟨jk9 e d h.sem c.sem f,jhh h.den c.den⟩
end QD
namespace L2
open PySem PySem.Spec PyProof.Rows
end L2
namespace QD
open PySem L2 PySem.Spec PyProof.Rows
def pFz(p:PF):PF:=λρ=>(p ρ).bind λd=>some (fz d)
@[simp] theorem pFz_e:pFz p ρ=(p ρ).bind λd=>some (fz d):=rfl
theorem jk4(h:PP R te p):PB R te (pFz p):=by
 intro σ ρ Z H O d z s e Q k;unfold pFz at e;refine ob e λx b e=>?_;cases e;refine h z s b λ{v c f P} g r=>?_;exact k (P:=[]) g.fz (r.freeze (Z':=λa=>c a \/ a∈P) (λa z=>.inl z) λa z=>.inr z)
theorem QP.fzb(h:QP cl X e te pe):QB cl X e te (pFz pe):=⟨h.sem,jk4 h.den⟩
theorem VX:∀(ks:List KA) (ws:List V) (js:List KA) (us:List V),js.length=us.length->ks.length=ws.length->(js++ks).Nodup ->
  ((ks.map kaV).zip ws).foldl (λa kv=>vV a kv.1 kv.2) ((js.map kaV).zip us)=((js++ks).map kaV).zip (us++ws)
 | [],ws,js,us,_,b,_=>by
  cases ws with
  | nil=>simp
  | cons _ _=>simp at b
 | k::ks,[],js,us,_,b,_=>by simp at b
 | k::ks,w::ws,js,us,c,b,d=>by
  have f:¬ k∈js:=λz=>(U8.mp d).2.2 k z k (by simp) rfl;have e:vV ((js.map kaV).zip us) (kaV k) w=((js++[k]).map kaV).zip (us++[w]):=by
   unfold vV;rw[Kp k c,X5 f,if_neg (by decide),N4,List.zip_append (by rw[L0];exact c)];rfl
  rw[L4,U6,U9];show List.foldl _ (vV ((js.map kaV).zip us) (kaV k) w) _=_;rw[e,VX ks ws (js++[k]) (us++[w]) (by simp[c]) (by simpa using b) (by simpa using d)];simp
noncomputable def je4:List KA->KA->Option Nat
 | [],_=>none
 | k::ks,a=>if k=a then some 0 else(je4 ks a).map (·+1)
theorem V1:∀{ks:List KA}{a:KA}{vs:List V}{j:Nat}{v:V},je4 ks a=some j->ks.length=vs.length->vs[j]?=some v->K3 ((ks.map kaV).zip vs) (kaV a)=some v
 | [],_,_,_,_,h,_,_=>by cases h
 | k::ks,a,[],_,_,_,b,_=>by simp at b
 | k::ks,a,u::vs,j,v,h,b,c=>by
  rw[je4] at h;by_cases e:k=a
  ·rw[if_pos e] at h;cases h;cases c;rw[L4,U6,e];exact Jq rfl
  ·rw[if_neg e] at h;cases hp:je4 ks a with
   | none=>rw[hp] at h;cases h
   | some i =>
    rw[hp] at h;cases h;rw[L4,U6,Jg (λz=>e (Yq z))];exact V1 hp (by simpa using b) (by simpa using c)
noncomputable def J6:List Str->List D->Str->Option D
 | n::ns,d::l,f=>if f=n then some d else J6 ns l f
 | _,_,_=>none
theorem zT:∀{ns:List Str}{l:List D}{vs:List V}{O:List Addr},Reps R Z H l vs O->ns.length=l.length->J6 ns l f=some d->∃ v P,(ns.zip vs).lookup f=some v/\Rep R Z H d v P
 | [],l,vs,O,_,_,h=>by cases l<;>cases h
 | n::ns,[],vs,O,_,a,_=>by simp at a
 | n::ns,x::l,vs,O,r,a,h=>by
  rw[Reps] at r;obtain⟨v,b,c,k,rfl,rfl,g,i⟩:=r;rw[J6] at h;by_cases e:f=n
  ·rw[if_pos e] at h;cases h;exact⟨v,c,by rw[U6,List.lookup_cons,e];simp,g⟩
  ·rw[if_neg e] at h;obtain⟨w,P,j,e2⟩:=zT i (by simpa using a) h;refine⟨w,P,?_,e2⟩;rw[U6,List.lookup_cons];have:(f==n)=false:=by simp[e]
   rw[this];exact j
def zp(c:Nat)(f:Str):D->Option D
 | .ins _ c' ns l=>bif c'==c then J6 ns l f else none
 | _=>none
@[simp] theorem fldOf_ins:zp c f (.ins o c' ns l)=bif c'==c then J6 ns l f else none:=rfl
@[simp] def VG(c:Nat)(f:Str)(po:PF)(ρ:Rh):Option D:=(po ρ).bind (zp c f)
theorem jjj(i:Cls R.K (R.cls c))(j:NoAttr R.K (R.cls c) f)(h:PB R ta p):PB R (jb6 R.K ta f) (VG c f p):=by
 intro σ ρ Z H O d z s e Q k;refine ob e λx m e=>?_;cases x with
 | ins o n ns l =>
  refine oc e λq r=>?_;obtain rfl:n=c:=by simpa using q
  refine h z s m λ{v D E F} t g=>?_;rw[Rep] at g;obtain⟨a,u,G,I,rfl,y,A,B,_⟩:=g;obtain⟨w,P,C,b⟩:=zT y A r;exact⟨a,_,u,_,w,rfl,B,i,j,C,k t b⟩
 | _=>cases e
noncomputable def qB:List Str->List D->Str->D->List Str×List D
 | n::ns,x::l,f,d=>if n=f then(n::ns,d::l) else(n::(qB ns l f d).1,x::(qB ns l f d).2)
 | _,_,f,d=>([f],[d])
theorem Ve(rd:Rep R Z H d v P):∀{ns:List Str}{l:List D}{vs:List V}{O:List Addr},Reps R Z H l vs O->ns.length=l.length ->
  ∃ vs2 O2,Reps R Z H (qB ns l f d).2 vs2 O2/\(qB ns l f d).1.zip vs2=Vz f v (ns.zip vs)/\(qB ns l f d).1.length=(qB ns l f d).2.length/\∀ c,O2.count c<=O.count c+P.count c
 | [],[],vs,O,r,_=>by
  rw[Reps] at r;obtain⟨rfl,rfl⟩:=r;exact⟨[v],P,.one rd,rfl,rfl,λc=>by simp⟩
 | [],_::_,_,_,_,a=>by simp at a
 | _::_,[],_,_,_,a=>by simp at a
 | n::ns,x::l,vs,O,r,a=>by
  rw[Reps] at r;obtain⟨u,b,h,O2,rfl,rfl,i,g⟩:=r;rw[qB];by_cases e:n=f
  ·rw[if_pos e];refine⟨v::b,P++O2,Reps.cons rd g,?_,a,λc=>by simp only[U7];lia⟩;rw[U6,U6,Vz,if_pos e]
  ·rw[if_neg e];obtain⟨vs2,j,k,e3,m,o⟩:=Ve (f:=f) rd g (by simpa using a);refine⟨u::vs2,h++j,Reps.cons i k,?_,by simp[m],λc=>by have:=o c;simp only[U7];lia⟩;rw[U6,U6,Vz,if_neg e,e3]
@[simp] def Jc(i:Nat)(c:Nat)(f:Str)(pv:PF)(ρ:Rh):Option Out:=(pv ρ).bind λd=>(pV i ρ).bind λt=>(Qe t).bind λy=>bif y.1==c&&decide (y.2.1.length<=900) then some (.nx (ρ.set i (some (.ins true c (qB y.2.1 y.2.2 f d).1 (qB y.2.1 y.2.2 f d).2)))) else none
theorem jbA{l:List α}{m:List β}(h:decide (l.length<=900)=true):(l.zip m).length < 1000:=by
 rw[List.length_zip];have:=X6 h;exact E5 (Nat.min_le_left _ _) (by lia)
theorem jiQ{R:RC}{pm:List Nat}{i c:Nat}{f:Str}{tv:TE}{pv:PF}(m:Cls R.K (R.cls c))(n:NoAttr R.K (R.cls c) f)(p:PP R tv pv):DS R pm (jlv R.K (kX i) tv f) (Jc i c f pv):=by
 intro σ ρ Z H O o w s e J k;refine ob e λd r e=>ob e λt v e=>ob e λ⟨x,ns,l⟩ e2 e=>oc e λb e=>?_;cases e;cases Jk e2;rw[L9] at b;obtain rfl:x=c:=by simpa using b.1
 refine p w.zd s r λ{u L M N} j y=>?_;have g:=j.widen w;refine Y6 KU g.wf (j.slots w.zd s) v rfl ow_ins λa z P Q A h B C put=>C ?_;obtain⟨D,S,E,e3,F,G⟩:=Ve (f:=f) y A h;obtain⟨T,g3,I⟩:=put ow_ins F (Go.id g.wf.zd) E λq=>by have:=G q;simp;lia
 refine⟨a,_,z,_,rfl,B,m,n,jbA b.2,?_⟩;rw[<- e3];exact k (g.trans g3) I (Keep.refl _ _)
theorem ji5(b:Cls X.K (cl c))(d:NoAttr X.K (cl c) f)(a:QB cl X o to po)(e:attributeBase o f X.env (eval o X.env)=eval o X.env:=by rfl):QB cl X (.Attribute o f pos) (jb6 X.K to f) (VG c f po):=⟨xv a.sem e,jjj (R:=⟨X.K,cl⟩) b d a.den⟩
theorem ji0(b:Cls X.K (cl c))(d:NoAttr X.K (cl c) f)(g:QB cl X (.Name x xpos) (kX i) (pV i))(a:QP cl X e te pe)(h:swapsWith e (some (.Attribute (.Name x xpos) f pos')) pos.line X.env=pure false:=by rfl) :
  QS cl pm X (.Assign [.Attribute (.Name x xpos) f pos'] e pos) (jlv X.K (kX i) te f) (Jc i c f pe):=⟨jhd g.sem a.sem h,jiQ (R:=⟨X.K,cl⟩) b d a.den⟩
noncomputable def ji8:List Str->Str->Option Nat
 | [],_=>none
 | n::ns,f=>if f=n then some 0 else(ji8 ns f).map (·+1)
theorem wb:∀{ns:List Str}{f:Str}{vs:List V}{j:Nat}{v:V},ji8 ns f=some j->ns.length=vs.length->vs[j]?=some v->(ns.zip vs).lookup f=some v
 | [],_,_,_,_,h,_,_=>by cases h
 | n::ns,f,[],_,_,_,a,_=>by simp at a
 | n::ns,f,u::vs,j,v,h,a,b=>by
  rw[ji8] at h;by_cases e:f=n
  ·rw[if_pos e] at h;cases h;cases b;rw[U6,List.lookup_cons,e];simp
  ·rw[if_neg e] at h;cases hp:ji8 ns f with
   | none=>rw[hp] at h;cases h
   | some i =>
    rw[hp] at h;cases h;rw[U6,List.lookup_cons,show(f==n)=false by simp[e]];exact wb hp (by simpa using a) (by simpa using b)
theorem Kv:∀{ns:List Str}{l:List D}{vs:List V},ns.length=l.length->vs.length=l.length->J6 ns l f=none->(ns.zip vs).lookup f=none
 | [],_,_,_,_,_=>rfl
 | n::ns,[],_,a,_,_=>by simp at a
 | n::ns,x::l,[],_,b,_=>by simp at b
 | n::ns,x::l,v::vs,a,b,h=>by
  rw[J6] at h;by_cases e:f=n
  ·rw[if_pos e] at h;cases h
  ·rw[if_neg e] at h;rw[U6,List.lookup_cons,show(f==n)=false by simp[e]];exact Kv (by simpa using a) (by simpa using b) h
@[simp] def yS(m:List D->Option (D×D))(i c:Nat)(mn:Str)(p:PAf)(ρ:Rh):Option (D×Rh):=(p ρ).bind λds=>(pV i ρ).bind λt=>(Qe t).bind λy=>bif y.1==c&&(frzs ds&&(J6 y.2.1 y.2.2 mn).isNone) then(m (t::ds)).bind λr=>some (r.1,ρ.set i (some r.2)) else none
theorem jcq(h:PPs R ta p)(S:∀ ρ ds,p ρ=some ds->ds.length+1=n):DE R (jav (R.cls c) mn (spM R m n 0) [] E0 (kX i) ta) (yS m i c mn p):=by
 intro σ ρ ρ' Z H O d w s e Q k;refine ob e λds F e=>ob e λy b e=>ob e λ⟨o,ns,l⟩ e3 e=>oc e λG e=>ob e λ⟨T,U⟩ e2 e=>?_;cases e;cases Jk e3;have b:=JN b;rw[L9,L9] at G;obtain⟨q,r,t⟩:=G;obtain rfl:o=c:=by simpa using q
 have hi:=(L8.mp b).1;obtain⟨A0,P0,B0,_,k0,_,_⟩:=s.put hi;obtain⟨u,x,I⟩:=k0 _ b;rw[Rep] at I;obtain⟨a,V,vs,O',rfl,W,C,X,_⟩:=I;refine⟨.ref a,x,a,V,_,rfl,X,Kv C W.length (Option.isNone_iff_eq_none.mp t),?_⟩;refine h w.zd s F λ{Y D J P1} K L=>?_;cases L.nil r;have f:Go Z H O D J O:=by simpa using K.widen w
 obtain⟨A,P,B,rfl,k1,k2,_⟩:=(K.slots w.zd s).put hi;obtain⟨u',g,rc⟩:=k1 _ b;rw[x] at g;cases g;have rr:Reps R D J (.ins true o ns l::ds) (.ref a::Y) P:=by
  have:=Reps.cons rc L;simpa using this
 refine⟨D,.ins true o ns l::ds,T,U,P,.ref a,f.wf.mid,by have:=S ρ ds F;simpa using this,by rw[M9];exact rr,rfl,e2,λ{v Z2 H2 P2 O2} j r2 E=>?_⟩;have g3:=j.frame f.wf;have M:=Go.keepA f.wf j;have N:=k2 E j.zz (λa z=>j.zH f.wf.mid a z) M.1 M.2;rw[yZ x] at N;exact k (P:=P2) (f.trans g3).turn r2 N
noncomputable def jhr:D×D->Option D
 | (.non,t)=>some t
 | _=>none
@[simp] theorem nonOf_non(t:D):jhr (.non,t)=some t:=rfl
@[simp] def wL(m:List D->Option (D×D))(c:Nat)(p:PAf)(ρ:Rh):Option D:=(p ρ).bind λds=>bif frzs ds then(m (.ins true c [] []::ds)).bind jhr else none
theorem jeA(h:PPs R ta p)(B:∀ ρ ds,p ρ=some ds->ds.length+1=n):PP R (je5 (R.cls c) (spM R m n 0) [] E0 ta) (wL m c p):=by
 intro σ ρ Z H O d z s e Q k;refine ob e λds r e=>oc e λC e=>ob e λ⟨x,t⟩ e2 e=>?_;cases x with
 | non =>
  cases e;refine h z s r λ{J D u K} f w=>?_;cases w.nil C;intro x b E g i;have y:=Go.newF (o:=.own x) (wf0 f.wf.zd) g;have j:upd u b (.own x) x=none:=by rw[jf (λe=>i e.symm)];exact E
  have F:=Go.newO (o:=.ins (R.cls c) b []) y.wf j;have l:=y.trans F;have G:=l.reps f.wf.zd w;have I:Rep R (λa=>D a \/ a=b) (upd (upd u b (.own x)) x (.ins (R.cls c) b [])) (.ins true c [] []) (.ref x) [x]:=by
   rw[Rep];exact⟨x,b,[],[],rfl,.empty,rfl,jr,rfl⟩
  refine⟨_,.ins true c [] []::ds,.non,d,[x],.ref x,l.wf,by have:=B ρ ds r;simpa using this,by rw[M9];have:=Reps.cons I G;simpa using this,rfl,e2,λ{v Z3 L M N} g3 A q=>?_⟩;rw[Rep] at A;obtain⟨rfl,rfl⟩:=A;exact⟨rfl,k (by simpa using(f.trans l).trans g3) q⟩
 | _=>cases e
section
variable {cl:Nat->Addr}{pm:List Nat}{X:Cx}{e:Expr}{es:List Expr}{tr:TA}{pr:PAf}{pos p apos:Pos}
structure MtFact(K:PySem.W.Frag)(C:Addr)(x qual:Str)(st:Stmt)(f:Addr)(fd:FuncData)(ps:List Str):Prop where
 fn:Fun K x qual st f fd
 mt:Meth K C x f
 bd:Binds K fd ps []
def OkM(P:Program)(w:World)(K:PySem.W.Frag)(mg:Str->Option Value)(C:Addr)(x qual:Str)(st:Stmt)(k:Nat)(ps:List Str)(sp:Sp):Prop:=∃ f fd,MtFact K C x qual st f fd ps/\∀ base,FnOk P w K mg base CX0 k f fd ps sp
theorem jgg{k n i c:Nat}{ps:List Str}{m:List D->Option (D×D)}{x mn qual:Str}{st:Stmt}{pl:Sem Bool}(g:Cls X.K (cl c))(O:OkM X.prog X.w X.K X.mg (cl c) mn qual st k ps (spM ⟨X.K,cl⟩ m n 0))(h:Room k X.A)(j:QB cl X (.Name x p) (kX i) (pV i))(d:QPs cl X (e::es) tr pr)(l:∀ ρ ds,pr ρ=some ds->ds.length+1=n)
  (a:starEach (e::es) X.env=(false,eval e X.env)::starEach es X.env:=by rfl) (b:(backTo pos (starEach es X.env)).any (·.1)=false:=by rfl)
  (o:eval (.Call (.Attribute (.Name x p) mn apos) (e::es) [] pos) X.env=(do
   let ov <- eval (.Name x p) X.env
   standAt apos.atName
   let (f,first) <- holding [ov] (getMethod ov mn pl)
   callWith pos f first (backTo pos (starEach (e::es) X.env)) (backToKw pos (keywordEach [] X.env))):=by rfl) :
  QE cl X (.Call (.Attribute (.Name x p) mn apos) (e::es) [] pos) (jav (cl c) mn (spM ⟨X.K,cl⟩ m n 0) [] E0 (kX i) tr) (yS m i c mn pr):=by
 obtain⟨_,_,F,G⟩:=O;exact⟨jau j.sem g F.mt (G _) h F.bd .nil jdo d.sem a b o,jcq (R:=⟨X.K,cl⟩) d.den l⟩
theorem jiw{k n c:Nat}{ps:List Str}{m:List D->Option (D×D)}{x qual:Str}{st:Stmt}(f:PySem.W.makesIn X.K (cl c)=true)(g:PySem.W.keepIn X.K (.ref (cl c))=true)(O:OkM X.prog X.w X.K X.mg (cl c) "__init__" qual st k ps (spM ⟨X.K,cl⟩ m n 0))(h:Room (k+1) X.A)(i:X.mg x=some (.ref (cl c)))(d:QPs cl X (e::es) tr pr)(j:∀ ρ ds,pr ρ=some ds->ds.length+1=n)(l:Gl X x:=by rfl)
  (a:(x==("__debug__" : Str))=false:=by decide) (o:starEach (e::es) X.env=(false,eval e X.env)::starEach es X.env:=by rfl) (b:(backTo pos (starEach es X.env)).any (·.1)=false:=by rfl) :
  QP cl X (.Call (.Name x p) (e::es) [] pos) (je5 (cl c) (spM ⟨X.K,cl⟩ m n 0) [] E0 tr) (wL m c pr):=by
 obtain⟨_,_,F,G⟩:=O;exact⟨jfm ⟨f,F.mt.at_,F.mt.fn,g⟩ (G _) h l i F.bd .nil jdo d.sem a o b,jeA (R:=⟨X.K,cl⟩) d.den j⟩
end
@[simp] def JF(m:List D->Option D)(c:Nat)(mn:Str)(po:PF)(p:PAf)(ρ:Rh):Option D:=(po ρ).bind λs=>(jk7 s).bind λy=>bif y.1==c&&(J6 y.2.1 y.2.2 mn).isNone then(p ρ).bind λds=>(m (fzs (s::ds))).bind λd=>bif frzs (s::ds)||yF d then some d else none else none
theorem jgr(r:PB R to po)(t:PBs R ta p)(u:∀ ρ ds,p ρ=some ds->ds.length+1=n):PP R (jav (R.cls c) mn (spP R m n) [] E0 to ta) (JF m c mn po p):=by
 intro σ ρ Z H O d z s e Q k;refine ob e λG v e=>ob e λ⟨w,ns,l⟩ e3 e=>oc e λg e=>ob e λds j e=>ob e λc0 e2 e=>oc e λx e=>?_;cases e;obtain⟨o,rfl⟩:=jgA e3;rw[L9] at g;obtain rfl:w=c:=by simpa using g.1
 refine r z s v λ{I J K L} f q=>?_;have b:=q;rw[Rep] at b;obtain⟨a,y,A,M,rfl,B,h,C,_⟩:=b;exact⟨a,y,_,rfl,C,Kv h B.length (Option.isNone_iff_eq_none.mp g.2),t f.wf.zd (f.slots z s) j λi D=>jbo i.wf.zd (Reps.cons (i.rep f.wf.zd q) D) (u ρ ds j) e2 x λE F=>k (by simpa using(f.pair i).pair E) F⟩
def Vm(c:Nat)(f:Str)(L:Ln)(d:D):Option (D×(D->D)):=(L d).bind λy=>(Qe y.1).bind λq=>bif q.1==c then(ji8 q.2.1 f).bind λj=>(q.2.2[j]?).bind λx=>some (x,λx'=>y.2 (.ins true q.1 q.2.1 (q.2.2.set j x'))) else none
theorem jiO(G:Cls R.K (R.cls c))(I:NoAttr R.K (R.cls c) f)(h:Q0 R tb i L):Q0 R (jb6 R.K tb f) i (Vm c f L):=by
 intro σ ρ Z H O d x k s hd e;refine ob e λ⟨y,k0⟩ J e=>ob e λ⟨M,ns,l⟩ e3 e=>oc e λN e=>ob e λj Q e=>ob e λx0 e2 e=>?_;cases e;cases Jk e3;obtain rfl:M=c:=by simpa using N
 obtain⟨v,A,P,B,rfl,r,S,T⟩:=h s hd J;rw[Rep] at r;obtain⟨a,t,U,O',rfl,w,n,z,rfl⟩:=r;obtain⟨u,V,W,X,C,rfl,Y,o⟩:=w.at e2;refine⟨u,A++(a::V),W,X++B,by simp,Y,λq=>S ⟨a,_,t,_,u,rfl,z,G,I,wb Q (by rw[w.length];exact n) C,q⟩,λ{Z' H' x' P''} r' D E p F=>?_⟩;have g:=o r' D E (λb m=>p b (by simp[m])) (λb m=>F b (by simp[m]));rw[yZ C] at g;have s2:=T (ow_ins.mpr ⟨a,t,U,_,rfl,g,by rw[List.length_set];exact n,(p a (by simp)).trans z,rfl⟩) D E (λb m=>p b (by simp[m])) (λb m=>F b (by simp[m]));simpa using s2
def lIx(j:Int)(L:Ln):Ln:=λd=>(L d).bind λy=>match y.1 with
 | .tup l=>(ixN l.length j).bind λn=>(l[n]?).bind λx=>some (x,λx'=>y.2 (.tup (l.set n x')))
 | .lst true l=>(ixN l.length j).bind λn=>(l[n]?).bind λx=>some (x,λx'=>y.2 (.lst true (l.set n x')))
 | _=>none
theorem jj5(X:∀{σ:L2.St}{H:Hp}{Q:VK},Q (.int j) H->tj σ H Q)(h:Q0 R tb i L):Q0 R (tOp (rIx R.K) tb tj) i (lIx j L):=by
 intro σ ρ Z H O d x k s hd e;unfold lIx at e;refine ob e λy Y e=>?_;obtain⟨y,k0⟩:=y;dsimp only at e;split at e
 ·rename_i l;refine ob e λn G e=>ob e λx0 e2 e=>?_;cases e;obtain⟨v,A,P,B,rfl,r,I,J⟩:=h s hd Y;rw[Rep] at r;obtain⟨a,w,rfl,ft,z⟩:=r;obtain⟨u,C,M,D,E,rfl,N,g⟩:=z.at e2;refine⟨u,A++C,M,D++B,by simp,N,λq=>I (X (.inr (.inl ⟨a,w,j,u,rfl,rfl,ft.sq,jd4 (by rw[z.length];exact G) E,q⟩))),λ{S T U m} V o p t F=>?_⟩;have c:=g V o p (λb f=>t b (by simp[f])) (λb f=>F b (by simp[f]));rw[yZ E] at c;have rt:Rep R S T (.tup (l.set n U)) (.ref a) (C++m++D):=by
   rw[Rep];exact⟨a,w,rfl,ft.frame o p,c⟩
  have W:=J rt o p (λb f=>t b (by simp[f])) (λb f=>F b (by simp[f]));simpa using W
 ·rename_i l;refine ob e λn G e=>ob e λx0 e2 e=>?_;cases e;obtain⟨v,A,P,B,rfl,r,I,J⟩:=h s hd Y;rw[Rep] at r;obtain⟨a,w,O',rfl,z,ea,rfl⟩:=r;obtain⟨u,C,M,D,E,rfl,N,g⟩:=z.at e2;refine⟨u,A++(a::C),M,D++B,by simp,N,λq=>I (X (.inl ⟨a,w,j,u,rfl,rfl,SqL.of ea,jd4 (by rw[z.length];exact G) E,q⟩)),λ{S T U m} V o p t F=>?_⟩;have c:=g V o p (λb f=>t b (by simp[f])) (λb f=>F b (by simp[f]));rw[yZ E] at c;have rt:Rep R S T (.lst true (l.set n U)) (.ref a) (a::(C++m++D)):=by
   rw[Rep];exact⟨a,w,_,rfl,c,(t a (by simp)).trans ea,rfl⟩
  have W:=J rt o p (λb f=>t b (by simp[f])) (λb f=>F b (by simp[f]));simpa using W
 ·cases e
structure QL(cl:Nat->Addr)(X:Cx)(e:Expr)(tb:TE)(i:Nat)(L:Ln):Prop where
 sem:PE X e tb
 den:Q0 ⟨X.K,cl⟩ tb i L
section
variable {cl:Nat->Addr}{pm:List Nat}{X:Cx}{o e j:Expr}{es:List Expr}{to te tb tj:TE}{po pe pj:PF}{tr:TA}{pr:PAf}{pos p apos:Pos}{L L':Ln}{i:Nat}
theorem jiC{k n c:Nat}{ps:List Str}{m:List D->Option D}{mn qual:Str}{st:Stmt}{pl:Sem Bool}(i:Cls X.K (cl c))(O:OkM X.prog X.w X.K X.mg (cl c) mn qual st k ps (spP ⟨X.K,cl⟩ m n))(j:Room k X.A)(g:QB cl X o to po)(a:QBs cl X (e::es) tr pr)(l:(e::es).length+1=n:=by rfl)
  (b:starEach (e::es) X.env=(false,eval e X.env)::starEach es X.env:=by rfl) (d:(backTo pos (starEach es X.env)).any (·.1)=false:=by rfl)
  (p:eval (.Call (.Attribute o mn apos) (e::es) [] pos) X.env=(do
   let ov <- eval o X.env
   standAt apos.atName
   let (f,first) <- holding [ov] (getMethod ov mn pl)
   callWith pos f first (backTo pos (starEach (e::es) X.env)) (backToKw pos (keywordEach [] X.env))):=by rfl) :
  QP cl X (.Call (.Attribute o mn apos) (e::es) [] pos) (jav (cl c) mn (spP ⟨X.K,cl⟩ m n) [] E0 to tr) (JF m c mn po pr):=by
 obtain⟨_,_,F,G⟩:=O;exact⟨jau g.sem i F.mt (G _) j F.bd .nil jdo a.sem b d p,jgr (R:=⟨X.K,cl⟩) g.den a.den λρ q h=>by rw[a.n ρ q h];exact l⟩
theorem jhm{x:Str}(a:QB cl X (.Name x p) (kX i) (pV i)):QL cl X (.Name x p) (kX i) i jS:=⟨a.sem,KU⟩
theorem jix{c:Nat}{f:Str}(a:Cls X.K (cl c))(b:NoAttr X.K (cl c) f)(h:QL cl X o tb i L)(d:attributeBase o f X.env (eval o X.env)=eval o X.env:=by rfl):QL cl X (.Attribute o f pos) (jb6 X.K tb f) i (Vm c f L) :=
 ⟨xv h.sem d,jiO (R:=⟨X.K,cl⟩) a b h.den⟩
theorem jjY{z:Int}{j2}{a:Pos}(h:QL cl X o tb i L)(b:Kx (.Constant (.int z) j2 a):=by exact λ_ _=>rfl):QL cl X (.Subscript o (.Constant (.int z) j2 a) pos) (tOp (rIx X.K) tb (tC (.int z))) i (lIx z L) :=
 ⟨jjB jd9 h.sem jdS b,jj5 (R:=⟨X.K,cl⟩) (λq=>q) h.den⟩
theorem jgc{cpos:Pos}(f:QL cl X o tb i L)(h:QP cl X e te pe)(b:attributeBase o "append" X.env (eval o X.env)=eval o X.env:=by rfl)
  (d:((backTo cpos (starEach [e] X.env)).all (λx=>!x.1)&&(backToKw cpos (keywordEach [] X.env)).all (λx=>x.1.isSome)
   && decide ([e].length+([]:List Keyword).length+(if([]:List Keyword).isEmpty then 0 else 1) < 30))=true:=by rfl)
  (c:(apos.endLine==cpos.line)=true:=by rfl) (g:starEach [e] X.env=(false,eval e X.env)::starEach [] X.env:=by rfl) (a:(backTo cpos (starEach [] X.env)).any (·.1)=false:=by rfl)
  (hsw:swapsWith (.Call (.Attribute o "append" apos) [e] [] cpos) none pos.line X.env=pure false:=by rfl) :
  QS cl pm X (.Expr (.Call (.Attribute o "append" apos) [e] [] cpos) pos) (Yr (tBM X.K "list" qV tb (j9 te Ye))) (yp i L pe) :=
 ⟨Vf (jbd PySem.F.plainAttrs_list PySem.F.slot_list_append PySem.F.type_list_append Jn f.sem (ya h.sem kF g) b d c g a) hsw,uI (R:=⟨X.K,cl⟩) f.den h.den⟩
end
def jlX(R:RC)(tk:TE)(pk:Rh->Option (List KA)):Prop:=∀{σ:L2.St}{ρ:Rh}{Z:Zn}{H:Hp}{O:List Addr}{k:List KA},Zd Z H->Slots R Z H ρ σ O->pk ρ=some k ->
 ∀{Q:VK},(∀{p:Addr}{Z':Zn}{H':Hp},Go Z H [] Z' H' []->Z' p->H' p=some (.tup ((k.map kaV).map kV))->Q (.ref p) H')->tk σ H Q
structure QK3(cl:Nat->Addr)(X:Cx)(e:Expr)(tk:TE)(pk:Rh->Option (List KA)):Prop where
 sem:PE X e tk
 den:jlX ⟨X.K,cl⟩ tk pk
section
variable {R:RC}{Z Z' Z2:Zn}{H H' H2:Hp}{pm:List Nat}
theorem jbf(rd:Rep R Z H d v P)(a:KA)  (r:Reps R Z H l vs O) (b:ks.length=l.length) (c:a∉ks) :
  Reps R Z H (v8 ks l a d).2 (vs++[v]) (O++P)/\(((v8 ks l a d).1).map kaV).zip (vs++[v])=vV ((ks.map kaV).zip vs) (kaV a) v/\(v8 ks l a d).1.length=(v8 ks l a d).2.length:=by
 have e:ks.length=vs.length:=by rw[r.length];exact b
 unfold v8 vV;rw[Kp a e,if_neg c,X5 c,if_neg (λz=>(nomatch z))];refine⟨r.append (Reps.one rd),?_,by simp[b]⟩;rw[N4,List.zip_append (by simpa using e)];rfl
def jQ(i:Nat)(L:Ln)(pk pv:PF)(ρ:Rh):Option Out:=(pv ρ).bind λd=>(pV i ρ).bind λt=>(L t).bind λy=>(jc4 y.1).bind λkl=>(pk ρ).bind λq=>(vg q).bind λa=>bif lim kl.1.length&&(frz d||!decide (a∈kl.1)) then some (.nx (ρ.set i (some (y.2 (.dK true (v8 kl.1 kl.2 a d).1 (v8 kl.1 kl.2 a d).2))))) else none
theorem jcp{i:Nat}{L:Ln}{tb ty tv:TE}{pk pv:PF}(E:Q0 R tb i L)(F:PB R ty pk)(G:PP R tv pv):DS R pm (jeD tb ty tv) (jQ i L pk pv):=by
 intro σ ρ Z H O o w s e D' k;refine ob e λd I e=>ob e λt hi e=>ob e λ⟨y,k0⟩ e3 e=>ob e λ⟨g,l⟩ J e=>ob e λq K e=>ob e λc e5 e=>oc e λA e=>?_;cases e;cases zg J;rw[L9] at A;refine G w.zd s I λ{u Z1 H1 M} h C=>?_;have s1:=h.slots w.zd s;have D:=h.widen w;refine Y6 E D.wf s1 hi e3 ow_dK λa _ N P Q j S T put=>T (F h.wf.zd s1 K λ{z U V P2} x W=>?_);obtain⟨rfl,_⟩:=yH e5 W;have m:=x.rep h.wf.zd C;have n:=x.reps h.wf.zd Q;have B:∃ b p,Reps R U V (v8 g l c d).2 b p/\(((v8 g l c d).1).map kaV).zip b=vV ((g.map kaV).zip N) (kaV c) u/\(∀ q,p.count q<=P.count q+M.count q)/\(v8 g l c d).1.length=(v8 g l c d).2.length:=by
  cases hf:frz d with
  | true =>
   cases C.nil hf;obtain⟨b,p,r,v,X,f⟩:=V3 m c n j;exact⟨b,p,r,v,λq=>by simpa using X.count_le q,f⟩
  | false =>
   have Y:c∉g:=by
    have:=A.2;rw[hf] at this;simpa using this
   obtain⟨r,v,f⟩:=jbf m c n j Y;exact⟨_,_,r,v,λq=>by rw[U7];exact M8 _,f⟩
 obtain⟨b,p,r,v,cn,f⟩:=B;obtain⟨O3,g3,s3⟩:=put ow_dK f x r λq=>by simpa using cn q
 refine⟨a,_,rfl,DPut.k (x.at0 S) (jbl A.1),?_⟩;rw[<- v];exact k (D.trans g3) s3 (Keep.refl _ _)
def JW(i:Nat)(L:Ln)(c:Nat)(f:Str)(g:Int->Int->Int)(pv:PF)(ρ:Rh):Option Out:=(pV i ρ).bind λt=>(L t).bind λy=>(Qe y.1).bind λq=>(J6 q.2.1 q.2.2 f).bind λm=>(vx m).bind λm=>(pv ρ).bind λn=>(vx n).bind λn =>
 bif q.1==c&&decide (q.2.1.length<=900) then some (.nx (ρ.set i (some (y.2 (.ins true c (qB q.2.1 q.2.2 f (.int (g m n))).1 (qB q.2.1 q.2.2 f (.int (g m n))).2))))) else none
theorem jdJ{i c:Nat}{f:Str}{L:Ln}{tb tv:TE}{pv:PF}{g:Int->Int->Int}{rd:V->V->Hp->VK->Prop}(d:∀{m n:Int}{H:Hp}{Q:VK},Q (.int (g m n)) H->rd (.int m) (.int n) H Q)(C:Cls R.K (R.cls c))(D:NoAttr R.K (R.cls c) f)(E:Q0 R tb i L)(F:PB R tv pv):DS R pm (zB R.K tb tv rd f) (JW i L c f g pv):=by
 intro σ ρ Z H O o w s e D' k;refine ob e λt hi e=>ob e λ⟨y,k0⟩ e3 e=>ob e λ⟨G,ns,l⟩ I e=>ob e λx J e=>ob e λm M e=>ob e λx' N e=>ob e λn e2 e=>oc e λh e=>?_;cases e;cases Jk I;cases jY M;cases jY e2;rw[L9] at h;obtain rfl:G=c:=by simpa using h.1
 refine Y6 (P0:=[]) E w s hi e3 ow_ins λa z vs O' A b B P put=>?_;obtain⟨mv,P3,j,p⟩:=zT A b J;obtain⟨rfl,_⟩:=p.int_of;refine P ⟨a,_,z,_,_,rfl,B,C,D,j,F w.zd s N λ{u Z2 H2 P4} r S=>?_⟩;obtain⟨rfl,_⟩:=S.int_of;obtain⟨T,O2,U,W,v,X⟩:=Ve (f:=f) (Rep.int_mk (i:=g m n)) (r.reps w.zd A) b;obtain⟨O3,g3,Y⟩:=put ow_ins v r U λq=>by simpa using X q
 refine d ⟨z,_,r.at0 B,jbA h.2,?_⟩;rw[<- W];exact k g3 Y (Keep.refl _ _)
end
section
variable {cl:Nat->Addr}{pm:List Nat}{X:Cx}{o b e:Expr}{to tb te:TE}{po pb pe:PF}{pos p fp tpos:Pos}{k i:Nat}{L:Ln}
theorem jdy(f:Room k X.A)(a:QL cl X o to i L)(c:QB cl X b tb pb)(d:QP cl X e te pe)(g:swapsWith e (some (.Subscript o b pos')) pos.line X.env=pure false:=by rfl) :
  QS cl pm X (.Assign [.Subscript o b pos'] e pos) (jeD to tb te) (jQ i L pb pe):=⟨jfF (wy f) a.sem c.sem d.sem g,jcp (R:=⟨X.K,cl⟩) a.den c.den d.den⟩
theorem jbZ(f:Room k X.A)(a:QL cl X o to i L)(c:QB cl X b tb pb)(d:QB cl X e te pe)
  (g:∀ ov iv new,augStore b ov iv new=(do holding [new,ov,iv] (setItem ov iv new);release [new,ov,iv] [];pure .next):=by intro _ _ _;rfl) :
  QS cl pm X (.AugAssign (.Subscript o b tpos) .Sub e pos) (jgD to tb te jkS) (qH i L pb (λm n=>m - n) pe):=⟨jgv (wy f) a.sem c.sem d.sem jee g,jdl (R:=⟨X.K,cl⟩) (λq=>⟨_,_,rfl,rfl,q⟩) a.den c.den d.den⟩
theorem jaA{c:Nat}{f:Str}(d:Cls X.K (cl c))(g:NoAttr X.K (cl c) f)(a:QL cl X o to i L)(b:QB cl X e te pe) :
  QS cl pm X (.AugAssign (.Attribute o f tpos) .Sub e pos) (zB X.K to te jkS f) (JW i L c f (λm n=>m - n) pe):=⟨ja6 a.sem b.sem jee,jdJ (R:=⟨X.K,cl⟩) (λq=>⟨_,_,rfl,rfl,q⟩) d g a.den b.den⟩
end
namespace QK
theorem fld{K:PySem.W.Frag}{cl:Nat->Addr}{X:Cx}{o:Expr}{to:TE}{po:PF}{pos:Pos}{c:Nat}{f:Str}(a:X.K=K)(b:Cls X.K (cl c))(d:NoAttr X.K (cl c) f)(e:QB cl X o to po)(g:attributeBase o f X.env (eval o X.env)=eval o X.env:=by rfl):QB cl X (.Attribute o f pos) (jb6 K to f) (VG c f po):=by subst a;exact ji5 b d e g
end QK
section
variable {R:RC}{Z Z':Zn}{H H':Hp}{pm:List Nat}
def yw(m:List D->Option (D×D))(i:Nat)(L:Ln)(p:PAf)(ρ:Rh):Option (D×Rh):=(pV i ρ).bind λt=>(L t).bind λy=>(p ρ).bind λds=>bif frzs ds then(m (y.1::ds)).bind λr=>some (r.1,ρ.set i (some (y.2 r.2))) else none
theorem uV(x:Q0 R tb i L)(C:PPs R tr p)(D:∀ ρ ds,p ρ=some ds->ds.length+1=n):DE R (wA (spM R m n 0) [] E0 (j9 tb tr)) (yw m i L p):=by
 intro σ ρ V Z H O d w s e Q k;refine ob e λt hi e=>ob e λ⟨y,k0⟩ e3 e=>ob e λds l e=>oc e λE e=>ob e λ⟨F,G⟩ e2 e=>?_;cases e;obtain⟨v,A,P,B,rfl,r,I,J⟩:=x s (JN hi) e3;refine I ?_;refine C w.zd s l λ{K g o W} b q=>?_;cases q.nil E;have c:Go Z H (A++P++B) g o (A++P++B):=by simpa using b.widen w
 have M:=b.rep w.zd r;have N:Reps R g o (y::ds) (v::K) P:=by
  have:=Reps.cons M q;simpa using this
 refine⟨g,y::ds,F,G,P,v,c.wf.mid,by have:=D ρ ds l;simpa using this,by rw[M9];exact N,rfl,e2,λ{X Y H2 S O2} f T j=>?_⟩;have g3:=f.frame c.wf;have u:=Go.keepA c.wf f;have U:=J j (λa z=>f.zz a (b.zz a z)) (λa z=>(f.zH c.wf.mid a (b.zz a z)).trans (b.same a (w.zd a z))) (λa h=>(u.1 a h).trans (b.same a (w.od a (by simp[h])))) (λa h=>(u.2 a h).trans (b.same a (w.od a (by simp[h]))));exact k (P:=S) (c.trans g3).turn T U
end
section
variable {cl:Nat->Addr}{pm:List Nat}{X:Cx}{o e:Expr}{es:List Expr}{to te:TE}{po pe:PF}{tr:TA}{pr:PAf}{pos p:Pos}{i:Nat}{L:Ln}
theorem jdH{k n:Nat}{ps:List Str}{m:List D->Option (D×D)}{x:Str}{st:Stmt}(O:OkF X.prog X.w X.K X.mg x st k ps (spM ⟨X.K,cl⟩ m n 0))(f:Room k X.A)
  (c:QL cl X o to i L) (d:QPs cl X es tr pr) (g:∀ ρ ds,pr ρ=some ds->ds.length+1=n) (h:Gl X x:=by rfl) (a:(x==("__debug__" : Str))=false:=by decide)
  (e:starEach (o::es) X.env=(false,eval o X.env)::starEach es X.env:=by rfl) (b:(backTo pos (starEach es X.env)).any (·.1)=false:=by rfl):QE cl X (.Call (.Name x p) (o::es) [] pos) (wA (spM ⟨X.K,cl⟩ m n 0) [] E0 (j9 to tr)) (yw m i L pr):=by
 obtain⟨_,_,F,G⟩:=O;exact⟨jjK F (G _) f (ya c.sem d.sem e) h a e b,uV (R:=⟨X.K,cl⟩) c.den d.den g⟩
theorem jcu(e:Room k X.A)(c:QB cl X a ta pa)(d:QB cl X b tb pb)(f:behindInMarks .NotIn b=false:=by with_unfolding_all rfl):QP cl X (.Compare a [.NotIn] [b] pos) (V9 ta tb) (p2 (Q2 true) pa pb) :=
 ⟨jjE (jaB (wy e) c.sem d.sem) f,jab c.den d.den⟩
end
section
variable {R:RC}{Z Z':Zn}{H H':Hp}{pm:List Nat}
def Kr(K:PySem.W.Frag):List V->Hp->VK->Prop:=(λxs H Q=>∃(p:Addr) (ys:List V) (ps:List (List Key×Addr×V)),xs=[.ref p]/\SqL K H p ys/\ys.length=ps.length/\ps.length<=100000 /\
  (∀(j:Nat) (y:V),ys[j]?=some y->∃ kv t,ps[j]?=some kv/\y=.ref t/\SqT K H t [.ref kv.2.1,kv.2.2]/\H kv.2.1=some (.tup (kv.1.map kV)))/\∀ D,H D=none->Q (.ref D) (upd H D (.dT (ps.foldl (λa kv=>vV a kv.1 kv.2.2) []))))
def PK(R:RC)(te:TE)(pk:Rh->Option (List KA))(pv:PF):Prop:=∀{σ:L2.St}{ρ:Rh}{Z:Zn}{H:Hp}{O:List Addr}{c:List KA}{d:D},Zd Z H->Slots R Z H ρ σ O->pk ρ=some c->pv ρ=some d->frz d=true ->
 ∀{Q:VK},(∀{t b:Addr}{u:V}{Z':Zn}{H':Hp},Go Z H [] Z' H' []->Z' t->Z' b->H' t=some (.tup [.ref b,u])->H' b=some (.tup ((c.map kaV).map kV))->Rep R Z' H' d u []->Q (.ref t) H')->te σ H Q
theorem jkY{ta tb tv:TE}{pa pb pv:PF}(q:PB R ta pa)(r:PB R tb pb)(v:PB R tv pv):PK R (xR (j9 (jky ta tb) (j9 tv Ye))) (jcW pa pb) pv:=by
 intro σ ρ Z H O c d z s w e2 x Q k;unfold xR j9;refine jcQ q r z s w λ{b A B} j y m=>?_;refine v j.wf.zd (j.slots z s) e2 λ{u n i C} f o=>?_;cases o.nil x;refine⟨by show 2<=sizeLine;decide,λt p=>?_⟩;have l:=j.trans f;have g:i b=some (.tup ((c.map kaV).map kV)):=by rw[f.same b (by rw[m];exact λz=>(nomatch z))];exact m
 have gN:Go n i [] (λa=>n a \/ a=t) (upd i t (.tup [.ref b,u])) []:=Go.newF (wf0 f.wf.zd) p;have ne:∀ a,i a≠none->a≠t:=λa h e=>h (e▸p);refine k (l.trans gN) (.inr rfl) (.inl (f.zz b y)) jr ?_ (gN.rep f.wf.zd o);rw[jf (ne b (by rw[g];exact λz=>(nomatch z)))];exact g
def K1(g:D->Rh->Option Rh)(q:PTf)(pk:Rh->Option (List KA))(pv:PF):List D->Rh->Option (List (List KA×D))
 | [],_=>some []
 | x::xs,ρ=>(g x ρ).bind λρ1=>(q ρ1).bind λb=>bif b then(pk ρ1).bind λc=>(pv ρ1).bind λd=>bif frz d then(K1 g q pk pv xs ρ1).bind λr=>some ((c,d)::r) else none else K1 g q pk pv xs ρ1
def je6(ps:List (List KA×D)):List (List KA)×List D:=ps.foldl (λacc kv=>K5 acc.1 acc.2 kv.1 kv.2) ([],[])
@[simp] def wg(pi:PAf)(g:D->Rh->Option Rh)(q:PTf)(pk:Rh->Option (List KA))(pv:PF)(ix:List (Option Nat))(ρ:Rh):Option D:=(pi ρ).bind λxs=>bif lim xs.length then(K1 g q pk pv xs (jw ix ρ)).bind λall=>some (.dT true (je6 all).1 (je6 all).2) else none
structure KvAt(R:RC)(Z:Zn)(H:Hp)(ys:List (List KA×D))(vs:List V)(ps:List (List Key×Addr×V)):Prop where
 l:vs.length=ps.length
 i:∀(j:Nat) (v:V),vs[j]?=some v->∃ kv t,ps[j]?=some kv/\v=.ref t/\H t=some (.tup [.ref kv.2.1,kv.2.2])/\H kv.2.1=some (.tup (kv.1.map kV))
 k:ps.map (·.1)=ys.map λy=>y.1.map kaV
 r:Reps R Z H (ys.map (·.2)) (ps.map (·.2.2)) []
theorem KvAt.mono(h:KvAt R Z H ys vs ps)(zz:∀ a,Z a->Z' a)(e:∀ a,Z a->H' a=H a)(th:∀ a xs,H a=some (.tup xs)->H' a=some (.tup xs)):KvAt R Z' H' ys vs ps :=
 ⟨h.l,λj v f=>by obtain⟨g,t,a,b,c,d⟩:=h.i j v f;exact⟨g,t,a,b,th _ _ c,th _ _ d⟩,h.k,h.r.frame zz e λa m=>(nomatch m)⟩
theorem KvAt.snoc(h:KvAt R Z H ys vs ps)  (m:H t=some (.tup [.ref b,u])) (n:H b=some (.tup ((c.map kaV).map kV))) (r:Rep R Z H d u []) :
  KvAt R Z H (ys++[(c,d)]) (vs++[.ref t]) (ps++[(c.map kaV,b,u)]):=by
 refine⟨by simp[h.l],λj v e=>?_,by simp[h.k],?_⟩
 ·by_cases g:j < vs.length
  ·rw[List.getElem?_append_left g] at e;obtain⟨o,p,a,b',q,s⟩:=h.i j v e;exact⟨o,p,by rw[List.getElem?_append_left (by rw[<- h.l];exact g)];exact a,b',q,s⟩
  ·have f:=(L8.mp e).1;have:j=vs.length:=by simp at f;lia
   subst this;rw[List.getElem?_concat_length] at e;cases e;exact⟨(c.map kaV,b,u),t,by rw[h.l,List.getElem?_concat_length],rfl,m,n⟩
 ·rw[N4,N4];have:=h.r.append (Reps.one r);simpa using this
inductive CpK (R:RC) (g:D->Rh->Option Rh) (q:PTf) (pk:Rh->Option (List KA)) (pv:PF) (Z0:Zn) (H0:Hp) (a:Addr) (xs:List D) (all:List (List KA×D)) (i m:Nat) (σ2:L2.St) (H2:Hp):Prop
 | mk:m=xs.length - i->i<=xs.length->∀(ρ2:Rh) (Z2:Zn) (O2:List Addr) (ys:List (List KA×D)) (vs:List V) (ps:List (List Key×Addr×V)) (rest:List (List KA×D)),Go Z0 H0 [] Z2 H2 [a]->H2 a=some (.lst vs)->KvAt R Z2 H2 ys vs ps->(∀ b∈O2,b≠a)->Slots R Z2 H2 ρ2 σ2 O2->K1 g q pk pv (xs.drop i) ρ2=some rest->all=ys++rest->ys.length<=i->CpK R g q pk pv Z0 H0 a xs all i m σ2 H2
theorem ur{tg:TG}{tc:TT}{te:TE}{g:D->Rh->Option Rh}{q:PTf}{pk:Rh->Option (List KA)}{pv:PF}{ix:List (Option Nat)}(hg:PGt R [] tg g)(hq:PTt R tc q)(he:PK R te pk pv)
  {J:It}{w:Zn}{o:Hp}{ρ:Rh}{σ:L2.St}{O:List Addr}{xs:List D}{all:List (List KA×D)}(I:Zd w o) (s:Slots R w o ρ σ O) (it:ItB R J w o xs) (hl:lim xs.length=true) (e2:K1 g q pk pv xs (jw ix ρ)=some all)
  {Q:VK}(k:∀{a:Addr}{Z':Zn}{H':Hp}{vs:List V}{ps:List (List Key×Addr×V)},Go w o [] Z' H' [a]->H' a=some (.lst vs)->KvAt R Z' H' all vs ps->all.length<=xs.length->Q (.ref a) H'):∀ a,o a=none->xE tc te tg J a (yO ix σ) (upd o a (.lst [])) λH2=>Q (.ref a) H2:=by
 intro a ha;obtain⟨Oi,si⟩:=qZ s ix;have gp:Go w o [] w (upd o a (.lst [])) [a]:=Go.newO (wf0 I) ha;refine⟨CpK R g q pk pv w o a xs all,
  ⟨xs.length,rfl,U4 _,_,w,Oi,[],[],[],all,gp,jr,⟨rfl,λj v hv=>by simp at hv,rfl,Reps.empty⟩,λb y e=>si.dom b y (e▸ha),gp.slots I si,e2,rfl,M8 _⟩,?_⟩
 rintro i m σ2 H2 ⟨rfl,Y,ρ2,Z2,O2,T,vs,ps,rest,p,K,L,Z,s2,e3,U,E⟩;have M:=it (Z1:=Z2) (H1:=H2) p.zz (λb z=>p.same b z) p.wf.zd i;by_cases F:i < xs.length
 ·right
  have H:xs[i]?=some xs[i]:=by simp[F]
  obtain⟨go,yl⟩:=M.2 _ H;refine⟨go,λu H3 hy=>?_⟩;obtain⟨Z3,g3,r3⟩:=yl u H3 hy;rw[kh H] at e3;unfold K1 at e3;refine ob e3 λρ3 e5 e3=>?_;refine hg r3 (g3.slots p.wf.zd s2) e5 λ{σ4 O4} sub nd W _=>?_;refine ob e3 λb e6 e3=>?_;refine hq g3.wf.zd W e6 λ{Z5 H5} N=>?_;have h:=g3.pair N;cases b with
  | true =>
   refine jg4 ?_;rw[cond_true] at e3;refine ob e3 λc e7 e3=>ob e3 λd e8 e3=>oc e3 λhf e3=>ob e3 λys2 e9 e3=>?_;cases e3;refine he N.wf.zd (N.slots g3.wf.zd W) e7 e8 hf λ{t b u G C} g6 zt zb et eb r6=>?_;have r:Go Z2 H2 [] G C []:=by simpa using h.pair g6
   have P:C a=some (.lst vs):=by rw[r.same a (by rw[K];exact λz=>(nomatch z))];exact K
   have ry6:KvAt R G C T vs ps:=L.mono r.zz (λx H=>r.same x (p.wf.zd x H)) λx zs ex=>by rw[r.same x (by rw[ex];exact λz=>(nomatch z))];exact ex
   have hvl:vs.length < sizeLine:=by
    have h1:=congrArg List.length L.k;rw[L0,L0] at h1;rw[L.l,h1];exact Qv (n:=T.length) (X4 (N6 E (N6 Y (X6 hl))))
   have X:Go w o [] G C [a]:=by
    have f:=r.frame (A:=[a]) (B:=[]) (by simpa using p.wf);exact p.trans (by simpa using f)
   have w6:=X.wf;have gB:Go G C [a] G (upd C a (.lst (vs++[.ref t]))) [a]:=Go.put w6 L6;have S:∀ b,G b->upd C a (.lst (vs++[.ref t])) b=C b:=λb y=>jf λz=>w6.nz a L6 (z▸y);refine⟨vs,P,hvl,xs.length - (i+1),by lia,rfl,F,ρ3,G,O4,T++[(c,d)],vs++[.ref t],ps++[(c.map kaV,b,u)],ys2,X.trans gB,jr,?_,λb y=>Z b (sub b y),?_,e9,by rw[U];simp,by rw[N3];exact Nat.add_le_add_right E 1⟩
   ·exact(ry6.snoc et eb r6).mono (λ_ z=>z) S λx zs ex=>by rw[jf (λz=>by rw[z,P] at ex;cases ex)];exact ex
   ·exact((N.pair g6).slots g3.wf.zd W).frame (λb z=>z) S λb y=>jf (Z b (sub b y))
  | false =>
   refine jg3 ?_;rw[cond_false] at e3;have X:Go w o [] Z5 H5 [a]:=by
    have f:=h.frame (A:=[a]) (B:=[]) (by simpa using p.wf);exact p.trans (by simpa using f)
   exact⟨xs.length - (i+1),by lia,rfl,F,ρ3,Z5,O4,T,vs,ps,rest,X,by rw[h.same a (by rw[K];exact λz=>(nomatch z))];exact K,L.mono h.zz (λx H=>h.same x (p.wf.zd x H)) (λx zs ex=>by rw[h.same x (by rw[ex];exact λz=>(nomatch z))];exact ex),λb y=>Z b (sub b y),N.slots g3.wf.zd W,e3,U,Nat.le_succ_of_le E⟩
 ·left
  have hi2:i=xs.length:=by lia
  refine⟨M.1 (by lia),?_⟩;rw[hi2,List.drop_length] at e3;cases e3;rw[M9] at U;subst U;exact k p K L (by lia)
theorem QX:∀{ps:List (List KA×D)}{ws:List (List Key×Addr×V)}{ks:List (List KA)}{l:List D}{us:List V},ws.map (·.1)=ps.map (λy=>y.1.map kaV)->Reps R Z H (ps.map (·.2)) (ws.map (·.2.2)) []->Reps R Z H l us []->ks.length=l.length ->
  ∃ us',Reps R Z H (ps.foldl (λacc kv=>K5 acc.1 acc.2 kv.1 kv.2) (ks,l)).2 us' []/\(((ps.foldl (λacc kv=>K5 acc.1 acc.2 kv.1 kv.2) (ks,l)).1).map (List.map kaV)).zip us'=(ws.foldl (λa kv=>vV a kv.1 kv.2.2) ((ks.map (List.map kaV)).zip us)) /\
   (ps.foldl (λacc kv=>K5 acc.1 acc.2 kv.1 kv.2) (ks,l)).1.length=(ps.foldl (λacc kv=>K5 acc.1 acc.2 kv.1 kv.2) (ks,l)).2.length
 | [],[],ks,l,us,_,_,r,c=>⟨us,r,by simp,c⟩
 | [],w::ws,ks,l,us,h,_,_,_=>by simp at h
 | p::ps,[],ks,l,us,h,_,_,_=>by simp at h
 | p::ps,w::ws,ks,l,us,j,b,r,c=>by
  rw[L4,L4,Reps] at b;obtain⟨v,k,A,B,m,e,n,o⟩:=b;obtain⟨rfl,rfl⟩:=List.append_eq_nil_iff.mp e.symm;obtain⟨rfl,rfl⟩:=List.cons.inj m;rw[L4,L4] at j;obtain⟨d,f⟩:=List.cons.inj j;obtain⟨q,s,t,e3,u,g⟩:=jc9 n p.1 r c;have:s=[]:=List.sublist_nil.mp u;subst this;obtain⟨us',x,z,i⟩:=QX (ps:=ps) f o t g;refine⟨us',x,?_,i⟩;rw[U9,U9,z,e3,d]
theorem jdw{wi:TI}{tg:TG}{tc:TT}{te:TE}{pi:PAf}{g:D->Rh->Option Rh}{q:PTf}{pk:Rh->Option (List KA)}{pv:PF}{ix:List (Option Nat)}(hi:jhA R wi pi)(G:PGt R [] tg g)(I:PTt R tc q)(L:PK R te pk pv) :
  PP R (tCB (Kr R.K) (j9 (xh wi tg tc te ix) Ye)) (wg pi g q pk pv ix):=by
 intro σ ρ Z H O d z s e Q k;rw[wg] at e;refine ob e λxs M e=>oc e λE e=>ob e λall e2 e=>?_;cases e;unfold tCB j9;refine hi z s M λ{J N P} m S=>?_;refine ur (Q:=λv f=>Kr R.K [v] f Q) G I L m.wf.zd (m.slots z s) S E e2 λ{a T f U n} o V c p=>?_;obtain⟨u,W,X,A⟩:=QX (ps:=all) (ks:=[]) (l:=[]) (us:=[]) c.k c.r .empty rfl;have B:n.length=all.length:=by have:=congrArg List.length c.k;simpa using this
 refine⟨a,U,n,rfl,SqL.of V,c.l,?_,λj y Y=>?_,λD F=>?_⟩
 ·rw[B];exact N6 p (X6 E)
 ·obtain⟨w,t,e5,e6,e7,e8⟩:=c.i j y Y;exact⟨w,t,e5,e6,SqT.of e7,e8⟩
 ·have C:Go N P [] T f []:=o.drop (λ_ h=>(nomatch h)) List.nodup_nil;refine k ((m.trans C).trans (Go.newO (wf0 o.wf.zd) F)) ?_;have ne:∀ b,f b≠none->b≠D:=λb h e=>h (e▸F);rw[Rep];refine⟨D,u,[],rfl,W.frame (λa z=>z) (λb h=>jf (ne b (o.wf.zd b h))) (λa h=>(nomatch h)),A,?_,rfl⟩;rw[jr];exact congrArg (λx=>some (HO.dT x)) X.symm
end
section
variable {cl:Nat->Addr}{pm:List Nat}{X:Cx}{tg iter elt:Expr}{ifs:List Expr}{wi:TI}{pi:PAf}{t:TG}{g:D->Rh->Option Rh}{te:TE}{pk:Rh->Option (List KA)}{pv:PF}{pos cpos p:Pos}
structure QKv(cl:Nat->Addr)(X:Cx)(e:Expr)(te:TE)(pk:Rh->Option (List KA))(pv:PF):Prop where
 sem:PE X e te
 den:PK ⟨X.K,cl⟩ te pk pv
theorem qkv{a b v:Expr}{ta tb tv:TE}{pa pb pv:PF}{x1 x2}{p1 p2:Pos}(c:QB cl X a ta pa)(d:QB cl X b tb pb)(e:QB cl X v tv pv)
  (h1:starEach [a,b] X.env=(false,eval a X.env)::starEach [b] X.env:=by rfl) (h2:starEach [b] X.env=(false,eval b X.env)::starEach [] X.env:=by rfl)
  (f:starEach [.Tuple [a,b] x1 p1,v] X.env=(false,eval (.Tuple [a,b] x1 p1) X.env)::starEach [v] X.env:=by rfl) (g:starEach [v] X.env=(false,eval v X.env)::starEach [] X.env:=by rfl) :
  QKv cl X (.Tuple [.Tuple [a,b] x1 p1,v] x2 p2) (xR (j9 (jky ta tb) (j9 tv Ye))) (jcW pa pb) pv :=
 ⟨VB (ya (VB (ya c.sem (ya d.sem kF h2) h1)) (ya e.sem kF g) f),jkY (R:=⟨X.K,cl⟩) c.den d.den e.den⟩
theorem jfC{k:Nat}{scope:Scope}{N':List Str}{ix:List (Option Nat)}{a:TT}{f:PTf}(l:Room k X.A)(m:X.mg "dict" = none)(n:bootBuiltins "dict" = some (.type "dict"))(B:BlockOk X scope N' ix)(h:X.calm=true)(hi:QIb cl X tg iter wi pi)
  (i:∀ C s H fp,QG cl [] (yt X scope N' C s H fp) tg t g) (b:∀ C s H fp,QIf cl (yt X scope N' C s H fp) ifs a f) (j:∀ C s H fp,QKv cl (yt X scope N' C s H fp) elt te pk pv)
  (d:Gl X "dict":=by rfl) (o:∀ x,foldedSetIterable iter X.env x=pure x:=by intro _;rfl)
  (c:starEach [.ListComp elt [⟨tg,iter,ifs,0⟩] scope cpos] X.env=(false,eval (.ListComp elt [⟨tg,iter,ifs,0⟩] scope cpos) X.env)::starEach [] X.env:=by rfl) (e:(backTo pos (starEach [] X.env)).any (·.1)=false:=by rfl) :
  QP cl X (.Call (.Name "dict" p) [.ListComp elt [⟨tg,iter,ifs,0⟩] scope cpos] [] pos) (tCB (Kr X.K) (j9 (xh wi t a te ix) Ye)) (wg pi g f pk pv ix) :=
 ⟨QV (r:=Kr X.K) (zc h (by have:=l.un;lia)) d m n (ya (jal B h hi.sem (λC s H fp=>(i C s H fp).sem) (λC s H fp=>(b C s H fp).sem) (λC s H fp=>(j C s H fp).sem) o) kF c) (by decide) (by decide) c e,
  jdw (R:=⟨X.K,cl⟩) hi.den (i 0 X.s₀ X.H₀ []).den (b 0 X.s₀ X.H₀ []).den (j 0 X.s₀ X.H₀ []).den⟩
end
end QD
namespace L2
open PySem PySem.Spec PyProof.Rows
theorem jbs(h:Vals ys its):Vals (Vn lt ys .non) (Vn lt its Value.none):=by
 have b:=h.length;unfold Vn;rw[<- b];split
 ·exact h
 ·generalize(kEv lt (PySem.W.kas_sort ys.length)).toList=l;have get:∀(ys:List V) (its:List Value),Vals ys its->∀ i,RelV (ys.getD i .non) (its.getD i Value.none):=by
   intro ys its h
   induction h with
   | nil=>intro i;simp;rfl
   | cons c _ a =>
    intro i;cases i with
    | zero=>exact c
    | succ i=>exact a i
  induction l with
  | nil=>exact .nil
  | cons i l a=>exact .cons (get ys its h i) a
def uG(K:PySem.W.Frag):List V->Hp->VK->Prop:=λxs H Q=>∃(p:Addr) (ys:List V) (rs:List u6),xs=[.ref p]/\SqL K H p ys/\ys.length=rs.length/\ys.length < 64 /\
 (∀(j:Nat) (y:V),ys[j]?=some y->∃ r t,rs[j]?=some r/\y=.ref t/\SqT K H t [.str r.1,.str r.2.1,.int r.2.2])/\∀ D,H D=none->Q (.ref D) (upd H D (.lst (Vn (λi j=>Qm (rs.getD i ("","",0)) (rs.getD j ("","",0))) ys .non)))
theorem jcE(h:Vals ys its):∀(j:Nat) (v:Value),its[j]?=some v->∃ y,ys[j]?=some y/\RelV y v:=by
 induction h with
 | nil=>intro j v e;simp at e
 | @cons y u ys c a _ b =>
  intro j v e;cases j with
  | zero=>cases e;exact⟨y,rfl,a⟩
  | succ j=>exact b j v (by simpa using e)
theorem KS:JM X (.builtin "sorted") (uG X.K):=by
 intro B s σ H xs us Q I r h;obtain⟨p,C,d,rfl,E,hl,hz,F,q⟩:=h;obtain⟨u,rfl,G⟩:=r.one;cases G;obtain⟨b,f,⟨o,n,e,g,J,k⟩,_⟩:=I.list E;have L:b.length=C.length:=f.length.symm;refine J3 (rs:=d) (vs:=b) ⟨o,e,g,n,k⟩ (by lia) (by lia) (λj v M=>?_) λh' c N O=>?_
 ·obtain⟨y,P,R⟩:=jcE f j v M;obtain⟨r,t,S,rfl,l⟩:=F j y P;cases(show v=Value.ref t from R);obtain⟨D,T,⟨U,e2,m,V,w⟩,_⟩:=I.tuple l;cases T with
  | cons W Y =>
   cases Y with
   | cons Z k4 =>
    cases k4 with
    | cons k5 k6 =>
     cases k6;rename_i v1 v2 v3;obtain⟨t1,rfl⟩:=(show ∃ t1,v1=Value.str r.1 t1 from W);obtain⟨x,rfl⟩:=(show ∃ x,v2=Value.str r.2.1 x from Z);obtain⟨z,rfl⟩:=(show ∃ z,v3=Value.int r.2.2 z from k5);exact⟨r,S,t,U,V,t1,x,z,rfl,e2,m,w⟩
 ·have A:=I.hok.fresh (Nat.le_succ s.heap.objs.size);refine⟨.ref (s.heap.objs.size+1),_,I.laid (a:=s.heap.objs.size+1) (o:=.lst (Vn (λi j=>Qm (d.getD i ("","",0)) (d.getD j ("","",0))) C .non)) (t':=s.toks) N (Nat.le_succ _) ⟨?_,_,c,jbs f,O⟩,rfl,q _ A⟩;rw[xC];have:sizeLine=16777216:=by decide
  lia
end L2
namespace QD
open PySem L2 PySem.Spec PyProof.Rows
noncomputable def jgC:D->Option (List Nat)
 | .str s=>some s
 | _=>none
theorem xK{d:D}{n:List Nat}(h:jgC d=some n):d=.str n:=by cases d<;>cases h<;>rfl
noncomputable def jlb:List D->Option (D×D×D)
 | [x,y,z]=>some (x,y,z)
 | _=>none
theorem jbq{l:List D}{p:D×D×D}(h:jlb l=some p):l=[p.1,p.2.1,p.2.2]:=by
 match l with
 | [_,_,_]=>cases h;rfl
def jml(d:D):Option u6:=(jdB d).bind λt=>(jlb t).bind λp=>(jgC p.1).bind λa=>(jgC p.2.1).bind λb=>(vx p.2.2).bind λn=>some (S a,S b,n)
def ud:List D->Option (List u6)
 | []=>some []
 | d::l=>(jml d).bind λx=>(ud l).bind λr=>some (x::r)
def Qy(rs:List u6)(l:List D):List D:=Vn (λi j=>Qm (rs.getD i ("","",0)) (rs.getD j ("","",0))) l .non
def YX:List D->Option D
 | [.lst _ l]=>(ud l).bind λrs=>bif decide (l.length < 64) then some (.lst true (Qy rs l)) else none
 | _=>none
@[simp] theorem fSorted_e(o:Bool)(l:List D):YX [.lst o l]=(ud l).bind λrs=>bif decide (l.length < 64) then some (.lst true (Qy rs l)) else none:=rfl
theorem Qh:∀{l:List D}{rs:List u6}{ys:List V}{O:List Addr},ud l=some rs->Reps R Z H l ys O->O=[]/\ys.length=rs.length/\∀(j:Nat) (y:V),ys[j]?=some y->∃ r t,rs[j]?=some r/\y=.ref t/\SqT R.K H t [.str r.1,.str r.2.1,.int r.2.2]
 | [],rs,ys,O,e,r=>by
  cases e;rw[Reps] at r;obtain⟨rfl,rfl⟩:=r;exact⟨rfl,rfl,λj y g=>by simp at g⟩
 | d::l,rs,ys,O,e,r=>by
  refine ob e λx c e=>ob e λk e2 e=>ob c λt m c=>ob c λq o c=>ob c λa p c=>ob c λb s c=>ob c λn u c=>?_;cases e;cases c;rw[Reps,xZ m,jbq o,xK p,xK s,jY u] at r;obtain⟨J,v,L,M,rfl,rfl,h,w⟩:=r;obtain⟨rfl,z,q⟩:=Qh e2 w;have A:=h.nil (by rfl);subst A;rw[Rep] at h;obtain⟨t,N,rfl,B,f⟩:=h;rw[Reps] at f;obtain⟨P,C,Q,T,rfl,U,E,i⟩:=f;obtain⟨W,X,Y,P4,rfl,F,G,I⟩:=i.two_of;obtain⟨rfl,_⟩:=E.str_of;obtain⟨rfl,_⟩:=G.str_of;obtain⟨rfl,_⟩:=I.int_of;refine⟨rfl,by simp[z],λj y g=>?_⟩;cases j with
  | zero=>cases g;exact⟨(S a,S b,n),t,rfl,rfl,B.sq⟩
  | succ j=>exact q j y (by simpa using g)
theorem jbQ(r:Reps R Z H l vs [])(a:List Nat):Reps R Z H (a.map λi=>l.getD i .non) (a.map λi=>vs.getD i .non) []:=by
 have get:∀(l:List D) (vs:List V),Reps R Z H l vs []->∀ i,Rep R Z H (l.getD i .non) (vs.getD i .non) []:=by
  intro l
  induction l with
  | nil =>
   intro vs r i;rw[Reps] at r;obtain⟨rfl,_⟩:=r;simp;exact .non_mk
  | cons d l b =>
   intro vs r i;rw[Reps] at r;obtain⟨v,c,h,j,rfl,e,f,g⟩:=r;obtain⟨rfl,rfl⟩:=List.append_eq_nil_iff.mp e.symm;cases i with
   | zero=>exact f
   | succ i=>exact b c g i
 induction a with
 | nil=>exact .empty
 | cons i a b=>exact Reps.cons (O:=[]) (P:=[]) (get l vs r i) b
theorem jaR:BC R (uG R.K) YX:=by
 intro Z H n d y O z r e Q k
 match n,e,r with
 | [.lst o l],e,r =>
  simp only[YX] at e;refine ob e λc s e=>oc e λf e=>?_;cases e;have f:=X6 f;obtain⟨v,rfl,t⟩:=r.one_of;obtain⟨p,g,A,rfl,u,b⟩:=t.lst_of;obtain⟨rfl,w,q⟩:=Qh s b;refine⟨p,g,c,rfl,u.sq,w,by rw[b.length];exact f,q,λD m=>?_⟩;refine k (Go.newO (wf0 z) m) ?_;have ne:∀ a,H a≠none->a≠D:=λa h e=>h (e▸m);have x:Reps R Z H (Qy c l) (Vn (λi j=>Qm (c.getD i ("","",0)) (c.getD j ("","",0))) g .non) []:=by
   unfold Qy Vn;rw[b.length];split
   ·exact b
   ·exact jbQ b _
  rw[Rep];exact⟨D,_,[],rfl,x.frame (λa z=>z) (λa h=>jf (ne a (z a h))) (λa h=>(nomatch h)),jr,rfl⟩
theorem QA:bootBuiltins "sorted" = some (.builtin "sorted"):=by boot_fast
theorem wN:(Qy rs l).Perm l:=by
 unfold Qy Vn;split
 ·exact List.Perm.refl _
 ·rename_i h;have a:=(zx (lt:=λi j=>Qm (rs.getD i ("","",0)) (rs.getD j ("","",0))) (n:=l.length) (by lia)).2;refine(a.map λi=>l.getD i .non).trans ?_;have:(List.range l.length).map (λi=>l.getD i .non)=l:=by
   apply List.ext_getElem
   ·simp
   ·intro i c b;simp[List.getD_eq_getElem?_getD,X9 b]
  rw[this]
noncomputable def two2:List KA->Option (KA×KA)
 | [a,b]=>some (a,b)
 | _=>none
def zQ:List (List KA)->List D->Option (List D)
 | [],[]=>some []
 | k::ks,d::l=>(two2 k).bind λp=>(vx d).bind λn=>(zQ ks l).bind λr=>some (bif decide (0 < n) then .tup [kaD p.1,kaD p.2,.int n]::r else r)
 | _,_=>none
@[simp] def dPos(i:Nat)(ρ:Rh):Option (D×Rh):=(pV i ρ).bind λt=>(jj2 t).bind λp=>bif lim p.1.length then(zQ p.1 p.2).bind λr=>some (.lst true r,ρ.set i none) else none
section
variable {R:RC}{Z Z':Zn}{H H':Hp}{pm:List Nat}
inductive CpP (R:RC) (Z0:Zn) (H0:Hp) (a:Addr) (ks:List (List KA)) (l all:List D) (i m:Nat) (σ2:L2.St) (H2:Hp):Prop
 | mk:m=ks.length - i->i<=ks.length->σ2.length=2->∀(Z2:Zn) (ys:List D) (vs:List V) (rest:List D),Go Z0 H0 [] Z2 H2 [a]->H2 a=some (.lst vs)->Reps R Z2 H2 ys vs []->zQ (ks.drop i) (l.drop i)=some rest->all=ys++rest->ys.length<=i->CpP R Z0 H0 a ks l all i m σ2 H2
end
noncomputable def qM:List D->List D->List D->List D
 | a::l,b::m,c::n=>.tup [a,b,c]::qM l m n
 | _,_,_=>[]
theorem Qs:∀ l m n:List D,l.length<=m.length->l.length<=n.length->(qM l m n).length=l.length
 | [],_,_,_,_=>by simp[qM]
 | a::l,[],_,h,_=>by simp at h
 | a::l,b::m,[],_,h=>by simp at h
 | a::l,b::m,c::n,d,e=>by simp[qM,Qs l m n (by simpa using d) (by simpa using e)]
theorem Qo:∀(l m n:List D) (i:Nat) (x:D),(qM l m n)[i]?=some x->∃ a b c,l[i]?=some a/\m[i]?=some b/\n[i]?=some c/\x=.tup [a,b,c]
 | [],_,_,i,x,e=>by simp[qM] at e
 | a::l,[],_,i,x,e=>by simp[qM] at e
 | a::l,b::m,[],i,x,e=>by simp[qM] at e
 | a::l,b::m,c::n,i,x,e=>by
  cases i with
  | zero=>simp[qM] at e;exact⟨a,b,c,rfl,rfl,rfl,e.symm⟩
  | succ i =>
   obtain⟨d,b',f,g,h,j,k⟩:=Qo l m n i x (by simpa [qM] using e);exact⟨d,b',f,by simpa using g,by simpa using h,by simpa using j,k⟩
def jle(l:List D):Option (List D):=(jlb l).bind λp=>(jdB p.1).bind λt=>(jd2 p.2.1).bind λl=>(jd2 p.2.2).bind λm=>bif decide (t.length<=l.length)&&decide (t.length<=m.length) then some (qM (fzs t) (fzs l) (fzs m)) else none
@[simp] def pZ3(p:PAf)(ρ:Rh):Option (List D):=(p ρ).bind jle
theorem jju(h:PPs R ta p):PIt R (iZ3 R.K ta) (pZ3 p):=by
 intro σ ρ Z H O xs z s e Q k;refine ob e λds A e=>ob e λ⟨p0,p1,p2⟩ e2 e=>ob e λt e3 e=>ob e λl e4 e=>ob e λm e5 e=>oc e λc e=>?_;cases e;cases xZ e3;obtain⟨o,rfl⟩:=JP e4;obtain⟨o2,rfl⟩:=JP e5;cases jbq e2;rw[L9] at c;have D:=X6 c.1;have E:=X6 c.2;refine h z s A λ{vs F H1 P1} g1 b=>?_;rw[Reps] at b;obtain⟨v0,vs0,G,P2,rfl,rfl,q0,b⟩:=b;rw[Reps] at b;obtain⟨v1,vs1,I,P3,rfl,rfl,q1,b⟩:=b;rw[Reps] at b;obtain⟨v2,vs2,J,P4,rfl,rfl,q2,b⟩:=b;rw[Reps] at b;obtain⟨rfl,rfl⟩:=b;have f0:=q0.freeze (Z':=λa=>F a \/ a∈G++(I++(J++[]))) (λa z=>.inl z) λa z=>.inr (by simp[z]);have f1:=q1.freeze (Z':=λa=>F a \/ a∈G++(I++(J++[]))) (λa z=>.inl z) λa z=>.inr (by simp[z]);have f2:=q2.freeze (Z':=λa=>F a \/ a∈G++(I++(J++[]))) (λa z=>.inl z) λa z=>.inr (by simp[z]);rw[show fz (.tup t)=.tup (fzs t) from rfl,Rep] at f0;rw[show fz (.lst o l)=.lst false (fzs l) from rfl,Rep] at f1;rw[show fz (.lst o2 m)=.lst false (fzs m) from rfl,Rep] at f2;obtain⟨a0,g,rfl,ft,L⟩:=f0;obtain⟨a1,B,O',rfl,M,j,rfl,_⟩:=f1;obtain⟨a2,C,O'',rfl,N,n,rfl,_⟩:=f2;refine⟨a0,a1,a2,g,B,C,rfl,ft.sq,FL.sq j,FL.sq n,k g1.fz ?_⟩;intro S T d f zd i;have U:=(ft.frame d f).sq;have h1:=(j.frame d f).sq;have h2:=(n.frame d f).sq;have r0:Reps R S T (fzs t) g []:=L.frame d f λa r=>(nomatch r);have b:Reps R S T (fzs l) B []:=M.frame d f λa r=>(nomatch r);have r2:Reps R S T (fzs m) C []:=N.frame d f λa r=>(nomatch r);refine⟨λhi=>⟨g,U,?_⟩,λx hx=>?_⟩
 ·rw[Qs _ _ _ (by rw[YB,YB];exact D) (by rw[YB,YB];exact E)] at hi;rw[r0.length];exact hi
 obtain⟨y0,y1,y2,V,W,X,rfl⟩:=Qo _ _ _ i x hx;obtain⟨u0,u,Y⟩:=r0.item V;obtain⟨u1,v,ru1⟩:=b.item W;obtain⟨u2,y,ru2⟩:=r2.item X;refine⟨⟨g,B,C,u0,u1,u2,U,h1,h2,u,v,y⟩,λw H3 hyl=>?_⟩;obtain⟨q,t0,t1,t2,ht0,ht1,ht2,rfl,hq,rfl⟩:=hyl;have A:=ht0 g U;rw[u] at A;cases A;have e2:=ht1 B h1;rw[v] at e2;cases e2;have e3:=ht2 C h2;rw[y] at e3;cases e3;exact⟨_,Go.newF (wf0 zd) hq,Rep.tupNew (wf0 zd) hq (.cons (O:=[]) (P:=[]) Y (.cons (O:=[]) (P:=[]) ru1 (.one ru2)))⟩
theorem Kl:∀{ns:List Str}{l:List D}{vs:List V}{O:List Addr},Reps R Z H l vs O->ns.length=l.length->J6 ns l f=some d->∃ v P,(ns.zip vs).lookup f=some v/\Rep R Z H d v P/\∀ q,P.count q<=O.count q
 | [],l,vs,O,_,_,h=>by cases l<;>cases h
 | n::ns,[],vs,O,_,a,_=>by simp at a
 | n::ns,x::l,vs,O,r,a,h=>by
  rw[Reps] at r;obtain⟨v,b,c,k,rfl,rfl,g,i⟩:=r;rw[J6] at h;by_cases e:f=n
  ·rw[if_pos e] at h;cases h;exact⟨v,c,by rw[U6,List.lookup_cons,e];simp,g,λq=>by rw[U7];lia⟩
  ·rw[if_neg e] at h;obtain⟨w,P,j,e2,e3⟩:=Kl i (by simpa using a) h;refine⟨w,P,?_,e2,λq=>by have:=e3 q;rw[U7];lia⟩;rw[U6,List.lookup_cons,show(f==n)=false by simp[e]];exact j
theorem xU(j:f≠g):∀{ns:List Str}{l:List D}{vs:List V}{O:List Addr},Reps R Z H l vs O->ns.length=l.length->J6 ns l f=some d->J6 ns l g=some c ->
  ∃ v P w Q,(ns.zip vs).lookup f=some v/\(ns.zip vs).lookup g=some w/\Rep R Z H d v P/\Rep R Z H c w Q/\∀ q,P.count q+Q.count q<=O.count q
 | [],l,vs,O,_,_,h,_=>by cases l<;>cases h
 | n::ns,[],vs,O,_,m,_,_=>by simp at m
 | n::ns,x::l,vs,O,r,m,h,k=>by
  rw[Reps] at r;obtain⟨v,u,s,A,rfl,rfl,t,p⟩:=r;rw[J6] at h k;by_cases e:f=n
  ·have i:g≠n:=λz=>j (e.trans z.symm);rw[if_pos e] at h;rw[if_neg i] at k;cases h;obtain⟨w,Q,o,e2,e3⟩:=Kl p (by simpa using m) k;refine⟨v,s,w,Q,by rw[U6,List.lookup_cons,e];simp,?_,t,e2,λq=>by have:=e3 q;rw[U7];lia⟩;rw[U6,List.lookup_cons,show(g==n)=false by simp[i]];exact o
  ·rw[if_neg e] at h;by_cases i:g=n
   ·rw[if_pos i] at k;cases k;obtain⟨w,Q,o,e2,e3⟩:=Kl p (by simpa using m) h;refine⟨w,Q,v,s,?_,by rw[U6,List.lookup_cons,i];simp,e2,t,λq=>by have:=e3 q;rw[U7];lia⟩;rw[U6,List.lookup_cons,show(f==n)=false by simp[e]];exact o
   ·rw[if_neg i] at k;obtain⟨a,P,b,Q,o,e2,e3,y,e5⟩:=xU j p (by simpa using m) h k;refine⟨a,P,b,Q,?_,?_,e3,y,λq=>by have:=e5 q;rw[U7];lia⟩
    ·rw[U6,List.lookup_cons,show(f==n)=false by simp[e]];exact o
    ·rw[U6,List.lookup_cons,show(g==n)=false by simp[i]];exact e2
@[simp] def jhb(i:Nat)(c:Nat)(f:Str)(g:Str)(pe:PF)(ρ:Rh):Option (D×Rh):=(pV i ρ).bind λt=>(Qe t).bind λy=>bif y.1==c&&!decide (f=g) then(J6 y.2.1 y.2.2 f).bind λa=>(J6 y.2.1 y.2.2 g).bind λb=>(pe ρ).bind λr=>some (.tup [a,r,b],ρ.set i none) else none
theorem jjM(U:Cls R.K (R.cls c))(hf:NoAttr R.K (R.cls c) f)(hg:NoAttr R.K (R.cls c) g)(he:PP R te pe):DE R (xR (j9 (jb6 R.K (kX i) f) (j9 te (j9 (jb6 R.K (kX i) g) Ye)))) (jhb i c f g pe):=by
 intro σ ρ ρ' Z H O d w s e Q k;refine ob e λt e1 e=>ob e λ⟨c',ns,l⟩ e2 e=>oc e λF e=>ob e λa e3 e=>ob e λb e4 e=>ob e λr e5 e=>?_;cases e;cases Jk e2;have W:=JN e1;rw[L9] at F;obtain rfl:c'=c:=by simpa using F.1
 have G:f≠g:=by simpa using F.2
 obtain⟨A,P,B,rfl,k1,_,k3⟩:=s.put (L8.mp W).1;obtain⟨v,X,Y⟩:=k1 _ W;rw[Rep] at Y;obtain⟨x,dx,vs,I,rfl,rs,J,ea,rfl⟩:=Y;obtain⟨m,Pf,n,Pg,lf,lg,rf,rg,cn⟩:=xU G rs J e3 e4;unfold xR j9;refine⟨.ref x,X,x,_,dx,_,m,rfl,ea,U,hf,lf,?_⟩;refine he w.zd s e5 λ{p o j u} C r1=>?_;have L:=C.at0 ea;refine⟨.ref x,X,x,_,dx,_,n,rfl,L,U,hg,lg,by show 3<=sizeLine;decide,λq hq=>?_⟩;have M:=C.widen w;have gN:Go o j (u++(A++(x::I)++B)) (λy=>o y \/ y=q) (upd j q (.tup [m,p,n])) (u++(A++(x::I)++B)):=Go.newF M.wf hq;have ne:∀ y,j y≠none->y≠q:=λy h e=>h (e▸hq);have zn:∀ y,o y->upd j q (.tup [m,p,n]) y=j y:=λy E=>jf (ne y (M.wf.zd y E));have N:=C.rep w.zd rf;have S:=C.rep w.zd rg;have T:∀{d:D}{v:V}{Pd:List Addr},Rep R o j d v Pd->Rep R (λy=>o y \/ y=q) (upd j q (.tup [m,p,n])) d v Pd:=λrr=>rr.frame (λ_ z=>.inl z) zn λy E=>jf (ne y (rr.dom y E));have s1:=(C.slots w.zd k3);have s2:Slots R (λy=>o y \/ y=q) (upd j q (.tup [m,p,n])) (ρ.set i none) σ (A++B):=s1.frame (λ_ z=>.inl z) zn λy E=>jf (ne y (s1.dom y E));have le:∀ y,((Pf++(u++Pg))++(A++B)).count y<=(u++(A++(x::I)++B)).count y:=λy=>by
  have:=cn y;simp only[U7,List.count_cons];lia
 refine k (P:=Pf++(u++Pg)) ((M.trans gN).drop (Vb le) (Jp le gN.wf.nd)) ?_ s2;rw[Rep];refine⟨q,[m,p,n],rfl,.inl ⟨.inr rfl,.inl jr⟩,?_⟩;have:=Reps.cons (T N) (Reps.cons (T r1) (Reps.one (T S)));simpa using this
theorem jjW(e:X.mg "zip" = none)(h:QPs cl X [a,b,c] tr pr)(f:Gl X "zip":=by rfl)(g:starEach [a,b,c] X.env=[(false,eval a X.env),(false,eval b X.env),(false,eval c X.env)]:=by rfl)(d:starEach [b,c] X.env=[(false,eval b X.env),(false,eval c X.env)]:=by rfl) :
  QI cl X (.Tuple elts n tpos) (.Call (.Name "zip" p) [a,b,c] [] pos) (iZ3 X.K tr) (pZ3 pr):=⟨jjZ f e h.sem g d,jju h.den⟩
theorem jj0{cl:Nat->Addr}{X:Cx}{e:Expr}{te:TE}{pe:PF}{pos p:Pos}{i k:Nat}{x f g:Str}{x1}{p2 b a:Pos}(m:Cls X.K (cl k))(n:NoAttr X.K (cl k) f)(o:NoAttr X.K (cl k) g)(q:QB cl X (.Name x p) (kX i) (pV i))(l:QP cl X e te pe)(c:QB cl X (.Name x p2) (kX i) (pV i))
  (r:attributeBase (.Name x p) f X.env (eval (.Name x p) X.env)=eval (.Name x p) X.env:=by rfl) (d:attributeBase (.Name x p2) g X.env (eval (.Name x p2) X.env)=eval (.Name x p2) X.env:=by rfl)
  (s:starEach [.Attribute (.Name x p) f b,e,.Attribute (.Name x p2) g a] X.env=(false,eval (.Attribute (.Name x p) f b) X.env)::starEach [e,.Attribute (.Name x p2) g a] X.env:=by rfl)
  (h:starEach [e,.Attribute (.Name x p2) g a] X.env=(false,eval e X.env)::starEach [.Attribute (.Name x p2) g a] X.env:=by rfl)
  (j:starEach [.Attribute (.Name x p2) g a] X.env=(false,eval (.Attribute (.Name x p2) g a) X.env)::starEach [] X.env:=by rfl) :
  QE cl X (.Tuple [.Attribute (.Name x p) f b,e,.Attribute (.Name x p2) g a] x1 pos) (xR (j9 (jb6 X.K (kX i) f) (j9 te (j9 (jb6 X.K (kX i) g) Ye)))) (jhb i k f g pe) :=
 ⟨VB (ya (xv q.sem r) (ya l.sem (ya (xv c.sem d) kF j) h) s),jjM (R:=⟨X.K,cl⟩) m n o l.den⟩
end QD
namespace QD
open PySem L2
end QD
namespace L2
open PySem PySem.Spec PyProof.Rows
end L2
namespace QD
open PySem L2 PySem.Spec PyProof.Rows
mutual
noncomputable def pln:D->Bool
 | .tup l=>jjQ l
 | .non=>true | .bl _=>true | .int _=>true | .str _=>true
 | .lst _ _=>false | .dK _ _ _=>false | .dT _ _ _=>false | .ins _ _ _ _=>false | .dead=>false | .tok _=>false | .exc _ _=>false
noncomputable def jjQ:List D->Bool
 | []=>true
 | d::l=>pln d&&jjQ l
end
section
variable {R:RC}{Z Z':Zn}{H H':Hp}{pm:List Nat}
mutual
theorem Rep.cutA{a:Addr}(ha:∀ vs,¬ Rd H a (.tup vs))(hH:∀ b,b≠a->H' b=H b):∀{d:D}{v:V}{O:List Addr},pln d=true->Rep R Z H d v O->Rep R (λb=>Z b/\b≠a) H' d v O
 | .non,_,_,_,r=>by rw[Rep] at r ⊢;exact r
 | .bl _,_,_,_,r=>by rw[Rep] at r ⊢;exact r
 | .int _,_,_,_,r=>by rw[Rep] at r ⊢;exact r
 | .str _,_,_,_,r=>by rw[Rep] at r ⊢;exact r
 | .tup l,_,_,h,r=>by
  rw[pln] at h;rw[Rep] at r ⊢;obtain⟨p,vs,e,t,r⟩:=r;refine⟨p,vs,e,?_,Reps.cutA ha hH h r⟩;rcases t with⟨z,t⟩ | t
  ·have ne:p≠a:=λq=>ha vs (q▸t);exact .inl ⟨⟨z,ne⟩,Rd.agree (hH p ne) t⟩
  ·exact .inr t
 | .lst _ _,_,_,h,_=>by rw[pln] at h;cases h
 | .dK _ _ _,_,_,h,_=>by rw[pln] at h;cases h
 | .dT _ _ _,_,_,h,_=>by rw[pln] at h;cases h
 | .ins _ _ _ _,_,_,h,_=>by rw[pln] at h;cases h
 | .dead,_,_,h,_=>by rw[pln] at h;cases h
 | .tok _,_,_,h,_=>by rw[pln] at h;cases h
 | .exc _ _,_,_,h,_=>by rw[pln] at h;cases h
theorem Reps.cutA{a:Addr}(ha:∀ vs,¬ Rd H a (.tup vs))(hH:∀ b,b≠a->H' b=H b):∀{l:List D}{vs:List V}{O:List Addr},jjQ l=true->Reps R Z H l vs O->Reps R (λb=>Z b/\b≠a) H' l vs O
 | [],_,_,_,r=>by rw[Reps] at r ⊢;exact r
 | d::l,_,_,h,r=>by
  rw[jjQ,L9] at h;rw[Reps] at r ⊢;obtain⟨v,vs',O1,O2,e1,e2,r1,r2⟩:=r;exact⟨v,vs',O1,O2,e1,e2,Rep.cutA ha hH h.1 r1,Reps.cutA ha hH h.2 r2⟩
end
end
def jlH(K:PySem.W.Frag)(mg:Str->Option Value)(x:Str)(st:Stmt)(ps:List Str):Prop:=∃ f fd,FnFact K mg x x st f fd ps
def jlQ(K:PySem.W.Frag)(C:Addr)(x qual:Str)(st:Stmt)(ps:List Str):Prop:=∃ f fd,MtFact K C x qual st f fd ps
section
variable {K:PySem.W.Frag}{mg:Str->Option Value}{h:Heap}{x qual:Str}{st:Stmt}{ps:List Str}{a C:Addr}{od an:Option Addr}{sl:Array (Option Value)}{oc kV dc pm cd ct:Value}
theorem hasF(X:K.In h)(G:h.Ns mainGlobals mg)(c:PySem.W.nsIn K mainGlobals x=some (some (.ref a)))(e2:K.lookup a=some ⟨oc,od,.func (PySem.W.fnOf x x (kY st) (vE st) (jC st) .none kV dc pm an cd ct),sl⟩)(e3:PySem.W.codeIn K cd x=true)(b:PySem.W.keepIn K (.ref a)=true)
  (d:∀(kV doc pm:Value) (an:Option Addr) (cdv ct:Value) (us:List Value),us.length=ps.length->bindArgs (PySem.W.fnOf x x (kY st) (vE st) (jC st) .none kV doc pm an cdv ct) ⟨us,[]⟩=pure (ps.zip us)):jlH K mg x st ps:=⟨_,_,xX e2 e3 b,PySem.W.mg_of X G c,(xX e2 e3 b).binds d⟩
theorem hasM(c:PySem.W.findIn K (.ref C) x=some (some (.ref a)))(e5:PySem.W.isFn K (.ref a)=true)(e2:K.lookup a=some ⟨oc,od,.func (PySem.W.fnOf x qual (kY st) (vE st) (jC st) .none kV dc pm an cd ct),sl⟩)(e3:PySem.W.codeIn K cd qual=true)(b:PySem.W.keepIn K (.ref a)=true)
  (d:∀(kV doc pm:Value) (an:Option Addr) (cdv ct:Value) (us:List Value),us.length=ps.length->bindArgs (PySem.W.fnOf x qual (kY st) (vE st) (jC st) .none kV doc pm an cdv ct) ⟨us,[]⟩=pure (ps.zip us)):jlQ K C x qual st ps:=⟨_,_,xX e2 e3 b,⟨c,e5,b⟩,(xX e2 e3 b).binds d⟩
end
theorem fsc{N ps:List Str}{sc:Scope}(a:sc.kind=.function:=by rfl)(b:sc.isCoroutine=false:=by rfl)(c:sc.isGenerator=false:=by rfl)(d:N.Nodup:=by decide +kernel)(e:N.take ps.length=ps:=by rfl)
  (f:∀ x∈ps,sc.names.lookup x=some .local \/ sc.names.lookup x=some .cell:=by decide +kernel) (g:∀ y∈sc.names,y.2≠.free:=by decide +kernel):FnScope N ps sc:=⟨a,b,c,d,e,f,g⟩
def kH(K:PySem.W.Frag)(mg:Str->Option Value)(x:Str)(st:Stmt)(N:List Str)(n:Nat):Prop:=FnScope N (N.take n) (jC st)/\jlH K mg x st (N.take n)
def jaN(K:PySem.W.Frag)(C:Addr)(x qual:Str)(st:Stmt)(N:List Str)(n:Nat):Prop:=FnScope N (N.take n) (jC st)/\jlQ K C x qual st (N.take n)
section
variable (P:Program)(w:World)(cl:Nat->Addr){K:PySem.W.Frag}{mg:Str->Option Value}{C:Addr}{x qual:Str}{st:Stmt}{N:List Str}{n:Nat}
abbrev NP(_:kH K mg x st N n)(k:Nat)(m:List D->Option D):Prop:=OkF P w K mg x st k (N.take n) (spP ⟨K,cl⟩ m n)
abbrev NM(_:kH K mg x st N n)(k:Nat)(m:List D->Option (D×D)):Prop:=OkF P w K mg x st k (N.take n) (spM ⟨K,cl⟩ m n 0)
abbrev OP(mg:Str->Option Value)(_:jaN K C x qual st N n)(k:Nat)(m:List D->Option D):Prop:=OkM P w K mg C x qual st k (N.take n) (spP ⟨K,cl⟩ m n)
abbrev OM(mg:Str->Option Value)(_:jaN K C x qual st N n)(k:Nat)(m:List D->Option (D×D)):Prop:=OkM P w K mg C x qual st k (N.take n) (spM ⟨K,cl⟩ m n 0)
end
section
variable {P:Program}{w:World}{k:Nat}{sp:Sp}{K:PySem.W.Frag}{mg:Str->Option Value}{C:Addr}{x qual:Str}{st:Stmt}{N:List Str}{n:Nat}
theorem okN(h:kH K mg x st N n)(g:∀ f fd,FnScope N (N.take n) (jC st)->FnFact K mg x x st f fd (N.take n)->∀ base,FnOk P w K mg base CX0 k f fd (N.take n) sp):OkF P w K mg x st k (N.take n) sp:=by
 obtain⟨S,f,fd,F⟩:=h;exact⟨f,fd,F,g f fd S F⟩
theorem okO(h:jaN K C x qual st N n)(g:∀ f fd,FnScope N (N.take n) (jC st)->MtFact K C x qual st f fd (N.take n)->∀ base,FnOk P w K mg base CX0 k f fd (N.take n) sp):OkM P w K mg C x qual st k (N.take n) sp:=by
 obtain⟨S,f,fd,F⟩:=h;exact⟨f,fd,F,g f fd S F⟩
end
theorem jmm{a b:Prop}(h:a)(k:a->b):a/\b:=⟨h,k h⟩
section
variable {cl:Nat->Addr}{X:Cx}{pos:Pos}{x:Str}{scope:Scope}{N':List Str}{i:Nat}
theorem qS{j}{l:List Nat}(h:x=S l:=by decide +kernel):QP cl X (.Constant (.str x) j pos) (tC (.str x)) (pC (.str l)):=jim l h
theorem qI{i:Int}{j}:QB cl X (.Constant (.int i) j pos) (tC (.int i)) (pC (.int i)):=QP.bb jhF
end
end QD
namespace L2
open PySem PySem.Spec PyProof.Rows
end L2
namespace QD
open PySem L2 PySem.Spec PyProof.Rows
def wJ(i:Nat)(pk p:PF):FS:=λρ=>(pk ρ).bind λq=>(vg q).bind λc=>(p ρ).bind λe=>(jbz e).bind λm=>match ρ[i]? with
 | some (some (.dK true ks l))=>(je4 ks c).bind λj=>match l[j]? with
  | some (.lst true l')=>bif lim (l'.length+m.length) then some (.nx (ρ.set i (some (.dK true ks (l.set j (.lst true (l'++m))))))) else none
  | _=>none
 | _=>none
theorem jeC(hk:PB R tk pk)(h:PB R te p):DS R pm (Yr (tBM R.K "list" (jfN R.K) (zG (kX i) tk) (j9 te Ye))) (wJ i pk p):=by
 intro σ ρ Z H O o w s e D' k;unfold wJ at e;cases e1:pk ρ with
 | none=>rw[e1] at e;cases e
 | some q =>
 rw[e1,L3] at e;cases e2:vg q with
 | none=>rw[e2] at e;cases e
 | some c =>
 rw[e2,L3] at e;cases e3:p ρ with
 | none=>rw[e3] at e;cases e
 | some d =>
 rw[e3,L3] at e;cases x:jbz d with
 | none=>rw[x] at e;cases e
 | some m =>
 rw[x,L3] at e;split at e
 ·rename_i T l hl;cases e5:je4 T c with
  | none=>rw[e5] at e;cases e
  | some j =>
  rw[e5,L3] at e;split at e
  ·rename_i l' hj;refine oc e λU e=>?_;cases e;obtain⟨A,P,B,rfl,k1,k2,_⟩:=s.put (L8.mp hl).1;obtain⟨v,ev,r⟩:=k1 _ hl;rw[Rep] at r;obtain⟨a,vs,O0,rfl,rs,V,W,rfl⟩:=r;have W:H a=some (.dK ((T.map kaV).zip vs)):=W;obtain⟨u,G,P',I,eu,rfl,ru,X⟩:=rs.at hj;rw[Rep] at ru;obtain⟨b,t,D,rfl,Y,eb,rfl⟩:=ru;refine⟨.ref a,ev,hk w.zd s e1 λ{y Z1 H1 P1} E r1=>?_⟩;obtain⟨rfl,_⟩:=yH e2 r1;have s1:=E.slots w.zd s;have ea1:H1 a=some (.dK ((T.map kaV).zip vs)):=by rw[E.same a (by rw[W];exact λz=>(nomatch z))];exact W
   have L:H1 b=some (.lst t):=by rw[E.same b (by rw[eb];exact λz=>(nomatch z))];exact eb
   refine⟨a,.ref b,rfl,by rw[<- V1 e5 (by rw[rs.length];exact V) eu];exact DGet.r (.inl ea1),.inl ⟨rfl,t,SqL.of L⟩,?_⟩;refine h E.wf.zd s1 e3 λ{z Q n P2} g2 r2=>?_;have hm:∃ F g,z=.ref F/\(SqL R.K n F g \/ SqT R.K n F g)/\Reps R Q n m g []:=by
    cases d with
    | lst o' m' =>
     simp only[jbz] at x;refine oc x λhf x=>?_;cases x;rw[Rep] at r2;obtain⟨F,g,O'',rfl,rr,hx⟩:=r2;cases o' with
     | true=>exact⟨F,g,rfl,.inl (SqL.of hx.1),rr.frozen hf⟩
     | false=>exact⟨F,g,rfl,.inl (FL.sq hx.1),rr.frozen hf⟩
    | tup m' =>
     simp only[jbz] at x;refine oc x λhf x=>?_;cases x;obtain⟨F,g,rfl,hx,rr⟩:=r2.tup_of;exact⟨F,g,rfl,.inr hx,rr.frozen hf⟩
    | _=>cases x
   obtain⟨F,g,rfl,hb,rm⟩:=hm;have eb2:n b=some (.lst t):=by rw[g2.same b (by rw[L];exact λz=>(nomatch z))];exact L
   refine⟨b,F,t,g,rfl,rfl,eb2,hb,by rw[Y.length,rm.length];exact qE U,?_⟩;have gw1:Go Z H (A++(a::(G++(b::D)++I))++B) Z1 H1 (A++(a::(G++(b::D)++I))++B):=by have:=E.widen w;rw[X8] at this;exact this
   have gw2:Go Z1 H1 (A++(a::(G++(b::D)++I))++B) Q n (A++(a::(G++(b::D)++I))++B):=by have:=g2.widen gw1.wf;rw[X8] at this;exact this
   have gw:=gw1.trans gw2;have gB:=Go.put (o:=.lst (t++g)) gw.wf (show b∈A++(a::(G++(b::D)++I))++B by simp);have nd:=gw.wf.nd;have S:∀ c,c∈A \/ c=a \/ c∈G \/ c∈D \/ c∈I \/ c∈B->c≠b:=λc f e=>by
    have q:=List.nodup_iff_count.mp nd b;simp only[U7,List.count_cons,beq_self_eq_true,if_true] at q;subst e;have pos:∀{m:List Addr},c∈m->0 < m.count c:=λh=>List.count_pos_iff.mpr h;rcases f with f | f | f | f | f | f
    ·have:=pos f;lia
    ·subst f;simp at q;lia
    ·have:=pos f;lia
    ·have:=pos f;lia
    ·have:=pos f;lia
    ·have:=pos f;lia
   have M:∀ c,Q c->upd n b (.lst (t++g)) c=n c:=λc f=>jf λz=>gw.wf.nz b (by simp) (z▸f);have hs2:∀ c,H c≠none->n c=H c:=λc f=>by
    rw[g2.same c (by rw[E.same c f];exact f)];exact E.same c f
   have N:∀ c,Z c->Q c:=λc f=>g2.zz c (E.zz c f);have hzH:∀ c,Z c->upd n b (.lst (t++g)) c=H c:=λc f=>by rw[M c (N c f)];exact hs2 c (w.zd c f)
   have C:∀ c,c∈A++(a::(G++(b::D)++I))++B->c≠b->upd n b (.lst (t++g)) c=H c:=λc f hn=>by
    rw[jf hn];exact hs2 c (w.od c f)
   have rus2:=g2.reps E.wf.zd (E.reps w.zd Y);have rnew:Rep R Q (upd n b (.lst (t++g))) (.lst true (l'++m)) (.ref b) (b::D):=by
    rw[Rep];refine⟨b,t++g,D,rfl,?_,jr,rfl⟩;have q1:=rus2.frame (λ_ z=>z) M (λc f=>jf (S c (.inr (.inr (.inr (.inl f))))));have q2:=rm.frame (λ_ z=>z) M (λc f=>(nomatch f));have:=q1.append q2;simpa using this
   have J:=X rnew N hzH (λc f=>C c (by simp[f]) (S c (.inr (.inr (.inl f))))) (λc f=>C c (by simp[f]) (S c (.inr (.inr (.inr (.inr (.inl f)))))));rw[yZ eu] at J;have ea2:upd n b (.lst (t++g)) a=some (.dK ((T.map kaV).zip vs)):=by rw[C a (by simp) (S a (.inr (.inl rfl)))];exact W
   have rt:Rep R Q (upd n b (.lst (t++g))) (.dK true T (l.set j (.lst true (l'++m)))) (.ref a) (a::(G++(b::D)++I)):=by
    rw[Rep];exact⟨a,vs,_,rfl,J,by rw[List.length_set];exact V,ea2,rfl⟩
   have sl:=k2 rt N hzH (λc f=>C c (by simp[f]) (S c (.inl f))) (λc f=>C c (by simp[f]) (S c (.inr (.inr (.inr (.inr (.inr f)))))));rw[yZ ev] at sl;exact k (gw.trans gB) sl (Keep.refl _ _)
  ·cases e
 ·cases e
theorem jgl(m:Room k X.A)(n:QB cl X (.Name x xpos) (kX i) (pV i))(j:QB cl X f tf pf)(h:QB cl X e te pe)(g:jjO f:=by exact λ_ _=>rfl)
  (b:attributeBase (.Subscript (.Name x xpos) f spos) "extend" X.env (eval (.Subscript (.Name x xpos) f spos) X.env)=eval (.Subscript (.Name x xpos) f spos) X.env:=by rfl)
  (d:((backTo cpos (starEach [e] X.env)).all (λx=>!x.1)&&(backToKw cpos (keywordEach [] X.env)).all (λx=>x.1.isSome)
   && decide ([e].length+([]:List Keyword).length+(if([]:List Keyword).isEmpty then 0 else 1) < 30))=true:=by rfl)
  (c:(apos.endLine==cpos.line)=true:=by rfl) (l:starEach [e] X.env=(false,eval e X.env)::starEach [] X.env:=by rfl) (a:(backTo cpos (starEach [] X.env)).any (·.1)=false:=by rfl)
  (hsw:swapsWith (.Call (.Attribute (.Subscript (.Name x xpos) f spos) "extend" apos) [e] [] cpos) none pos.line X.env=pure false:=by rfl) :
  QS cl pm X (.Expr (.Call (.Attribute (.Subscript (.Name x xpos) f spos) "extend" apos) [e] [] cpos) pos) (Yr (tBM X.K "list" (jfN X.K) (zG (kX i) tf) (j9 te Ye))) (wJ i pf pe) :=
 ⟨Vf (jbd PySem.F.plainAttrs_list PySem.F.slot_list_extend PySem.F.type_list_extend je3 (zP (wy m) n.sem j.sem g) (ya h.sem kF l) b d c l a) hsw,jeC j.den h.den⟩
noncomputable def blN(N:List Str):List (Option Nat)->List Str->List Str
 | [],_=>[]
 | none::l,xs=>xs.headD ""::blN N l xs.tail
 | some j::l,xs=>N.getD j ""::blN N l xs
noncomputable def jlU(sc:Scope):List Str:=(sc.names.filter λy=>decide (y.2=.local)||decide (y.2=.cell)).tail.map (·.1)
theorem bkN(_:FnScope N ps sc)  (h1:X.env.scope=sc:=by rfl) (h2:X.N=N:=by rfl) (h:Ke sc N scope (blN N ix (jlU scope)) ix=true:=by decide +kernel):BlockOk X scope (blN N ix (jlU scope)) ix:=jgi sc N h1 h2 h
theorem jk5{p:PAf}{n:Nat}(h:∀(ρ:Rh) (ds:List D),p ρ=some ds->ds.length=n):∀(ρ:Rh) (ds:List D),p ρ=some ds->ds.length+1=n+1:=λρ ds e=>by rw[h ρ ds e]
theorem ndN(h:N'.Nodup):(yt X scope N' C s H fp).N.Nodup:=h
abbrev PrF:=Rh->Option (List KA×List D)
noncomputable def prN:PrF:=λ_=>some ([],[])
@[simp] theorem prN_e:prN ρ=some ([],[]):=rfl
def PRs(R:RC)(trs:List (TE×TE))(f:PrF):Prop:=∀{σ:L2.St}{ρ:Rh}{Z:Zn}{H:Hp}{O:List Addr}{q:List KA×List D},Zd Z H->Slots R Z H ρ σ O->f ρ=some q ->
 ∀{Q:List (V×V)->Hp->Prop},(∀{vs:List V}{Z':Zn}{H':Hp},Go Z H [] Z' H' []->Reps R Z' H' q.2 vs []->q.1.length=q.2.length->Q (((q.1.map kaV).zip vs).map λkv=>(kV kv.1,kv.2)) H')->QF trs σ H Q
noncomputable def jaM(f:PrF):PF:=λρ=>(f ρ).bind λq=>bif decide q.1.Nodup&&decide (q.1.length<=15) then some (.dK true q.1 q.2) else none
@[simp] theorem zM:jaM f ρ=(f ρ).bind λq=>bif decide q.1.Nodup&&decide (q.1.length<=15) then some (.dK true q.1 q.2) else none:=rfl
structure QPr(cl:Nat->Addr)(X:Cx)(pos:Pos)(keys:List (Option Expr))(values:List Expr)(trs:List (TE×TE))(f:PrF):Prop where
 sem:L2.PPs X pos keys values trs
 den:PRs ⟨X.K,cl⟩ trs f
section
variable {R:RC}{Z Z':Zn}{H H':Hp}{pm:List Nat}
def Yn(k:List Nat)(L:Ln):Ln:=λd=>(L d).bind λy=>(jc4 y.1).bind λq=>(je4 q.1 (.str k)).bind λn=>(q.2[n]?).bind λx=>some (x,λx'=>y.2 (.dK true q.1 (q.2.set n x')))
theorem jiv{i:Nat}{k:List Nat}{tb tj:TE}{L:Ln}(D:∀{σ:L2.St}{H:Hp}{Q:VK},Q (.str (S k)) H->tj σ H Q)(h:Q0 R tb i L):Q0 R (zG tb tj) i (Yn k L):=by
 intro σ ρ Z H O d x Y s hd e;refine ob e λ⟨y,k0⟩ E e=>ob e λ⟨ks,l⟩ e3 e=>ob e λn F e=>ob e λx0 e2 e=>?_;cases e;cases zg e3;obtain⟨v,A,P,B,rfl,r,G,I⟩:=h s hd E;obtain⟨a,J,K,O',rfl,o,g,p,rfl⟩:=ow_dK.mp r;obtain⟨u,M,N,T,t,rfl,U,j⟩:=o.at e2;refine⟨u,A++(a::M),N,T++B,by simp,U,λ{Q} q=>G (D ⟨a,u,rfl,(V1 F (by rw[o.length];exact g) t)▸DGet.k (k:=kaV (.str k)) p,q⟩),λ{Z' H' x' V} W w z m C=>?_⟩;have c:=j W w z (λb f=>m b (by simp[f])) (λb f=>C b (by simp[f]));rw[yZ t] at c;have X:=I (ow_dK.mpr ⟨a,J,K,_,rfl,c,by rw[List.length_set];exact g,(m a (by simp)).trans p,rfl⟩) w z (λb f=>m b (by simp[f])) (λb f=>C b (by simp[f]));simpa using X
open Classical in
noncomputable def uni(F:Addr->Option Out):Option Out:=if h:∃ o,∀ a,F a=some o then some h.choose else none
theorem jiH{F:Addr->Option Out}{o:Out}(h:uni F=some o)(a:Addr):F a=some o:=by
 unfold uni at h;split at h
 ·rename_i q;rw[<- h];exact q.choose_spec a
 ·cases h
theorem jjC{F:Addr->Option Out}{o:Out}(h:∀ a,F a=some o):uni F=some o:=by
 have q:∃ o,∀ a,F a=some o:=⟨o,h⟩;unfold uni;rw[dif_pos q];exact(q.choose_spec 0).symm.trans (h 0)
noncomputable def jeT:D->Option Addr
 | .tok a=>some a
 | _=>none
theorem jcB{d:D}{a:Addr}(h:jeT d=some a):d=.tok a:=by
 cases d with
 | tok b=>cases h;rfl
 | _=>cases h
def we(i:Nat)(L:Ln)(fe:FE)(ρ:Rh):Option Out:=(pV i ρ).bind λt=>(L t).bind λy=>(K8 y.1).bind λl=>bif lim l.length then uni λa=>(fe (ρ.set i (some (y.2 (.tok a))))).bind λr=>(pV i r.2).bind λt2=>(L t2).bind λy2=>(jeT y2.1).bind λb=>if b=a then some (.nx (r.2.set i (some (y2.2 (.lst true (l++[r.1])))))) else none else none
theorem Go.perm{O O2 O':List Addr}(g:Go Z H O Z' H' O')(h:∀ a,a∈O↔a∈O2):Go Z H O2 Z' H' O':=⟨g.wf,g.zz,λa b c=>g.fr a b λz=>c ((h a).mp z),λa z=>(g.zn a z).imp (λq=>q) λq=>q.imp (h a).mp λq=>q,λa q=>(g.sub a q).imp (h a).mp λq=>q,g.dm⟩
theorem jdt{i:Nat}{tb te:TE}{L:Ln}{fe:FE}(hL:Q0 R tb i L)(h:DE R te fe):DS R pm (Yr (tBM R.K "list" qV tb (j9 te Ye))) (we i L fe):=by
 intro σ ρ Z H O o w s e D' k;refine ob e λt hi e=>ob e λ⟨y,k0⟩ e3 e=>ob e λl e4 e=>oc e λx e=>?_;have hu:=jiH e;cases Yd e4;obtain⟨v,A,P,B,rfl,r,ht,kb⟩:=hL s (JN hi) e3;obtain⟨a,dx,n,f,rfl,rs,_,ea,rfl⟩:=ow_lst.mp r;refine ob (hu a) λ⟨d,ρ2⟩ e1 C=>ob C λt2 h2 C=>ob C λ⟨y2,k2⟩ e5 C=>ob C λb e6 j=>?_;by_cases S:b=a
 ·rw[if_pos S] at j;subst S;cases j;cases jcB e6;have nd:=w.nd;have s1:=kb (x':=.tok b) (P':=[]) (by rw[Rep];exact⟨rfl,rfl⟩) (λ_ z=>z) (λ_ _=>rfl) (λ_ _=>rfl) (λ_ _=>rfl);have T:∀ c,((A++[]++B)++(b::f)).count c<=(A++(b::f)++B).count c:=λc=>by simp only[U7,List.count_cons,List.count_nil];omega
  have U:∀ c,(A++(b::f)++B).count c<=((A++[]++B)++(b::f)).count c:=λc=>by simp only[U7,List.count_cons,List.count_nil];omega
  have M:WF Z H ((A++[]++B)++(b::f)):=w.sub (Vb T) (Jp T nd);have w1:=M.left;have out:∀ c∈b::f,c∉A++[]++B:=λc g z=>(U8.mp M.nd).2.2 c z c g rfl;refine ht ⟨.inl ⟨rfl,n,SqL.of ea⟩,h w1 s1 e1 λ{u V N m O1} D r1 s2=>?_⟩;obtain⟨v2,E,P2,F,rfl,r2,_,W⟩:=hL s2 (JN h2) e5;rw[Rep] at r2;obtain⟨rfl,rfl⟩:=r2;have X:=D.at (out b (by simp)) ea;have Q:Go Z H ([]++(A++[]++B)++(b::f)) V N ([]++(m++(E++[]++F))++(b::f)):=Go.frame (by simpa using M) D;have G:=Q.wf.nd;have Y:=rs.frame D.zz (Go.zH w1 D) λc g=>D.fr c (M.od c (by simp[g])) (out c (by simp[g]));have ne:∀ c∈f++m++(E++F),c≠b:=λc g z=>by
   subst z;have:=List.nodup_iff_count.mp G c;have q:=List.count_pos_iff.mpr g;simp only[U7,List.count_cons,List.count_nil,beq_self_eq_true,if_true] at this q;omega
  have I:∀ c,V c->upd N b (.lst (n++[u])) c=N c:=λc g=>jf λz=>Q.wf.nz b (by simp) (z▸g);have rr:Rep R V (upd N b (.lst (n++[u]))) (.lst true (l++[d])) (.ref b) (b::(f++m)):=ow_lst.mpr ⟨b,0,n++[u],f++m,rfl,(Y.append (.one r1)).frame (λ_ z=>z) I λc g=>jf (ne c (by simp at g ⊢;exact g.imp_right .inl)),trivial,jr,rfl⟩;have s3:=W rr (λ_ z=>z) I (λc g=>jf (ne c (by simp[g]))) (λc g=>jf (ne c (by simp[g])));have J:∀ c,(E++(b::(f++m))++F).count c<=([]++(m++(E++[]++F))++(b::f)).count c:=λc=>by simp only[U7,List.count_cons,List.count_nil];omega
  have g3:=((Q.trans (Go.put Q.wf (p:=b) (o:=.lst (n++[u])) (by simp))).perm (O2:=A++(b::f)++B) λc=>⟨Vb T c,Vb U c⟩).drop (O'':=E++(b::(f++m))++F) (Vb J) (Jp J G);exact⟨b,n,u,rfl,rfl,X,by rw[rs.length];exact Qv x,k g3 s3 (Keep.refl _ _)⟩
 ·rw[if_neg S] at j;cases j
def wd(i:Nat)(L:Ln)(ρ:Rh):Option (D×Rh):=(pV i ρ).bind λt=>(L t).bind λy=>some (y.1,ρ.set i (some (y.2 .dead)))
theorem jiY{i:Nat}{tb:TE}{L:Ln}(b:Q0 R tb i L):DE R tb (wd i L):=by
 intro σ ρ h Z H O d w s e Q k;refine ob e λt hi e=>ob e λ⟨y,k0⟩ e3 e=>?_;cases e;obtain⟨v,A,P,B,rfl,r,f,g⟩:=b s (JN hi) e3;have s1:=g (x':=.dead) (P':=[]) (by rw[Rep]) (λ_ z=>z) (λ_ _=>rfl) (λ_ _=>rfl) (λ_ _=>rfl);have a:∀ c,(P++(A++[]++B)).count c<=(A++P++B).count c:=λc=>by simp only[U7,List.count_nil];omega
 exact f (k ((Go.refl w).drop (O'':=P++(A++[]++B)) (Vb a) (Jp a w.nd)) r s1)
def xj(pk pv:PF)(f:PrF):PrF:=λρ=>(pk ρ).bind λx=>(vg x).bind λa=>(pv ρ).bind λd=>(f ρ).bind λq=>some (a::q.1,d::q.2)
def PRo(R:RC)(trs:List (TE×TE))(f:PrF):Prop:=∀{σ:L2.St}{ρ:Rh}{Z:Zn}{H:Hp}{O:List Addr}{q:List KA×List D},Zd Z H->Slots R Z H ρ σ O->f ρ=some q ->
 ∀{Q:List (V×V)->Hp->Prop},(∀{vs:List V}{Z':Zn}{H':Hp}{P:List Addr},Go Z H [] Z' H' P->Reps R Z' H' q.2 vs P->q.1.length=q.2.length->Q (((q.1.map kaV).zip vs).map λkv=>(kV kv.1,kv.2)) H')->QF trs σ H Q
theorem jfJ:PRo R [] prN:=by
 intro σ ρ Z H O q z s e Q k;cases e;exact k (Go.id z) .empty rfl
theorem jcS{tk tv:TE}{pk pv:PF}{b:List (TE×TE)}{f:PrF}(h:PB R tk pk)(i:PP R tv pv)(j:PRo R b f):PRo R ((tk,tv)::b) (xj pk pv f):=by
 intro σ ρ Z H O q z s e Q k;refine ob e λx l e=>ob e λa e2 e=>ob e λy e3 e=>ob e λt m e=>?_;cases e;refine h z s l λ{v w A B} c n=>?_;have s1:=c.slots z s;refine i c.wf.zd s1 e3 λ{u C D E} d o=>?_;refine j d.wf.zd (d.slots c.wf.zd s1) m λ{g Z3 F G} g3 p r=>?_;obtain⟨rfl,_⟩:=yH e2 n;exact k (vs:=u::g) ((c.trans d).pair g3) (Reps.cons (g3.rep d.wf.zd o) p) (by simp[r])
theorem jcX{a:List (TE×TE)}{f:PrF}(r:PRo R a f):PP R (jgB a) (jaM f):=by
 intro σ ρ Z H O d z s e Q k;rw[zM] at e;refine ob e λq t e=>oc e λg e=>?_;cases e;simp only[L9,decide_eq_true_eq] at g;intro p u;have i:Go Z H [] Z (upd H p (.dK [])) [p]:=Go.newO (wf0 z) u;refine r i.wf.zd (i.slots z s) t λ{c v j P} g3 n o=>?_;have l:j p=some (.dK []):=g3.at0 jr;have h:=i.pair g3;have w:Yp [] ((q.1.map kaV).zip c)=(q.1.map kaV).zip c:=by
  have:=VX q.1 c [] [] rfl (by rw[n.length];exact o) (by simpa using g.1);simpa [Yp] using this
 have m:∀ b,v b->upd j p (.dK ((q.1.map kaV).zip c)) b=j b:=λb x=>jf λq=>h.wf.nz p (by simp) (q▸x);refine⟨l,_,rfl,by rw[List.length_zip,L0];omega,?_⟩;rw[w];exact k (h.trans (Go.put h.wf (by simp))) (ow_dK.mpr ⟨p,0,c,P,rfl,n.frame (λ_ z=>z) m λb g=>jf λz=>(List.nodup_cons.mp h.wf.nd).1 (z▸g),o,jr,rfl⟩)
end
section
variable {cl:Nat->Addr}{pm:List Nat}{X:Cx}{o a b e:Expr}{ta tb te:TE}{pa pb:PF}{fe:FE}{pos apos cpos:Pos}{i:Nat}{L:Ln}
theorem jh1{k:Nat}{x:Str}{b:List Nat}{j2}{a:Pos}(d:Room k X.A)(h:QL cl X o tb i L)(c:x=S b:=by decide +kernel)(e:jjO (.Constant (.str x) j2 a):=by exact λ_ _=>rfl):QL cl X (.Subscript o (.Constant (.str x) j2 a) pos) (zG tb (tC (.str x))) i (Yn b L) :=
 ⟨zP (wy d) h.sem (jim (cl:=cl) b c).sem e,by subst c;exact jiv (R:=⟨X.K,cl⟩) (λq=>q) h.den⟩
theorem jcg(f:QL cl X o tb i L)(h:QE cl X e te fe)(b:attributeBase o "append" X.env (eval o X.env)=eval o X.env:=by rfl)
  (d:((backTo cpos (starEach [e] X.env)).all (λx=>!x.1)&&(backToKw cpos (keywordEach [] X.env)).all (λx=>x.1.isSome)
   && decide ([e].length+([]:List Keyword).length+(if([]:List Keyword).isEmpty then 0 else 1) < 30))=true:=by rfl)
  (c:(apos.endLine==cpos.line)=true:=by rfl) (g:starEach [e] X.env=(false,eval e X.env)::starEach [] X.env:=by rfl) (a:(backTo cpos (starEach [] X.env)).any (·.1)=false:=by rfl)
  (hsw:swapsWith (.Call (.Attribute o "append" apos) [e] [] cpos) none pos.line X.env=pure false:=by rfl) :
  QS cl pm X (.Expr (.Call (.Attribute o "append" apos) [e] [] cpos) pos) (Yr (tBM X.K "list" qV tb (j9 te Ye))) (we i L fe) :=
 ⟨Vf (jbd PySem.F.plainAttrs_list PySem.F.slot_list_append PySem.F.type_list_append Jn f.sem (ya h.sem kF g) b d c g a) hsw,jdt (R:=⟨X.K,cl⟩) f.den h.den⟩
theorem jiy{es:List Expr}{tr:TA}{fr:FA}(h:QDs cl X es tr fr):QE cl X (.List es pos) (jht tr) (jjV fr):=⟨jdN h.sem,jiV h.den⟩
theorem jkL(a:QL cl X e tb i L):QE cl X e tb (wd i L):=⟨a.sem,jiY a.den⟩
structure QPo(cl:Nat->Addr)(X:Cx)(pos:Pos)(keys:List (Option Expr))(values:List Expr)(trs:List (TE×TE))(f:PrF):Prop where
 sem:L2.PPs X pos keys values trs
 den:PRo ⟨X.K,cl⟩ trs f
theorem jfW:QPo cl X pos [] [] [] prN:=⟨L2.pps_nil,jfJ⟩
theorem jdf{ks:List (Option Expr)}{vs:List Expr}{c:List (TE×TE)}{f:PrF}(d:QB cl X a ta pa)(e:QP cl X b tb pb)(h:QPo cl X pos ks vs c f):QPo cl X pos (some a::ks) (b::vs) ((ta,tb)::c) (xj pa pb f) :=
 ⟨L2.pps_cons d.sem e.sem h.sem,jcS d.den e.den h.den⟩
theorem jeW{ks:List (Option Expr)}{vs:List Expr}{a:List (TE×TE)}{f:PrF}(h:QPo cl X pos ks vs a f)(b:ks.all (·.isSome)=true:=by rfl)(e:ks.length=vs.length:=by rfl)(d:(!ks.isEmpty)=true:=by rfl)(c:decide (ks.length<=15)=true:=by rfl) :
  QP cl X (.Dict ks vs pos) (jgB a) (jaM f):=⟨jgR h.sem b e (by intro z;rw[z] at d;cases d) (X6 c),jcX (R:=⟨X.K,cl⟩) h.den⟩
end
theorem okR{P:Program}{w:World}{K:PySem.W.Frag}{mg:Str->Option Value}{cl:Nat->Addr}{x:Str}{st:Stmt}{N:List Str}{n:Nat}{r:Nat->List D->Option D}(h:kH K mg x st N n)(a:∀ ds,r 0 ds=none)
  (g:∀ j f fd,FnScope N (N.take n) (jC st)->FnFact K mg x x st f fd (N.take n)->OkF P w K mg x st j (N.take n) (spP ⟨K,cl⟩ (r j) n)->∀ base,FnOk P w K mg base CX0 (j+1) f fd (N.take n) (spP ⟨K,cl⟩ (r (j+1)) n)) (k:Nat):OkF P w K mg x st k (N.take n) (spP ⟨K,cl⟩ (r k) n):=by
 obtain⟨S,f,fd,F⟩:=h;refine⟨f,fd,F,?_⟩
 induction k with
 | zero=>exact λbase=>by rw[show r 0=λ_=>none from funext a];exact jfv
 | succ j b=>exact g j f fd S F ⟨f,fd,F,b⟩
end QD
namespace K24
open PySem L2 QD
noncomputable def top(i:Nat):Stmt:=PySem.Challenge.pw_tranchefall_k24_shares_in_a_fall.main.body.getD i (.Pass ⟨0,0,0,0⟩)
def YY:FS:=(yQ (dP (pCB Yv (ja (yR (YT (pV 0)) (jc [] 0) qT (pF (p2 jd (pV 0) (pC (.int 1)))) [none]) pN))))
def ku:List D->Option D:=fnP 1 YY
def ym:FS:=(sIf (dPT (ji (p2 v7 (p2 jd (pV 2) (pC (.int 0))) (pV 1)))) (yQ (dP (pF (pV 2))))
 jM)
def Jt:FS:=(jg (Jx (pIt (pF (p2 jd (pV 0) (pC (.int 4))))) (jc [] 2) ym)
 (yQ (dP (pC .non))))
def vi:List D->Option D:=fnP 3 Jt
def k8:FS:=(yQ (dP (wg (YT (pV 0)) (gT 3 (gC (jc [] 0) (gC (jc [] 1) (gC (jc [] 2) gN)))) qT (jcW (pV 0) (pV 1)) (pV 2) [none,none,none])))
def yL:List D->Option D:=fnP 1 k8
def qp:FS:=(sIf (dPT (KW (ji (p2 KQ (pV 4) (pC (.int 0)))) (ji (p2 jdF (p2 jd (pV 3) (pV 5)) (pV 6))))) (jg (jbr 3 (pV 5) (λi j=>i+j) (pC (.int 1)))
 (jeq [] 4 (λi j=>i - j) (pC (.int 1))))
 jM)
def V0:FS:=(jg (jB (dP (pCB Yv (ja (pV 0) pN))) (jc [] 2))
 (jg (sIf (dPT (ji (p2 jkU (pV 1) (pV 2)))) (yQ (dP (pCB Vq (ja (pV 0) pN))))
 jM)
 (jg (jB (dP (yR (YT (pV 0)) (jc [] 0) qT (p2 jz (p2 jX (pV 1) (pV 0)) (pV 2)) [none,some 1,some 2])) (jc [] 3))
 (jg (jB (dP (p2 vb (pV 1) (pCB Yv (ja (pV 3) pN)))) (jc [] 4))
 (jg (Jx (J4 (ja (pF (pV 0)) pN)) (gT 2 (gC (jc [] 5) (gC (jc [] 6) gN))) qp)
 (yQ (dMv 3)))))))
def Ju:List D->Option D:=fnP 7 V0
def vW:FS:=(jg (jB (dP (pF (p2 jd (pV 1) (pC (.int 0))))) (jc [] 2))
 (jg (jB (dP (pF (p2 jd (pV 1) (pC (.int 1))))) (jc [] 3))
 (jg (sIf (dPT (ji (p2 v7 (pV 2) (pC (.str [112,97,121]))))) (yQ (dP (pF (p2 jG (VG 0 "owed" (pV 0)) (pV 3)))))
 jM)
 (jg (sIf (dPT (ji (p2 v7 (pV 2) (pC (.str [114,101,112,97,121]))))) vf
 jM)
 (jg (sIf (dPT (ji (p2 v7 (pV 2) (pC (.str [102,105,108,108]))))) vf
 jM)
 (jg (sIf (dPT (ji (p2 v7 (pV 2) (pC (.str [108,101,110,100]))))) vf
 jM)
 (jg (sIf (dPT (ji (p2 v7 (pV 2) (pC (.str [98,97,99,107]))))) vf
 jM)
 (yQ (dP (pF (VG 0 "cash" (pV 0))))))))))))
def jN:List D->Option D:=fnP 4 vW
def qY:FS:=(sIf (dPT (ji (p2 v7 (pV 1) (pC (.str [112,97,121]))))) (qH 0 (Vm 0 "owed" jS) (pV 2) (λm n=>m - n) (pV 3))
 (sIf (dPT (ji (p2 v7 (pV 1) (pC (.str [114,101,112,97,121]))))) (jg vf
 (jg vf
 vf))
 (sIf (dPT (ji (p2 v7 (pV 1) (pC (.str [102,105,108,108]))))) vf
 (sIf (dPT (KW (ji (p2 (wI false) (pV 1) (vR (ja (pC (.str [108,101,110,100])) (ja (pC (.str [98,97,99,107])) pN))))) (ji (p2 KQ (pV 3) (pC (.int 0)))))) (jg vf
 vf)
 jM))))
def yk:List D->Option (D×D):=fnM 5 0 qY
def yY:FS:=(jg (jB (dP (pF (p2 jG (VG 0 "owed" (pV 0)) (pV 3)))) (jc [0] 4))
 (jg (jB (dP (pCB wm (ja (pV 4) (ja (p2 jG (VG 0 "levels" (pV 0)) (pV 2)) pN)))) (jc [0] 5))
 (jg (qH 0 (Vm 0 "levels" jS) (pV 2) (λm n=>m - n) (pV 5))
 (jg (qH 0 (Vm 0 "owed" jS) (pV 3) (λm n=>m - n) (pV 5))
 (yp 0 (Vm 0 "entries" jS) (vR (ja (pF (pV 1)) (ja (pC (.str [103,117,97,114,100])) (ja (pF (pV 3)) (ja (pF (pV 4)) (ja (pF (pV 5)) pN)))))))))))
def yq:List D->Option (D×D):=fnM 6 0 yY
def jA:FS:=(jg (jB (dP (jca (p2 KQ (p2 jG (pV 2) (pV 4)) (pC (.int 0))) (p2 (Q2 true) (pV 4) (VG 0 "served" (pV 0))))) (jc [] 6))
 (Km 3 (vR (ja (pF (pV 4)) (ja (pIf (ji (pV 6)) (p2 jo (pV 5) (pC (.int 1))) (pC (.int 0))) pN)))))
def vO:FS:=(jg (jB (dP (pCB yu (ja (p2 jd (pV 1) (pC (.int 0))) pN))) (jc [] 2))
 (jg (jB (dP (v9 pN)) (jc [] 3))
 (jg (Jx (pIt (pF (p2 jd (pV 1) (pC (.int 2))))) (gT 2 (gC (jc [] 4) (gC (jc [] 5) gN))) jA)
 (yQ (jha (vj (dP (vw (VG 0 "sizes" (pV 0)))) (vj (dP (vw (VG 0 "owed" (pV 0)))) (vj (dMv 3) (vj (dP (vw (VG 0 "levels" (pV 0)))) (vj (dP (pF (p2 jd (pV 1) (pC (.int 4))))) jg9))))))))))
def jH:List D->Option D:=fnP 7 vO
def JS:FS:=(jg (sIf (dPT (ji (p2 jdF (pV 1) (pCB kt (ja (pV 0) pN))))) (yQ (dP (pF (p2 jd (pV 0) (pV 1)))))
 jM)
 (yQ (dP (pC (.int 0)))))
def kc:List D->Option D:=fnP 2 JS
def Yy:FS:=(jg (jB (dP (p2 jl (p2 jo (p2 jX (p2 jl (pV 0) (pC (.int 2147483647))) (pC (.int 48271))) (p2 jX (p2 jo (p2 jo (p2 jX (pV 1) (pV 1)) (p2 jX (pC (.int 3)) (pV 1))) (pC (.int 7))) (pC (.int 69621)))) (pC (.int 2147483647)))) (jc [] 2))
 (yQ (dP (p2 jl (p2 jX (pV 2) (pV 2)) (pC (.int 2147483647))))))
def jq:List D->Option D:=fnP 3 Yy
def Y5:FS:=(jg (sIf (dPT (ji (p2 v7 (p2 jl (pV 1) (pC (.int 5))) (pC (.int 0))))) (yQ (dP (pC (.int 1))))
 jM)
 (jg (sIf (dPT (ji (p2 v7 (p2 jl (pV 1) (pC (.int 5))) (pC (.int 1))))) (yQ (dP (pF (pV 2))))
 jM)
 (jg (sIf (dPT (ji (p2 v7 (p2 jl (pV 1) (pC (.int 5))) (pC (.int 2))))) (yQ (dP (p2 jo (pC (.int 1)) (p2 jl (pV 0) (pC (.int 7))))))
 jM)
 (jg (sIf (dPT (ji (p2 v7 (p2 jl (pV 1) (pC (.int 5))) (pC (.int 3))))) (yQ (dP (p2 jo (pC (.int 1)) (p2 jl (pV 0) (pV 2)))))
 jM)
 (yQ (dP (p2 jo (pC (.int 1)) (p2 jl (p2 jX (p2 jX (p2 jo (p2 jl (pV 0) (pV 2)) (pC (.int 1))) (p2 jo (pV 1) (pC (.int 48271)))) (pC (.int 99999999999999997))) (pV 2)))))))))
def yj:List D->Option D:=fnP 3 Y5
def kP:FS:=(jB (dP (p2 jl (p2 jo (p2 jo (p2 jX (pV 1) (pC (.int 1000003))) (pV 2)) (pC (.int 1))) (pC (.int 2147483647)))) (jc [] 1))
def Vx:FS:=(jg (jB (dP (pC (.int 0))) (jc [] 1))
 (jg (Jx (pIt (pF (pV 0))) (jc [] 2) kP)
 (yQ (dP (pF (pV 1))))))
def qw:List D->Option D:=fnP 3 Vx
def v5:FS:=(jg (jB (dP (pF (p2 jd (p2 jd (pV 1) (p2 jl (p2 jo (p2 jz (pV 0) (pC (.int 4))) (pV 4)) (pCB kt (ja (pV 1) pN)))) (pC (.int 0))))) (jc [] 5))
 (Km 3 (vR (ja (pF (p2 jd (p2 jd (pV 2) (p2 jl (p2 jo (p2 jz (pV 0) (pC (.int 24))) (p2 jX (pV 4) (pV 4))) (pCB kt (ja (pV 2) pN)))) (pC (.int 0)))) (ja (pF (pV 5)) pN)))))
def kN:FS:=(jg (jB (dP (v9 pN)) (jc [] 3))
 (jg (sIf (dPT (ji (p2 KH (pV 2) (v9 pN)))) (Jx (qD (ja (pCB wm (ja (pCB kt (ja (pV 1) pN)) (ja (p2 jl (pV 0) (pC (.int 4))) pN))) pN)) (jc [] 4) v5)
 jM)
 (yQ (dMv 3))))
def va:List D->Option D:=fnP 6 kN
def vv:FS:=(jg (jB (dP (pF (p2 jd (pV 5) (p2 jl (pV 0) (pCB kt (ja (pV 5) pN)))))) (jc [] 6))
 (jg (sIf (dPT (KW (ji (p2 v7 (pV 6) (pC (.str [115,104,97,114,101])))) (ji (p2 KQ (pCB kt (ja (pV 3) pN)) (pC (.int 1)))))) (jg (jB (dP (p2 jo (pC (.int 2)) (p2 jl (p2 jz (pV 0) (pC (.int 64))) (p2 vb (pCB kt (ja (pV 3) pN)) (pC (.int 1)))))) (jc [] 7))
 (yQ (dP (vR (ja (pC (.str [115,104,97,114,101])) (ja (pCB wx (ja (yR (qD (ja (pV 7) pN)) (jc [] 0) qT (pF (p2 jd (pV 1) (p2 jl (p2 jo (p2 jz (pV 2) (pC (.int 9))) (pV 0)) (pCB kt (ja (pV 1) pN))))) [none,some 3,some 0]) pN)) pN))))))
 jM)
 (jg (sIf (dPT (KW (ji (p2 v7 (pV 6) (pC (.str [114,101,112,97,121])))) (ji (p2 KH (pV 3) (v9 pN))))) vf
 jM)
 (jg (sIf (dPT (KW (ji (p2 v7 (pV 6) (pC (.str [102,105,108,108])))) (ji (p2 KH (pV 2) (v9 pN))))) vf
 jM)
 (jg (sIf (dPT (ji (p2 v7 (pV 6) (pC (.str [108,101,110,100]))))) vf
 jM)
 (jg (sIf (dPT (ji (p2 v7 (pV 6) (pC (.str [98,97,99,107]))))) vf
 jM)
 (yQ (dP (vR (ja (pC (.str [112,97,121])) (ja (pF (p2 jd (p2 jd (pV 1) (p2 jl (p2 jz (pV 0) (pC (.int 9))) (pCB kt (ja (pV 1) pN)))) (pC (.int 0)))) pN)))))))))))
def yE:List D->Option D:=fnP 8 vv
def JC:FS:=(jg (jB (dP (pCB Yv (ja (yR (YT (pV 0)) (gT 2 (gC (jc [] 0) (gC (jc [] 1) gN))) qT (pF (pV 1)) [none,none]) pN))) (jc [] 2))
 (jg (sIf (dPT (ji (p2 KQ (pV 2) (pC (.int 10))))) (yQ (dP (yR (YT (pV 0)) (gT 2 (gC (jc [] 0) (gC (jc [] 1) gN))) qT (p2 vb (pC (.int 0)) (p2 jz (p2 vb (pC (.int 0)) (p2 jX (pV 2) (pV 1))) (pC (.int 10)))) [none,none,some 1])))
 jM)
 (jg (jB (dP (yR (YT (pV 0)) (gT 2 (gC (jc [] 0) (gC (jc [] 1) gN))) qT (p2 jz (p2 jX (pV 2) (pV 1)) (pC (.int 10))) [none,none,some 1])) (jc [] 3))
 (jg (jB (dP (p2 vb (p2 jz (p2 jX (pV 1) (pV 2)) (pC (.int 10))) (pCB Yv (ja (pV 3) pN)))) (jc [] 4))
 (yQ (dP (yR (qD (ja (pCB kt (ja (pV 3) pN)) pN)) (jc [] 0) qT (p2 jo (p2 jd (pV 1) (pV 0)) (pIf (ji (p2 jdF (pV 0) (pV 2))) (pC (.int 1)) (pC (.int 0)))) [none,some 3,some 4])))))))
def ke:List D->Option D:=fnP 5 JC
def qk:FS:=(jg (jB (dP (jaM (xj (pC (.str [99,97,115,104])) (pF (pV 2)) (xj (pC (.str [115,105,122,101,115])) (pCB yu (ja (p2 jd (pV 1) (pC (.int 0))) pN)) (xj (pC (.str [111,119,101,100])) (pCB yu (ja (p2 jd (pV 1) (pC (.int 1))) pN)) (xj (pC (.str [108,101,118,101,108,115])) (pCB yu (ja (p2 jd (pV 1) (pC (.int 3))) pN)) prN)))))) (jc [] 4))
 (jg (jQ 4 jS (pC (.str [108,111,97,110,115])) (pF (pV 3)))
 (jg (jQ 4 jS (pC (.str [109,97,114,107,115])) (pCB yu (ja (p2 jd (pV 0) (pC (.int 2))) pN)))
 (jg (jQ 4 jS (pC (.str [114,111,119,115])) (v9 pN))
 (jg (jQ 4 jS (pC (.str [109,111,118,101,115])) (v9 pN))
 (jg (jQ 4 jS (pC (.str [115,101,114,118,101,100])) (v9 pN))
 (yQ (dMv 4))))))))
def JG:List D->Option D:=fnP 5 qk
def VC:FS:=(jg (jB (dP (pCB wm (ja (pV 1) (ja (p2 jG (pV 0) (pC (.str [99,97,115,104]))) pN)))) (jc [0] 2))
 (jg (jQ 0 jS (pC (.str [99,97,115,104])) (p2 vb (p2 jG (pV 0) (pC (.str [99,97,115,104]))) (pV 2)))
 (yQ (dP (pF (pV 2))))))
def yU:List D->Option (D×D):=fnM 3 0 VC
def JO:FS:=(jg (jB (dP (pF (p2 jG (pV 0) (pC (.str [99,97,115,104]))))) (jc [0] 3))
 (jg (jQ 0 jS (pC (.str [99,97,115,104])) (pC (.int 0)))
 (yp 0 (Yn [114,111,119,115] jS) (vR (ja (pF (pV 1)) (ja (pC (.str [114,101,115,116])) (ja (pF (pV 2)) (ja (pF (pV 3)) (ja (pF (pV 3)) pN)))))))))
def qr:List D->Option (D×D):=fnM 4 0 JO
def yg:FS:=(jg (jB (dP (jca (p2 KQ (p2 jG (pCB yu (ja (p2 jd (pV 1) (pC (.int 0))) pN)) (pV 3)) (pC (.int 0))) (p2 (wI true) (pV 3) (p2 jG (pV 0) (pC (.str [115,101,114,118,101,100])))))) (jc [] 5))
 (Km 2 (vR (ja (pF (pV 3)) (ja (pIf (ji (pV 5)) (p2 jo (pV 4) (pC (.int 1))) (pC (.int 0))) pN)))))
def JV:FS:=(jg (jB (dP (v9 pN)) (jc [] 2))
 (jg (Jx (pIt (pF (p2 jd (pV 1) (pC (.int 2))))) (gT 2 (gC (jc [] 3) (gC (jc [] 4) gN))) yg)
 (jg (jB (dP (yR (YT (p2 jd (pV 1) (pC (.int 0)))) (gT 2 (gC (jc [] 0) (gC (jc [] 1) gN))) qT (vR (ja (pF (pV 0)) (ja (pF (p2 jG (p2 jG (pV 2) (pC (.str [115,105,122,101,115]))) (pV 0))) pN))) [none,none,some 0])) (jc [] 6))
 (jg (jB (dP (yR (YT (p2 jd (pV 1) (pC (.int 1)))) (gT 2 (gC (jc [] 0) (gC (jc [] 1) gN))) qT (vR (ja (pF (pV 0)) (ja (pF (p2 jG (p2 jG (pV 2) (pC (.str [111,119,101,100]))) (pV 0))) pN))) [none,none,some 0])) (jc [] 7))
 (sFz 6 (sFz 7 (sFz 2 (yQ (dP (vR (ja (pF (pV 6)) (ja (pF (pV 7)) (ja (pF (pV 2)) (ja (yR (YT (p2 jd (pV 1) (pC (.int 3)))) (gT 2 (gC (jc [] 0) (gC (jc [] 1) gN))) qT (vR (ja (pF (pV 0)) (ja (pF (p2 jG (p2 jG (pV 2) (pC (.str [108,101,118,101,108,115]))) (pV 0))) pN))) [none,none,some 0]) (ja (pF (p2 jd (pV 1) (pC (.int 4)))) pN)))))))))))))))
def vK:List D->Option D:=fnP 8 JV
def JZ:FS:=(yQ (dP (vR (ja (pCB Vq (ja (p2 jd (pV 0) (pC (.int 0))) pN)) (ja (pCB Vq (ja (p2 jd (pV 0) (pC (.int 1))) pN)) (ja (pCB Vq (ja (p2 jd (pV 0) (pC (.int 2))) pN)) (ja (pCB Vq (ja (p2 jd (pV 0) (pC (.int 3))) pN)) (ja (pF (p2 jd (pV 0) (pC (.int 4)))) pN))))))))
def vS:List D->Option D:=fnP 1 JZ
def vc:FS:=(sIf (dPT (KW (ji (p2 KQ (pV 4) (pC (.int 0)))) (ji (p2 jdF (p2 jd (pV 3) (pV 5)) (p2 jd (pV 0) (pV 5)))))) (jg (jB (dP (p2 jo (p2 jd (pV 3) (pV 5)) (pC (.int 1)))) (gIx [] 3 (pV 5)))
 (jB (dP (p2 vb (pV 4) (pC (.int 1)))) (jc [] 4)))
 jM)
def JL:FS:=(jg (jB (dP (pCB Yv (ja (pV 0) pN))) (jc [] 2))
 (jg (sIf (dPT (ji (p2 jkU (pV 1) (pV 2)))) (yQ (dP (pCB Vq (ja (pV 0) pN))))
 jM)
 (jg (jB (dP (yR (YT (pV 0)) (jc [] 0) qT (p2 jz (p2 jX (pV 1) (pV 0)) (pV 2)) [none,some 1,some 2])) (jc [] 3))
 (jg (jB (dP (p2 vb (pV 1) (pCB Yv (ja (pV 3) pN)))) (jc [] 4))
 (jg (Jx (qD (ja (pCB kt (ja (pV 0) pN)) pN)) (jc [] 5) vc)
 (yQ (dMv 3)))))))
def kj:List D->Option D:=fnP 6 JL
def vF:FS:=(jg (jB (dP (pF (p2 jG (p2 jG (pV 0) (pC (.str [111,119,101,100]))) (p2 jd (pV 3) (pC (.int 1)))))) (jc [0] 4))
 (jg (jB (dP (pCB wm (ja (pV 4) (ja (p2 jG (p2 jG (pV 0) (pC (.str [108,101,118,101,108,115]))) (p2 jd (pV 3) (pC (.int 0)))) pN)))) (jc [0] 5))
 (jg (jQ 0 (Yn [108,101,118,101,108,115] jS) (p2 jd (pV 3) (pC (.int 0))) (p2 vb (p2 jG (p2 jG (pV 0) (pC (.str [108,101,118,101,108,115]))) (p2 jd (pV 3) (pC (.int 0)))) (pV 5)))
 (jg (jQ 0 (Yn [111,119,101,100] jS) (p2 jd (pV 3) (pC (.int 1))) (p2 vb (pV 4) (pV 5)))
 (yp 0 (Yn [114,111,119,115] jS) (vR (ja (pF (pV 2)) (ja (pC (.str [103,117,97,114,100])) (ja (pF (p2 jd (pV 3) (pC (.int 1)))) (ja (pF (pV 4)) (ja (pF (pV 5)) pN)))))))))))
def Jv:FS:=(Jx (J4 (ja (pF (pV 1)) pN)) (gT 2 (gC (jc [0] 2) (gC (jc [0] 3) gN))) vF)
def vp:List D->Option (D×D):=fnM 6 0 Jv
def zI:FS:=(jg (jB (dP (jK ku (ja (pV 0) pN))) (jc [] 2))
 (jg (sIf (dPT (ji (p2 KQ (pV 2) (pC (.int 10))))) (jg (jB (dP (yR (YT (pV 0)) (jc [] 0) qT (p2 jz (p2 jo (p2 jX (pV 1) (p2 jd (pV 0) (pC (.int 1)))) (pC (.int 9))) (pC (.int 10))) [none,some 1])) (jc [] 3))
 (yQ (jae 3 (ja (p2 vb (pCB Yv (ja (pV 3) pN)) (pV 1)) pN))))
 jM)
 (jg (jB (dP (yR (YT (pV 0)) (jc [] 0) qT (p2 jz (p2 jX (pV 1) (p2 jd (pV 0) (pC (.int 1)))) (pC (.int 10))) [none,some 1])) (jc [] 3))
 (jg (jB (dP (p2 vb (p2 jz (p2 jX (pV 1) (pV 2)) (pC (.int 10))) (pCB Yv (ja (pV 3) pN)))) (jc [] 4))
 (sFz 3 (yQ (dP (vR (ja (yR (J4 (ja (pF (pV 3)) pN)) (gT 2 (gC (jc [] 0) (gC (jc [] 1) gN))) qT (pIf (ji (p2 jdF (pV 0) (pV 2))) (p2 jo (pV 1) (pC (.int 1))) (pF (pV 1))) [none,none,some 4]) (ja (pC (.int 0)) pN))))))))))
def YI:List D->Option D:=fnP 5 zI
def vy:FS:=(jg (Jc 0 0 "pool_name" (pF (p2 jd (pV 1) (pC (.int 0)))))
 (jg (Jc 0 0 "marks" (pCB yu (ja (p2 jd (pV 1) (pC (.int 2))) pN)))
 (jg (Jc 0 0 "sizes" (pCB yu (ja (p2 jd (pV 2) (pC (.int 0))) pN)))
 (jg (Jc 0 0 "owed" (pCB yu (ja (p2 jd (pV 2) (pC (.int 1))) pN)))
 (jg (Jc 0 0 "levels" (pCB yu (ja (p2 jd (pV 2) (pC (.int 3))) pN)))
 (jg (Jc 0 0 "loans" (jK yL (ja (pV 4) pN)))
 (jg (Jc 0 0 "cash" (pF (pV 3)))
 (jg (Jc 0 0 "served" (pC (.dK true [] [])))
 (jg (Jc 0 0 "entries" (v9 pN))
 (Jc 0 0 "moves" (v9 pN)))))))))))
def yK:List D->Option (D×D):=fnM 5 0 vy
def ye:FS:=(jg (jB (dP (pF (p2 jd (pV 2) (pC (.int 0))))) (jc [0] 3))
 (jg (jB (dP (pF (p2 jd (pV 2) (pC (.int 1))))) (jc [0] 4))
 (jg (jB (dP (JF jN 0 "need_of" (pV 0) (ja (pV 2) pN))) (jc [0] 5))
 (jg (jB (dP (pCB wm (ja (pV 5) (ja (VG 0 "cash" (pV 0)) pN)))) (jc [0] 6))
 (jg (JW 0 jS 0 "cash" (λm n=>m - n) (pV 6))
 (jg (yp 0 (Vm 0 "entries" jS) (vR (ja (pF (pV 1)) (ja (pF (pV 3)) (ja (pF (pV 4)) (ja (pF (pV 5)) (ja (pF (pV 6)) pN)))))))
 (jg (J1 (yS yk 0 0 "give" (ja (pF (pV 3)) (ja (pF (pV 4)) (ja (pF (pV 6)) pN)))))
 (sIf (dPT (KW (ji (p2 (wI false) (pV 3) (vR (ja (pC (.str [112,97,121])) (ja (pC (.str [114,101,112,97,121])) pN))))) (KW (ji (p2 v7 (pV 6) (pV 5))) (ji (p2 KQ (pV 5) (pC (.int 0))))))) (jQ 0 (Vm 0 "served" jS) (pV 4) (pC (.bl true)))
 jM))))))))
def jv:List D->Option (D×D):=fnM 7 0 ye
def yz:FS:=(jg (JW 0 jS 0 "cash" (λm n=>m - n) (pV 8))
 (jg (qH 0 (Vm 0 "owed" jS) (pV 6) (λm n=>m - n) (pV 8))
 (jg (yp 0 (Vm 0 "entries" jS) (vR (ja (pF (pV 1)) (ja (pC (.str [115,104,97,114,101])) (ja (pF (pV 6)) (ja (pF (pV 7)) (ja (pF (pV 8)) pN)))))))
 (sIf (dPT (ji (pV 5))) (jQ 0 (Vm 0 "served" jS) (pV 6) (pC (.bl true)))
 jM))))
def yV:FS:=(jg (jB (dP (yR (YT (pV 2)) (jc [] 0) qT (pF (p2 jG (VG 0 "owed" (pV 1)) (pV 0))) [none,some 0])) (jc [0] 3))
 (jg (jB (dP (jK Ju (ja (pV 3) (ja (VG 0 "cash" (pV 0)) pN)))) (jc [0] 4))
 (jg (jB (dP (jca (p2 KQ (pCB Yv (ja (pV 3) pN)) (pC (.int 0))) (p2 v7 (pV 4) (pV 3)))) (jc [0] 5))
 (sFz 3 (sFz 4 (Jx (pZ3 (ja (pF (pV 2)) (ja (pF (pV 3)) (ja (pF (pV 4)) pN)))) (gT 3 (gC (jc [0] 6) (gC (jc [0] 7) (gC (jc [0] 8) gN)))) yz))))))
def jF:List D->Option (D×D):=fnM 9 0 yV
def vk:FS:=(jg (jB (dP (yR (qD (ja (pV 5) pN)) (jc [] 0) qT (pF (pV 1)) [none,some 3])) (jc [] 9))
 (jg (jB (dP (pF (p2 jd (pV 4) (p2 jl (p2 jo (p2 jz (pV 2) (pC (.int 4200))) (p2 jX (pC (.int 3)) (pV 8))) (pC (.int 20)))))) (gIx [] 9 (pV 6)))
 (jg (jB (dP (pF (p2 jd (pV 4) (p2 jl (p2 jo (p2 jz (pV 2) (pC (.int 84000))) (p2 jz (pV 8) (pC (.int 20)))) (pC (.int 20)))))) (gIx [] 9 (p2 jl (p2 jo (pV 6) (pC (.int 1))) (pV 5))))
 (Km 7 (pBM "str" wO (pC (.str [])) (ja (pV 9) pN))))))
def qQ:FS:=(jg (jB (dP (jK jq (ja (pV 0) (ja (pC (.int 3)) pN)))) (jc [] 2))
 (jg (jB (dP (pF (p2 jd (pC (.str [97,98,99,100,101,102,103,104,105,106,107,108,109,110,112,113,114,115,116,117,118,119,120,121,122])) (p2 jl (pV 2) (pC (.int 25)))))) (jc [] 3))
 (jg (jB (dP (pC (.str [98,99,100,102,103,104,106,107,108,109,110,112,113,114,115,116,118,119,120,122]))) (jc [] 4))
 (jg (sIf (dPT (KW (ji (p2 v7 (p2 jl (p2 jz (pV 2) (pC (.int 25))) (pC (.int 3))) (pC (.int 0)))) (ji (p2 jdF (pV 1) (pC (.int 9)))))) (yQ (dP (yR (qD (ja (pV 1) pN)) (jc [] 0) qT (p2 jX (pV 1) (p2 vb (pV 2) (pV 0))) [none,some 3,some 1])))
 jM)
 (jg (jB (dP (p2 jo (pC (.int 2)) (p2 jl (p2 jz (pV 2) (pC (.int 75))) (pC (.int 7))))) (jc [] 5))
 (jg (jB (dP (p2 jl (p2 jz (pV 2) (pC (.int 525))) (pV 5))) (jc [] 6))
 (jg (jB (dP (v9 pN)) (jc [] 7))
 (jg (Jx (qD (ja (pV 1) pN)) (jc [] 8) vk)
 (yQ (dMv 7))))))))))
def jV:List D->Option D:=fnP 10 qQ
def vX:FS:=(jg (jB (dP (jK jq (ja (pV 0) (ja (p2 jo (pC (.int 20)) (pV 4)) pN)))) (jc [] 5))
 (jg (jB (dP (jK yj (ja (p2 jo (pV 0) (pV 4)) (ja (p2 jl (pV 5) (pC (.int 1009))) (ja (p2 jd (v9 (ja (pC (.int 30)) (ja (p2 Vt (pC (.int 10)) (pC (.int 12))) pN))) (p2 jl (p2 jz (pV 5) (pC (.int 1009))) (pC (.int 2)))) pN))))) (jc [] 6))
 (Km 3 (vR (ja (pF (p2 jd (pV 1) (p2 jo (pC (.int 1)) (pV 4)))) (ja (pF (pV 6)) (ja (jK yj (ja (p2 jo (pV 0) (pV 4)) (ja (p2 jl (p2 jz (pV 5) (pC (.int 2018))) (pC (.int 997))) (ja (p2 jd (v9 (ja (pC (.int 9)) (ja (p2 Vt (pC (.int 10)) (pC (.int 12))) pN))) (p2 jl (p2 jz (pV 2) (pC (.int 6))) (pC (.int 2)))) pN)))) pN)))))))
def JT:FS:=(jg (jB (dP (v9 pN)) (jc [] 3))
 (jg (Jx (qD (ja (p2 jo (pC (.int 1)) (p2 jl (pV 2) (pC (.int 6)))) pN)) (jc [] 4) vX)
 (yQ (dMv 3))))
def vQ:List D->Option D:=fnP 7 JT
def kq:FS:=(jg (jB (dP (p2 jo (pC (.int 1)) (p2 jl (jK jq (ja (pV 1) (ja (p2 jo (p2 jo (pV 3) (pC (.int 40))) (pV 11)) pN))) (p2 jd (v9 (ja (pC (.int 2)) (ja (pC (.int 3)) (ja (pC (.int 10)) pN)))) (p2 jl (p2 jz (pV 9) (pC (.int 6))) (pC (.int 3))))))) (jc [] 12))
 (Km 10 (vR (ja (pF (p2 jd (p2 jd (pV 4) (p2 jl (p2 jo (p2 jz (pV 9) (pC (.int 18))) (pV 11)) (pCB kt (ja (pV 4) pN)))) (pC (.int 0)))) (ja (pF (pV 12)) pN)))))
def km:FS:=(jg (jB (dP (jK jq (ja (p2 jo (pV 1) (jK kc (ja (pV 0) (ja (p2 jo (pV 3) (pV 14)) pN)))) (ja (p2 jo (pV 3) (pV 14)) pN)))) (jc [] 15))
 (Km 13 (jK yE (ja (pV 15) (ja (pV 4) (ja (pV 5) (ja (pV 6) (ja (pV 7) (ja (pV 8) pN)))))))))
def Y9:FS:=(jg (jB (dP (jK jq (ja (pV 1) (ja (pV 3) pN)))) (jc [] 9))
 (jg (jB (dP (v9 pN)) (jc [] 10))
 (jg (Jx (qD (ja (pCB wm (ja (pCB kt (ja (pV 4) pN)) (ja (p2 jd (v9 (ja (pC (.int 0)) (ja (pC (.int 0)) (ja (pC (.int 1)) (ja (pC (.int 2)) (ja (pC (.int 3)) (ja (pC (.int 6)) pN))))))) (p2 jl (pV 9) (pC (.int 6)))) pN))) pN)) (jc [] 11) kq)
 (jg (jB (dP (v9 pN)) (jc [] 13))
 (jg (sIf (dPT (ji (p2 KH (pV 8) (v9 pN)))) (Jx (qD (ja (p2 jd (v9 (ja (pC (.int 2)) (ja (pC (.int 4)) (ja (pC (.int 8)) (ja (p2 jo (pC (.int 1)) (p2 jl (p2 jz (pV 9) (pC (.int 108))) (pC (.int 8)))) pN))))) (p2 jl (p2 jz (pV 9) (pC (.int 864))) (pC (.int 4)))) pN)) (jc [] 14) km)
 jM)
 (jg (Km 13 (vR (ja (pC (.str [114,101,115,116])) (ja (pF (p2 jd (p2 jd (pV 4) (p2 jl (p2 jz (pV 9) (pC (.int 3456))) (pCB kt (ja (pV 4) pN)))) (pC (.int 0)))) pN))))
 (sFz 10 (sFz 13 (yQ (dP (vR (ja (pF (pV 2)) (ja (pF (pV 10)) (ja (pF (pV 13)) pN))))))))))))))
def kC:List D->Option D:=fnP 16 Y9
def y9:FS:=(jg (jB (dP (jK jq (ja (pV 0) (ja (p2 jo (pC (.int 200)) (pV 5)) pN)))) (jc [] 7))
 (jg (jB (dP (pF (p2 jd (v9 (ja (pF (p2 jd (pV 6) (pC (.int 1)))) (ja (pC (.int 1)) (ja (p2 jo (pC (.int 1)) (p2 jl (p2 jz (pV 7) (pC (.int 35))) (p2 jd (pV 6) (pC (.int 1))))) pN)))) (p2 jl (p2 jz (pV 7) (pC (.int 5))) (pC (.int 3)))))) (jc [] 8))
 (jg (jB (dP (p2 jo (p2 jd (pV 6) (pC (.int 2))) (p2 jd (v9 (ja (pC (.int 0)) (ja (p2 jl (p2 jz (pV 7) (pC (.int 7))) (p2 jo (p2 jX (pC (.int 2)) (p2 jd (pV 6) (pC (.int 2)))) (pC (.int 1)))) (ja (p2 jl (p2 jz (pV 7) (pC (.int 15))) (p2 Vt (pC (.int 10)) (pC (.int 13)))) pN)))) (p2 jl (p2 jz (pV 7) (pC (.int 15))) (pC (.int 3)))))) (jc [] 9))
 (jg (sIf (dPT (ji (p2 v7 (p2 jl (pV 7) (pC (.int 5))) (pC (.int 0))))) (jg (jB (dP (pC (.int 0))) (jc [] 8))
 (jB (dP (pC (.int 0))) (jc [] 9)))
 jM)
 (jg (Km 2 (vR (ja (pF (p2 jd (pV 6) (pC (.int 0)))) (ja (pF (pV 8)) pN))))
 (jg (Km 3 (vR (ja (pF (p2 jd (pV 6) (pC (.int 0)))) (ja (pF (pV 9)) pN))))
 (Km 4 (vR (ja (pF (p2 jd (pV 6) (pC (.int 0)))) (ja (p2 jl (p2 jz (pV 7) (pC (.int 45))) (pC (.int 4))) pN))))))))))
def vP:FS:=(jg (jB (dP (jK jq (ja (pV 0) (ja (p2 jo (pC (.int 210)) (pV 5)) pN)))) (jc [] 7))
 (Km 10 (vR (ja (pF (p2 jd (pV 11) (pC (.int 0)))) (ja (pF (p2 jd (v9 (ja (pC (.int 0)) (ja (pF (p2 jd (pV 11) (pC (.int 1)))) (ja (p2 jl (p2 jz (pV 7) (pC (.int 3))) (p2 jo (p2 jd (pV 11) (pC (.int 1))) (pC (.int 1)))) pN)))) (p2 jl (pV 7) (pC (.int 3))))) pN)))))
def VD:FS:=(jg (jB (dP (v9 pN)) (jc [] 2))
 (jg (jB (dP (v9 pN)) (jc [] 3))
 (jg (jB (dP (v9 pN)) (jc [] 4))
 (jg (Jx (J4 (ja (pF (p2 jd (pV 1) (pC (.int 1)))) pN)) (gT 2 (gC (jc [] 5) (gC (jc [] 6) gN))) y9)
 (jg (jB (dP (v9 pN)) (jc [] 10))
 (jg (Jx (J4 (ja (pF (p2 jd (pV 1) (pC (.int 2)))) pN)) (gT 2 (gC (jc [] 5) (gC (jc [] 11) gN))) vP)
 (sFz 2 (sFz 3 (sFz 4 (sFz 10 (yQ (dP (vR (ja (pF (pV 2)) (ja (pF (pV 3)) (ja (pF (pV 4)) (ja (pF (pV 10)) (ja (p2 jl (jK jq (ja (pV 0) (ja (pC (.int 220)) pN))) (pC (.int 50))) pN))))))))))))))))))
def qh:List D->Option D:=fnP 12 VD
def yb:FS:=(jg (jB (dP (jK jq (ja (pV 0) (ja (p2 jo (pC (.int 230)) (pV 4)) pN)))) (jc [] 6))
 (jg (sIf (dPT (ji (p2 v7 (p2 jl (pV 6) (pC (.int 2))) (pC (.int 0))))) (Km 3 (vR (ja (pF (p2 jd (pV 1) (pC (.int 0)))) (ja (pF (pV 5)) (ja (jK yj (ja (pV 6) (ja (p2 jl (p2 jz (pV 6) (pC (.int 2))) (pC (.int 1009))) (ja (p2 jd (v9 (ja (pC (.int 9)) (ja (p2 Vt (pC (.int 10)) (pC (.int 12))) pN))) (p2 jl (p2 jz (pV 6) (pC (.int 11))) (pC (.int 2)))) pN)))) pN)))))
 jM)
 (sIf (dPT (ji (p2 v7 (p2 jl (p2 jz (pV 6) (pC (.int 2))) (pC (.int 2))) (pC (.int 0))))) (Km 3 (vR (ja (pF (pV 5)) (ja (pF (p2 jd (pV 1) (pC (.int 0)))) (ja (jK yj (ja (pV 6) (ja (p2 jl (p2 jz (pV 6) (pC (.int 4))) (pC (.int 1009))) (ja (p2 jd (v9 (ja (pC (.int 9)) (ja (p2 Vt (pC (.int 10)) (pC (.int 12))) pN))) (p2 jl (p2 jz (pV 6) (pC (.int 13))) (pC (.int 2)))) pN)))) pN)))))
 jM)))
def YL:FS:=(jg (jB (dP (v9 pN)) (jc [] 3))
 (jg (Jx (J4 (ja (pF (pV 2)) pN)) (gT 2 (gC (jc [] 4) (gC (jc [] 5) gN))) yb)
 (yQ (dP (pCB YX (ja (pV 3) pN))))))
def kx:List D->Option D:=fnP 7 YL
def VU:FS:=(jg (jB (dP (jK jq (ja (pV 0) (ja (pC (.int 240)) pN)))) (jc [] 3))
 (jg (jB (dP (p2 jo (pCB Yv (ja (yR (YT (p2 jo (p2 jd (pV 2) (pC (.int 0))) (p2 jd (pV 2) (pC (.int 1))))) (gT 2 (gC (jc [] 0) (gC (jc [] 1) gN))) qT (pF (pV 1)) [none,none]) pN)) (pCB Yv (ja (yR (YT (p2 jd (pV 1) (pC (.int 2)))) (gT 2 (gC (jc [] 0) (gC (jc [] 1) gN))) qT (pF (pV 1)) [none,none]) pN)))) (jc [] 4))
 (jg (jB (dP (pCB Yv (ja (yR (YT (pSl (p2 jd (pV 2) (pC (.int 1))) oN (oS (p2 jo (pC (.int 1)) (p2 jl (p2 jz (pV 3) (pC (.int 6))) (pC (.int 6))))))) (gT 2 (gC (jc [] 0) (gC (jc [] 1) gN))) qT (pF (pV 1)) [none,none]) pN))) (jc [] 5))
 (yQ (dP (pF (p2 jd (v9 (ja (pC (.int 0)) (ja (p2 jo (pC (.int 1)) (p2 jl (p2 jz (pV 3) (pC (.int 6))) (pC (.int 9)))) (ja (pF (pV 5)) (ja (p2 jX (pV 5) (p2 jo (pC (.int 1)) (p2 jl (p2 jz (pV 3) (pC (.int 36))) (pC (.int 3))))) (ja (p2 jl (p2 jX (pV 3) (pV 3)) (p2 jo (pV 4) (pC (.int 2)))) (ja (p2 jo (p2 jX (pV 4) (pC (.int 3))) (pV 3)) pN))))))) (p2 jl (pV 3) (pC (.int 6))))))))))
def qf:List D->Option D:=fnP 6 VU
def y4:FS:=(we 0 (Yn [114,111,119,115] jS) (jha (vj (dP (pF (pV 4))) (vj (dP (pC (.str [112,97,114,116]))) (vj (dP (pF (p2 jd (pV 5) (pC (.int 0))))) (vj (dP (pF (p2 jd (pV 3) (pV 4)))) (vj (yw yU 0 jS (ja (pF (p2 jd (pV 3) (pV 4))) pN)) jg9)))))))
def vJ:FS:=(jg (jB (dP (jK ke (ja (pV 1) (ja (pV 2) pN)))) (jc [0] 3))
 (jg (Jx (J4 (ja (pF (pV 1)) pN)) (gT 2 (gC (jc [0] 4) (gC (jc [0] 5) gN))) y4)
 (sIf (dPT (KW (ji (p2 KQ (pCB Yv (ja (yR (YT (pV 1)) (jc [] 0) qT (pF (p2 jd (pV 0) (pC (.int 1)))) [none]) pN)) (pC (.int 10)))) (ji (p2 KQ (pV 2) (pC (.int 0)))))) (yp 0 (Yn [114,111,119,115] jS) (vR (ja (p1 xi (pC (.int 1))) (ja (pC (.str [116,119,105,99,101])) (ja (pC (.str [])) (ja (pCB Yv (ja (pV 3) pN)) (ja (pF (pV 2)) pN)))))))
 jM)))
def yD:List D->Option (D×D):=fnM 6 0 vJ
def Vc:FS:=(jg (jB (dP (pF (p2 jG (p2 jG (pV 0) (pC (.str [111,119,101,100]))) (pV 2)))) (jc [0] 3))
 (jg (jB (yw yU 0 jS (ja (pF (pV 3)) pN)) (jc [0] 4))
 (jg (jQ 0 (Yn [111,119,101,100] jS) (pV 2) (p2 vb (pV 3) (pV 4)))
 (jg (yp 0 (Yn [114,111,119,115] jS) (vR (ja (pF (pV 1)) (ja (pC (.str [112,97,121])) (ja (pF (pV 2)) (ja (pF (pV 3)) (ja (pF (pV 4)) pN)))))))
 (sIf (dPT (KW (ji (p2 v7 (pV 4) (pV 3))) (ji (p2 KQ (pV 3) (pC (.int 0)))))) (yp 0 (Yn [115,101,114,118,101,100] jS) (pF (pV 2)))
 jM)))))
def Jw:List D->Option (D×D):=fnM 5 0 Vc
def kE:FS:=(jg (jQ 0 (Yn [111,119,101,100] jS) (pV 5) (p2 vb (pV 6) (pV 7)))
 (jg (jQ 0 jS (pC (.str [99,97,115,104])) (p2 vb (p2 jG (pV 0) (pC (.str [99,97,115,104]))) (pV 7)))
 (yp 0 (Yn [114,111,119,115] jS) (vR (ja (pF (pV 1)) (ja (pC (.str [115,104,97,114,101])) (ja (pF (pV 5)) (ja (pF (pV 6)) (ja (pF (pV 7)) pN)))))))))
def ky:FS:=(jg (jB (dP (yR (YT (pV 2)) (jc [] 0) qT (pF (p2 jG (p2 jG (pV 1) (pC (.str [111,119,101,100]))) (pV 0))) [none,some 0])) (jc [0] 3))
 (jg (jB (dP (jK kj (ja (pV 3) (ja (p2 jG (pV 0) (pC (.str [99,97,115,104]))) pN)))) (jc [0] 4))
 (jg (sFz 3 (sFz 4 (Jx (pZ3 (ja (pF (pV 2)) (ja (pF (pV 3)) (ja (pF (pV 4)) pN)))) (gT 3 (gC (jc [0] 5) (gC (jc [0] 6) (gC (jc [0] 7) gN)))) kE)))
 (sIf (dPT (KW (ji (p2 v7 (pV 4) (pV 3))) (ji (p2 KQ (pCB Yv (ja (pV 3) pN)) (pC (.int 0)))))) (wJ 0 (pC (.str [115,101,114,118,101,100])) (pV 2))
 jM))))
def yB:List D->Option (D×D):=fnM 8 0 ky
def yA:FS:=(jg (jB (dP (pF (p2 jd (p2 jd (pV 3) (pC (.int 0))) (pV 4)))) (jc [0] 6))
 (jg (jB (dP (pCB wm (ja (pV 6) (ja (VG 0 "cash" (pV 0)) pN)))) (jc [0] 7))
 (jg (JW 0 jS 0 "cash" (λm n=>m - n) (pV 7))
 (yp 0 (Vm 0 "entries" jS) (vR (ja (pF (pV 4)) (ja (pC (.str [112,97,114,116])) (ja (pF (p2 jd (pV 5) (pC (.int 0)))) (ja (pF (pV 6)) (ja (pF (pV 7)) pN))))))))))
def yT:FS:=(jg (jB (dP (pF (VG 0 "cash" (pV 0)))) (jc [0] 2))
 (jg (jB (dP (jK YI (ja (pV 1) (ja (pV 2) pN)))) (jc [0] 3))
 (jg (Jx (J4 (ja (pF (pV 1)) pN)) (gT 2 (gC (jc [0] 4) (gC (jc [0] 5) gN))) yA)
 (sIf (dPT (ji (p2 KQ (p2 jd (pV 3) (pC (.int 1))) (pC (.int 0))))) (yp 0 (Vm 0 "entries" jS) (vR (ja (p1 xi (pC (.int 1))) (ja (pC (.str [116,119,105,99,101])) (ja (pC (.str [])) (ja (pCB Yv (ja (p2 jd (pV 3) (pC (.int 0))) pN)) (ja (pF (pV 2)) pN)))))))
 jM))))
def jP:List D->Option (D×D):=fnM 8 0 yT
def vT:FS:=(jg (jB (dP (jK yj (ja (p2 jo (pV 1) (pV 7)) (ja (p2 jl (p2 jz (pV 4) (p2 jo (pC (.int 36)) (pV 7))) (pC (.int 1009))) (ja (p2 jd (v9 (ja (pC (.int 9)) (ja (p2 Vt (pC (.int 10)) (pC (.int 12))) pN))) (p2 jl (p2 jz (pV 4) (pC (.int 12))) (pC (.int 2)))) pN))))) (jc [] 8))
 (Km 6 (vR (ja (pF (p2 jd (pV 3) (p2 jo (pC (.int 7)) (pV 7)))) (ja (pF (pV 8)) pN)))))
def vU:FS:=(Km 14 (jK kC (ja (pV 0) (ja (pV 1) (ja (p2 jd (pV 13) (pV 7)) (ja (p2 jo (pC (.int 3)) (p2 jX (pC (.int 9)) (pV 7))) (ja (pV 5) (ja (pV 6) (ja (pV 11) (ja (pV 12) (ja (pV 2) pN)))))))))))
def VP:FS:=(jg (jB (dP (jK jV (ja (pV 1) (ja (pC (.int 12)) pN)))) (jc [] 3))
 (jg (jB (dP (jK jq (ja (pV 1) (ja (pC (.int 1)) pN)))) (jc [] 4))
 (jg (jB (dP (jK vQ (ja (pV 1) (ja (pV 3) (ja (pV 4) pN))))) (jc [] 5))
 (jg (jB (dP (v9 pN)) (jc [] 6))
 (jg (Jx (qD (ja (p2 jl (p2 jz (pV 4) (pC (.int 72))) (pC (.int 4))) pN)) (jc [] 7) vT)
 (jg (jB (dP (jK va (ja (p2 jz (pV 4) (pC (.int 288))) (ja (pV 5) (ja (pV 6) pN))))) (jc [] 9))
 (jg (jB (dP (yR (YT (pV 9)) (jc [] 0) qT (pF (p2 jd (pV 0) (pC (.int 1)))) [none])) (jc [] 10))
 (jg (jB (dP (yR (YT (pV 5)) (jc [] 0) (ji (p2 (wI true) (p2 jd (pV 0) (pC (.int 0))) (pV 1))) (pF (p2 jd (pV 0) (pC (.int 0)))) [none,some 10])) (jc [] 11))
 (jg (jB (dP (pSl (pV 3) (oS (pC (.int 10))) oN)) (jc [] 12))
 (jg (jB (dP (jK jV (ja (p2 jo (pV 1) (pC (.int 1))) (ja (pC (.int 2)) pN)))) (jc [] 13))
 (jg (sFz 12 (sFz 11 (sFz 6 (sFz 5 (jB (dP (v9 pN)) (jc [] 14))))))
 (jg (Jx (qD (ja (pC (.int 2)) pN)) (jc [] 7) vU)
 (jg (jB (dP (yR (YT (pSl (pV 5) oN (oS (p2 jl (p2 jz (pV 4) (pC (.int 7))) (pC (.int 7)))))) (jc [] 0) qT (pF (p2 jd (pV 0) (pC (.int 0)))) [none])) (jc [] 15))
 (sFz 5 (sFz 6 (sFz 15 (sFz 14 (sFz 9 (yQ (dP (vR (ja (pF (p2 jd (pV 3) (pC (.int 0)))) (ja (pF (pV 5)) (ja (pF (pV 6)) (ja (pF (pV 15)) (ja (pF (pV 14)) (ja (v9 pN) (ja (pF (pV 9)) pN))))))))))))))))))))))))))))
def qv:List D->Option D:=fnP 16 VP
def yX:FS:=(jg (jB (dP (p2 jo (pCB kt (ja (p2 jd (pV 1) (pC (.int 1))) pN)) (pV 6))) (jc [] 8))
 (sIf (dPT (ji (p2 v7 (p2 jd (pV 7) (pC (.int 0))) (pC (.str [114,101,115,116]))))) (J1 (yw qr 5 jS (ja (pF (pV 8)) (ja (pF (p2 jd (pV 7) (pC (.int 1)))) pN))))
 (sIf (dPT (ji (p2 v7 (p2 jd (pV 7) (pC (.int 0))) (pC (.str [115,104,97,114,101]))))) (J1 (yw yB 5 jS (ja (pF (pV 8)) (ja (pF (p2 jd (pV 7) (pC (.int 1)))) pN))))
 (J1 (yw Jw 5 jS (ja (pF (pV 8)) (ja (pF (p2 jd (pV 7) (pC (.int 1)))) pN)))))))
def K6:FS:=(jg (jB (dP (jK JG (ja (pV 0) (ja (pV 2) (ja (pV 3) (ja (pV 4) pN)))))) (jc [] 5))
 (jg (J1 (yw yD 5 jS (ja (pF (p2 jd (pV 1) (pC (.int 1)))) (ja (pF (pV 3)) pN))))
 (jg (Jx (J4 (ja (pF (p2 jd (pV 1) (pC (.int 2)))) pN)) (gT 2 (gC (jc [] 6) (gC (jc [] 7) gN))) yX)
 (jg (J1 (yw vp 5 jS (ja (pF (p2 jd (pV 0) (pC (.int 6)))) pN)))
 (sFz 5 (yQ (dP (vR (ja (pF (p2 jG (pV 5) (pC (.str [114,111,119,115])))) (ja (jK vK (ja (pV 5) (ja (pV 2) pN))) (ja (pF (p2 jG (pV 5) (pC (.str [109,111,118,101,115])))) pN)))))))))))
def Jh:List D->Option D:=fnP 9 K6
def Jf:FS:=(sIf (dPT (ji (p2 v7 (p2 jd (pV 8) (pC (.int 0))) (pC (.str [115,104,97,114,101]))))) (J1 (yS jF 6 0 "take_share" (ja (pF (pV 7)) (ja (pF (p2 jd (pV 8) (pC (.int 1)))) pN))))
 (J1 (yS jv 6 0 "take_rule" (ja (pF (pV 7)) (ja (pF (pV 8)) pN)))))
def Kg:FS:=(J1 (yS yq 6 0 "take_guard" (ja (pF (pV 7)) (ja (pF (p2 jd (pV 9) (pC (.int 0)))) (ja (pF (p2 jd (pV 9) (pC (.int 1)))) pN)))))
def jd8:FS:=(jg (jB (dP (jK vi (ja (pV 0) (ja (pV 1) pN)))) (jc [] 5))
 (jg (jB (dP (wL yK 0 (ja (pF (pV 0)) (ja (pF (pV 2)) (ja (pF (pV 3)) (ja (pF (pV 4)) pN)))))) (jc [] 6))
 (jg (J1 (yS jP 6 0 "take_parts" (ja (pF (p2 jd (pV 5) (pC (.int 1)))) pN)))
 (jg (Jx (jiI (ja (pF (p2 jd (pV 5) (pC (.int 2)))) pN) (pCB kt (ja (p2 jd (pV 5) (pC (.int 1))) pN))) (gT 2 (gC (jc [] 7) (gC (jc [] 8) gN))) Jf)
 (jg (Jx (J4 (ja (pF (p2 jd (pV 0) (pC (.int 6)))) pN)) (gT 2 (gC (jc [] 7) (gC (jc [] 9) gN))) Kg)
 (yQ (jhb 6 0 "entries" "moves" (JF jH 0 "book_behind" (pV 6) (ja (pV 2) pN)))))))))
def Qf:List D->Option D:=fnP 10 jd8
def vo(yn:List D->Option D):FS:=(sIf (dPT (jeP (ji (jK yn (ja (p2 jd (pV 0) (pV 2)) (ja (p2 jd (pV 1) (pV 2)) pN)))))) (yQ (dP (pC (.bl false))))
 jM)
def vG(yn:List D->Option D):FS:=(jg (sIf (dPT (ji (p2 uC (pV 1) (pC .non)))) (yQ (dP (p2 uC (pV 0) (pC .non))))
 jM)
 (jg (sIf (dPT (ji (KI "bool" (pV 1)))) (yQ (dP (jca (KI "bool" (pV 0)) (p2 v7 (pV 0) (pV 1)))))
 jM)
 (jg (sIf (dPT (ji (KI "int" (pV 1)))) (yQ (dP (jca (KI "int" (pV 0)) (jca (jkW (KI "bool" (pV 0))) (p2 v7 (pV 0) (pV 1))))))
 jM)
 (jg (sIf (dPT (ji (KI "str" (pV 1)))) (yQ (dP (jca (KI "str" (pV 0)) (p2 v7 (pV 0) (pV 1)))))
 jM)
 (jg (sIf (dPT (KW (ji (KI "tuple" (pV 1))) (jeP (ji (KI "tuple" (pV 0)))))) (yQ (dP (pC (.bl false))))
 jM)
 (jg (sIf (dPT (KW (ji (KI "list" (pV 1))) (jeP (ji (KI "list" (pV 0)))))) (yQ (dP (pC (.bl false))))
 jM)
 (jg (sIf (dPT (ji (p2 KH (pCB kt (ja (pV 0) pN)) (pCB kt (ja (pV 1) pN))))) (yQ (dP (pC (.bl false))))
 jM)
 (jg (Jx (qD (ja (pCB kt (ja (pV 1) pN)) pN)) (jc [] 2) (vo yn))
 (yQ (dP (pC (.bl true))))))))))))
def jU:Nat->List D->Option D
 | 0=>λ_=>none
 | n+1=>fnP 3 (vG (jU n))
def yn:List D->Option D:=jU 8
noncomputable def vD:FS:=(Km 10 (pC (.int 7)))
def KN:FS:=(jg (jB (dP (jK qv (ja (pV 0) (ja (pV 1) (ja (pFz (v9 (ja (pC (.str [115,104,97,114,101])) (ja (pC (.str [115,104,97,114,101])) (ja (pC (.str [112,97,121])) pN))))) pN))))) (jc [] 2))
 (jg (sFz 2 (jB (dP (pF (p2 jd (p2 jd (pV 2) (pC (.int 4))) (p2 jl (jK jq (ja (pV 1) (ja (pC (.int 2)) pN))) (pC (.int 2)))))) (jc [] 3)))
 (jg (jB (dP (jK qh (ja (pV 1) (ja (pV 2) pN)))) (jc [] 4))
 (jg (jB (dP (jK kx (ja (pV 1) (ja (pV 2) (ja (pFz (pSl (jK jV (ja (pV 1) (ja (pC (.int 12)) pN))) (oS (pC (.int 10))) oN)) pN))))) (jc [] 5))
 (jg (sFz 4 (jB (dP (jK qf (ja (pV 1) (ja (pV 2) (ja (pV 4) pN))))) (jc [] 6)))
 (jg (sFz 5 (jB (dP (v9 (ja (jK vS (ja (pV 4) pN)) (ja (pCB Vq (ja (pV 5) pN)) pN)))) (jc [] 7)))
 (jg (jB (dP (jK Qf (ja (pV 2) (ja (p2 jd (pV 3) (pC (.int 0))) (ja (p2 jd (pV 7) (pC (.int 0))) (ja (pV 6) (ja (p2 jd (pV 7) (pC (.int 1))) pN))))))) (jc [] 8))
 (jg (jB (dP (jK Jh (ja (pV 2) (ja (pV 3) (ja (pV 4) (ja (pV 6) (ja (pV 5) pN))))))) (jc [] 9))
 (jg (sIf (dPT (jeP (ji (jK yn (ja (pV 8) (ja (pV 9) pN)))))) (yQ (dP (pC (.bl false))))
 jM)
 (jg (w8 (jjV (vj (wd 8 (lIx 0 jS)) (vj (wd 8 (lIx 0 (lIx 1 jS))) (vj (wd 8 (lIx 1 (lIx 1 jS))) (vj (wd 8 (lIx 2 (lIx 1 jS))) (vj (wd 8 (lIx 3 (lIx 1 jS))) (vj (wd 8 (lIx 2 jS)) jg9))))))) (jc [] 10) vD)
 (jg (sFz 4 (sFz 5 (sIf (dPT (ji (p2 KH (pV 7) (v9 (ja (pF (pV 4)) (ja (pF (pV 5)) pN)))))) (yQ (dP (pC (.bl false))))
 jM)))
 (yQ (dP (jK yn (ja (pFz (jK Qf (ja (pV 2) (ja (p2 jd (pV 3) (pC (.int 0))) (ja (p2 jd (pV 7) (pC (.int 0))) (ja (pV 6) (ja (p2 jd (pV 7) (pC (.int 1))) pN))))))) (ja (pV 9) pN))))))))))))))))
def Jl:List D->Option D:=fnP 11 KN
def xb:FS:=(sIf (dPT (jeP (ji (jK Jl (ja (pV 0) (ja (jK jq (ja (pV 1) (ja (p2 jo (pC (.int 700)) (pV 2)) pN))) pN)))))) (yQ (dP (pC (.bl false))))
 jM)
def jhw:FS:=(jg (jB (dP (jK qw (ja (pV 0) pN))) (jc [] 1))
 (jg (Jx (qD (ja (pC (.int 4)) pN)) (jc [] 2) xb)
 (yQ (dP (pC (.bl true))))))
def wM:List D->Option D:=fnP 3 jhw
structure Txt(P:Program)(w:World)(K:PySem.W.Frag)(mg:Str->Option Value)(cl:Nat->Addr):Prop where
 C0:Cls K (cl 0)
 mk0:PySem.W.makesIn K (cl 0)=true
 kc0:PySem.W.keepIn K (.ref (cl 0))=true
 mg0:mg "Fall" = some (.ref (cl 0))
 N_owed:NoAttr K (cl 0) "owed"
 N_cash:NoAttr K (cl 0) "cash"
 N_levels:NoAttr K (cl 0) "levels"
 N_entries:NoAttr K (cl 0) "entries"
 N_served:NoAttr K (cl 0) "served"
 N_sizes:NoAttr K (cl 0) "sizes"
 N_pool_name:NoAttr K (cl 0) "pool_name"
 N_marks:NoAttr K (cl 0) "marks"
 N_loans:NoAttr K (cl 0) "loans"
 N_moves:NoAttr K (cl 0) "moves"
 n_bool:mg "bool" = none
 n_dict:mg "dict" = none
 n_enumerate:mg "enumerate" = none
 n_int:mg "int" = none
 n_isinstance:mg "isinstance" = none
 n_len:mg "len" = none
 n_list:mg "list" = none
 n_min:mg "min" = none
 n_range:mg "range" = none
 n_sorted:mg "sorted" = none
 n_str:mg "str" = none
 n_sum:mg "sum" = none
 n_tuple:mg "tuple" = none
 n_zip:mg "zip" = none
 h_tenths_of:kH K mg "tenths_of" (top 2) ["parts"] 1
 h_order_named:kH K mg "order_named" (top 4) ["pool","name","order"] 2
 h_loans_by_ends:kH K mg "loans_by_ends" (top 5) ["loans"] 1
 h_shared:kH K mg "shared" (top 8) ["needs","cash","whole","gets","left","at","need"] 2
 h_Fall_need_of:jaN K (cl 0) "need_of" "Fall.need_of" (kQ (top 11) 3) ["self","rule","kind","name"] 2
 h_Fall_give:jaN K (cl 0) "give" "Fall.give" (kQ (top 11) 4) ["self","kind","name","coins","from_owed"] 4
 h_Fall_take_guard:jaN K (cl 0) "take_guard" "Fall.take_guard" (kQ (top 11) 6) ["self","place","pot","claim","need","got"] 4
 h_Fall_book_behind:jaN K (cl 0) "book_behind" "Fall.book_behind" (kQ (top 11) 7) ["self","book","sizes_ahead","runs","claim","days","missed"] 2
 h_law_cell:kH K mg "_law_cell" (top 13) ["_law_script","_law_k"] 2
 h_law_mixed:kH K mg "_law_mixed" (top 14) ["_law_cell_here","_law_k","_law_m"] 2
 h_law_coins:kH K mg "_law_coins" (top 16) ["_law_cell_here","_law_way","_law_most"] 3
 h_law_fold:kH K mg "_law_fold" (top 18) ["_law_script","_law_number","_law_cell_here"] 1
 h_law_guards:kH K mg "_law_guards" (top 20) ["_law_m","_law_claims_here","_law_pots","_law_guards_here","_law_j","_law_claim"] 3
 h_law_rule:kH K mg "_law_rule" (top 21) ["_law_n","_law_claims_here","_law_pots","_law_free","_law_others","_law_kinds","_law_kind","_law_size"] 6
 h_law_asks:kH K mg "_law_asks" (top 27) ["_law_parts","_law_came_here","_law_total","_law_asks_here","_law_odd"] 2
 h_law_till:kH K mg "_law_till" (top 28) ["_law_pool_here","_law_book_here","_law_came_here","_law_loans_here","_law_till_here"] 4
 h_law_take:kH K mg "_law_take" (top 29) ["_law_till_here","_law_need","_law_got"] 2
 h_law_rest:kH K mg "_law_rest" (top 32) ["_law_till_here","_law_place","_law_claim","_law_cash"] 3
 h_law_behind:kH K mg "_law_behind" (top 33) ["_law_till_here","_law_book_here","_law_runs","_law_claim","_law_days","_law_missed","_law_sizes","_law_owed"] 2
 h_law_copied:kH K mg "_law_copied" (top 34) ["_law_book_here"] 1
 h_law_gots:kH K mg "_law_gots" (top 35) ["_law_needs","_law_cash","_law_total","_law_gots_here","_law_odd","_law_k"] 2
 h_law_guarded:kH K mg "_law_guarded" (top 37) ["_law_till_here","_law_guards_here","_law_k","_law_guard","_law_need","_law_got"] 2
 h_asked:kH K mg "asked" (top 1) ["parts","came","whole","asks","odd"] 2
 h_Fall___init__:jaN K (cl 0) "__init__" "Fall.__init__" (kQ (top 11) 0) ["self","pool","book","came","loans"] 5
 h_Fall_take_rule:jaN K (cl 0) "take_rule" "Fall.take_rule" (kQ (top 11) 2) ["self","place","rule","kind","name","need","got"] 3
 h_Fall_take_share:jaN K (cl 0) "take_share" "Fall.take_share" (kQ (top 11) 5) ["self","place","names","needs","gets","full","name","need","got"] 3
 h_law_names:kH K mg "_law_names" (top 15) ["_law_cell_here","_law_many","_law_m","_law_base","_law_some","_law_size","_law_at","_law_out","_law_k","_law_signs"] 2
 h_law_claims:kH K mg "_law_claims" (top 19) ["_law_seed","_law_names_here","_law_m","_law_claims_here","_law_k","_law_n","_law_size"] 3
 h_law_order:kH K mg "_law_order" (top 22) ["_law_script","_law_seed","_law_name","_law_at","_law_claims_here","_law_pots","_law_free","_law_others","_law_kinds","_law_m","_law_parts","_law_j","_law_tenths","_law_rules","_law_k","_law_n"] 9
 h_law_book:kH K mg "_law_book" (top 24) ["_law_seed","_law_pool_here","_law_sizes","_law_owed","_law_runs","_law_k","_law_claim","_law_n","_law_size","_law_coins_here","_law_levels","_law_pot"] 2
 h_law_loans:kH K mg "_law_loans" (top 25) ["_law_seed","_law_pool_here","_law_others","_law_loans_here","_law_k","_law_other","_law_n"] 3
 h_law_came:kH K mg "_law_came" (top 26) ["_law_seed","_law_pool_here","_law_book_here","_law_n","_law_total","_law_some"] 3
 h_law_parted:kH K mg "_law_parted" (top 30) ["_law_till_here","_law_parts","_law_came_here","_law_asks_here","_law_k","_law_part"] 3
 h_law_pay:kH K mg "_law_pay" (top 31) ["_law_till_here","_law_place","_law_claim","_law_need","_law_got"] 3
 h_law_share:kH K mg "_law_share" (top 36) ["_law_till_here","_law_place","_law_claims_here","_law_needs","_law_gots_here","_law_claim","_law_need","_law_got"] 3
 h_Fall_take_parts:jaN K (cl 0) "take_parts" "Fall.take_parts" (kQ (top 11) 1) ["self","parts","came","told","place","part","ask","got"] 2
 h_law_pool:kH K mg "_law_pool" (top 23) ["_law_script","_law_seed","_law_kinds","_law_names_here","_law_m","_law_claims_here","_law_pots","_law_k","_law_mark","_law_guards_here","_law_shut","_law_free","_law_others","_law_called","_law_orders","_law_eat"] 3
 h_law_due:kH K mg "_law_due" (top 38) ["_law_pool_here","_law_order_here","_law_book_here","_law_came_here","_law_loans_here","_law_till_here","_law_k","_law_rule_here","_law_place"] 5
 h_fell:kH K mg "fell" (top 10) ["pool","order","book","came","loans","rows","fall","place","rule","guard"] 5
 h_law_alike:kH K mg "_law_alike" (top 17) ["_law_found","_law_due_here","_law_k"] 2
 h_law_one:kH K mg "_law_one" (top 39) ["_law_script","_law_seed","_law_pool_here","_law_order_here","_law_book_here","_law_loans_here","_law_came_here","_law_handed","_law_found","_law_due_here","_law_told"] 2
 h_law:kH K mg "law" (top 40) ["_law_script","_law_seed","_law_turn"] 1
section
variable {P:Program}{w:World}{K:PySem.W.Frag}{mg:Str->Option Value}{cl:Nat->Addr}(T:Txt P w K mg cl)
include T
set_option maxHeartbeats 40000000 in
theorem jhJ:NP P w cl T.h_tenths_of 1 ku /\
 NP P w cl T.h_order_named 1 vi /\
 NP P w cl T.h_loans_by_ends 1 yL /\
 NP P w cl T.h_shared 1 Ju /\
 OP P w cl mg T.h_Fall_need_of 1 jN /\
 OM P w cl mg T.h_Fall_give 1 yk /\
 OM P w cl mg T.h_Fall_take_guard 1 yq /\
 OP P w cl mg T.h_Fall_book_behind 1 jH /\
 NP P w cl T.h_law_cell 1 kc /\
 NP P w cl T.h_law_mixed 1 jq /\
 NP P w cl T.h_law_coins 1 yj /\
 NP P w cl T.h_law_fold 1 qw /\
 NP P w cl T.h_law_guards 1 va /\
 NP P w cl T.h_law_rule 1 yE /\
 NP P w cl T.h_law_asks 1 ke /\
 NP P w cl T.h_law_till 1 JG /\
 NM P w cl T.h_law_take 1 yU /\
 NM P w cl T.h_law_rest 1 qr /\
 NP P w cl T.h_law_behind 1 vK /\
 NP P w cl T.h_law_copied 1 vS /\
 NP P w cl T.h_law_gots 1 kj /\
 NM P w cl T.h_law_guarded 1 vp /\
 NP P w cl T.h_asked 2 YI /\
 OM P w cl mg T.h_Fall___init__ 2 yK /\
 OM P w cl mg T.h_Fall_take_rule 2 jv /\
 OM P w cl mg T.h_Fall_take_share 2 jF /\
 NP P w cl T.h_law_names 2 jV /\
 NP P w cl T.h_law_claims 2 vQ /\
 NP P w cl T.h_law_order 2 kC /\
 NP P w cl T.h_law_book 2 qh /\
 NP P w cl T.h_law_loans 2 kx /\
 NP P w cl T.h_law_came 2 qf /\
 NM P w cl T.h_law_parted 2 yD /\
 NM P w cl T.h_law_pay 2 Jw /\
 NM P w cl T.h_law_share 2 yB /\
 OM P w cl mg T.h_Fall_take_parts 3 jP /\
 NP P w cl T.h_law_pool 3 qv /\
 NP P w cl T.h_law_due 3 Jh /\
 NP P w cl T.h_fell 4 Qf /\
 NP P w cl T.h_law_alike 8 yn /\
 NP P w cl T.h_law_one 9 Jl /\
 NP P w cl T.h_law 10 wM:=by
 cases T
 repeat' refine jmm ?_ λ_=>?_
 all_goals
  (first | refine okR (by assumption) (λ_=>rfl) (λj f fd S F _ base=>?_) _ | refine okN (by assumption) λf fd S F base=>?_ | refine okO (by assumption) λf fd S F base=>?_)
  (first | refine' jki F.fn S rfl λa A outer s H E b=>?_ | refine' ji9 F.fn S rfl λa A outer s H E b=>?_)
  apply Exists.intro
  repeat' first | exact rfl | (show QB _ _ _ _ _;first | apply jlC | apply qI | apply jlI | apply jjx | apply ji5 | apply QP.fzb | apply QK.ix | apply QK.fld | apply QP.bb) | (show QPs _ _ _ _ _;first | apply jf1 | apply jiR) | (show QBs _ _ _ _ _;first | apply jgk | apply jhL) | (show QSs _ _ _ _ _ _;first | apply jeQ | apply jcA | apply jg1) | (show QP _ _ _ _ _;first | ((with_reducible show QP _ _ _ _ (pCB Yv _));refine' Ko (jaZ rfl) jjL ?_ jaa ?_) | ((with_reducible show QP _ _ _ _ (pCB yu _));refine' xk (wK rfl) jge ?_ wV ?_) | ((with_reducible show QP _ _ _ _ (pCB Vq _));refine' xk Qc jff ?_ JJ ?_) | ((with_reducible show QP _ _ _ _ (pCB wm _));refine' Ko (u7 rfl) jj4 ?_ jaE ?_) | ((with_reducible show QP _ _ _ _ (pCB wx _));refine' xk Ku jce ?_ Y7 ?_) | ((with_reducible show QP _ _ _ _ (pCB YX _));refine' Ko KS jaR ?_ QA ?_) | ((with_reducible show QP _ _ _ _ (KI "bool" _));refine' u8 (T:="bool") (by decide) ?_ ?_ uz ?_) | ((with_reducible show QP _ _ _ _ (KI "int" _));refine' u8 (T:="int") (by decide) ?_ ?_ jbD ?_) | ((with_reducible show QP _ _ _ _ (KI "str" _));refine' u8 (T:="str") (by decide) ?_ ?_ jas ?_) | ((with_reducible show QP _ _ _ _ (KI "tuple" _));refine' u8 (T:="tuple") (by decide) ?_ ?_ Y7 ?_) | ((with_reducible show QP _ _ _ _ (KI "list" _));refine' u8 (T:="list") (by decide) ?_ ?_ JJ ?_) | ((with_reducible show QP _ _ _ _ (pBM "str" wO _ _));refine' jmb PySem.F.plainAttrs_str PySem.F.slot_str_join PySem.F.type_str_join je1 jeJ ?_ ?_) | apply qS | apply jkO | apply ji6 | apply jjX | apply jja | apply jlF | apply jlj | apply jhF | apply jkd | apply jjc | apply jlq | apply jl0 | apply jgn | apply jkp | apply jkP | apply jkm | apply jmg | apply jme | apply jkx | apply jcl | apply jiC | apply jj1 | apply jfC | apply jcu | apply jeW | apply jiD | apply jiw | apply jj6 | apply QK.add | apply QK.len | apply jkR | apply QB.f) | (show QE _ _ _ _ _;first | apply jl6 | apply jdH | apply jkL | apply jgg | apply jhY | apply jgZ | apply jj0 | apply jiy | apply QP.d) | (show QS _ _ _ _ _ _;first | apply jhK | apply jkl | apply QS.fz | apply jiP | apply ji7 | apply jcd | apply jdy | apply jgc | apply ji0 | apply jfl | apply zK (hsw:=by with_unfolding_all rfl) | apply jbZ | apply jdp | apply jaA | apply jdC | apply jgq | apply jcg | apply jgl | apply jgz | apply jhs) | (show QT _ _ _ _ _;first | apply jhT | apply jiW | apply jjs | apply QW.t) | (show QGs _ _ _ _ _ _;first | apply jcV | apply jeE) | (show QL _ _ _ _ _ _;first | apply jhm | apply jix | apply jh1 | apply jjY) | (show QG _ _ _ _ _ _;first | apply jgo | apply jd1 | apply QK.g_tup) | (show QIb _ _ _ _ _ _;first | apply jew | apply QI.b') | (show QDs _ _ _ _ _;first | apply jfZ | apply ji2) | (show QW _ _ _ _ _;first | apply jhl | apply jgH) | (show QI _ _ _ _ _ _;first | apply jfo | apply jfH | apply jhj | apply jjW | apply jlA) | (show QPo _ _ _ _ _ _ _;first | apply jdf | apply jfW) | (show QO _ _ _ _ _;first | apply jgI | apply jgQ) | apply qkv | apply jdz | apply jmj | apply jl5 | apply jl3 | apply jmc | apply jmk | apply jmd | apply jma | apply c_notin | apply QK.c_notin | exact Or.inl rfl | exact Or.inr rfl | exact Or.inr (Or.inl rfl) | exact Or.inr (Or.inr rfl) | exact λ_=>rfl | exact λ_ _=>rfl | exact λ_ _ _=>rfl | exact b.mono (by decide) | exact b.mono (by first | exact M8 _ | exact N6 (by decide) (Nat.le_add_right _ _)) | apply jcD | exact S.nd | (show BlockOk _ _ _ _;exact bkN S) | exact PassesOwn.never | exact jhg | exact jjm | (intro _ _ _ _;first | show QP _ _ _ _ _ | show QG _ _ _ _ _ _ | show QIf _ _ _ _ _ | show QT _ _ _ _ _ | show QKv _ _ _ _ _ _) | exact⟨rfl,rfl,rfl,rfl⟩ | exact ndN (by decide +kernel) | decide +kernel | with_unfolding_all rfl | assumption | apply ja1 | apply jch | apply jeV | apply jk5
end
def Cd(w:List Nat):Prop:=∀ c∈w,c < 1114112
noncomputable def kg(c k:Int):Int :=
 let m:=(c % 2147483647*48271+(k*k+3*k+7)*69621) % 2147483647
 m*m % 2147483647
theorem ve(c k:Int):0<=kg c k:=N9 _ (by decide)
theorem jat(c k:Int):kg c k < 2147483647:=N8 _ (by decide)
theorem jlr{k n:Int}(a:0<=k)(h1:k<=n):0<=k*k/\k*k<=n*n:=⟨Int.mul_nonneg a a,Int.mul_le_mul h1 h1 a (Int.le_trans a h1)⟩
theorem yo{c k:Int}(a:0<=k)(h1:k<=1000000):jq [.int c,.int k]=some (.int (kg c k)):=by
 have e:=jlr a h1;have b:=N9 (c % 2147483647*48271+(k*k+3*k+7)*69621) (show(2147483647:Int)≠0 by decide);have d:=N8 (c % 2147483647*48271+(k*k+3*k+7)*69621) (show(0:Int) < 2147483647 by decide);simp(disch:=omega) [jq,jR,Yy,yJ,jD,kg]
noncomputable def abc:List Nat:=[97,98,99,100,101,102,103,104,105,106,107,108,109,110,112,113,114,115,116,117,118,119,120,121,122]
noncomputable def cons:List Nat:=[98,99,100,102,103,104,106,107,108,109,110,112,113,114,115,116,118,119,120,122]
theorem jhn{i:Int}(a:0<=i)(h1:i < 25):jd (.str abc) (.int i)=some (.str [abc.getD i.toNat 0]):=jlG (by decide) a (by have:abc.length=25:=rfl;omega)
theorem jaK{i:Int}(a:0<=i)(h1:i < 20):jd (.str cons) (.int i)=some (.str [cons.getD i.toNat 0]):=jlG (by decide) a (by have:cons.length=20:=rfl;omega)
theorem jiz(i:Nat):abc.getD i 0 < 1114112:=uF (by decide) (by decide)
theorem V2(i:Nat):cons.getD i 0 < 1114112:=uF (by decide) (by decide)
theorem uP:∀ ws:List (List Nat),Kf [] ws=ws.flatten
 | []=>rfl
 | w::ws=>by rw[VY];simp
theorem jfs:∀ X:List Nat,(X.map λc=>[c]).flatten=X
 | []=>rfl
 | c::X=>by rw[L4,List.flatten_cons,jfs X];rfl
theorem jck(k b:Nat):(List.replicate k [b]).flatten=List.replicate k b:=by
 have:List.replicate k [b]=(List.replicate k b).map λc=>[c]:=by rw[List.map_replicate]
 rw[this,jfs]
theorem jey{a s:Int}(h:0<=a)(b:0 < s):((a+1) % s).toNat=(a.toNat+1) % s.toNat:=by
 obtain⟨n,rfl⟩:∃ n:Nat,a=(n:Int):=⟨a.toNat,by omega⟩;obtain⟨m,rfl⟩:∃ m:Nat,s=(m:Int):=⟨s.toNat,by omega⟩;have e:((n:Int)+1) % (m:Int)=(((n+1) % m:Nat):Int):=by simp
 have e2:((((n+1) % m:Nat):Int)).toNat=(n+1) % m:=N7 _;rw[e,e2];rfl
def Tg(m s at_:Int)(i:Nat)(w:List Nat):Prop :=
 w[at_.toNat]?=some (cons.getD ((m / 4200+3*(0+(i:Int))) % 20).toNat 0)/\w[(at_.toNat+1) % s.toNat]?=some (cons.getD ((m / 84000+(0+(i:Int)) / 20) % 20).toNat 0)
theorem xP:∀ i,i < 20->∀ j,j < 20->cons.getD i 0=cons.getD j 0->i=j:=by decide
theorem Tg.inj{m s at_:Int}{i j:Nat}{w:List Nat}(hi:i < 30)(c:j < 30)(h1:Tg m s at_ i w)(h2:Tg m s at_ j w):i=j:=by
 have a:=h1.1.symm.trans h2.1;have b:=h1.2.symm.trans h2.2;injection a with a;injection b with b;have a:=xP _ (by omega) _ (by omega) a;have b:=xP _ (by omega) _ (by omega) b;clear h1 h2;generalize m / 4200=A at a;generalize m / 84000=B at b;have b':i / 20=j / 20:=by clear a;omega
 have d:i % 20=j % 20:=by clear b b';omega
 omega
theorem Tg.mk{m s at_:Int}{i:Nat}{bc:Nat}(e:2<=s)(f:0<=at_)(a:at_ < s):Tg m s at_ i (((List.replicate s.toNat bc).set at_.toNat (cons.getD ((m / 4200+3*(0+(i:Int))) % 20).toNat 0)).set ((at_.toNat+1) % s.toNat) (cons.getD ((m / 84000+(0+(i:Int)) / 20) % 20).toNat 0)):=by
 have b:at_.toNat < s.toNat:=by omega
 have c:(at_.toNat+1) % s.toNat < s.toNat:=Nat.mod_lt _ (by omega);have d:at_.toNat≠(at_.toNat+1) % s.toNat:=by
  generalize at_.toNat=n at *;generalize g:s.toNat=z at *;by_cases q:n+1=z
  ·rw[q,Nat.mod_self];omega
  ·rw[Nat.mod_eq_of_lt (by omega)];omega
 refine⟨?_,?_⟩
 ·rw[List.getElem?_set_ne (Ne.symm d),List.getElem?_set_self (by rw[List.length_replicate];exact b)]
 ·rw[List.getElem?_set_self (by rw[List.length_set,List.length_replicate];exact c)]
theorem uv{a0 a1:Option D}{m b s at_:Int}{bc:Nat}(u:bc < 1114112){out:List D}{i:Nat}{o9:Option D}(Q:0<=m)(R:2<=s)(F:s<=8)(S:0<=at_)(G:at_ < s)(hi:i < 100)(H:out.length<=100) :
  ∃(c1 c2:Nat) (o9':Option D),c1∈cons/\c2∈cons/\c1=cons.getD ((m / 4200+3*(0+(i:Int))) % 20).toNat 0/\c2=cons.getD ((m / 84000+(0+(i:Int)) / 20) % 20).toNat 0/\vk [a0,a1,some (.int m),some (.str [bc]),some (.str cons),some (.int s),some (.int at_),some (.lst true out),some (.int (0+(i:Int))),o9]=some (.nx [a0,a1,some (.int m),some (.str [bc]),some (.str cons),some (.int s),some (.int at_),some (.lst true (out++[.str (((List.replicate s.toNat bc).set at_.toNat c1).set ((at_+1) % s).toNat c2)])),some (.int (0+(i:Int))),o9']):=by
 have d:yC (jc [] 0) qT (pF (pV 1)) (vm 0 s.toNat) (jw [none,some 3] [a0,a1,some (.int m),some (.str [bc]),some (.str cons),some (.int s),some (.int at_),some (.lst true out),some (.int (0+(i:Int))),o9])=some ((List.range s.toNat).map λ_=>D.str [bc]):=by
  refine jE (l:=List.range s.toNat) (en:=λi=>.int (0+(i:Int))) rfl (λρ=>∃ o,ρ=[o,some (.str [bc])]) ?_ ⟨none,rfl⟩;rintro x t ρ ⟨o,rfl⟩;exact⟨_,rfl,rfl,_,rfl⟩
 have I:((List.range s.toNat).map λ_=>D.str [bc])=(List.replicate s.toNat [bc]).map D.str:=by
  rw[List.map_const',List.map_replicate,List.length_range]
 rw[I] at d;have J:=jaK (i:=(m / 4200+3*(0+(i:Int))) % 20) (by omega) (by omega);have K:=jaK (i:=(m / 84000+(0+(i:Int)) / 20) % 20) (by omega) (by omega);have T:=N9 (at_+1) (show s≠0 by omega);have U:=N8 (at_+1) (show 0 < s by omega);obtain⟨a,rfl⟩:∃ n:Nat,at_=(n:Int):=⟨at_.toNat,by omega⟩;obtain⟨f,v⟩:∃ n:Nat,((a:Int)+1) % s=(n:Int):=⟨(((a:Int)+1) % s).toNat,by omega⟩;have L:ixN s.toNat (a:Int)=some a:=jbL (by omega);have M:ixN s.toNat (f:Int)=some f:=jbL (by omega);have y:=yr (j:=s) (by omega) (by omega);have z:lim (vm 0 s.toNat).length=true:=jb (by rw[yi];omega);have A:((List.replicate s.toNat [bc]).map D.str).set a (.str [cons.getD ((m / 4200+3*(0+(i:Int))) % 20).toNat 0])=((List.replicate s.toNat [bc]).set a [cons.getD ((m / 4200+3*(0+(i:Int))) % 20).toNat 0]).map D.str:=by rw[List.map_set]
 have k:∀(l:List (List Nat)),(l.map D.str).set f (.str [cons.getD ((m / 84000+(0+(i:Int)) / 20) % 20).toNat 0])=(l.set f [cons.getD ((m / 84000+(0+(i:Int)) / 20) % 20).toNat 0]).map D.str:=λl=>by rw[List.map_set]
 have g:∀ w∈((List.replicate s.toNat [bc]).set a [cons.getD ((m / 4200+3*(0+(i:Int))) % 20).toNat 0]).set f [cons.getD ((m / 84000+(0+(i:Int)) / 20) % 20).toNat 0],w.length=1/\Cd w:=by
  intro w p;rcases List.mem_or_eq_of_mem_set p with p | rfl
  ·rcases List.mem_or_eq_of_mem_set p with p | rfl
   ·rw[List.eq_of_mem_replicate p];exact⟨rfl,λc d=>by rw[M7.mp d];exact u⟩
   ·exact⟨rfl,λc d=>by rw[M7.mp d];exact V2 _⟩
  ·exact⟨rfl,λc d=>by rw[M7.mp d];exact V2 _⟩
 have q:(((List.replicate s.toNat [bc]).set a [cons.getD ((m / 4200+3*(0+(i:Int))) % 20).toNat 0]).set f [cons.getD ((m / 84000+(0+(i:Int)) / 20) % 20).toNat 0]).length<=8:=by simp;omega
 generalize E:((List.replicate s.toNat [bc]).set a [cons.getD ((m / 4200+3*(0+(i:Int))) % 20).toNat 0]).set f [cons.getD ((m / 84000+(0+(i:Int)) / 20) % 20).toNat 0]=W at g q;have r:∀(l:List (List Nat)),(∀ w∈l,w.length=1/\Cd w)->(l.map List.length).sum=l.length/\l.flatten.length=l.length/\Cd l.flatten:=by
  intro l
  induction l with
  | nil=>intro _;exact⟨rfl,rfl,λc d=>by simp at d⟩
  | cons w l N =>
   intro h;have a1:=N λx t=>h x (by simp[t]);have O:=h w (by simp);refine⟨by simp only[L4,List.sum_cons,M0];omega,by simp only[List.flatten_cons,N3,M0];omega,?_⟩;intro c d;rw[List.flatten_cons,N1] at d;exact d.elim (O.2 c) (a1.2.2 c)
 have P:qU [] W=true:=by
  unfold qU;have:=r W g;simp only[List.length_nil,Nat.mul_zero];exact X4 (by omega)
 have t:W.flatten=((List.replicate s.toNat bc).set a (cons.getD ((m / 4200+3*(0+(i:Int))) % 20).toNat 0)).set f (cons.getD ((m / 84000+(0+(i:Int)) / 20) % 20).toNat 0):=by
  rw[<- E];have e:((List.replicate s.toNat [bc]).set a [cons.getD ((m / 4200+3*(0+(i:Int))) % 20).toNat 0]).set f [cons.getD ((m / 84000+(0+(i:Int)) / 20) % 20).toNat 0]=(((List.replicate s.toNat bc).set a (cons.getD ((m / 4200+3*(0+(i:Int))) % 20).toNat 0)).set f (cons.getD ((m / 84000+(0+(i:Int)) / 20) % 20).toNat 0)).map λc=>[c]:=by
   rw[List.map_set,List.map_set,List.map_replicate]
  rw[e];exact jfs _
 have B:(a:Int).toNat=a:=by omega
 have C:(((a:Int)+1) % s).toNat=f:=by omega
 refine⟨cons.getD ((m / 4200+3*(0+(i:Int))) % 20).toNat 0,cons.getD ((m / 84000+(0+(i:Int)) / 20) % 20).toNat 0,some (.lst true (W.map D.str)),Yc (by have:cons.length=20:=rfl;omega),Yc (by have:cons.length=20:=rfl;omega),rfl,rfl,?_⟩;rw[B,C,<- t,<- uP];simp(disch:=omega) [vk,y,z,d,jD,jI,yJ,J,K,L,M,v,A,k,E,P,jb,-Int.zero_add,-List.getD_eq_getElem?_getD,-List.map_set,-List.map_replicate]
theorem xr(c:Int){many:Nat}(h1:1<=many)(h2:many<=30):∃ ns:List (List Nat),jV [.int c,.int (many:Int)]=some (.lst true (ns.map D.str))/\ns.length=many/\(∀ w∈ns,Wd w)/\ns.Nodup:=by
 have V:=ve c 3;have W:=jat c 3;have F:=yo (c:=c) (k:=3) (by decide) (by decide);have p:=jhn (i:=kg c 3 % 25) (by omega) (by omega);have E:=jiz (kg c 3 % 25).toNat
 generalize X:abc.getD (kg c 3 % 25).toNat 0=b at p E;have Q:([97,98,99,100,101,102,103,104,105,106,107,108,109,110,112,113,114,115,116,117,118,119,120,121,122]:List Nat)=abc:=rfl;have S:([98,99,100,102,103,104,106,107,108,109,110,112,113,114,115,116,118,119,120,122]:List Nat)=cons:=rfl;have H:Va [.int (many:Int)]=some (vm 0 many):=by
  have:=yr (j:=(many:Int)) (by omega) (by omega);simpa using this
 have I:lim (vm 0 many).length=true:=jb (by rw[yi];omega);by_cases T:kg c 3 / 25 % 3=0/\many < 9
 ·refine⟨(List.range many).map λi=>List.replicate (many - i) b,?_,by simp,λw J=>?_,?_⟩
  ·have Y:yC (jc [] 0) qT (p2 jX (pV 1) (p2 vb (pV 2) (pV 0))) (vm 0 many) [none,some (.str [b]),some (.int (many:Int))]=some (((List.range many).map λi=>List.replicate (many - i) b).map D.str):=by
    rw[U0];refine jE (l:=List.range many) (en:=λi=>.int (0+(i:Int))) rfl (λρ=>∃ o,ρ=[o,some (.str [b]),some (.int (many:Int))]) ?_ ⟨none,rfl⟩;rintro i hi ρ ⟨o,rfl⟩;have hi:=List.mem_range.mp hi;refine⟨[some (.int (0+(i:Int))),some (.str [b]),some (.int (many:Int))],rfl,?_,_,rfl⟩;have:=jji (a:=[b]) (n:=(many:Int) - (0+(i:Int))) (by simp) (by omega) (by omega);rw[show((many:Int) - (0+(i:Int))).toNat=many - i by omega,jck] at this;simp[this,-Int.zero_add]
   have K:(many:Int) < 9:=by omega
   unfold jV;rw[jR];unfold qQ;rw[Q,S];simp(disch:=omega) [F,p,jD,jI,T.1,K,H,I,jw,List.getElem?_cons_zero,Option.join,Y]
  ·obtain⟨i,_,rfl⟩:=M5.mp J;exact⟨by rw[List.length_replicate];omega,λc Z=>by rw[List.eq_of_mem_replicate Z];exact E⟩
  ·refine List.Pairwise.map _ (R:=λa b=>a < b/\b < many) ?_ ?_
   ·rintro x y ⟨h,h'⟩ z;have:=congrArg List.length z;rw[List.length_replicate,List.length_replicate] at this;omega
   ·rw[List.pairwise_iff_getElem];intro i j hi g r;rw[List.getElem_range,List.getElem_range];rw[List.length_range] at g;exact⟨r,g⟩
 ·have L:=N9 (kg c 3 / 525) (show(2+kg c 3 / 75 % 7)≠0 by omega);have U:=N8 (kg c 3 / 525) (show 0 < (2+kg c 3 / 75 % 7) by omega);obtain⟨ρ',e,out,M,t,rfl,u,v⟩:=j7 (G:=jc [] 8) (f:=vk) (xs:=vm 0 many) (λi ρ=>∃(out:List (List Nat)) (M t:Option D),ρ=[some (.int c),some (.int (many:Int)),some (.int (kg c 3)),some (.str [b]),some (.str cons),some (.int (2+kg c 3 / 75 % 7)),some (.int (kg c 3 / 525 % (2+kg c 3 / 75 % 7))),some (.lst true (out.map D.str)),M,t]/\out.length=i/\∀(j:Nat) (w:List Nat),out[j]?=some w->Wd w/\Tg (kg c 3) (2+kg c 3 / 75 % 7) (kg c 3 / 525 % (2+kg c 3 / 75 % 7)) j w) (by
   rintro i x ρ hx ⟨out,M,t,rfl,u,v⟩;obtain⟨rfl,hi⟩:=vh hx;obtain⟨c1,c2,o9',hc1,hc2,A,B,p⟩:=uv (a0:=some (.int c)) (a1:=some (.int (many:Int))) (m:=kg c 3) (b:=0) (s:=2+kg c 3 / 75 % 7) (at_:=kg c 3 / 525 % (2+kg c 3 / 75 % 7)) (bc:=b) E (out:=out.map D.str) (i:=i) (o9:=t) V (by omega) (by omega) L U (by omega) (by rw[L0];omega);refine⟨_,_,rfl,.inl p,out++[_],_,_,by rw[N4];rfl,by simp[u],λj w g=>?_⟩;by_cases N:j < out.length
   ·rw[List.getElem?_append_left N] at g;exact v j w g
   ·have O:=(L8.mp g).1;have:j=out.length:=by simp at O;omega
    subst this;rw[List.getElem?_concat_length] at g;cases g;refine⟨⟨by simp;omega,λq C=>?_⟩,?_⟩
    ·rcases List.mem_or_eq_of_mem_set C with C | rfl
     ·rcases List.mem_or_eq_of_mem_set C with C | rfl
      ·rw[List.eq_of_mem_replicate C];exact E
      ·rw[A];exact V2 _
     ·rw[B];exact V2 _
    ·rw[u,jey L (by omega),A,B];exact Tg.mk (by omega) L U) (ρ:=[some (.int c),some (.int (many:Int)),some (.int (kg c 3)),some (.str [b]),some (.str cons),some (.int (2+kg c 3 / 75 % 7)),some (.int (kg c 3 / 525 % (2+kg c 3 / 75 % 7))),some (.lst true []),none,none]) ⟨[],none,none,rfl,rfl,λj d g=>by simp at g⟩
  rw[yi] at u;refine⟨out,?_,u,λw J=>?_,?_⟩
  ·unfold jV;rw[jR];unfold qQ;rw[Q,S];by_cases P:kg c 3 / 25 % 3=0
   ·have K:¬ (many:Int) < 9:=λz=>T ⟨P,by omega⟩;simp(disch:=omega) [F,p,jD,jI,P,K,H,jb,e]
   ·simp(disch:=omega) [F,p,jD,jI,P,H,jb,e]
  ·obtain⟨j,g⟩:=List.mem_iff_getElem?.mp J;exact(v j w g).1
  ·unfold List.Nodup;rw[List.pairwise_iff_getElem];intro i j hi g r e;have:=(v i _ (X9 hi)).2.inj (by omega) (by omega) (e▸(v j _ (X9 g)).2);omega
theorem Jm{c w most:Int}(d:0<=w)(b:w<=2000)(e:7<=most)(h1:most<=10 ^ 12):∃ v,yj [.int c,.int w,.int most]=some (.int v)/\1<=v/\v<=most:=by
 have f:=N9 c (show most≠0 by omega);have a:0 < most:=by omega
 have g:=N8 c a;have g3:=N9 ((c % most+1)*(w+48271)*99999999999999997) (show most≠0 by omega);have g4:=N8 ((c % most+1)*(w+48271)*99999999999999997) a;have h:0<=(c % most+1)*(w+48271)/\(c % most+1)*(w+48271)<=10 ^ 12*60000:=⟨Int.mul_nonneg (by omega) (by omega),Int.mul_le_mul (by omega) (by omega) (by omega) (by omega)⟩;simp(disch:=omega) [yj,jR,Y5,yJ,jD,jI]
 repeat' split
 all_goals simp
 all_goals omega
noncomputable abbrev W2:=List Nat×Int
noncomputable def e2(p:W2):D:=.tup [.str p.1,.int p.2]
noncomputable abbrev W3:=List Nat×Int×Int
noncomputable def e3(p:W3):D:=.tup [.str p.1,.int p.2.1,.int p.2.2]
noncomputable abbrev WG:=List Nat×List Nat
noncomputable def eG(p:WG):D:=.tup [.str p.1,.str p.2]
theorem yN(l:List W2):fzs (l.map e2)=l.map e2:=vC λd hd=>by obtain⟨p,_,rfl⟩:=M5.mp hd;rfl
theorem jk(l:List W2):frzs (l.map e2)=true:=yI λd hd=>by obtain⟨p,_,rfl⟩:=M5.mp hd;rfl
theorem QC(l:List W3):fzs (l.map e3)=l.map e3:=vC λd hd=>by obtain⟨p,_,rfl⟩:=M5.mp hd;rfl
theorem qL(l:List W3):frzs (l.map e3)=true:=yI λd hd=>by obtain⟨p,_,rfl⟩:=M5.mp hd;rfl
theorem wk(l:List WG):fzs (l.map eG)=l.map eG:=vC λd hd=>by obtain⟨p,_,rfl⟩:=M5.mp hd;rfl
theorem Vk(l:List WG):frzs (l.map eG)=true:=yI λd hd=>by obtain⟨p,_,rfl⟩:=M5.mp hd;rfl
theorem YK{l:List W2}(h:∀ p∈l,Wd p.1)(n:Nat):kI (n+1) (l.map e2)=true:=jam λd hd=>by
 obtain⟨p,a,rfl⟩:=M5.mp hd;show kI n [.str p.1,.int p.2]=true;simp[kI,zm (h p a).2]
theorem ix2{a b:Int}{i:Int}(h:0<=i)(h2:i < 2)(e:7<=a)(c:a<=10 ^ 12)(f:7<=b)(d:b<=10 ^ 12):∃ v,jd (.lst true [.int a,.int b]) (.int i)=some (.int v)/\7<=v/\v<=10 ^ 12:=by
 have:i=0 \/ i=1:=by omega
 rcases this with rfl | rfl
 ·exact⟨a,rfl,e,c⟩
 ·exact⟨b,rfl,f,d⟩
theorem ut:Vt (.int 10) (.int 12)=some (.int 1000000000000):=rfl
theorem jcF{T:List W3}{i:Int}(h:0<=i)(h2:i < T.length):∃ t∈T,jd (.lst false (T.map e3)) (.int i)=some (e3 t):=by
 have a:i.toNat < T.length:=by omega
 refine⟨T[i.toNat],List.getElem_mem a,?_⟩;rw[uD h (by rw[L0];exact h2),List.getElem?_map,X9 a];rfl
theorem jj9{T:List W2}{i:Int}(h:0<=i)(h2:i < T.length):∃ t∈T,jd (.lst false (T.map e2)) (.int i)=some (e2 t):=by
 have a:i.toNat < T.length:=by omega
 refine⟨T[i.toNat],List.getElem_mem a,?_⟩;rw[uD h (by rw[L0];exact h2),List.getElem?_map,X9 a];rfl
theorem i30{t:W3}:jd (e3 t) (.int 0)=some (.str t.1):=rfl
theorem i20{t:W2}:jd (e2 t) (.int 0)=some (.str t.1):=rfl
structure ClOk(t:W3):Prop where
 w:Wd t.1
 s0:1<=t.2.1
 s1:t.2.1<=10 ^ 12
 d0:1<=t.2.2
 d1:t.2.2<=10 ^ 12
theorem jaU{c m:Int}{ns:List (List Nat)}(Q:0<=m)(R:ns.length=12)(J:∀ w∈ns,Wd w):∃ T:List W3,vQ [.int c,.lst false (ns.map D.str),.int m]=some (.lst true (T.map e3))/\(∀ t∈T,ClOk t)/\T.map (·.1)=(ns.drop 1).take (1+m % 6).toNat/\T.length=(1+m % 6).toNat:=by
 obtain⟨S,e,T,v,y,z,rfl,g,u,A⟩:=j7 (G:=jc [] 4) (f:=vX) (xs:=vm 0 (1+m % 6).toNat) (λi ρ=>∃(T:List W3) (v y z:Option D),ρ=[some (.int c),some (.lst false (ns.map D.str)),some (.int m),some (.lst true (T.map e3)),v,y,z]/\T.length=i/\T.map (·.1)=(ns.drop 1).take i/\∀ t∈T,ClOk t) (by
  rintro i x ρ K ⟨T,v,y,z,rfl,g,u,A⟩;obtain⟨rfl,hi⟩:=vh K;have I:=yo (c:=c) (k:=20+(0+(i:Int))) (by omega) (by omega);have L:=ve c (20+(0+(i:Int)));generalize kg c (20+(0+(i:Int)))=n at I L;obtain⟨M,B,C,h⟩:=ix2 (a:=30) (b:=1000000000000) (i:=n / 1009 % 2) (by omega) (by omega) (by decide) (by decide) (by decide) (by decide);obtain⟨N,E,F,p⟩:=ix2 (a:=9) (b:=1000000000000) (i:=m / 6 % 2) (by omega) (by omega) (by decide) (by decide) (by decide) (by decide);obtain⟨s,O,s0,s1⟩:=Jm (c:=c+(0+(i:Int))) (w:=n % 1009) (most:=M) (by omega) (by omega) C h;obtain⟨d,P,d0,d1⟩:=Jm (c:=c+(0+(i:Int))) (w:=n / 2018 % 997) (most:=N) (by omega) (by omega) F p;have q:i+1 < ns.length:=by omega
  have en:=Yu (o:=false) (l:=ns) (i:=1+(0+(i:Int))) (by omega) (by omega);rw[show(1+(0+(i:Int))).toNat=i+1 by omega,List.getD_eq_getElem?_getD,X9 q,Option.getD_some] at en;refine⟨_,_,rfl,.inl ?_,T++[(ns[i+1],s,d)],some (.int (0+(i:Int))),some (.int n),some (.int s),rfl,by simp[g],?_,λt r=>?_⟩
  ·rw[N4];simp(disch:=first | omega | (simp;done) | (simp;omega)) [vX,I,jD,jI,ut,B,E,O,P,en,jb,e3,-Int.zero_add]
  ·rw[N4,u,List.take_succ_eq_append_getElem (by rw[List.length_drop];omega),List.getElem_drop];simp[Nat.add_comm]
  ·rcases N1.mp r with r | r
   ·exact A t r
   ·rw[M7.mp r];exact⟨J _ (List.getElem_mem q),s0,Int.le_trans s1 h,d0,Int.le_trans d1 p⟩) (ρ:=[some (.int c),some (.lst false (ns.map D.str)),some (.int m),some (.lst true []),none,none,none]) ⟨[],none,none,none,rfl,rfl,rfl,by simp⟩
 rw[yi] at g u;have H:=yr (j:=1+m % 6) (by omega) (by omega);refine⟨T,?_,A,u,g⟩;simp(disch:=first | omega | (simp;done) | (simp;omega)) [vQ,jR,JT,jD,H,e,jb]
theorem jgy{l:List W2}(h:∀ p∈l,Wd p.1):KH (.lst false (l.map e2)) (.lst true [])=some (.bl (!l.isEmpty)):=by
 cases l with
 | nil=>rfl
 | cons q l=>exact jdb (YK h 18) rfl
theorem jbM(a:Nat)(b:Int)(h:0<=b):∃ n:Nat,wm [.int (a:Int),.int b]=some (.int (n:Int))/\n<=a/\(n:Int)<=b:=by
 by_cases q:b < (a:Int)
 ·refine⟨b.toNat,?_,by omega,by omega⟩;show some (D.int (if b < (a:Int) then b else a))=_;rw[if_pos q,Int.toNat_of_nonneg h]
 ·refine⟨a,?_,M8 _,by omega⟩;show some (D.int (if b < (a:Int) then b else a))=_;rw[if_neg q]
theorem ja9{m:Int}{T:List W3}{M:List W2}(P:0<=m)(Q:0 < T.length)(s:T.length<=10)(v:∀ p∈M,Wd p.1)(w:M.length<=10):∃ G:List WG,va [.int m,.lst false (T.map e3),.lst false (M.map e2)]=some (.lst true (G.map eG))/\(∀ g∈G,g.1∈M.map (·.1)/\g.2∈T.map (·.1))/\G.length<=10:=by
 have ne:=jgy v;by_cases d:M=[]
 ·subst d;have ne:KH (.lst false []) (.lst true [])=some (.bl false):=rfl;exact⟨[],by simp[va,jR,kN,ne,jb],by simp,by simp⟩
 ·have y:0 < M.length:=List.length_pos_iff.mpr d;have h:M.isEmpty=false:=by cases M with | nil=>exact absurd rfl d | cons _ _=>rfl
  rw[h] at ne;obtain⟨n,en,R,S⟩:=jbM T.length (m % 4) (by omega);obtain⟨U,e,G,k,l,rfl,a,o⟩:=j7 (G:=jc [] 4) (f:=v5) (xs:=vm 0 n) (λi ρ=>∃(G:List WG) (k l:Option D),ρ=[some (.int m),some (.lst false (T.map e3)),some (.lst false (M.map e2)),some (.lst true (G.map eG)),k,l]/\G.length=i/\∀ g∈G,g.1∈M.map (·.1)/\g.2∈T.map (·.1)) (by
   rintro i x ρ z ⟨G,k,l,rfl,a,o⟩;obtain⟨rfl,hi⟩:=vh z;have A:=N9 (m / 4+(0+(i:Int))) (show(T.length:Int)≠0 by omega);have B:=N8 (m / 4+(0+(i:Int))) (show 0 < (T.length:Int) by omega);obtain⟨t,C,E⟩:=jcF A B;have F:=N9 (m / 24+(0+(i:Int))*(0+(i:Int))) (show(M.length:Int)≠0 by omega);have H:=N8 (m / 24+(0+(i:Int))*(0+(i:Int))) (show 0 < (M.length:Int) by omega);obtain⟨u,I,J⟩:=jj9 F H;have K:0<=(0+(i:Int))*(0+(i:Int))/\(0+(i:Int))*(0+(i:Int))<=10*10:=⟨Int.mul_nonneg (by omega) (by omega),Int.mul_le_mul (by omega) (by omega) (by omega) (by omega)⟩;refine⟨_,_,rfl,.inl ?_,G++[(u.1,t.1)],some (.int (0+(i:Int))),some (.str t.1),rfl,by simp[a],λg b=>?_⟩
   ·rw[N4];have L:=i30 (t:=t);have N:=i20 (t:=u);have q:kt [.lst false (T.map e3)]=some (.int (T.length:Int)):=by simp
    have O:kt [.lst false (M.map e2)]=some (.int (M.length:Int)):=by simp
    have r:lim (G.map eG).length=true:=jb (by rw[L0];omega);generalize T.map e3=TT,M.map e2=MM,G.map eG=GG,e3 t=E3,e2 u=E2 at *;simp(disch:=first | omega | (simp;done) | (simp;omega)) [v5,jD,jI,yJ,q,O,E,J,L,N,r,jb,eG,-Int.zero_add,-List.length_map]
   ·rcases N1.mp b with b | b
    ·exact o g b
    ·rw[M7.mp b];exact⟨M5.mpr ⟨u,I,rfl⟩,M5.mpr ⟨t,C,rfl⟩⟩) (ρ:=[some (.int m),some (.lst false (T.map e3)),some (.lst false (M.map e2)),some (.lst true []),none,none]) ⟨[],none,none,rfl,rfl,by simp⟩
  rw[yi] at a;have c:=yr (j:=(n:Int)) (by omega) (by omega);rw[N7] at c;refine⟨G,?_,o,by omega⟩;have q:kt [.lst false (T.map e3)]=some (.int (T.length:Int)):=by simp
  generalize T.map e3=TT,M.map e2=MM at *;simp(disch:=first | omega | (simp;done) | (simp;omega)) [va,jR,kN,ne,q,jD,en,c,e,jb,-qJ,-yh]
theorem ixL{l:List Int}{i:Int}(h:0<=i)(h2:i < l.length):∃ v∈l,jd (.lst true (l.map D.int)) (.int i)=some (.int v):=by
 have a:i.toNat < l.length:=by omega
 refine⟨l[i.toNat],List.getElem_mem a,?_⟩;rw[uD h (by rw[L0];exact h2),List.getElem?_map,X9 a];rfl
noncomputable abbrev vH:List Nat:=[114,101,115,116]
noncomputable abbrev YG:List Nat:=[112,97,121]
noncomputable abbrev qG:List Nat:=[115,104,97,114,101]
abbrev kdD:D:=.lst false [.str qG,.str qG,.str YG]
inductive Ru where
 | one (k w:List Nat)
 | many (ws:List (List Nat))
def eRu:Ru->D
 | .one k w=>.tup [.str k,.str w]
 | .many ws=>.tup [.str qG,.tup (ws.map D.str)]
theorem Kh(r:Ru):frz (eRu r)=true:=by
 cases r with
 | one k w=>rfl
 | many a=>have:=ju a;simp[eRu,frz,frzs,this]
theorem Yj(l:List Ru):frzs (l.map eRu)=true:=yI λd hd=>by obtain⟨p,_,rfl⟩:=M5.mp hd;exact Kh p
theorem zR(l:List Ru):fzs (l.map eRu)=l.map eRu:=vC λd hd=>by obtain⟨p,_,rfl⟩:=M5.mp hd;exact vB _ (Kh p)
inductive RuOk (C P:List (List Nat)):Ru->Prop
 | rest {w:List Nat}:w∈C->RuOk C P (.one vH w)
 | pay {w:List Nat}:w∈C->RuOk C P (.one YG w)
 | share {ws:List (List Nat)}:ws.Nodup->(∀ w∈ws,w∈C)->ws.length<=10->RuOk C P (.many ws)
theorem jfY{zs:List Int}{k:Int}(h:0<=k)(c:zs.length<=100):∃ v:Int,kc [.lst false (zs.map D.int),.int k]=some (.int v):=by
 have a:kt [.lst false (zs.map D.int)]=some (.int (zs.length:Int)):=by simp
 by_cases q:k < (zs.length:Int)
 ·have b:k.toNat < zs.length:=by omega
  have ix:jd (.lst false (zs.map D.int)) (.int k)=some (.int zs[k.toNat]):=by
   rw[uD h (by rw[L0];exact q),List.getElem?_map,X9 b];rfl
  refine⟨zs[k.toNat],?_⟩;generalize zs.map D.int=ZZ at *;simp[kc,jR,JS,a,q,ix,-yh]
 ·refine⟨0,?_⟩;generalize zs.map D.int=ZZ at *;simp[kc,jR,JS,a,q,-yh]
theorem uR{n:Int}{F:List (List Nat)}(B:0<=n)(h1:1 < (F.length:Int))(h2:F.length<=10)(g:F.Nodup):∃ ws:List (List Nat),yC (jc [] 0) qT (pF (p2 jd (pV 1) (p2 jl (p2 jo (p2 jz (pV 2) (pC (.int 9))) (pV 0)) (pCB kt (ja (pV 1) pN))))) (vm 0 (2+n / 64 % ((F.length:Int) - 1)).toNat) [none,some (.lst false (F.map D.str)),some (.int n)]=some (ws.map D.str)/\ws.Nodup/\(∀ w∈ws,w∈F)/\ws.length<=10:=by
 have s1:=N9 (n / 64) (show(F.length:Int) - 1≠0 by omega);have h:=N8 (n / 64) (show 0 < (F.length:Int) - 1 by omega);generalize k:(2+n / 64 % ((F.length:Int) - 1)).toNat=q;have m:q<=F.length:=by omega
 clear k s1 h;have c:∀ i:Nat,i < q->((n / 9+(0+(i:Int))) % (F.length:Int)).toNat < F.length:=λi hi=>by
  have a:=N9 (n / 9+(0+(i:Int))) (show(F.length:Int)≠0 by omega);have b:=N8 (n / 9+(0+(i:Int))) (show 0 < (F.length:Int) by omega);omega
 refine⟨(List.range q).map λi:Nat=>F.getD ((n / 9+(0+(i:Int))) % (F.length:Int)).toNat [],?_,?_,?_,by simp;omega⟩
 ·rw[U0];refine jE (l:=List.range q) (en:=λi=>.int (0+(i:Int))) rfl (λρ=>∃ o,ρ=[o,some (.lst false (F.map D.str)),some (.int n)]) ?_ ⟨none,rfl⟩;rintro i hi ρ ⟨o,rfl⟩;have hi:=List.mem_range.mp hi;have a:=N9 (n / 9+(0+(i:Int))) (show(F.length:Int)≠0 by omega);have b:=N8 (n / 9+(0+(i:Int))) (show 0 < (F.length:Int) by omega);have p:=Yu (o:=false) (l:=F) a b;have r:kt [.lst false (F.map D.str)]=some (.int (F.length:Int)):=by simp
  refine⟨[some (.int (0+(i:Int))),some (.lst false (F.map D.str)),some (.int n)],rfl,?_,_,rfl⟩;show _=some (D.str (F.getD ((n / 9+(0+(i:Int))) % (F.length:Int)).toNat []));generalize F.getD ((n / 9+(0+(i:Int))) % (F.length:Int)).toNat []=w,F.map D.str=FF at *;simp(disch:=omega) [r,p,jD,jI,-yh,-Int.zero_add]
 ·unfold List.Nodup;rw[List.pairwise_map];refine List.Pairwise.imp_of_mem ?_ (show(List.range q).Pairwise (·≠·) from List.nodup_range);intro i j hi d f e;refine f ?_;have hi:=List.mem_range.mp hi;have d:=List.mem_range.mp d;have s:=c i hi;have t:=c j d;rw[List.getD_eq_getElem?_getD,List.getD_eq_getElem?_getD,X9 s,X9 t,Option.getD_some,Option.getD_some] at e;have e2:=(List.getElem_inj g).mp e;have C:=N9 (n / 9+(0+(i:Int))) (show(F.length:Int)≠0 by omega);have E:=N9 (n / 9+(0+(j:Int))) (show(F.length:Int)≠0 by omega);have e3:(n / 9+(0+(i:Int))) % (F.length:Int)=(n / 9+(0+(j:Int))) % (F.length:Int):=by omega
  have G:=Int.emod_emod_of_dvd (n / 9+(0+(i:Int))) (Int.dvd_refl (F.length:Int));have d1:=Int.mul_ediv_add_emod (n / 9+(0+(i:Int))) (F.length:Int);have H:=Int.mul_ediv_add_emod (n / 9+(0+(j:Int))) (F.length:Int);generalize(n / 9+(0+(i:Int))) / (F.length:Int)=u at *;generalize(n / 9+(0+(j:Int))) / (F.length:Int)=v at *;rw[e3] at d1;have x:(F.length:Int)*(u - v)=(i:Int) - (j:Int):=by rw[Int.mul_sub];omega
  have y:u - v=0:=by
   by_cases z:u - v=0
   ·exact z
   ·exfalso;have:(F.length:Int)<=(F.length:Int)*(u - v) \/ (F.length:Int)*(u - v)<=-(F.length:Int):=by
     rcases Int.lt_or_gt_of_ne z with z | z
     ·right
      have:=Int.mul_le_mul_of_nonneg_left (show u - v<=-1 by omega) (show 0<=(F.length:Int) by omega);omega
     ·left
      have:=Int.mul_le_mul_of_nonneg_left (show 1<=u - v by omega) (show 0<=(F.length:Int) by omega);omega
    omega
  rw[y,Int.mul_zero] at x;omega
 ·intro w A;obtain⟨i,hi,rfl⟩:=M5.mp A;exact Yc (c i (List.mem_range.mp hi))
theorem jfX{n:Int}{T:List W3}{M:List W2}{F:List (List Nat)}{x4:D}(C:0<=n)(Q:0 < T.length)(G:T.length<=10)(H:M.length<=10)(I:∀ p∈M,Wd p.1)(c:F.length<=10)(J:∀ w∈F,Wd w)(E:∀ w∈F,w∈T.map (·.1))(d:F.Nodup):∃ r:Ru,yE [.int n,.lst false (T.map e3),.lst false (M.map e2),.lst false (F.map D.str),x4,kdD]=some (eRu r)/\RuOk (T.map (·.1)) (M.map (·.1)) r:=by
 have e:kt [.lst false (T.map e3)]=some (.int (T.length:Int)):=by simp
 have R:kt [.lst false (M.map e2)]=some (.int (M.length:Int)):=by simp
 have f:kt [.lst false (F.map D.str)]=some (.int (F.length:Int)):=by simp
 have g:kt [kdD]=some (.int 3):=rfl;have K:=N9 (n / 9) (show(T.length:Int)≠0 by omega);have L:=N8 (n / 9) (show 0 < (T.length:Int) by omega);obtain⟨t,k,l⟩:=jcF K L;have m:=i30 (t:=t);have N:n % 3=0 \/ n % 3=1 \/ n % 3=2:=by omega
 rcases N with h | h | h
 ·have a:jd kdD (.int (n % 3))=some (.str qG):=by rw[h];rfl
  by_cases z:1 < (F.length:Int)
  ·obtain⟨i,o,q,s,u⟩:=uR (n:=n) C z c d;have s1:=N9 (n / 64) (show(F.length:Int) - 1≠0 by omega);have O:=N8 (n / 64) (show 0 < (F.length:Int) - 1 by omega);have v:jl (.int (n / 64)) (.int ((F.length:Int) - 1))=some (.int (n / 64 % ((F.length:Int) - 1))):=jD (by omega);generalize n / 64 % ((F.length:Int) - 1)=y at *;have b:=yr (j:=2+y) (by omega) (by omega);have x:lim (vm 0 (2+y).toNat).length=true:=jb (by rw[yi];omega);refine⟨.many i,?_,.share q (λw A=>E w (s w A)) u⟩;have B:=ju i;generalize P:vm 0 (2+y).toNat=RR,T.map e3=TT,M.map e2=MM,F.map D.str=FF,kdD=KK at *;simp(disch:=first | omega | (simp;done) | (simp;omega)) [yE,jR,vv,g,e,f,a,z,v,b,x,o,B,jD,jI,jw,List.getElem?_cons_zero,Option.join,jb,eRu,-yh]
  ·refine⟨.one YG t.1,?_,.pay (M5.mpr ⟨t,k,rfl⟩)⟩;generalize T.map e3=TT,M.map e2=MM,F.map D.str=FF,e3 t=E3,kdD=KK at *;simp(disch:=first | omega | (simp;done) | (simp;omega)) [yE,jR,vv,g,e,f,a,l,m,jD,jI,jb,eRu,z,-yh]
 ·have a:jd kdD (.int (n % 3))=some (.str qG):=by rw[h];rfl
  by_cases z:1 < (F.length:Int)
  ·obtain⟨i,o,q,s,u⟩:=uR (n:=n) C z c d;have s1:=N9 (n / 64) (show(F.length:Int) - 1≠0 by omega);have O:=N8 (n / 64) (show 0 < (F.length:Int) - 1 by omega);have v:jl (.int (n / 64)) (.int ((F.length:Int) - 1))=some (.int (n / 64 % ((F.length:Int) - 1))):=jD (by omega);generalize n / 64 % ((F.length:Int) - 1)=y at *;have b:=yr (j:=2+y) (by omega) (by omega);have x:lim (vm 0 (2+y).toNat).length=true:=jb (by rw[yi];omega);refine⟨.many i,?_,.share q (λw A=>E w (s w A)) u⟩;have B:=ju i;generalize P:vm 0 (2+y).toNat=RR,T.map e3=TT,M.map e2=MM,F.map D.str=FF,kdD=KK at *;simp(disch:=first | omega | (simp;done) | (simp;omega)) [yE,jR,vv,g,e,f,a,z,v,b,x,o,B,jD,jI,jw,List.getElem?_cons_zero,Option.join,jb,eRu,-yh]
  ·refine⟨.one YG t.1,?_,.pay (M5.mpr ⟨t,k,rfl⟩)⟩;generalize T.map e3=TT,M.map e2=MM,F.map D.str=FF,e3 t=E3,kdD=KK at *;simp(disch:=first | omega | (simp;done) | (simp;omega)) [yE,jR,vv,g,e,f,a,l,m,jD,jI,jb,eRu,z,-yh]
 ·have a:jd kdD (.int (n % 3))=some (.str YG):=by rw[h];rfl
  refine⟨.one YG t.1,?_,.pay (M5.mpr ⟨t,k,rfl⟩)⟩;generalize T.map e3=TT,M.map e2=MM,F.map D.str=FF,e3 t=E3,kdD=KK at *;simp(disch:=first | omega | (simp;done) | (simp;omega)) [yE,jR,vv,g,e,f,a,l,m,jD,jI,jb,eRu,-yh]
theorem jcM{zs:List Int}{x7:D}{c a:Int}{nm:List Nat}{T:List W3}{M:List W2}{F:List (List Nat)}(hz:zs.length<=100)(f7:frz x7=true)(ha:0<=a)(ha2:a<=1000)(hT:0 < T.length)(K:T.length<=10)(L:M.length<=10)(N:∀ p∈M,Wd p.1)(O:F.length<=10)(Q:∀ w∈F,Wd w)(hF:∀ w∈F,w∈T.map (·.1))(S:F.Nodup):∃(P:List W2) (R:List Ru),kC [.lst false (zs.map D.int),.int c,.str nm,.int a,.lst false (T.map e3),.lst false (M.map e2),.lst false (F.map D.str),x7,kdD]=some (.tup [.str nm,.lst false (P.map e2),.lst false (R.map eRu)])/\(∀ p∈P,p.1∈T.map (·.1)/\1<=p.2/\p.2<=10)/\P.length<=10/\R.length<=10/\∀ r∈R,RuOk (T.map (·.1)) (M.map (·.1)) r:=by
 have g:=yo (c:=c) (k:=a) (by omega) (by omega);have m0:=ve c a;generalize kg c a=m at g m0;obtain⟨v,hv,ev⟩:=ixL (l:=[0,0,1,2,3,6]) (i:=m % 6) (by omega) (by show m % 6 < 6;omega);have v0:0<=v:=by simp at hv;omega
 obtain⟨n,en,n1,n2⟩:=jbM T.length v v0;have lT:kt [.lst false (T.map e3)]=some (.int (T.length:Int)):=by simp
 obtain⟨ρ',e,P,b,d,rfl,h,U⟩:=j7 (G:=jc [] 11) (f:=kq) (xs:=vm 0 n) (λi ρ=>∃(P:List W2) (b d:Option D),ρ=[some (.lst false (zs.map D.int)),some (.int c),some (.str nm),some (.int a),some (.lst false (T.map e3)),some (.lst false (M.map e2)),some (.lst false (F.map D.str)),some x7,some kdD,some (.int m),some (.lst true (P.map e2)),b,d,none,none,none]/\P.length=i/\∀ p∈P,p.1∈T.map (·.1)/\1<=p.2/\p.2<=10) (by
  rintro i x ρ V ⟨P,b,d,rfl,h,U⟩;obtain⟨rfl,hi⟩:=vh V;have g:=yo (c:=c) (k:=a+40+(0+(i:Int))) (by omega) (by omega);have k0:=ve c (a+40+(0+(i:Int)));generalize kg c (a+40+(0+(i:Int)))=k at g k0;obtain⟨u,W,B⟩:=ixL (l:=[2,3,10]) (i:=m / 6 % 3) (by omega) (by show m / 6 % 3 < 3;omega);have u0:2<=u/\u<=10:=by simp at W;omega
  have r0:=N9 k (show u≠0 by omega);have r1:=N8 k (show 0 < u by omega);have X:=N9 (m / 18+(0+(i:Int))) (show(T.length:Int)≠0 by omega);have Y:=N8 (m / 18+(0+(i:Int))) (show 0 < (T.length:Int) by omega);obtain⟨t,Z,et⟩:=jcF X Y;have k1:=i30 (t:=t);refine⟨_,_,rfl,.inl ?_,P++[(t.1,1+k % u)],some (.int (0+(i:Int))),some (.int (1+k % u)),rfl,by simp[h],λp C=>?_⟩
  ·rw[N4];have o:lim (P.map e2).length=true:=jb (by rw[L0];omega);generalize T.map e3=TT,P.map e2=PP,e3 t=E3 at *;simp only[List.map] at B;simp(disch:=first | omega | (simp;done) | (simp;omega)) [kq,g,jD,jI,lT,et,B,k1,o,jb,e2,-Int.zero_add]
  ·rcases N1.mp C with C | C
   ·exact U p C
   ·rw[M7.mp C];exact⟨M5.mpr ⟨t,Z,rfl⟩,by show 1<=1+k % u;omega,by show 1+k % u<=10;omega⟩) (ρ:=[some (.lst false (zs.map D.int)),some (.int c),some (.str nm),some (.int a),some (.lst false (T.map e3)),some (.lst false (M.map e2)),some (.lst false (F.map D.str)),some x7,some kdD,some (.int m),some (.lst true []),none,none,none,none,none]) ⟨[],none,none,rfl,rfl,by simp⟩
 rw[yi] at h;have E:=yr (j:=(n:Int)) (by omega) (by omega);rw[N7] at E;obtain⟨u,W,B⟩:=ixL (l:=[2,4,8,1+m / 108 % 8]) (i:=m / 864 % 4) (by omega) (by show m / 864 % 4 < 4;omega);have u0:1<=u/\u<=8:=by simp at W;omega
 obtain⟨ρ'',e',R,s,z,rfl,A,hR⟩:=j7 (G:=jc [] 14) (f:=km) (xs:=vm 0 u.toNat) (λi ρ=>∃(R:List Ru) (s z:Option D),ρ=[some (.lst false (zs.map D.int)),some (.int c),some (.str nm),some (.int a),some (.lst false (T.map e3)),some (.lst false (M.map e2)),some (.lst false (F.map D.str)),some x7,some kdD,some (.int m),some (.lst true (P.map e2)),b,d,some (.lst true (R.map eRu)),s,z]/\R.length=i/\∀ r∈R,RuOk (T.map (·.1)) (M.map (·.1)) r) (by
  rintro i x ρ V ⟨R,s,z,rfl,A,hR⟩;obtain⟨rfl,hi⟩:=vh V;obtain⟨y,ey⟩:=jfY (zs:=zs) (k:=a+(0+(i:Int))) (by omega) hz;have g:=yo (c:=c+y) (k:=a+(0+(i:Int))) (by omega) (by omega);have k0:=ve (c+y) (a+(0+(i:Int)));generalize kg (c+y) (a+(0+(i:Int)))=k at g k0;obtain⟨r,er,kr⟩:=jfX (n:=k) (x4:=x7) k0 hT K L N O Q hF S;refine⟨_,_,rfl,.inl ?_,R++[r],some (.int (0+(i:Int))),some (.int k),rfl,by simp[A],λq H=>?_⟩
  ·rw[N4,L4,List.map_nil];have o:lim (R.map eRu).length=true:=jb (by rw[L0];omega);have a1:=QC T;have a2:=yN M;have a3:=j5 F;have b1:=qL T;have b2:=jk M;have b3:=ju F;have c1:=vz zs;have c2:=qj zs;have g7:=vB _ f7;have fk:fz kdD=kdD:=rfl;have fk2:frz kdD=true:=rfl;have fr:frz (eRu r)=true:=Kh r;generalize T.map e3=TT,M.map e2=MM,F.map D.str=FF,zs.map D.int=ZZ,R.map eRu=RR,eRu r=ER,kdD=KK at *;simp(disch:=first | omega | (simp;done) | (simp;omega)) [km,ey,g,er,o,a1,a2,a3,b1,b2,b3,c1,c2,g7,f7,fk,fk2,fr,fz,fzs,frz,frzs,-Int.zero_add]
  ·rcases N1.mp H with H | H
   ·exact hR q H
   ·rw[M7.mp H];exact kr) (ρ:=[some (.lst false (zs.map D.int)),some (.int c),some (.str nm),some (.int a),some (.lst false (T.map e3)),some (.lst false (M.map e2)),some (.lst false (F.map D.str)),some x7,some kdD,some (.int m),some (.lst true (P.map e2)),b,d,some (.lst true []),none,none]) ⟨[],none,none,rfl,rfl,by simp⟩
 rw[yi] at A;have I:=yr (j:=u) (by omega) (by omega);have X:=N9 (m / 3456) (show(T.length:Int)≠0 by omega);have Y:=N8 (m / 3456) (show 0 < (T.length:Int) by omega);obtain⟨t,Z,et⟩:=jcF X Y;have k1:=i30 (t:=t);have fP:=yN P;have fP2:=jk P;have fR:=zR (R++[Ru.one vH t.1]);have fR2:=Yj (R++[Ru.one vH t.1]);have ne:KH kdD (.lst true [])=some (.bl true):=rfl;have lR:lim (R.map eRu).length=true:=jb (by rw[L0];omega);have eR:R.map eRu++[.tup [.str vH,.str t.1]]=(R++[Ru.one vH t.1]).map eRu:=by rw[N4];rfl
 refine⟨P,R++[Ru.one vH t.1],?_,U,by omega,by simp;omega,λr J=>?_⟩
 ·simp only[List.map] at ev B;generalize T.map e3=TT,P.map e2=PP at *;generalize(R++[Ru.one vH t.1]).map eRu=R2 at *;generalize R.map eRu=RR,e3 t=E3,kdD=KK at *;simp(disch:=first | omega | (simp;done) | (simp;omega)) [kC,jR,Y9,g,ne,lT,jD,jI,ev,en,E,e,B,I,e',et,k1,lR,eR,fP,fP2,fR,fR2,fz,fzs,frz,frzs,jb,-qJ,-yh,-List.length_append]
 ·rcases N1.mp J with J | J
  ·exact hR r J
  ·rw[M7.mp J];exact .rest (M5.mpr ⟨t,Z,rfl⟩)
structure OrdS where
 nm:List Nat
 parts:List W2
 rules:List Ru
def yP(x:OrdS):D:=.tup [.str x.nm,.lst false (x.parts.map e2),.lst false (x.rules.map eRu)]
structure OrdOk(C P:List (List Nat))(x:OrdS):Prop where
 w:Wd x.nm
 parts:∀ p∈x.parts,p.1∈C/\1<=p.2/\p.2<=10
 parts2:x.parts.length<=10
 rules:∀ r∈x.rules,RuOk C P r
 rules2:x.rules.length<=10
theorem qe{l:List D}(h:∀ d∈l,yF d=true):jO l=true:=by rw[yW];exact List.all_eq_true.mpr h
theorem vM(x:OrdS):frz (yP x)=true:=by
 have a:=jk x.parts;have b:=Yj x.rules;simp[yP,frz,frzs,a,b]
theorem jb5{sc kd x5:D}{c m:Int}{ns:List (List Nat)}(r:0<=m)(C:ns.length=12)(t:∀ w∈ns,Wd w):∃(M:List W2) (o7 o8:Option D),j8 (jc [] 7) vT (vm 0 (m / 72 % 4).toNat) [some sc,some (.int c),some kd,some (.lst true (ns.map D.str)),some (.int m),some x5,some (.lst true []),none,none,none,none,none,none,none,none,none]=some (.nx [some sc,some (.int c),some kd,some (.lst true (ns.map D.str)),some (.int m),some x5,some (.lst true (M.map e2)),o7,o8,none,none,none,none,none,none,none])/\M.map (·.1)=(ns.drop 7).take (m / 72 % 4).toNat/\M.length=(m / 72 % 4).toNat/\∀ p∈M,Wd p.1/\1<=p.2/\p.2<=10 ^ 12:=by
 obtain⟨E,e,M,o7,o8,rfl,d,j,k⟩:=j7 (G:=jc [] 7) (f:=vT) (xs:=vm 0 (m / 72 % 4).toNat) (λi ρ=>∃(M:List W2) (o7 o8:Option D),ρ=[some sc,some (.int c),some kd,some (.lst true (ns.map D.str)),some (.int m),some x5,some (.lst true (M.map e2)),o7,o8,none,none,none,none,none,none,none]/\M.length=i/\M.map (·.1)=(ns.drop 7).take i/\∀ p∈M,Wd p.1/\1<=p.2/\p.2<=10 ^ 12) (by
  rintro i x ρ u ⟨M,o7,o8,rfl,d,j,k⟩;obtain⟨rfl,hi⟩:=vh u;obtain⟨v,z,A,q⟩:=ix2 (a:=9) (b:=1000000000000) (i:=m / 12 % 2) (by omega) (by omega) (by decide) (by decide) (by decide) (by decide);have d0:=Int.ediv_nonneg r (show 0<=36+(0+(i:Int)) by omega);have dd:jz (.int m) (.int (36+(0+(i:Int))))=some (.int (m / (36+(0+(i:Int))))):=jI (by omega) (by omega);generalize m / (36+(0+(i:Int)))=y at d0 dd;obtain⟨s,B,s0,s1⟩:=Jm (c:=c+(0+(i:Int))) (w:=y % 1009) (most:=v) (by omega) (by omega) A q;have g:i+7 < ns.length:=by omega
  have en:=Yu (o:=true) (l:=ns) (i:=7+(0+(i:Int))) (by omega) (by omega);rw[show(7+(0+(i:Int))).toNat=i+7 by omega,List.getD_eq_getElem?_getD,X9 g,Option.getD_some] at en;refine⟨_,_,rfl,.inl ?_,M++[(ns[i+7],s)],some (.int (0+(i:Int))),some (.int s),rfl,by simp[d],?_,λp h=>?_⟩
  ·rw[N4];have n:lim (M.map e2).length=true:=jb (by rw[L0];omega);generalize M.map e2=MM,ns.map D.str=NN at *;simp(disch:=first | omega | (simp;done) | (simp;omega)) [vT,jD,jI,dd,ut,z,B,en,n,jb,e2,-Int.zero_add]
  ·rw[N4,j,List.take_succ_eq_append_getElem (by rw[List.length_drop];omega),List.getElem_drop];simp[Nat.add_comm]
  ·rcases N1.mp h with h | h
   ·exact k p h
   ·rw[M7.mp h];exact⟨t _ (List.getElem_mem g),s0,Int.le_trans s1 q⟩) (ρ:=[some sc,some (.int c),some kd,some (.lst true (ns.map D.str)),some (.int m),some x5,some (.lst true []),none,none,none,none,none,none,none,none,none]) ⟨[],none,none,rfl,rfl,rfl,by simp⟩
 rw[yi] at d j;exact⟨M,o7,o8,e,j,d,k⟩
theorem ja0{x3 x4 x9 x10 x12:D}{o7 o8:Option D}{c:Int}{zs:List Int}{T:List W3}{M:List W2}{F cl:List (List Nat)}(O:0 < T.length)(k:T.length<=10)(Z:cl.length=2)(Q:∀ w∈cl,Wd w)(d:frz x12=true)(hz:zs.length<=100)(m:M.length<=10)(n:∀ p∈M,Wd p.1)(q:F.length<=10)(r:∀ w∈F,Wd w)(S:∀ w∈F,w∈T.map (·.1))(s:F.Nodup):∃(os:List OrdS) (o7':Option D),j8 (jc [] 7) vU (vm 0 2) [some (.lst false (zs.map D.int)),some (.int c),some kdD,some x3,some x4,some (.lst false (T.map e3)),some (.lst false (M.map e2)),o7,o8,some x9,some x10,some (.lst false (F.map D.str)),some x12,some (.lst true (cl.map D.str)),some (.lst true []),none]=some (.nx [some (.lst false (zs.map D.int)),some (.int c),some kdD,some x3,some x4,some (.lst false (T.map e3)),some (.lst false (M.map e2)),o7',o8,some x9,some x10,some (.lst false (F.map D.str)),some x12,some (.lst true (cl.map D.str)),some (.lst true (os.map yP)),none])/\os.map (·.nm)=cl/\∀ x∈os,OrdOk (T.map (·.1)) (M.map (·.1)) x:=by
 obtain⟨ρ',e,os,o7',rfl,g,b,t⟩:=j7 (G:=jc [] 7) (f:=vU) (xs:=vm 0 2) (λi ρ=>∃(os:List OrdS) (o7':Option D),ρ=[some (.lst false (zs.map D.int)),some (.int c),some kdD,some x3,some x4,some (.lst false (T.map e3)),some (.lst false (M.map e2)),o7',o8,some x9,some x10,some (.lst false (F.map D.str)),some x12,some (.lst true (cl.map D.str)),some (.lst true (os.map yP)),none]/\os.length=i/\os.map (·.nm)=cl.take i/\∀ x∈os,OrdOk (T.map (·.1)) (M.map (·.1)) x) (by
  rintro i x ρ U ⟨os,o7',rfl,g,b,t⟩;obtain⟨rfl,hi⟩:=vh U;have h:i < cl.length:=by omega
  have en:=Yu (o:=true) (l:=cl) (i:=0+(i:Int)) (by omega) (by omega);rw[show(0+(i:Int)).toNat=i by omega,List.getD_eq_getElem?_getD,X9 h,Option.getD_some] at en;obtain⟨P,R,N,V,u,v,y⟩:=jcM (zs:=zs) (x7:=x12) (c:=c) (a:=3+9*(0+(i:Int))) (nm:=cl[i]) (T:=T) (M:=M) (F:=F) hz d (by omega) (by omega) O k m n q r S s;have z:=QC T;have A:=qL T;have W:=yN M;have B:=j5 F;have X:=jk M;have C:=ju F;have E:=vB _ d;have H:=qj zs;have fsc:=vz zs;have Y:fz kdD=kdD:=rfl;have I:frz kdD=true:=rfl;refine⟨_,_,rfl,.inl ?_,os++[⟨cl[i],P,R⟩],some (.int (0+(i:Int))),rfl,by simp[g],?_,λp j=>?_⟩
  ·rw[N4,L4,List.map_nil];have J:lim (os.map yP).length=true:=jb (by rw[L0];omega);have K:=vM ⟨cl[i],P,R⟩;have L:yP ⟨cl[i],P,R⟩=.tup [.str cl[i],.lst false (P.map e2),.lst false (R.map eRu)]:=rfl;rw[<- L] at N;generalize os.map yP=MM,cl.map D.str=NN,T.map e3=TT,M.map e2=MM2,F.map D.str=FF2,zs.map D.int=ZZ,kdD=KK,yP ⟨cl[i],P,R⟩=EE at *;simp(disch:=first | omega | (simp;done) | (simp;omega)) [vU,yJ,en,N,J,jb,fz,fzs,z,A,frz,frzs,X,C,d,fsc,W,B,E,H,Y,I,K,-Int.zero_add]
  ·rw[N4,b,List.take_succ_eq_append_getElem h];rfl
  ·rcases N1.mp j with j | j
   ·exact t p j
   ·rw[M7.mp j];exact⟨Q _ (List.getElem_mem h),V,u,y,v⟩) (ρ:=[some (.lst false (zs.map D.int)),some (.int c),some kdD,some x3,some x4,some (.lst false (T.map e3)),some (.lst false (M.map e2)),o7,o8,some x9,some x10,some (.lst false (F.map D.str)),some x12,some (.lst true (cl.map D.str)),some (.lst true []),none]) ⟨[],o7,rfl,rfl,rfl,by simp⟩
 rw[yi] at g b;rw[List.take_of_length_le (by omega)] at b;exact⟨os,o7',e,b,t⟩
structure PoolS where
 nm:List Nat
 told:List W3
 marks:List W2
 eats:List (List Nat)
 ords:List OrdS
 grds:List WG
noncomputable abbrev PoolS.C(p:PoolS):List (List Nat):=p.told.map (·.1)
noncomputable abbrev PoolS.P(p:PoolS):List (List Nat):=p.marks.map (·.1)
def vd(o:Bool)(p:PoolS):D:=.tup [.str p.nm,.lst false (p.told.map e3),.lst false (p.marks.map e2),.lst false (p.eats.map D.str),.lst false (p.ords.map yP),.lst o [],.lst false (p.grds.map eG)]
structure PoolOk(p:PoolS):Prop where
 nm:Wd p.nm
 told:∀ t∈p.told,ClOk t
 toldn:p.C.Nodup
 told1:0 < p.told.length
 told2:p.told.length<=10
 marks:∀ c∈p.marks,Wd c.1/\1<=c.2/\c.2<=10 ^ 12
 marksn:p.P.Nodup
 marks2:p.marks.length<=10
 ords:∀ x∈p.ords,OrdOk p.C p.P x
 ordn:(p.ords.map (·.nm)).Nodup
 ord2:p.ords.length=2
 grds:∀ g∈p.grds,g.1∈p.P/\g.2∈p.C
 grds2:p.grds.length<=10
theorem YD(l:List OrdS):frzs (l.map yP)=true:=yI λd hd=>by obtain⟨p,_,rfl⟩:=M5.mp hd;exact vM p
theorem jgU{zs:List Int}{c:Int}{ns:List (List Nat)}(hz:zs.length<=100)(en:jV [.int c,.int 12]=some (.lst true (ns.map D.str)))(J:ns.length=12)(a:∀ w∈ns,Wd w)(r:ns.Nodup):∃ p:PoolS,qv [.lst false (zs.map D.int),.int c,kdD]=some (vd true p)/\PoolOk p/\p.nm=ns.getD 0 []:=by
 have K:=yo (c:=c) (k:=1) (by decide) (by decide);have s:=ve c 1;generalize kg c 1=m at K s;obtain⟨T,eT,L,N,lT⟩:=jaU (c:=c) s J a;obtain⟨M,O,P,eM,W,lM,u⟩:=jb5 (sc:=.lst false (zs.map D.int)) (kd:=kdD) (x5:=.lst true (T.map e3)) (c:=c) s J a;obtain⟨G,v,X,Y⟩:=ja9 (m:=m / 288) (T:=T) (M:=M) (by omega) (by omega) (by omega) (λp y=>(u p y).1) (by omega);obtain⟨e,z,Q,Z,nc⟩:=xr (c+1) (many:=2) (by decide) (by decide);have A:=yr (j:=m / 72 % 4) (by omega) (by omega);have R:yC (jc [] 0) qT (pF (p2 jd (pV 0) (pC (.int 1)))) (G.map eG) [none]=some (G.map λg=>.str g.2):=by
  refine jE (l:=G) (en:=eG) rfl (λρ=>∃ o,ρ=[o]) ?_ ⟨none,rfl⟩;rintro x S ρ ⟨o,rfl⟩;exact⟨_,rfl,rfl,_,rfl⟩
 have B:(G.map λg=>D.str g.2)=(G.map (·.2)).map D.str:=by rw[U0];rfl
 have C:yC (jc [] 0) (ji (p2 (wI true) (p2 jd (pV 0) (pC (.int 0))) (pV 1))) (pF (p2 jd (pV 0) (pC (.int 0)))) (T.map e3) [none,some (.lst true ((G.map (·.2)).map D.str))]=some ((T.filter λt=>true != decide (t.1∈G.map (·.2))).map λt=>.str t.1):=by
  refine wH (l:=T) (en:=e3) (λρ=>∃ o,ρ=[o,some (.lst true ((G.map (·.2)).map D.str))]) ?_ ⟨none,rfl⟩;rintro x S ρ ⟨o,rfl⟩;have:=jaW true true x.1 (G.map (·.2));generalize(G.map (·.2)).map D.str=SS at this;exact⟨[some (e3 x),some (.lst true SS)],rfl,by simp[i30,this],rfl,_,rfl⟩
 have U:frz (.lst false ((T.filter λt=>true != decide (t.1∈G.map (·.2))).map λt=>.str t.1))=true:=by
  show frzs _=true;exact yI λd hd=>by obtain⟨p,_,rfl⟩:=M5.mp hd;rfl
 rw[B] at R;have sO:=jaD true ns (some 10) none;have E:((T.filter λt=>true != decide (t.1∈G.map (·.2))).map λt=>D.str t.1)=((T.filter λt=>true != decide (t.1∈G.map (·.2))).map (·.1)).map D.str:=by rw[U0];rfl
 rw[E] at C U;have b:∀ w∈(T.filter λt=>true != decide (t.1∈G.map (·.2))).map (·.1),w∈T.map (·.1):=λw a=>by
  obtain⟨t,H,rfl⟩:=M5.mp a;exact M5.mpr ⟨t,(List.mem_filter.mp H).1,rfl⟩
 have f:((T.filter λt=>true != decide (t.1∈G.map (·.2))).map (·.1)).length<=10:=by
  have:=List.length_filter_le (λt:W3=>true != decide (t.1∈G.map (·.2))) T;rw[L0];omega
 have h:∀ w∈(T.filter λt=>true != decide (t.1∈G.map (·.2))).map (·.1),Wd w:=λw a=>by
  obtain⟨t,H,rfl⟩:=M5.mp (b w a);exact(L t H).w
 have n:((T.filter λt=>true != decide (t.1∈G.map (·.2))).map (·.1)).Nodup:=by
  have:(T.map (·.1)).Nodup:=by rw[N];exact(r.sublist (List.drop_sublist _ _)).sublist (List.take_sublist _ _)
  exact this.sublist (List.Sublist.map _ List.filter_sublist)
 generalize(T.filter λt=>true != decide (t.1∈G.map (·.2))).map (·.1)=FL at C U b f h n;obtain⟨os,o7',eO,V,kO⟩:=ja0 (x3:=.lst true (ns.map D.str)) (x4:=.int m) (o7:=O) (o8:=P) (x9:=.lst true (G.map eG)) (x10:=.lst true ((G.map (·.2)).map D.str)) (x12:=.lst false ((yM ns (some 10) none).map D.str)) (c:=c) (zs:=zs) (T:=T) (M:=M) (F:=FL) (cl:=e) (by omega) (by omega) Q Z (ju _) hz (by omega) (λp y=>(u p y).1) f h b n;have q:Va [.int 2]=some (vm 0 2):=rfl;have sE:jdP none (some (m / 7 % 7)) (.lst false (T.map e3))=some (.lst true ((yM T none (some (m / 7 % 7))).map e3)):=by rw[jkc (qL T),Kz]
 have eE:yC (jc [] 0) qT (pF (p2 jd (pV 0) (pC (.int 0)))) ((yM T none (some (m / 7 % 7))).map e3) [none]=some (((yM T none (some (m / 7 % 7))).map (·.1)).map D.str):=by
  rw[U0];refine jE (l:=yM T none (some (m / 7 % 7))) (en:=e3) rfl (λρ=>∃ o,ρ=[o]) ?_ ⟨none,rfl⟩;rintro x S ρ ⟨o,rfl⟩;exact⟨_,rfl,rfl,_,rfl⟩
 have lE:=xm T none (some (m / 7 % 7));have i0:jd (.lst true (ns.map D.str)) (.int 0)=some (.str (ns.getD 0 [])):=Yu (o:=true) (l:=ns) (i:=0) (by decide) (by omega);have lO:os.length=2:=by rw[<- Q,<- V,L0]
 refine⟨⟨ns.getD 0 [],T,M,(yM T none (some (m / 7 % 7))).map (·.1),os,G⟩,?_,{ nm:=a _ (Yc (by omega)),told:=L,toldn:=?_,told1:=?_,told2:=?_,marks:=u,marksn:=?_,marks2:=?_,ords:=kO,ordn:=?_,ord2:=lO,grds:=X,grds2:=Y },rfl⟩
 rotate_left
 ·show(T.map (·.1)).Nodup;rw[N];exact(r.sublist (List.drop_sublist _ _)).sublist (List.take_sublist _ _)
 ·show 0 < T.length;omega
 ·show T.length<=10;omega
 ·show(M.map (·.1)).Nodup;rw[W];exact(r.sublist (List.drop_sublist _ _)).sublist (List.take_sublist _ _)
 ·show M.length<=10;omega
 ·show(os.map (·.nm)).Nodup;rw[V];exact nc
 have a1:=QC T;have a2:=qL T;have a3:=yN M;have a4:=jk M;have a5:=wk G;have c1:jO (T.map e3)=true:=qe λd hd=>by obtain⟨p,_,rfl⟩:=M5.mp hd;rfl
 have c2:jO (G.map eG)=true:=qe λd hd=>by obtain⟨p,_,rfl⟩:=M5.mp hd;rfl
 have c3:jO (ns.map D.str)=true:=Ja _;have c4:jO (e.map D.str)=true:=Ja _;have a6:=Vk G;have a7:=YD os;have a8:fzs (os.map yP)=os.map yP:=vC λd hd=>by obtain⟨p,_,rfl⟩:=M5.mp hd;exact vB _ (vM p)
 have l1:lim (T.map e3).length=true:=jb (by rw[L0];omega);have l2:lim (G.map eG).length=true:=jb (by rw[L0];omega);have l3:lim ((yM T none (some (m / 7 % 7))).map e3).length=true:=jb (by rw[L0];omega);have l4:lim (vm 0 (m / 72 % 4).toNat).length=true:=jb (by rw[yi];omega);have l5:lim (vm 0 2).length=true:=rfl;have l6:=qL (yM T none (some (m / 7 % 7)));have b1:=ju ns;have b2:=j5 ns;have b3:=ju (yM ns (some 10) none);have b4:=j5 (yM ns (some 10) none);have b5:=ju ((yM T none (some (m / 7 % 7))).map (·.1));have b6:=j5 ((yM T none (some (m / 7 % 7))).map (·.1));have a9:=j5 FL;have z1:=vz zs;have z2:=qj zs;have fk:fz kdD=kdD:=rfl;have I:frz kdD=true:=rfl;simp only[vd];replace z:jV [.int (c+1),.int 2]=some (.lst true (e.map D.str)):=z;generalize ns.getD 0 []=nm,zs.map D.int=ZZ,kdD=KK,vm 0 (m / 72 % 4).toNat=R1,vm 0 2=R2 at *;generalize((yM T none (some (m / 7 % 7))).map (·.1)).map D.str=EE at *;generalize(yM T none (some (m / 7 % 7))).map e3=E3 at *;generalize FL.map D.str=FF at *;generalize(G.map (·.2)).map D.str=SS at *;generalize(yM ns (some 10) none).map D.str=OO at *;generalize ns.map D.str=NN,T.map e3=TT,M.map e2=MM,G.map eG=GG,os.map yP=OS,e.map D.str=CL at *;simp(disch:=first | omega | (simp;done) | (simp;omega)) [qv,jR,VP,en,K,eT,jD,jI,A,eM,v,R,C,sO,z,eO,q,sE,eE,i0,a1,a2,a3,a4,a5,a6,a7,a8,a9,z1,z2,fk,I,yF,jO,c1,c2,c3,c4,b1,b2,b3,b4,b5,b6,l1,l2,l3,l4,l5,l6,fz,fzs,frz,frzs,jb,jw,List.getElem?_cons_zero,Option.join]
structure BkS where
 S:List W2
 W:List W2
 R:List W2
 L:List W2
 z:Int
def jW(o:Bool)(b:BkS):D:=.tup [.lst o (b.S.map e2),.lst o (b.W.map e2),.lst o (b.R.map e2),.lst o (b.L.map e2),.int b.z]
def In(l:List W2)(m:Int):Prop:=∀ p∈l,0<=p.2/\p.2<=m
theorem In.snoc{l:List W2}{m:Int}(h:In l m){w:List Nat}{v:Int}(h1:0<=v)(h2:v<=m):In (l++[(w,v)]) m:=λp a=>by
 rcases N1.mp a with a | a
 ·exact h p a
 ·rw[M7.mp a];exact⟨h1,h2⟩
structure BkOk(p:PoolS)(b:BkS):Prop where
 S:b.S.map (·.1)=p.C
 W:b.W.map (·.1)=p.C
 R:b.R.map (·.1)=p.C
 L:b.L.map (·.1)=p.P
 s:In b.S (10 ^ 12)
 w:In b.W (10 ^ 14)
 r:In b.R 100
 l:In b.L (10 ^ 12)
theorem jlx{T:List W3}{i:Nat}{x:D}(b:(yc 0 (T.map e3))[i]?=some x):∃ h:i < T.length,x=.tup [.int (i:Int),e3 T[i]]:=by
 obtain⟨y,a,c⟩:=kJ _ _ _ _ b;rw[List.getElem?_map] at a;have hi:i < T.length:=by
  by_cases h:i < T.length
  ·exact h
  ·rw[List.getElem?_eq_none (by omega)] at a;cases a
 rw[X9 hi] at a;cases a;exact⟨hi,by rw[c,Nat.zero_add]⟩
theorem jlm{T:List W2}{i:Nat}{x:D}(b:(yc 0 (T.map e2))[i]?=some x):∃ h:i < T.length,x=.tup [.int (i:Int),e2 T[i]]:=by
 obtain⟨y,a,c⟩:=kJ _ _ _ _ b;rw[List.getElem?_map] at a;have hi:i < T.length:=by
  by_cases h:i < T.length
  ·exact h
  ·rw[List.getElem?_eq_none (by omega)] at a;cases a
 rw[X9 hi] at a;cases a;exact⟨hi,by rw[c,Nat.zero_add]⟩
theorem jiB:Vt (.int 10) (.int 13)=some (.int 10000000000000):=rfl
theorem J9{α:Type}{T:List (List Nat×α)}{M:List (List Nat)}{i:Nat}(hi:i < T.length)(h:M=(T.map (·.1)).take i):M++[T[i].1]=(T.map (·.1)).take (i+1):=by
 rw[h,List.take_succ_eq_append_getElem (by rw[L0];exact hi),List.getElem_map]
theorem jlw{x1:D}{c:Int}{T:List W3}(H:∀ t∈T,ClOk t)(Y:T.length<=10):∃(S W R:List W2) (o5 o6 o7 o8 o9:Option D),j8 (gT 2 (gC (jc [] 5) (gC (jc [] 6) gN))) y9 (yc 0 (T.map e3)) [some (.int c),some x1,some (.lst true []),some (.lst true []),some (.lst true []),none,none,none,none,none,none,none]=some (.nx [some (.int c),some x1,some (.lst true (S.map e2)),some (.lst true (W.map e2)),some (.lst true (R.map e2)),o5,o6,o7,o8,o9,none,none])/\S.map (·.1)=T.map (·.1)/\W.map (·.1)=T.map (·.1)/\R.map (·.1)=T.map (·.1)/\In S (10 ^ 12)/\In W (10 ^ 14)/\In R 100:=by
 obtain⟨Z,e,S,W,R,o5,o6,o7,o8,o9,rfl,j,m,o,r,s,u⟩:=j7 (G:=gT 2 (gC (jc [] 5) (gC (jc [] 6) gN))) (f:=y9) (xs:=yc 0 (T.map e3)) (λi ρ=>∃(S W R:List W2) (o5 o6 o7 o8 o9:Option D),ρ=[some (.int c),some x1,some (.lst true (S.map e2)),some (.lst true (W.map e2)),some (.lst true (R.map e2)),o5,o6,o7,o8,o9,none,none]/\S.map (·.1)=(T.map (·.1)).take i/\W.map (·.1)=(T.map (·.1)).take i/\R.map (·.1)=(T.map (·.1)).take i/\In S (10 ^ 12)/\In W (10 ^ 14)/\In R 100) (by
  rintro i x ρ I ⟨S,W,R,o5,o6,o7,o8,o9,rfl,j,m,o,r,s,u⟩;obtain⟨hi,rfl⟩:=jlx I;have J:=H _ (List.getElem_mem hi);have t3:T[i]=(T[i].1,T[i].2.1,T[i].2.2):=rfl;have K:=J9 hi j;have L:=J9 hi m;have M:=J9 hi o;have lS:(S.map e2).length<=10:=by have:=congrArg List.length j;simp only[L0,E1] at this ⊢;omega
  have lW:(W.map e2).length<=10:=by have:=congrArg List.length m;simp only[L0,E1] at this ⊢;omega
  have lR:(R.map e2).length<=10:=by have:=congrArg List.length o;simp only[L0,E1] at this ⊢;omega
  generalize T[i]=t at *;obtain⟨b,ts,a⟩:=t;obtain⟨_,s0,s1,d0,d1⟩:=J;simp only at s0 s1 d0 d1;have v:=yo (c:=c) (k:=200+(i:Int)) (by omega) (by omega);have N:=ve c (200+(i:Int));generalize kg c (200+(i:Int))=n at v N;have O:=N9 (n / 35) (show ts≠0 by omega);have P:=N8 (n / 35) (show 0 < ts by omega);have w:jl (.int (n / 35)) (.int ts)=some (.int (n / 35 % ts)):=jD (by omega);generalize n / 35 % ts=y1 at O P w;have Q:=N9 (n / 7) (show 2*a+1≠0 by omega);have U:=N8 (n / 7) (show 0 < 2*a+1 by omega);have y:jl (.int (n / 7)) (.int (2*a+1))=some (.int (n / 7 % (2*a+1))):=jD (by omega);generalize n / 7 % (2*a+1)=y2 at Q U y;obtain⟨p,z,d⟩:=ixL (l:=[ts,1,1+y1]) (i:=n / 5 % 3) (by omega) (by show n / 5 % 3 < 3;omega);obtain⟨q,A,g⟩:=ixL (l:=[0,y2,n / 15 % 10000000000000]) (i:=n / 15 % 3) (by omega) (by show n / 15 % 3 < 3;omega);have V:0<=p/\p<=10 ^ 12:=by simp at z;omega
  have X:0<=q/\q<=10 ^ 13:=by simp at A;omega
  have B:jd (e3 (b,ts,a)) (.int 0)=some (.str b):=rfl;have C:jd (e3 (b,ts,a)) (.int 1)=some (.int ts):=rfl;have E:jd (e3 (b,ts,a)) (.int 2)=some (.int a):=rfl;simp only[List.map] at d g;refine⟨_,_,rfl,.inl ?_,S++[(b,if n % 5=0 then 0 else p)],W++[(b,if n % 5=0 then 0 else a+q)],R++[(b,n / 45 % 4)],some (.int (i:Int)),some (e3 (b,ts,a)),some (.int n),some (.int (if n % 5=0 then 0 else p)),some (.int (if n % 5=0 then 0 else a+q)),rfl,by simpa using K,by simpa using L,by simpa using M,?_,?_,?_⟩
  ·rw[N4,N4,N4];generalize S.map e2=SS,W.map e2=WW,R.map e2=RR,e3 (b,ts,a)=E3 at *;by_cases F:n % 5=0
   ·simp(disch:=first | omega | (simp;done) | (simp;omega)) [y9,v,jD,jI,yJ,B,C,E,w,y,jiB,d,g,F,jb,e2]
   ·simp(disch:=first | omega | (simp;done) | (simp;omega)) [y9,v,jD,jI,yJ,B,C,E,w,y,jiB,d,g,F,jb,e2]
  ·exact r.snoc (by split<;>omega) (by split<;>omega)
  ·exact s.snoc (by split<;>omega) (by split<;>omega)
  ·exact u.snoc (by omega) (by omega)) (ρ:=[some (.int c),some x1,some (.lst true []),some (.lst true []),some (.lst true []),none,none,none,none,none,none,none]) ⟨[],[],[],none,none,none,none,none,rfl,rfl,rfl,rfl,λ_ h=>by simp at h,λ_ h=>by simp at h,λ_ h=>by simp at h⟩
 rw[yd,List.take_of_length_le (by simp)] at j m o;exact⟨S,W,R,o5,o6,o7,o8,o9,e,j,m,o,r,s,u⟩
theorem jkh{x1 x2 x3 x4:D}{o5 o6 o7 o8 o9:Option D}{c:Int}{M:List W2}(q:∀ t∈M,Wd t.1/\1<=t.2/\t.2<=10 ^ 12)(B:M.length<=10):∃(L:List W2) (o5' o7' o11:Option D),j8 (gT 2 (gC (jc [] 5) (gC (jc [] 11) gN))) vP (yc 0 (M.map e2)) [some (.int c),some x1,some x2,some x3,some x4,o5,o6,o7,o8,o9,some (.lst true []),none]=some (.nx [some (.int c),some x1,some x2,some x3,some x4,o5',o6,o7',o8,o9,some (.lst true (L.map e2)),o11])/\L.map (·.1)=M.map (·.1)/\In L (10 ^ 12):=by
 obtain⟨C,e,L,o5',o7',o11,rfl,b,kL⟩:=j7 (G:=gT 2 (gC (jc [] 5) (gC (jc [] 11) gN))) (f:=vP) (xs:=yc 0 (M.map e2)) (λi ρ=>∃(L:List W2) (o5' o7' o11:Option D),ρ=[some (.int c),some x1,some x2,some x3,some x4,o5',o6,o7',o8,o9,some (.lst true (L.map e2)),o11]/\L.map (·.1)=(M.map (·.1)).take i/\In L (10 ^ 12)) (by
  rintro i x ρ r ⟨L,o5',o7',o11,rfl,b,kL⟩;obtain⟨hi,rfl⟩:=jlm r;have s:=q _ (List.getElem_mem hi);have u:=J9 hi b;have E:(L.map e2).length<=10:=by have:=congrArg List.length b;simp only[L0,E1] at this ⊢;omega
  generalize M[i]=t at *;obtain⟨a,ts⟩:=t;obtain⟨_,s0,s1⟩:=s;simp only at s0 s1;have o:=yo (c:=c) (k:=210+(i:Int)) (by omega) (by omega);have v:=ve c (210+(i:Int));generalize kg c (210+(i:Int))=n at o v;have w:=N9 (n / 3) (show ts+1≠0 by omega);have y:=N8 (n / 3) (show 0 < ts+1 by omega);have p:jl (.int (n / 3)) (.int (ts+1))=some (.int (n / 3 % (ts+1))):=jD (by omega);generalize n / 3 % (ts+1)=y2 at w y p;obtain⟨d,m,g⟩:=ixL (l:=[0,ts,y2]) (i:=n % 3) (by omega) (by show n % 3 < 3;omega);have j:0<=d/\d<=10 ^ 12:=by simp at m;omega
  have z:jd (e2 (a,ts)) (.int 0)=some (.str a):=rfl;have A:jd (e2 (a,ts)) (.int 1)=some (.int ts):=rfl;simp only[List.map] at g;refine⟨_,_,rfl,.inl ?_,L++[(a,d)],some (.int (i:Int)),some (.int n),some (e2 (a,ts)),rfl,by simpa using u,kL.snoc j.1 j.2⟩;rw[N4,L4,List.map_nil,show e2 (a,d)=.tup [.str a,.int d] from rfl];generalize L.map e2=LL,e2 (a,ts)=E2 at *;simp(disch:=first | omega | (simp;done) | (simp;omega)) [vP,o,jD,jI,z,A,p,g,jb]) (ρ:=[some (.int c),some x1,some x2,some x3,some x4,o5,o6,o7,o8,o9,some (.lst true []),none]) ⟨[],o5,o7,none,rfl,rfl,λ_ h=>by simp at h⟩
 rw[yd,List.take_of_length_le (by simp)] at b;exact⟨L,o5',o7',o11,e,b,kL⟩
theorem jgd{c:Int}{p:PoolS}(h:PoolOk p):∃ b:BkS,qh [.int c,vd false p]=some (jW false b)/\BkOk p b:=by
 obtain⟨S,W,R,d,e,f,g,i,o,q,r,s,t,u,v⟩:=jlw (x1:=vd false p) (c:=c) h.told h.told2;obtain⟨L,w,x,y,a,z,kL⟩:=jkh (x1:=vd false p) (x2:=.lst true (S.map e2)) (x3:=.lst true (W.map e2)) (x4:=.lst true (R.map e2)) (o5:=d) (o6:=e) (o7:=f) (o8:=g) (o9:=i) (c:=c) h.marks h.marks2;have j:=yo (c:=c) (k:=220) (by decide) (by decide);have A:=ve c 220;generalize kg c 220=n at j A;have B:jd (vd false p) (.int 1)=some (.lst false (p.told.map e3)):=rfl;have C:jd (vd false p) (.int 2)=some (.lst false (p.marks.map e2)):=rfl;have D:=qL p.told;have E:=QC p.told;have F:=yN p.marks;have G:=jk p.marks;have l:lim (p.told.map e3).length=true:=jb (by rw[L0];have:=h.told2;omega);have m:lim (p.marks.map e2).length=true:=jb (by rw[L0];have:=h.marks2;omega);have H:lim (yc 0 (p.told.map e3)).length=true:=by rw[yd];exact l
 have I:lim (yc 0 (p.marks.map e2)).length=true:=by rw[yd];exact m
 have J:=yN S;have K:=yN W;have M:=yN R;have N:=yN L;have O:=jk S;have P:=jk W;have Q:=jk R;have T:=jk L;refine⟨⟨S,W,R,L,n % 50⟩,?_,⟨q,r,s,z,t,u,v,kL⟩⟩;simp only[jW];generalize S.map e2=SS,W.map e2=WW,R.map e2=RR,L.map e2=LL,p.told.map e3=TT,p.marks.map e2=MM,vd false p=PP at *;simp(disch:=first | omega | (simp;done) | (simp;omega)) [qh,jR,VD,j,jD,B,C,D,G,E,F,l,m,H,I,o,a,J,K,M,N,O,P,Q,T,fz,fzs,frz,frzs,jb]
noncomputable abbrev EN:=List Nat×List Nat
abbrev LN:=List (EN×Int)
noncomputable def kL(r:EN×Int):List KA:=[.str r.1.1,.str r.1.2]
noncomputable def vL(r:EN×Int):D:=.int r.2
def dLn(o:Bool)(l:LN):D:=.dT o (l.map kL) (l.map vL)
noncomputable def jg6(l:LN)(k:EN)(v:Int):LN:=l.map λr=>(r.1,if r.1=k then v else r.2)
def jjP(l:LN)(k:EN)(v:Int):LN:=if k∈l.map (·.1) then jg6 l k v else l++[(k,v)]
theorem jiK{a b c d:List Nat}:([KA.str a,KA.str b]=[KA.str c,KA.str d])=((a,b)=((c,d):EN)):=by simp
theorem jfj(r:EN×Int)(k:EN):(kL r=[KA.str k.1,KA.str k.2])=(r.1=k):=by
 obtain⟨⟨a,b⟩,n⟩:=r;obtain⟨c,d⟩:=k;exact jiK
theorem jaX(k:EN)(v:Int):∀ l:LN,jcI (l.map kL) (l.map vL) [.str k.1,.str k.2] (.int v)=(jg6 l k v).map vL
 | []=>rfl
 | r::l=>by
  rw[L4,L4,jcI,jaX k v l];by_cases h:r.1=k
  ·rw[if_pos (by rw[jfj];exact h)];simp[jg6,h,vL]
  ·rw[if_neg (by rw[jfj];exact h)];simp[jg6,h,vL]
theorem u4(k:EN):∀ l:LN,([KA.str k.1,KA.str k.2]∈l.map kL)↔k∈l.map (·.1)
 | []=>by simp
 | r::l=>by
  rw[L4,L4,M4,M4,u4 k l];have:=jfj r k;constructor
  ·rintro(h | h)
   ·exact .inl (this▸h.symm).symm
   ·exact .inr h
  ·rintro(h | h)
   ·exact .inl (this.symm▸h.symm:kL r=_).symm
   ·exact .inr h
theorem je0(l:LN)(k:EN)(v:Int):(jg6 l k v).map kL=l.map kL:=by unfold jg6;rw[U0];rfl
theorem jgP(k:EN)(v:Int)(l:LN):K5 (l.map kL) (l.map vL) [.str k.1,.str k.2] (.int v)=((jjP l k v).map kL,(jjP l k v).map vL):=by
 unfold K5 jjP;by_cases h:k∈l.map (·.1)
 ·rw[if_pos h,if_pos ((u4 k l).mpr h),jaX,je0]
 ·rw[if_neg h,if_neg λz=>h ((u4 k l).mp z)];simp[kL,vL]
structure LnOk(N:List (List Nat))(l:LN):Prop where
 nd:(l.map (·.1)).Nodup
 mem:∀ r∈l,r.1.1∈N/\r.1.2∈N/\0<=r.2
noncomputable def eR(r:EN×Int):D:=.tup [.str r.1.1,.str r.1.2,.int r.2]
theorem JQ(l:LN):frzs (l.map eR)=true:=yI λd hd=>by obtain⟨p,_,rfl⟩:=M5.mp hd;rfl
theorem xL(l:LN):fzs (l.map eR)=l.map eR:=vC λd hd=>by obtain⟨p,_,rfl⟩:=M5.mp hd;rfl
theorem jbt(l:LN):jO (l.map eR)=true:=by
 rw[yW,List.all_map,List.all_eq_true];intro x _;rfl
theorem jax(l:LN):yF (dLn true l)=true:=by
 have:jO (l.map vL)=true:=by rw[yW,List.all_map,List.all_eq_true];intro x _;rfl
 simp[dLn,yF,this]
theorem xt:∀(l a:LN),((a++l).map (·.1)).Nodup->(l.map λr=>(kL r,vL r)).foldl (λacc kv=>K5 acc.1 acc.2 kv.1 kv.2) (a.map kL,a.map vL)=((a++l).map kL,(a++l).map vL)
 | [],a,_=>by simp
 | r::l,a,h=>by
  have b:r.1∉a.map (·.1):=by
   rw[N4,U8] at h;intro z;exact h.2.2 _ z r.1 (by simp) rfl
  have e:K5 (a.map kL) (a.map vL) (kL r) (vL r)=((a++[r]).map kL,(a++[r]).map vL):=by
   have:=jgP r.1 r.2 a;unfold jjP at this;rw[if_neg b] at this;exact this
  rw[L4,U9];show List.foldl _ (K5 (a.map kL) (a.map vL) (kL r) (vL r)) _=_;rw[e,xt l (a++[r]) (by simpa using h)];simp
theorem K2:∀(l:LN) (o0 o1 o2:Option D),K1 (gT 3 (gC (jc [] 0) (gC (jc [] 1) (gC (jc [] 2) gN)))) qT (jcW (pV 0) (pV 1)) (pV 2) (l.map eR) [o0,o1,o2]=some (l.map λr=>(kL r,vL r))
 | [],_,_,_=>rfl
 | r::l,o0,o1,o2=>by
  have a:=K2 l (some (.str r.1.1)) (some (.str r.1.2)) (some (.int r.2));have b:gT 3 (gC (jc [] 0) (gC (jc [] 1) (gC (jc [] 2) gN))) (eR r) [o0,o1,o2]=some [some (.str r.1.1),some (.str r.1.2),some (.int r.2)]:=rfl;rw[L4,K1,b,L3];simp[a,qT,kL,vL,vg]
theorem jgT{l:LN}(h:(l.map (·.1)).Nodup)(b:l.length<=1000):yL [.lst false (l.map eR)]=some (dLn true l):=by
 have e:=K2 l none none none;have d:je6 (l.map λr=>(kL r,vL r))=(l.map kL,l.map vL):=xt l [] (by simpa using h);have a:lim l.length=true:=jb (by omega);simp[yL,jR,k8,jw,e,d,JQ,a,dLn,-jh5]
theorem wj:∀ l:LN,∃ rs,ud (l.map eR)=some rs
 | []=>⟨[],rfl⟩
 | r::l=>by
  obtain⟨rs,e⟩:=wj l;exact⟨(S r.1.1,S r.1.2,r.2)::rs,by show(ud (l.map eR)).bind _=_;rw[e];rfl⟩
noncomputable def jlN:D->EN
 | .tup [.str a,.str b,_]=>(a,b)
 | _=>([],[])
theorem jg2{l:LN}(h:(l.map (·.1)).Nodup){rs:List u6}:∃ l':LN,Qy rs (l.map eR)=l'.map eR/\(l'.map (·.1)).Nodup/\(∀ r∈l',r∈l)/\l'.length=l.length:=by
 have p:=wN (rs:=rs) (l:=l.map eR);obtain⟨l',e,a⟩:=xH (f:=eR) (Q:=λr=>r∈l) (ys:=Qy rs (l.map eR)) λy b=>by
  obtain⟨r,c,rfl⟩:=M5.mp (p.mem_iff.mp b);exact⟨r,rfl,c⟩
 refine⟨l',e,?_,a,?_⟩
 ·rw[e] at p;have p2:=p.map jlN;rw[U0,U0] at p2;have d:(jlN ∘ eR)=λr:EN×Int=>r.1:=by funext r;rfl
  rw[d] at p2;exact p2.nodup_iff.mpr h
 ·have:=p.length_eq;rw[e,L0,L0] at this;exact this
def Q3(nm:List Nat)(os:List (List Nat))(r:EN×Int):Prop:=(∃ o∈os,r.1=(nm,o) \/ r.1=(o,nm))/\1<=r.2/\r.2<=10 ^ 12
theorem Yi{nm:List Nat}{os:List (List Nat)}{l:LN}(d:(l.map (·.1)).Nodup)(g:∀ r∈l,Q3 nm os r){q:EN×Int}(e:q.1∉l.map (·.1)):((l++[q]).map (·.1)).Nodup:=by
 rw[N4,U8];exact⟨d,by simp,λa f b c=>by simp at c;rintro rfl;exact e (c▸f)⟩
theorem wX{x1 x2:D}{nm:List Nat}{c:Int}{os:List (List Nat)}(N:jd x1 (.int 0)=some (.str nm))(Z:nm∉os)(hd:os.Nodup)(hl:os.length<=4):∃(l:LN) (o4 o5 o6:Option D),j8 (gT 2 (gC (jc [] 4) (gC (jc [] 5) gN))) yb (yc 0 (os.map D.str)) [some (.int c),some x1,some x2,some (.lst true []),none,none,none]=some (.nx [some (.int c),some x1,some x2,some (.lst true (l.map eR)),o4,o5,o6])/\(l.map (·.1)).Nodup/\(∀ r∈l,Q3 nm os r)/\l.length<=8:=by
 obtain⟨ρ',e,l,o4,o5,o6,rfl,v,t,kl⟩:=j7 (G:=gT 2 (gC (jc [] 4) (gC (jc [] 5) gN))) (f:=yb) (xs:=yc 0 (os.map D.str)) (λi ρ=>∃(l:LN) (o4 o5 o6:Option D),ρ=[some (.int c),some x1,some x2,some (.lst true (l.map eR)),o4,o5,o6]/\(l.map (·.1)).Nodup/\(∀ r∈l,Q3 nm (os.take i) r)/\l.length<=2*i) (by
  rintro i x ρ hx ⟨l,o4,o5,o6,rfl,v,t,kl⟩;obtain⟨y,A,rfl⟩:=kJ _ _ _ _ hx;rw[List.getElem?_map] at A;have hi:i < os.length:=by
   by_cases h:i < os.length
   ·exact h
   ·rw[List.getElem?_eq_none (by omega)] at A;cases A
  rw[X9 hi] at A;cases A;rw[Nat.zero_add];have u:os.take (i+1)=os.take i++[os[i]]:=List.take_succ_eq_append_getElem hi;have T:os[i]∉os.take i:=by
   have:=hd.sublist (List.take_sublist (i+1) os);rw[u,U8] at this;intro z;exact this.2.2 _ z _ (by simp) rfl
  have U:nm≠os[i]:=λz=>Z (z▸List.getElem_mem hi);have j:∀ r∈l,Q3 nm (os.take (i+1)) r:=λr g=>by
   obtain⟨⟨o,O,h⟩,h2⟩:=t r g;exact⟨⟨o,by rw[u];exact List.mem_append_left _ O,h⟩,h2⟩
  have B:∀ q:EN×Int,q∈l->q.1≠(nm,os[i])/\q.1≠(os[i],nm):=λq C=>by
   obtain⟨⟨o,O,h⟩,h2⟩:=t q C;have E:o≠os[i]:=λz=>T (z▸O);have F:o≠nm:=λz=>Z (z▸List.mem_of_mem_take O);rcases h with h | h<;>rw[h]<;>constructor<;>intro z<;>injection z with z1 z2
   ·exact E z2
   ·exact F z2
   ·exact F z1
   ·exact E z1
  have H:os[i]∈os.take (i+1):=by rw[u];exact U2 _ (M7.mpr rfl)
  generalize os[i]=w at *;have I:=yo (c:=c) (k:=230+(i:Int)) (by omega) (by omega);have n0:=ve c (230+(i:Int));generalize kg c (230+(i:Int))=n at I n0;obtain⟨v1,m,V,J⟩:=ix2 (a:=9) (b:=1000000000000) (i:=n / 11 % 2) (by omega) (by omega) (by decide) (by decide) (by decide) (by decide);obtain⟨v2,p,W,K⟩:=ix2 (a:=9) (b:=1000000000000) (i:=n / 13 % 2) (by omega) (by omega) (by decide) (by decide) (by decide) (by decide);obtain⟨s,P,s0,s1⟩:=Jm (c:=n) (w:=n / 2 % 1009) (most:=v1) (by omega) (by omega) V J;obtain⟨d,Q,d0,d1⟩:=Jm (c:=n) (w:=n / 4 % 1009) (most:=v2) (by omega) (by omega) W K;have X:Q3 nm (os.take (i+1)) ((nm,w),s):=⟨⟨w,H,.inl rfl⟩,s0,Int.le_trans s1 J⟩;have kb:Q3 nm (os.take (i+1)) ((w,nm),d):=⟨⟨w,H,.inr rfl⟩,d0,Int.le_trans d1 K⟩;have na:(nm,w)∉l.map (·.1):=λz=>by obtain⟨q,C,e⟩:=M5.mp z;exact(B q C).1 e
  have nb:(w,nm)∉l.map (·.1):=λz=>by obtain⟨q,C,e⟩:=M5.mp z;exact(B q C).2 e
  have Y:(w,nm)∉(l++[((nm,w),s)]).map (·.1):=λz=>by
   rw[N4,N1] at z;rcases z with z | z
   ·exact nb z
   ·simp at z;exact U z.2
  have M:∀ L:LN,L.length<=2*i+1->lim (L.map eR).length=true:=λL h=>jb (by rw[L0];omega);have R:=M l (by omega);have lb:lim ((l.map eR).length+1)=true:=jb (by rw[L0];omega);have ea:eR ((nm,w),s)=.tup [.str nm,.str w,.int s]:=rfl;have eb:eR ((w,nm),d)=.tup [.str w,.str nm,.int d]:=rfl;by_cases c1:n % 2=0<;>by_cases S:n / 2 % 2=0
  ·refine⟨_,_,rfl,.inl ?_,l++[((nm,w),s)]++[((w,nm),d)],some (.int (i:Int)),some (.str w),some (.int n),rfl,Yi (os:=os.take (i+1)) (Yi v t na) (λr g=>(N1.mp g).elim (j r) λz=>by rw[M7.mp z];exact X) Y,λr g=>(N1.mp g).elim (λg=>(N1.mp g).elim (j r) λz=>by rw[M7.mp z];exact X) λz=>by rw[M7.mp z];exact kb,by simp;omega⟩;rw[N4,N4,L4,L4,List.map_nil,ea,eb];generalize l.map eR=LL at *;simp(disch:=first | omega | (simp;done) | (simp;omega)) [yb,I,jD,jI,ut,N,c1,S,m,p,P,Q,R,lb,jb]
  ·refine⟨_,_,rfl,.inl ?_,l++[((nm,w),s)],some (.int (i:Int)),some (.str w),some (.int n),rfl,Yi v t na,λr g=>(N1.mp g).elim (j r) λz=>by rw[M7.mp z];exact X,by simp;omega⟩;rw[N4,L4,List.map_nil,ea];generalize l.map eR=LL at *;simp(disch:=first | omega | (simp;done) | (simp;omega)) [yb,I,jD,jI,ut,N,c1,S,m,p,P,Q,R,jb]
  ·refine⟨_,_,rfl,.inl ?_,l++[((w,nm),d)],some (.int (i:Int)),some (.str w),some (.int n),rfl,Yi v t nb,λr g=>(N1.mp g).elim (j r) λz=>by rw[M7.mp z];exact kb,by simp;omega⟩;rw[N4,L4,List.map_nil,eb];generalize l.map eR=LL at *;simp(disch:=first | omega | (simp;done) | (simp;omega)) [yb,I,jD,jI,ut,N,c1,S,m,p,P,Q,R,jb]
  ·refine⟨_,_,rfl,.inl ?_,l,some (.int (i:Int)),some (.str w),some (.int n),rfl,v,j,by omega⟩;simp(disch:=first | omega | (simp;done) | (simp;omega)) [yb,I,jD,jI,ut,N,c1,S,m,p,P,Q,R,jb]) (ρ:=[some (.int c),some x1,some x2,some (.lst true []),none,none,none]) ⟨[],none,none,none,rfl,by simp,by simp,by simp⟩
 rw[yd,L0] at kl t;exact⟨l,o4,o5,o6,e,v,λr g=>by have:=t r g;rwa [List.take_of_length_le (M8 _)] at this,by omega⟩
theorem jdc{c:Int}{p:PoolS}{os:List (List Nat)}(h:p.nm∉os)(hd:os.Nodup)(i:os.length<=4):∃ l:LN,kx [.int c,vd false p,.lst false (os.map D.str)]=some (.lst true (l.map eR))/\(l.map (·.1)).Nodup/\l.length<=8/\∀ r∈l,Q3 p.nm os r:=by
 obtain⟨l,v,w,x,e,j,k,y⟩:=wX (x1:=vd false p) (x2:=.lst false (os.map D.str)) (c:=c) rfl h hd i;obtain⟨g,m⟩:=wj l;obtain⟨n,a,o,q,z⟩:=jg2 (rs:=g) j;have b:lim (yc 0 (os.map D.str)).length=true:=jb (by rw[yd,L0];omega);have d:lim (os.map D.str).length=true:=jb (by rw[L0];omega);have f:(l.map eR).length < 64:=by rw[L0];omega
 have s:=ju os;have t:=j5 os;refine⟨n,?_,o,by omega,λr u=>k r (q r u)⟩;generalize vd false p=PP,os.map D.str=OO,l.map eR=LL at *;simp(disch:=first | omega | (simp;done) | (simp;omega)) [kx,jR,YL,s,t,e,m,a,b,d,f,jb]
theorem sq{f g:FS}{ρ ρ':Rh}{r:Option Out}(h:f ρ=some (.nx ρ'))(k:g ρ'=r):jg f g ρ=r:=by
 rw[jeg,h];exact k
theorem lpF{G:D->Rh->Option Rh}{f:FS}{x:D}{xs:List D}{ρ a:Rh}(h:(G x ρ).bind f=some (.nx a)):j8 G f (x::xs) ρ=j8 G f xs a:=by
 refine ob h λr b c=>?_;rw[vt,b,L3,c];rfl
theorem lpE{G:D->Rh->Option Rh}{f:FS}{x:D}{xs:List D}{ρ a b:Rh}(h:G x ρ=some a)(k:f a=some (.nx b)):j8 G f (x::xs) ρ=j8 G f xs b:=by
 rw[vt,h,L3,k];rfl
theorem jhf{α:Type}{l:List α}{i:Nat}(h:i < l.length):atI l (i:Int)=l[i]?:=by
 unfold atI ixN;rw[if_pos (by omega),if_pos (by omega)];simp
theorem jed{n i:Nat}(h:i < n):ixN n (i:Int)=some i:=by
 unfold ixN;rw[if_pos (by omega),if_pos (by omega)];simp
noncomputable def low(c T n:Int):Int:=c*n / T
def Jy(c T:Int):List Int->Int->List Int×Int
 | [],left=>([],left)
 | n::ns,left=>if 0 < left/\low c T n < n then((low c T n+1)::(Jy c T ns (left - 1)).1,(Jy c T ns (left - 1)).2) else(low c T n::(Jy c T ns left).1,(Jy c T ns left).2)
theorem V4(c T:Int):∀(ns:List Int) (left:Int),(Jy c T ns left).1.length=ns.length
 | [],_=>rfl
 | n::ns,left=>by
  rw[Jy];split
  ·simp[V4 c T ns]
  ·simp[V4 c T ns]
theorem jbI{α:Type}(pre:List α)(g x:α)(a:List α):(pre++g::a).set pre.length x=pre++x::a:=by
 rw[List.set_append_right _ _ (M8 _)];simp
theorem Q9{a b w:Option D}{L:List D}{g n left:Int}{i:Nat}(d:atI L (i:Int)=some (.int g))(e:ixN L.length (i:Int)=some i)(c:L[i]?=some (.int g)) :
  qp [a,b,w,some (.lst true L),some (.int left),some (.int i),some (.int n)] =
   some (.nx (if 0 < left/\g < n then [a,b,w,some (.lst true (L.set i (.int (g+1)))),some (.int (left - 1)),some (.int i),some (.int n)] else [a,b,w,some (.lst true L),some (.int left),some (.int i),some (.int n)])):=by
 by_cases f:0 < left<;>by_cases h:g < n<;>simp[qp,jd,d,f,h,e,c]
theorem qN(a b w:Option D)(c T:Int):∀(ns:List Int) (pre:List Int) (left:Int) (o5 o6:Option D),
  ∃ o5' o6',j8 (gT 2 (gC (jc [] 5) (gC (jc [] 6) gN))) qp (yc pre.length (ns.map D.int)) [a,b,w,some (.lst true ((pre++ns.map (low c T)).map D.int)),some (.int left),o5,o6] =
   some (.nx [a,b,w,some (.lst true ((pre++(Jy c T ns left).1).map D.int)),some (.int (Jy c T ns left).2),o5',o6'])
 | [],pre,left,o5,o6=>⟨o5,o6,by simp[yc,Jy]⟩
 | n::ns,pre,left,o5,o6=>by
  have d:=Q9 (a:=a) (b:=b) (w:=w) (L:=(pre++low c T n::ns.map (low c T)).map D.int) (g:=low c T n) (n:=n) (left:=left) (i:=pre.length)
   (by rw[jhf (by simp)];simp) (jed (by simp)) (by simp)
  have f:((pre++low c T n::ns.map (low c T)).map D.int).set pre.length (D.int (low c T n+1))=(pre++(low c T n+1)::ns.map (low c T)).map D.int:=by
   have:=jbI (pre.map D.int) (D.int (low c T n)) (D.int (low c T n+1)) ((ns.map (low c T)).map D.int);simpa using this
  rw[f] at d;have k:(gT 2 (gC (jc [] 5) (gC (jc [] 6) gN))) (.tup [.int (pre.length:Int),.int n]) [a,b,w,some (.lst true ((pre++low c T n::ns.map (low c T)).map D.int)),some (.int left),o5,o6]=some [a,b,w,some (.lst true ((pre++low c T n::ns.map (low c T)).map D.int)),some (.int left),some (.int pre.length),some (.int n)]:=rfl;rw[L4,yc,vt,L4,k,L3,d,L3,jbv];by_cases h:0 < left/\low c T n < n
  ·obtain⟨o5',o6',e⟩:=qN a b w c T ns (pre++[low c T n+1]) (left - 1) (some (.int pre.length)) (some (.int n));refine⟨o5',o6',?_⟩;have j:(pre++[low c T n+1]).length=pre.length+1:=by simp
   rw[j] at e;rw[Jy,if_pos h,if_pos h];simp only[List.append_assoc,List.singleton_append] at e;exact e
  ·obtain⟨o5',o6',e⟩:=qN a b w c T ns (pre++[low c T n]) left (some (.int pre.length)) (some (.int n));refine⟨o5',o6',?_⟩;have j:(pre++[low c T n]).length=pre.length+1:=by simp
   rw[j] at e;rw[Jy,if_neg h,if_neg h];simp only[List.append_assoc,List.singleton_append] at e;exact e
def jh(ns:List Int)(c:Int):List Int:=if ns.sum<=c then ns else(Jy c ns.sum ns (c - (ns.map (low c ns.sum)).sum)).1
theorem jbe{ns:List Int}{c:Int}(f:ns.length<=20)(a:∀ x∈ns,0<=x/\x<=10 ^ 20)(g:0<=c)(h1:c<=2 ^ 900)(i:ns.sum<=10 ^ 30) :
  Ju [.lst false (ns.map D.int),.int c]=some (.lst true ((jh ns c).map D.int)):=by
 by_cases h:ns.sum<=c
 ·simp[Ju,jR,V0,jh,h]
 ·have b:yC (jc [] 0) qT (p2 jz (p2 jX (pV 1) (pV 0)) (pV 2)) (ns.map D.int) (jw [none,some 1,some 2] [some (.lst false (ns.map D.int)),some (.int c),some (.int ns.sum),none,none,none,none])=some (ns.map λn=>D.int (low c ns.sum n)):=by
   refine jE rfl (λρ=>∃ o,ρ=[o,some (.int c),some (.int ns.sum)]) ?_ ⟨none,rfl⟩;rintro x d ρ ⟨o,rfl⟩;have:=a x d;refine⟨[some (.int x),some (.int c),some (.int ns.sum)],rfl,?_,some (.int x),rfl⟩;simp(disch:=omega) [yJ,jI,low]
  obtain⟨j,k,e⟩:=qN (some (.lst false (ns.map D.int))) (some (.int c)) (some (.int ns.sum)) c ns.sum ns [] (c - (ns.map (low c ns.sum)).sum) none none;simp only[X8,List.length_nil,U0] at e;have e2:(D.int ∘ low c ns.sum)=λn=>D.int (low c ns.sum n):=rfl;rw[e2] at e;have e3:ns.map (λn=>D.int (low c ns.sum n))=(ns.map (low c ns.sum)).map D.int:=by rw[U0];rfl
  rw[e3] at b e;simp(disch:=omega) [Ju,jR,V0,jh,h,b,e,jb,-List.map_map]
theorem V7(c T:Int):∀(ns:List Int) (left:Int),(Jy c T ns left).1.sum+(Jy c T ns left).2=(ns.map (low c T)).sum+left
 | [],left=>by simp[Jy]
 | n::ns,left=>by
  rw[Jy];split
  ·have:=V7 c T ns (left - 1);simp only[List.sum_cons,L4];omega
  ·have:=V7 c T ns left;simp only[List.sum_cons,L4];omega
def cnt(c T:Int):List Int->Int
 | []=>0
 | n::ns=>(if low c T n < n then 1 else 0)+cnt c T ns
theorem jdU(c T:Int):∀ ns:List Int,0<=cnt c T ns
 | []=>by simp[cnt]
 | n::ns=>by
  have:=jdU c T ns;rw[cnt];split<;>omega
theorem Je(c T:Int):∀(ns:List Int) (left:Int),0<=left->left<=cnt c T ns->(Jy c T ns left).2=0
 | [],left,h,k=>by simp[Jy,cnt] at *;omega
 | n::ns,left,h,k=>by
  rw[cnt] at k;rw[Jy];have:=jdU c T ns;split
  ·next g =>
   rw[if_pos g.2] at k;exact Je c T ns (left - 1) (by omega) (by omega)
  ·next g =>
   by_cases a:low c T n < n
   ·rw[if_pos a] at k;exact Je c T ns left h (by omega)
   ·rw[if_neg a] at k;exact Je c T ns left h (by omega)
theorem uW{c T n:Int}(b:0<=c)(h:c < T)(a:0<=n):T*low c T n<=c*n/\c*n<=T*low c T n+T*(if low c T n < n then 1 else 0)/\0<=low c T n/\low c T n<=n:=by
 unfold low;have e:=Int.mul_ediv_add_emod (c*n) T;have i:=N9 (c*n) (show T≠0 by omega);have j:=N8 (c*n) (show 0 < T by omega);have p:0<=c*n:=Int.mul_nonneg b a;have d:0<=c*n / T:=Int.ediv_nonneg p (by omega);have f:c*n / T<=n:=by
  have:c*n<=T*n:=Int.mul_le_mul_of_nonneg_right (by omega) a;exact Int.ediv_le_of_le_mul (by omega) (by rw[Int.mul_comm n T];exact this)
 refine⟨by omega,?_,d,f⟩;split
 ·omega
 ·next g =>
  have e2:c*n / T=n:=by omega
  rw[e2];have:c*n<=T*n:=Int.mul_le_mul_of_nonneg_right (by omega) a;omega
theorem xY{c T:Int}(a:0<=c)(b:c < T):∀(ns:List Int),(∀ x∈ns,0<=x)->T*(ns.map (low c T)).sum<=c*ns.sum/\c*ns.sum<=T*(ns.map (low c T)).sum+T*cnt c T ns
 | [],_=>by simp[cnt]
 | n::ns,h=>by
  have i:=xY a b ns (λx d=>h x (by simp[d]));have j:=uW a b (h n (by simp));simp only[L4,List.sum_cons,cnt,Int.mul_add];omega
theorem jgu{c:Int}{ns:List Int}(d:0<=c)(e:c < ns.sum)(h:∀ x∈ns,0<=x) :
  0<=c - (ns.map (low c ns.sum)).sum/\(Jy c ns.sum ns (c - (ns.map (low c ns.sum)).sum)).1.sum=c:=by
 have b:=xY d e ns h;have f:(ns.map (low c ns.sum)).sum<=c:=by
  refine Int.le_of_mul_le_mul_left (a:=ns.sum) ?_ (by omega);rw[Int.mul_comm ns.sum c];exact b.1
 have g:c<=(ns.map (low c ns.sum)).sum+cnt c ns.sum ns:=by
  refine Int.le_of_mul_le_mul_left (a:=ns.sum) ?_ (show 0 < ns.sum by omega);rw[Int.mul_add,Int.mul_comm ns.sum c];exact b.2
 have l:=Je c ns.sum ns (c - (ns.map (low c ns.sum)).sum) (by omega) (by omega);have s:=V7 c ns.sum ns (c - (ns.map (low c ns.sum)).sum);exact⟨by omega,by omega⟩
theorem uY{b:Int}:∀(ns:List Int),(∀ x∈ns,0<=x/\x<=b)->0<=ns.sum/\ns.sum<=b*ns.length
 | [],_=>by simp
 | n::ns,h=>by
  have i:=uY ns (λx a=>h x (by simp[a]));have j:=h n (by simp);simp only[List.sum_cons,M0];have:b*((ns.length+1:Nat):Int)=b*ns.length+b:=by push_cast;rw[Int.mul_add];omega
  omega
theorem YJ{ns:List Int}{c:Int}:(jh ns c).length=ns.length:=by
 unfold jh;split
 ·rfl
 ·exact V4 _ _ _ _
structure PtOk(p:W2):Prop where
 lo:1<=p.2
 hi:p.2<=10
noncomputable def ts(P:List W2):List Int:=P.map (·.2)
noncomputable def ups(c:Int)(P:List W2):List Int:=P.map λp=>(c*p.2+9) / 10
noncomputable def Vo(c:Int)(P:List W2):List Int:=P.map λp=>c*p.2 / 10
noncomputable def QZ(odd:Int):Nat->List Int->List Int
 | _,[]=>[]
 | k,x::l=>(if(k:Int) < odd then x+1 else x)::QZ odd (k+1) l
theorem xD(a:Int):∀(k:Nat) (l:List Int),(QZ a k l).length=l.length
 | _,[]=>rfl
 | k,x::l=>by rw[QZ,M0,M0,xD]
theorem ja3(b:Int):∀(k:Nat) (l:List Int),(∀ x∈l,0<=x)->∀ x∈QZ b k l,0<=x
 | _,[],_,x,a=>by simp[QZ] at a
 | k,y::l,h,x,a=>by
  rw[QZ] at a;have d:=h y (by simp);rcases M4.mp a with rfl | a
  ·split<;>omega
  ·exact ja3 b (k+1) l (λz c=>h z (by simp[c])) x a
def je(P:List W2)(c:Int):List Int×Int:=if 10 < (ts P).sum then(ups c P,(ups c P).sum - c) else(QZ (c*(ts P).sum / 10 - (Vo c P).sum) 0 (Vo c P),0)
theorem jfQ{P:List W2}(h:∀ p∈P,PtOk p):0<=(ts P).sum/\(ts P).sum<=10*P.length:=by
 induction P with
 | nil=>simp[ts]
 | cons p P c =>
  have a:=c λx d=>h x (by simp[d]);have b:=h p (by simp);have e:=b.lo;have f:=b.hi;simp only[ts,L4,List.sum_cons,M0] at a ⊢;omega
theorem jhH{P:List W2}{c:Int}:c*(ts P).sum<=10*(ups c P).sum/\10*(ups c P).sum<=c*(ts P).sum+9*P.length:=by
 induction P with
 | nil=>simp[ts,ups]
 | cons p P a =>
  simp only[ts,ups,L4,List.sum_cons,M0,Int.mul_add] at a ⊢;omega
theorem KL(P:List W2):frzs (P.map e2)=true/\fzs (P.map e2)=P.map e2:=by
 refine⟨yI λd hd=>?_,vC λd hd=>?_⟩
 all_goals obtain⟨p,a,rfl⟩:=M5.mp hd;rfl
theorem jbR{P:List W2}(b:P.length<=10):ku [.lst false (P.map e2)]=some (.int (ts P).sum):=by
 have a:yC (jc [] 0) qT (pF (p2 jd (pV 0) (pC (.int 1)))) (P.map e2) (jw [none] [some (.lst false (P.map e2))])=some (P.map λp=>D.int p.2):=by
  refine jE rfl (λρ=>∃ o,ρ=[o]) ?_ ⟨none,rfl⟩;rintro x c ρ ⟨o,rfl⟩;exact⟨_,rfl,rfl,_,rfl⟩
 have e:(P.map λp=>D.int p.2)=(ts P).map D.int:=by unfold ts;rw[U0];rfl
 rw[e] at a;simp(disch:=omega) [ku,jR,YY,(KL P).1,a,jb,-List.map_map]
theorem KO(a:Int):∀(l:List Int) (k:Nat) (o0 o1:Option D),yC (gT 2 (gC (jc [] 0) (gC (jc [] 1) gN))) qT (pIf (ji (p2 jdF (pV 0) (pV 2))) (p2 jo (pV 1) (pC (.int 1))) (pF (pV 1))) (yc k (l.map D.int)) [o0,o1,some (.int a)]=some ((QZ a k l).map D.int)
 | [],k,o0,o1=>rfl
 | x::l,k,o0,o1=>by
  have c:(gT 2 (gC (jc [] 0) (gC (jc [] 1) gN))) (.tup [.int (k:Int),.int x]) [o0,o1,some (.int a)]=some [some (.int k),some (.int x),some (.int a)]:=rfl;have b:=KO a l (k+1) (some (.int k)) (some (.int x));rw[L4,yc,JD,c,L3];by_cases h:(k:Int) < a
  ·simp[h,b,QZ]
  ·simp[h,b,QZ]
theorem jc1{P:List W2}{c:Int}(n:P.length<=10)(a:∀ p∈P,PtOk p)(t:0<=c)(h1:c<=2 ^ 900):YI [.lst false (P.map e2),.int c]=some (.tup [.lst true ((je P c).1.map D.int),.int (je P c).2]):=by
 have m:=jbR n;have u:=jfQ a;have f:=KL P;have q:lim (P.map e2).length=true:=jb (by simp;omega);by_cases h:10 < (ts P).sum
 ·have b:yC (jc [] 0) qT (p2 jz (p2 jo (p2 jX (pV 1) (p2 jd (pV 0) (pC (.int 1)))) (pC (.int 9))) (pC (.int 10))) (P.map e2) (jw [none,some 1] [some (.lst false (P.map e2)),some (.int c),some (.int (ts P).sum),none,none])=some (P.map λp=>D.int ((c*p.2+9) / 10)):=by
   refine jE rfl (λρ=>∃ o,ρ=[o,some (.int c)]) ?_ ⟨none,rfl⟩;rintro x d ρ ⟨o,rfl⟩;refine⟨[some (e2 x),some (.int c)],rfl,?_,_,rfl⟩;have g:jd (e2 x) (.int 1)=some (.int x.2):=rfl;have r:=(a x d).lo;have s:=(a x d).hi;simp(disch:=omega) [g,yJ,jI]
  have e:(P.map λp=>D.int ((c*p.2+9) / 10))=(ups c P).map D.int:=by unfold ups;rw[U0];rfl
  rw[e] at b;have i:je P c=(ups c P,(ups c P).sum - c):=if_pos h;rw[i];simp(disch:=omega) [YI,jR,zI,f.1,f.2,m,h,b,jb,-List.map_map]
 ·have b:yC (jc [] 0) qT (p2 jz (p2 jX (pV 1) (p2 jd (pV 0) (pC (.int 1)))) (pC (.int 10))) (P.map e2) (jw [none,some 1] [some (.lst false (P.map e2)),some (.int c),some (.int (ts P).sum),none,none])=some (P.map λp=>D.int (c*p.2 / 10)):=by
   refine jE rfl (λρ=>∃ o,ρ=[o,some (.int c)]) ?_ ⟨none,rfl⟩;rintro x d ρ ⟨o,rfl⟩;refine⟨[some (e2 x),some (.int c)],rfl,?_,_,rfl⟩;have g:jd (e2 x) (.int 1)=some (.int x.2):=rfl;have r:=(a x d).lo;have s:=(a x d).hi;simp(disch:=omega) [g,yJ,jI]
  have e:(P.map λp=>D.int (c*p.2 / 10))=(Vo c P).map D.int:=by unfold Vo;rw[U0];rfl
  rw[e] at b;have i:je P c=(QZ (c*(ts P).sum / 10 - (Vo c P).sum) 0 (Vo c P),0):=if_neg h;rw[i];have j:=KO (c*(ts P).sum / 10 - (Vo c P).sum) (Vo c P) 0 none none;have k:jw [none,none,some 4] [some (.lst false (P.map e2)),some (.int c),some (.int (ts P).sum),some (.lst false ((Vo c P).map D.int)),some (.int (c*(ts P).sum / 10 - (Vo c P).sum))]=[none,none,some (.int (c*(ts P).sum / 10 - (Vo c P).sum))]:=rfl;have l:lim (yc 0 ((Vo c P).map D.int)).length=true:=jb (by rw[yd];simp[Vo];omega);simp(disch:=omega) [YI,jR,zI,f.1,f.2,m,h,b,jb,yJ,jI,k,j,l,-List.map_map]
theorem xu{P:List W2}{c:Int}:(je P c).1.length=P.length:=by
 unfold je;split
 ·simp[ups]
 ·rw[xD];simp[Vo]
theorem jag{P:List W2}{c:Int}(d:∀ p∈P,PtOk p)(e:0<=c):∀ x∈(je P c).1,0<=x:=by
 have b:∀ p∈P,0<=c*p.2:=λp h=>Int.mul_nonneg e (by have:=(d p h).lo;omega);unfold je;split
 ·intro x a;obtain⟨p,h,rfl⟩:=M5.mp a;have:=b p h;omega
 ·refine ja3 _ _ _ λx a=>?_;obtain⟨p,h,rfl⟩:=M5.mp a;have:=b p h;show 0<=c*p.2 / 10;omega
theorem kU(o:Bool)(l:List Int):Yv [.lst o (l.map D.int)]=some (.int l.sum):=by simp
theorem ji3{o o':Bool}{a b:List W2}(h:a.length+b.length<=100000):jo (.lst o (a.map e2)) (.lst o' (b.map e2))=some (.lst true ((a++b).map e2)):=by
 show(bif lim ((a.map e2).length+(b.map e2).length)&&(frzs (a.map e2)&&frzs (b.map e2)) then some (D.lst true (a.map e2++b.map e2)) else none)=_;rw[jk,jk,L0,L0,jb h,N4];rfl
theorem Yl(l:List W2):yC (gT 2 (gC (jc [] 0) (gC (jc [] 1) gN))) qT (pF (pV 1)) (l.map e2) [none,none]=some ((ts l).map D.int):=by
 unfold ts;rw[U0];refine jE (l:=l) (en:=e2) rfl (λρ=>∃ o a,ρ=[o,a]) ?_ ⟨none,none,rfl⟩;rintro x b ρ ⟨o,a,rfl⟩;exact⟨_,rfl,rfl,_,_,rfl⟩
theorem In.sum{l:List W2}{m:Int}(h:In l m):0<=(ts l).sum/\(ts l).sum<=m*l.length:=by
 have:=uY (b:=m) (ts l) λx a=>by obtain⟨p,c,rfl⟩:=M5.mp a;exact h p c
 rwa [show(ts l).length=l.length from L0 ..] at this
theorem BkOk.len{p:PoolS}{b:BkS}(h:PoolOk p)(k:BkOk p b):b.S.length<=10/\b.W.length<=10/\b.R.length<=10/\b.L.length<=10:=by
 have f:=h.told2;have g:=h.marks2;have a:=congrArg List.length k.S;have c:=congrArg List.length k.W;have d:=congrArg List.length k.R;have e:=congrArg List.length k.L;simp only[L0] at a c d e;omega
theorem jeF{c:Int}{p:PoolS}{b:BkS}(h:PoolOk p)(k:BkOk p b):∃ v:Int,qf [.int c,vd false p,jW false b]=some (.int v)/\0<=v/\v<=10 ^ 20:=by
 have j:=yo (c:=c) (k:=240) (by decide) (by decide);have g:=ve c 240;have u:=jat c 240;generalize kg c 240=n at j g u;obtain⟨T,U,V,X⟩:=k.len h;have Y:=h.marks2;have x:In (b.S++b.W) (10 ^ 14):=λq d=>by
  rcases N1.mp d with d | d
  ·have:=k.s q d;exact⟨this.1,by omega⟩
  ·exact k.w q d
 have s1:=x.sum;have Z:=In.sum (l:=p.marks) (m:=10 ^ 12) λq d=>by have:=h.marks q d;exact⟨by omega,this.2.2⟩
 have s3:=In.sum (l:=yM b.W none (some (1+n / 6 % 6))) (m:=10 ^ 14) λq d=>k.w q (jdK d);have l5:=xm b.W none (some (1+n / 6 % 6));have c1:=Yl (b.S++b.W);have y:=Yl p.marks;have z:=Yl (yM b.W none (some (1+n / 6 % 6)));have A:=ji3 (o:=false) (o':=false) (a:=b.S) (b:=b.W) (by omega);have B:jdP none (some (1+n / 6 % 6)) (.lst false (b.W.map e2))=some (.lst true ((yM b.W none (some (1+n / 6 % 6))).map e2)):=by rw[jkc (jk b.W),Kz]
 have C:=jk (b.S++b.W);have E:=jk p.marks;have F:=jk (yM b.W none (some (1+n / 6 % 6)));have G:lim ((b.S++b.W).map e2).length=true:=jb (by rw[L0,N3];omega);have H:lim (p.marks.map e2).length=true:=jb (by rw[L0];omega);have I:lim ((yM b.W none (some (1+n / 6 % 6))).map e2).length=true:=jb (by rw[L0];omega);have t1:=kU true (ts (b.S++b.W));have J:=kU true (ts p.marks);have K:=kU true (ts (yM b.W none (some (1+n / 6 % 6))));have L:jd (jW false b) (.int 0)=some (.lst false (b.S.map e2)):=rfl;have M:jd (jW false b) (.int 1)=some (.lst false (b.W.map e2)):=rfl;have N:jd (vd false p) (.int 2)=some (.lst false (p.marks.map e2)):=rfl;have b1:(10 ^ 14:Int)*((b.S++b.W).length:Int)<=10 ^ 14*20:=Int.mul_le_mul_of_nonneg_left (by rw[N3];omega) (by decide);have b2:(10 ^ 12:Int)*(p.marks.length:Int)<=10 ^ 12*10:=Int.mul_le_mul_of_nonneg_left (by omega) (by decide);have b3:(10 ^ 14:Int)*((yM b.W none (some (1+n / 6 % 6))).length:Int)<=10 ^ 14*10:=Int.mul_le_mul_of_nonneg_left (by omega) (by decide);generalize(ts (b.S++b.W)).sum=x1 at *;generalize(ts p.marks).sum=x2 at *;generalize(ts (yM b.W none (some (1+n / 6 % 6)))).sum=x3 at *;generalize(ts (b.S++b.W)).map D.int=y1 at *;generalize(ts p.marks).map D.int=y2 at *;generalize(ts (yM b.W none (some (1+n / 6 % 6)))).map D.int=y3 at *;generalize(b.S++b.W).map e2=z1 at *;generalize p.marks.map e2=z2 at *;generalize(yM b.W none (some (1+n / 6 % 6))).map e2=z3 at *;generalize b.S.map e2=w1,b.W.map e2=w2,vd false p=PP,jW false b=BB at *;have O:0<=x1/\x1<=2000000000000000:=by omega
 have P:0<=x2/\x2<=10000000000000:=by omega
 have Q:0<=x3/\x3<=1000000000000000:=by omega
 have r0:=N9 (n*n) (show x1+x2+2≠0 by omega);have r1:=N8 (n*n) (show 0 < x1+x2+2 by omega);have R:jl (.int (n*n)) (.int (x1+x2+2))=some (.int (n*n % (x1+x2+2))):=jD (by omega);have m1:0<=x3*(1+n / 36 % 3)/\x3*(1+n / 36 % 3)<=1000000000000000*3:=⟨Int.mul_nonneg (by omega) (by omega),Int.mul_le_mul (by omega) (by omega) (by omega) (by omega)⟩;have mm:0<=n*n:=Int.mul_nonneg g g;obtain⟨v,r,t⟩:=ixL (l:=[0,1+n / 6 % 9,x3,x3*(1+n / 36 % 3),n*n % (x1+x2+2),(x1+x2)*3+n]) (i:=n % 6) (by omega) (by show n % 6 < 6;omega);have e:jX (.int x3) (.int (1+n / 36 % 3))=some (.int (x3*(1+n / 36 % 3))):=yJ (by omega) (by omega);have f:jX (.int n) (.int n)=some (.int (n*n)):=yJ (by omega) (by omega);simp only[List.map] at t;generalize n*n % (x1+x2+2)=u1,x3*(1+n / 36 % 3)=u2 at *;generalize n*n=u3 at *;refine⟨v,?_,?_,?_⟩
 ·simp(disch:=first | omega | (simp;done) | (simp;omega)) [qf,jR,VU,j,jD,jI,yJ,L,M,N,A,B,c1,y,z,C,E,F,G,H,I,t1,J,K,R,e,f,t,jw,List.getElem?_cons_zero,Option.join,jb,-vq]
 ·simp at r;omega
 ·simp at r;omega
theorem xx(a:Int):∀(l:List Int) (k:Nat),QZ a k l=(List.range l.length).map λi=>l.getD i 0+if((k+i:Nat):Int) < a then 1 else 0
 | [],k=>rfl
 | x::l,k=>by
  rw[QZ,xx a l (k+1),M0,List.range_succ_eq_map,L4,U0];congr 1
  ·simp only[List.getD_cons_zero,Nat.add_zero];split<;>omega
  ·refine List.map_congr_left λi _=>?_;simp only[Function.comp,List.getD_cons_succ];rw[show k+1+i=k+i.succ by omega]
theorem zW{P:List W2}{c:Int}(E:P.length<=10)(a:∀ p∈P,PtOk p)(F:0<=c)(h1:c<=2 ^ 900):ke [.lst false (P.map e2),.int c]=some (.lst true ((je P c).1.map D.int)):=by
 have G:=jfQ a;have t:=jk P;have c1:=Yl P;have u:=kU true (ts P);have v:lim (P.map e2).length=true:=jb (by rw[L0];omega);by_cases h:10 < (ts P).sum
 ·have k:yC (gT 2 (gC (jc [] 0) (gC (jc [] 1) gN))) qT (p2 vb (pC (.int 0)) (p2 jz (p2 vb (pC (.int 0)) (p2 jX (pV 2) (pV 1))) (pC (.int 10)))) (P.map e2) [none,none,some (.int c)]=some ((ups c P).map D.int):=by
   unfold ups;rw[U0];refine jE (l:=P) (en:=e2) rfl (λρ=>∃ o b,ρ=[o,b,some (.int c)]) ?_ ⟨none,none,rfl⟩;rintro x d ρ ⟨o,b,rfl⟩;refine⟨[some (.str x.1),some (.int x.2),some (.int c)],rfl,?_,_,_,rfl⟩;have w:=(a x d).lo;have A:=(a x d).hi;have e:0 - (0 - c*x.2) / 10=(c*x.2+9) / 10:=by generalize c*x.2=y;omega
   have m:jX (.int c) (.int x.2)=some (.int (c*x.2)):=yJ (by omega) (by omega);show _=some (D.int ((c*x.2+9) / 10));rw[<- e];generalize c*x.2=y at *;simp(disch:=omega) [m,jI]
  have n:je P c=(ups c P,(ups c P).sum - c):=if_pos h;rw[n];generalize(ups c P).map D.int=UU at *;generalize(ts P).map D.int=TT at *;generalize P.map e2=PP at *;simp(disch:=omega) [ke,jR,JC,t,c1,u,h,k,v,jw,List.getElem?_cons_zero,Option.join,jb,-vq]
 ·have k:yC (gT 2 (gC (jc [] 0) (gC (jc [] 1) gN))) qT (p2 jz (p2 jX (pV 2) (pV 1)) (pC (.int 10))) (P.map e2) [none,none,some (.int c)]=some ((Vo c P).map D.int):=by
   unfold Vo;rw[U0];refine jE (l:=P) (en:=e2) rfl (λρ=>∃ o b,ρ=[o,b,some (.int c)]) ?_ ⟨none,none,rfl⟩;rintro x d ρ ⟨o,b,rfl⟩;refine⟨[some (.str x.1),some (.int x.2),some (.int c)],rfl,?_,_,_,rfl⟩;have w:=(a x d).lo;have A:=(a x d).hi;have m:jX (.int c) (.int x.2)=some (.int (c*x.2)):=yJ (by omega) (by omega);show _=some (D.int (c*x.2 / 10));generalize c*x.2=y at *;simp(disch:=omega) [m,jI]
  have r:=kU true (Vo c P);have n:je P c=(QZ (c*(ts P).sum / 10 - (Vo c P).sum) 0 (Vo c P),0):=if_neg h;rw[n];have m:jX (.int c) (.int (ts P).sum)=some (.int (c*(ts P).sum)):=yJ (by omega) (by omega);have H:(Vo c P).length=P.length:=L0 ..;generalize Vo c P=L at *;have hd:jz (.int (c*(ts P).sum)) (.int 10)=some (.int (c*(ts P).sum / 10)):=jI (by omega) (by omega);generalize c*(ts P).sum / 10=y at *;generalize c*(ts P).sum=z at *;have s:yC (jc [] 0) qT (p2 jo (p2 jd (pV 1) (pV 0)) (pIf (ji (p2 jdF (pV 0) (pV 2))) (pC (.int 1)) (pC (.int 0)))) (vm 0 L.length) [none,some (.lst true (L.map D.int)),some (.int (y - L.sum))]=some ((QZ (y - L.sum) 0 L).map D.int):=by
   rw[xx,U0];generalize y - L.sum=odd;refine jE (l:=List.range L.length) (en:=λi=>.int (0+(i:Int))) rfl (λρ=>∃ o,ρ=[o,some (.lst true (L.map D.int)),some (.int odd)]) ?_ ⟨none,rfl⟩;rintro i hi ρ ⟨o,rfl⟩;have hi:=List.mem_range.mp hi;refine⟨[some (.int (0+(i:Int))),some (.lst true (L.map D.int)),some (.int odd)],rfl,?_,_,rfl⟩;have ix:jd (.lst true (L.map D.int)) (.int (0+(i:Int)))=some (.int (L.getD i 0)):=by
    rw[uD (by omega) (by rw[L0];omega),List.getElem?_map,show(0+(i:Int)).toNat=i by omega,List.getD_eq_getElem?_getD,X9 hi];rfl
   show _=some (D.int (L.getD i 0+if((0+i:Nat):Int) < odd then 1 else 0));generalize L.getD i 0=g at *;rw[Nat.zero_add];rw[Int.zero_add] at ix ⊢;generalize L.map D.int=LL at *;by_cases q:(i:Int) < odd
   ·simp[ix,q]
   ·simp[ix,q]
  have f:=yr (j:=(L.length:Int)) (by omega) (by omega);rw[N7] at f;have B:lim (vm 0 L.length).length=true:=jb (by rw[yi];omega);have C:kt [.lst true (L.map D.int)]=some (.int (L.length:Int)):=by simp
  generalize(QZ (y - L.sum) 0 L).map D.int=BB at *;generalize L.map D.int=LL at *;generalize(ts P).map D.int=TT at *;generalize P.map e2=PP at *;simp(disch:=omega) [ke,jR,JC,t,c1,u,h,k,r,m,hd,f,s,v,B,C,jw,List.getElem?_cons_zero,Option.join,jb,-vq,-yh]
theorem zU{c T:Int}(a:0<=c)(d:c < T):∀(ns:List Int) (left:Int),(∀ x∈ns,0<=x)->∀(i:Nat) (g n:Int),(Jy c T ns left).1[i]?=some g->ns[i]?=some n->0<=g/\g<=n
 | [],left,_,i,g,n,_,h=>by simp at h
 | m::ns,left,hp,i,g,n,h1,h2=>by
  have b:=uW a d (hp m (by simp));rw[Jy] at h1;cases i with
  | zero =>
   simp at h2;subst h2;split at h1<;>simp at h1<;>subst h1<;>omega
  | succ i =>
   simp at h2;split at h1
   ·simp at h1;exact zU a d ns _ (λx e=>hp x (by simp[e])) i g n h1 h2
   ·simp at h1;exact zU a d ns _ (λx e=>hp x (by simp[e])) i g n h1 h2
theorem jbS{ns:List Int}{c:Int}(a:0<=c)(h:∀ x∈ns,0<=x){i:Nat}{g n:Int}(h1:(jh ns c)[i]?=some g)(h2:ns[i]?=some n):0<=g/\g<=n:=by
 unfold jh at h1;split at h1
 ·rw[h2] at h1;cases h1;exact⟨h _ (List.mem_of_getElem? h2),Int.le_refl _⟩
 ·exact zU a (by omega) ns _ h i g n h1 h2
theorem ue{ns:List Int}{c:Int}(a:0<=c)(h:∀ x∈ns,0<=x):(jh ns c=ns/\ns.sum<=c) \/ (jh ns c).sum=c:=by
 unfold jh;split
 ·rename_i q;exact .inl ⟨rfl,q⟩
 ·exact .inr (jgu a (by omega) h).2
theorem jaF(lo:Int)(n:Nat):vm lo (n+1)=.int lo::vm (lo+1) n:=by
 unfold vm;rw[List.range_succ_eq_map,L4,U0];congr 1
 ·simp
 ·refine List.map_congr_left λi _=>?_;show D.int (lo+((i+1:Nat):Int))=D.int (lo+1+(i:Int));congr 1;omega
theorem uN{a1 a2:Option D}{L N:List D}{g n left:Int}{i:Nat}(h1:jd (.lst true L) (.int (i:Int))=some (.int g))(h2:jd (.lst false N) (.int (i:Int))=some (.int n))(a:ixN L.length (i:Int)=some i) :
  vc [some (.lst false N),a1,a2,some (.lst true L),some (.int left),some (.int (i:Int))]=some (.nx (if 0 < left/\g < n then [some (.lst false N),a1,a2,some (.lst true (L.set i (.int (g+1)))),some (.int (left - 1)),some (.int (i:Int))] else [some (.lst false N),a1,a2,some (.lst true L),some (.int left),some (.int (i:Int))])):=by
 by_cases b:0 < left<;>by_cases c:g < n<;>simp[vc,h1,h2,b,c,a]
theorem Vi{a1 a2:Option D}{N:List Int}(c T:Int):∀(ns pre:List Int) (left:Int) (o5:Option D),N.drop pre.length=ns ->
  ∃ o5',j8 (jc [] 5) vc (vm (pre.length:Int) ns.length) [some (.lst false (N.map D.int)),a1,a2,some (.lst true ((pre++ns.map (low c T)).map D.int)),some (.int left),o5]=some (.nx [some (.lst false (N.map D.int)),a1,a2,some (.lst true ((pre++(Jy c T ns left).1).map D.int)),some (.int (Jy c T ns left).2),o5'])
 | [],pre,left,o5,_=>⟨o5,by simp[Jy,vm]⟩
 | n::ns,pre,left,o5,hN=>by
  have a:pre.length < N.length:=by
   by_cases h:pre.length < N.length
   ·exact h
   ·rw[List.drop_eq_nil_of_le (by omega)] at hN;cases hN
  rw[List.drop_eq_getElem_cons a] at hN;injection hN with hn hN;have g:jd (.lst false (N.map D.int)) (.int (pre.length:Int))=some (.int n):=by
   rw[uD (by omega) (by rw[L0];omega),N7,List.getElem?_map,X9 a,hn];rfl
  have i:((pre++low c T n::ns.map (low c T)).map D.int)[pre.length]?=some (.int (low c T n)):=by simp
  have j:jd (.lst true ((pre++low c T n::ns.map (low c T)).map D.int)) (.int (pre.length:Int))=some (.int (low c T n)):=by
   rw[uD (by omega) (by simp;omega),N7,i]
  have f:=uN (a1:=a1) (a2:=a2) (left:=left) j g (jed (by simp));have b:((pre++low c T n::ns.map (low c T)).map D.int).set pre.length (D.int (low c T n+1))=(pre++(low c T n+1)::ns.map (low c T)).map D.int:=by
   have:=jbI (pre.map D.int) (D.int (low c T n)) (D.int (low c T n+1)) ((ns.map (low c T)).map D.int);simpa using this
  rw[b] at f;have k:jc [] 5 (.int (pre.length:Int)) [some (.lst false (N.map D.int)),a1,a2,some (.lst true ((pre++low c T n::ns.map (low c T)).map D.int)),some (.int left),o5]=some [some (.lst false (N.map D.int)),a1,a2,some (.lst true ((pre++low c T n::ns.map (low c T)).map D.int)),some (.int left),some (.int (pre.length:Int))]:=rfl;rw[M0,jaF,vt,L4,k,L3,f,L3,jbv];by_cases h:0 < left/\low c T n < n
  ·obtain⟨o5',e⟩:=Vi (a1:=a1) (a2:=a2) (N:=N) c T ns (pre++[low c T n+1]) (left - 1) (some (.int (pre.length:Int))) (by simpa using hN);refine⟨o5',?_⟩;have d:(((pre++[low c T n+1]).length:Nat):Int)=(pre.length:Int)+1:=by simp
   rw[d] at e;rw[Jy,if_pos h,if_pos h];simp only[List.append_assoc,List.singleton_append] at e;exact e
  ·obtain⟨o5',e⟩:=Vi (a1:=a1) (a2:=a2) (N:=N) c T ns (pre++[low c T n]) left (some (.int (pre.length:Int))) (by simpa using hN);refine⟨o5',?_⟩;have d:(((pre++[low c T n]).length:Nat):Int)=(pre.length:Int)+1:=by simp
   rw[d] at e;rw[Jy,if_neg h,if_neg h];simp only[List.append_assoc,List.singleton_append] at e;exact e
theorem jgN{ns:List Int}{c:Int}(k:ns.length<=20)(b:∀ x∈ns,0<=x/\x<=10 ^ 20)(l:0<=c)(h1:c<=2 ^ 900)(m:ns.sum<=10 ^ 30) :
  kj [.lst false (ns.map D.int),.int c]=some (.lst true ((jh ns c).map D.int)):=by
 by_cases h:ns.sum<=c
 ·simp[kj,jR,JL,jh,h]
 ·have d:yC (jc [] 0) qT (p2 jz (p2 jX (pV 1) (pV 0)) (pV 2)) (ns.map D.int) (jw [none,some 1,some 2] [some (.lst false (ns.map D.int)),some (.int c),some (.int ns.sum),none,none,none])=some (ns.map λn=>D.int (low c ns.sum n)):=by
   refine jE rfl (λρ=>∃ o,ρ=[o,some (.int c),some (.int ns.sum)]) ?_ ⟨none,rfl⟩;rintro x f ρ ⟨o,rfl⟩;have:=b x f;refine⟨[some (.int x),some (.int c),some (.int ns.sum)],rfl,?_,some (.int x),rfl⟩;simp(disch:=omega) [yJ,jI,low]
  obtain⟨p,e⟩:=Vi (N:=ns) (a1:=some (.int c)) (a2:=some (.int ns.sum)) c ns.sum ns [] (c - (ns.map (low c ns.sum)).sum) none rfl;simp only[X8,List.length_nil,U0] at e;have e2:(D.int ∘ low c ns.sum)=λn=>D.int (low c ns.sum n):=rfl;rw[e2] at e;have e3:ns.map (λn=>D.int (low c ns.sum n))=(ns.map (low c ns.sum)).map D.int:=by rw[U0];rfl
  rw[e3] at d e;have a:=yr (j:=(ns.length:Int)) (by omega) (by omega);rw[N7] at a;have g:lim (vm 0 ns.length).length=true:=jb (by rw[yi];omega);have i:j8 (jc [] 5) vc (vm 0 ns.length) _=_:=e;simp(disch:=omega) [kj,jR,JL,jh,h,d,a,g,i,jb,-List.map_map]
noncomputable def put(f:List Nat->Int)(w:List Nat)(v:Int):List Nat->Int:=λn=>if n=w then v else f n
noncomputable def NS:List Str:=["pool_name","marks","sizes","owed","levels","loans","cash","served","entries","moves"]
abbrev I10(o:Bool)(a0 a1 a2 a3 a4 a5 a6 a7 a8 a9:D):D:=.ins o 0 NS [a0,a1,a2,a3,a4,a5,a6,a7,a8,a9]
section
variable {a0 a1 a2 a3 a4 a5 a6 a7 a8 a9:D}
theorem jl8:J6 NS [a0,a1,a2,a3,a4,a5,a6,a7,a8,a9] "owed" = some a3:=rfl
theorem jlT:J6 NS [a0,a1,a2,a3,a4,a5,a6,a7,a8,a9] "cash" = some a6:=rfl
theorem jmh:J6 NS [a0,a1,a2,a3,a4,a5,a6,a7,a8,a9] "entries" = some a8:=rfl
theorem jl9:J6 NS [a0,a1,a2,a3,a4,a5,a6,a7,a8,a9] "moves" = some a9:=rfl
theorem g3:Vm 0 "owed" jS (I10 true a0 a1 a2 a3 a4 a5 a6 a7 a8 a9)=some (a3,λz=>I10 true a0 a1 a2 z a4 a5 a6 a7 a8 a9):=rfl
theorem g4:Vm 0 "levels" jS (I10 true a0 a1 a2 a3 a4 a5 a6 a7 a8 a9)=some (a4,λz=>I10 true a0 a1 a2 a3 z a5 a6 a7 a8 a9):=rfl
theorem g7:Vm 0 "served" jS (I10 true a0 a1 a2 a3 a4 a5 a6 a7 a8 a9)=some (a7,λz=>I10 true a0 a1 a2 a3 a4 a5 a6 z a8 a9):=rfl
theorem g8:Vm 0 "entries" jS (I10 true a0 a1 a2 a3 a4 a5 a6 a7 a8 a9)=some (a8,λz=>I10 true a0 a1 a2 a3 a4 a5 a6 a7 z a9):=rfl
theorem jl7{z:D}:qB NS [a0,a1,a2,a3,a4,a5,a6,a7,a8,a9] "cash" z=(NS,[a0,a1,a2,a3,a4,a5,z,a7,a8,a9]):=rfl
variable {ρ:Rh}{i:Nat}{w:List Nat}
theorem jda{pv:PF}{m n:Int}(a:pV i ρ=some (I10 true a0 a1 a2 a3 a4 a5 (.int m) a7 a8 a9))(b:pv ρ=some (.int n)) :
  JW i jS 0 "cash" (λm n=>m - n) pv ρ=some (.nx (ρ.set i (some (I10 true a0 a1 a2 a3 a4 a5 (.int (m - n)) a7 a8 a9)))):=by
 have e:(NS.length<=900)=True:=by simp[NS]
 unfold JW;rw[a];simp[jS,jlT,jl7,b,e]
theorem ja8{L:Ln}{pk pv:PF}{t:D}{N:List (List Nat)}{f:List Nat->Int}{a:D->D}{g:Int->Int->Int}{n:Int}(c:pV i ρ=some t)(d:L t=some (dct true N f,a))(e:pk ρ=some (.str w))(h:pv ρ=some (.int n))(b:w∈N)(j:N.length<=1000) :
  qH i L pk g pv ρ=some (.nx (ρ.set i (some (a (dct true N (put f w (g (f w) n))))))):=by
 rw[qH,e,L3,show vg (.str w)=some (.str w) from rfl,L3,c,L3,d,L3,show jc4 (dct true N f,a).1=some (N.map KA.str,N.map λn=>D.int (f n)) from rfl,L3,V8 f b,L3,show vx (.int (f w))=some (f w) from rfl,L3,h,L3,show vx (.int n)=some n from rfl,L3,jb (by rw[L0];omega),cond_true,wv b];rfl
noncomputable def dSv(o:Bool)(l:List (List Nat)):D:=.dK o (l.map KA.str) (l.map λ_=>D.bl true)
noncomputable def J5(l:List (List Nat))(w:List Nat):List (List Nat):=if w∈l then l else l++[w]
theorem jho(l:List (List Nat))(w:List Nat):v8 (l.map KA.str) (l.map λ_=>D.bl true) (.str w) (.bl true)=((J5 l w).map KA.str,(J5 l w).map λ_=>D.bl true):=by
 have b:(KA.str w∈l.map KA.str)↔w∈l:=by simp
 have c:∀ l:List (List Nat),jaw (l.map KA.str) (l.map λ_=>D.bl true) (.str w) (.bl true)=l.map λ_=>D.bl true:=λl=>by
  induction l with
  | nil=>rfl
  | cons a l d=>rw[L4,L4,jaw,d];split<;>rfl
 unfold v8 J5;by_cases h:w∈l
 ·rw[if_pos h,if_pos (b.mpr h),c]
 ·rw[if_neg h,if_neg λz=>h (b.mp z)];simp
theorem jjN{pk:PF}{l:List (List Nat)}(a:pV i ρ=some (I10 true a0 a1 a2 a3 a4 a5 a6 (dSv true l) a8 a9))(b:pk ρ=some (.str w))(c:l.length<=1000) :
  jQ i (Vm 0 "served" jS) pk (pC (.bl true)) ρ=some (.nx (ρ.set i (some (I10 true a0 a1 a2 a3 a4 a5 a6 (dSv true (J5 l w)) a8 a9)))):=by
 unfold jQ;rw[show(pC (D.bl true)) ρ=some (.bl true) from rfl,L3,a,L3,g7,L3];show((pk ρ).bind λq=>_)=_;rw[b,L3];show(bif lim (l.map KA.str).length&&(true||_) then some (Out.nx (ρ.set i (some (I10 true a0 a1 a2 a3 a4 a5 a6 (.dK true (v8 (l.map KA.str) (l.map λ_=>D.bl true) (.str w) (.bl true)).1 (v8 (l.map KA.str) (l.map λ_=>D.bl true) (.str w) (.bl true)).2) a8 a9)))) else none)=_;rw[jb (by rw[L0];omega),jho];rfl
variable {v u:Int}
theorem jdA(h:jG a3 (.str w)=some (.int v)):jN [I10 false a0 a1 a2 a3 a4 a5 a6 a7 a8 a9,.tup [.str YG,.str w]]=some (.int v):=by
 simp[jN,jR,vW,jl8,h,jko]
theorem jar:jN [I10 false a0 a1 a2 a3 a4 a5 (.int v) a7 a8 a9,.tup [.str vH,.str w]]=some (.int v):=by
 simp[jN,jR,vW,jlT,jko]
end
noncomputable abbrev MV:=List Nat×List Nat×Int
noncomputable def eM(m:MV):D:=.tup [.str m.1,.str m.2.1,.int m.2.2]
structure En where
 pl:Int
 kd:List Nat
 nm:List Nat
 nd:Int
 gt:Int
noncomputable def e5(e:En):D:=.tup [.int e.pl,.str e.kd,.str e.nm,.int e.nd,.int e.gt]
structure Fl where
 sz:List Nat->Int
 ow:List Nat->Int
 lv:List Nat->Int
 ln:LN
 cash:Int
 sv:List (List Nat)
 en:List En
 mv:List MV
def nub(l:List (List Nat)):List (List Nat):=l.foldl J5 []
theorem jde(l:List (List Nat))(w:List Nat):nub (l++[w])=J5 (nub l) w:=by unfold nub;rw[List.foldl_append];rfl
theorem jbj{w:List Nat}:∀(l acc:List (List Nat)),w∈l.foldl J5 acc↔w∈acc \/ w∈l
 | [],acc=>by simp
 | a::l,acc=>by
  rw[U9,jbj l];unfold J5;by_cases h:a∈acc
  ·rw[if_pos h,M4];exact⟨λz=>z.imp id .inr,λz=>z.elim .inl λz=>z.elim (λq=>.inl (q▸h)) .inr⟩
  ·rw[if_neg h,N1,M7,M4,or_assoc]
theorem jgW{w:List Nat}{l:List (List Nat)}:w∈nub l↔w∈l:=by unfold nub;rw[jbj];simp
theorem jaH:∀(l acc:List (List Nat)),(l.foldl J5 acc).length<=acc.length+l.length
 | [],acc=>by simp
 | a::l,acc=>by
  have:=jaH l (J5 acc a);have h:(J5 acc a).length<=acc.length+1:=by unfold J5;split<;>simp
  rw[U9,M0];omega
def jx(p:PoolS)(o:Bool)(x:Fl):D:=I10 o (.str p.nm) (dct o p.P (fnOf p.marks)) (dct o p.C x.sz) (dct o p.C x.ow) (dct o p.P x.lv) (dLn o x.ln) (.int x.cash) (dSv o (nub x.sv)) (.lst o (x.en.map e5)) (.lst o (x.mv.map eM))
theorem jd6(o:Bool)(N:List (List Nat))(f:List Nat->Int):fz (dct o N f)=dct false N f:=by
 have:fzs (N.map λn=>D.int (f n))=N.map λn=>D.int (f n):=vC λd hd=>by obtain⟨p,_,rfl⟩:=M5.mp hd;rfl
 simp[dct,fz,this]
theorem jil(o:Bool)(l:LN):fz (dLn o l)=dLn false l:=by
 have:fzs (l.map vL)=l.map vL:=vC λd hd=>by obtain⟨p,_,rfl⟩:=M5.mp hd;rfl
 simp[dLn,fz,this]
theorem jjd(o:Bool)(l:List (List Nat)):fz (dSv o l)=dSv false l:=by
 have:fzs (l.map λ_=>D.bl true)=l.map λ_=>D.bl true:=vC λd hd=>by obtain⟨p,_,rfl⟩:=M5.mp hd;rfl
 unfold dSv;rw[fz,this]
theorem xO(l:List En):fzs (l.map e5)=l.map e5:=vC λd hd=>by obtain⟨p,_,rfl⟩:=M5.mp hd;rfl
theorem zq(l:List En):frzs (l.map e5)=true:=yI λd hd=>by obtain⟨p,_,rfl⟩:=M5.mp hd;rfl
theorem xB(l:List MV):fzs (l.map eM)=l.map eM:=vC λd hd=>by obtain⟨p,_,rfl⟩:=M5.mp hd;rfl
theorem jb2(l:List MV):frzs (l.map eM)=true:=yI λd hd=>by obtain⟨p,_,rfl⟩:=M5.mp hd;rfl
theorem jg0(p:PoolS)(o:Bool)(x:Fl):fz (jx p o x)=jx p false x:=by
 unfold jx I10;rw[fz];simp[fzs,jd6,jil,jjd,fz,xO,xB]
section
variable {p:PoolS}{x:Fl}{ρ:Rh}{w:List Nat}
theorem xg{i:Nat}{pv:PF}{n:Int}(a:pV i ρ=some (jx p true x))(b:pv ρ=some (.int n)) :
  JW i jS 0 "cash" (λm n=>m - n) pv ρ=some (.nx (ρ.set i (some (jx p true { x with cash:=x.cash - n })))):=jda a b
theorem QH{i:Nat}{pv:PF}{e:En}(a:pV i ρ=some (jx p true x))(b:pv ρ=some (e5 e))(c:x.en.length<=1000) :
  yp i (Vm 0 "entries" jS) pv ρ=some (.nx (ρ.set i (some (jx p true { x with en:=x.en++[e] })))):=by
 rw[yp,b,L3,a,L3];unfold jx;rw[g8,L3];rw[Jr,L3,jb (by rw[L0];omega),cond_true,N4];rfl
theorem jfh{i:Nat}{pk pv:PF}{n:Int}(a:pV i ρ=some (jx p true x))(b:pk ρ=some (.str w))(c:pv ρ=some (.int n))(d:w∈p.C)(e:p.C.length<=1000) :
  qH i (Vm 0 "owed" jS) pk (λm n=>m - n) pv ρ=some (.nx (ρ.set i (some (jx p true { x with ow:=put x.ow w (x.ow w - n) })))):=ja8 (g:=λm n=>m - n) a g3 b c d e
theorem ji4{i:Nat}{pk pv:PF}{n:Int}(a:pV i ρ=some (jx p true x))(b:pk ρ=some (.str w))(c:pv ρ=some (.int n))(d:w∈p.P)(e:p.P.length<=1000) :
  qH i (Vm 0 "levels" jS) pk (λm n=>m - n) pv ρ=some (.nx (ρ.set i (some (jx p true { x with lv:=put x.lv w (x.lv w - n) })))):=ja8 (g:=λm n=>m - n) a g4 b c d e
theorem jis{i:Nat}{pk:PF}(a:pV i ρ=some (jx p true x))(b:pk ρ=some (.str w))(c:x.sv.length<=1000) :
  jQ i (Vm 0 "served" jS) pk (pC (.bl true)) ρ=some (.nx (ρ.set i (some (jx p true { x with sv:=x.sv++[w] })))):=by
 rw[jjN a b (by have:=jaH x.sv [];unfold nub;simp at this;omega),<- jde];rfl
theorem jit{o:Bool}:zp 0 "owed" (jx p o x)=some (dct o p.C x.ow):=rfl
theorem jj3{o:Bool}:zp 0 "levels" (jx p o x)=some (dct o p.P x.lv):=rfl
theorem Kd{o:Bool}:zp 0 "cash" (jx p o x)=some (.int x.cash):=rfl
theorem jj8{o:Bool}:zp 0 "served" (jx p o x)=some (dSv o (nub x.sv)):=rfl
end
noncomputable def got(L s:Int):Int:=if s < L then s else L
noncomputable def sz'(N:List (List Nat))(f:List Nat->Int):List W2:=N.map λn=>(n,f n)
noncomputable abbrev xV:List Nat:=[103,117,97,114,100]
noncomputable abbrev jfg:List Nat:=[112,97,114,116]
noncomputable abbrev KM:List Nat:=[116,119,105,99,101]
theorem ja7(l:List W2):jO (l.map e2)=true:=qe λd hd=>by obtain⟨p,_,rfl⟩:=M5.mp hd;rfl
theorem jba(o:Bool)(b:BkS):fz (jW o b)=jW false b:=by simp[jW,yN]
theorem Ym(b:BkS):frz (jW false b)=true:=by simp[jW,jk]
theorem JA(b:BkS):yF (jW true b)=true:=by simp[jW,ja7]
def JE(k:Nat)(q:W2)(a:Int)(x:Fl):Fl:={ x with cash:=x.cash - got a x.cash,en:=x.en++[⟨k,jfg,q.1,a,got a x.cash⟩] }
def jy:Nat->List W2->List Int->Fl->Fl
 | _,[],_,x=>x
 | _,_::_,[],x=>x
 | k,q::Q,a::A,x=>jy (k+1) Q A (JE k q a x)
def twiceF(Q:List W2)(c:Int)(x:Fl):Fl:=if 0 < (je Q c).2 then{ x with en:=x.en++[⟨-1,KM,[],(je Q c).1.sum,c⟩] } else x
def jb4(k:Int)(w:List Nat)(x:Fl):Fl:={ x with cash:=0,en:=x.en++[⟨k,vH,w,x.cash,x.cash⟩] }
noncomputable def srv(b:Bool)(g nd:Int)(w:List Nat)(y:Fl):Fl:=if b=true/\g=nd/\0 < nd then{ y with sv:=y.sv++[w] } else y
def jcO(pl:Int)(w:List Nat)(x:Fl):Fl:=srv true (got (x.ow w) x.cash) (x.ow w) w { x with cash:=x.cash - got (x.ow w) x.cash,en:=x.en++[⟨pl,YG,w,x.ow w,got (x.ow w) x.cash⟩],ow:=put x.ow w (x.ow w - got (x.ow w) x.cash) }
abbrev eT:=e3
def shE(pl:Int)(t:W3):En:=⟨pl,qG,t.1,t.2.1,t.2.2⟩
def sh1(pl:Int)(t:W3)(x:Fl):Fl:={ x with cash:=x.cash - t.2.2,ow:=put x.ow t.1 (x.ow t.1 - t.2.2),en:=x.en++[shE pl t] }
def shL(pl:Int):List W3->Fl->Fl
 | [],x=>x
 | t::T,x=>shL pl T (sh1 pl t x)
def shP(pl:Int)(b:Bool):List W3->Fl->Fl
 | [],x=>x
 | t::T,x=>shP pl b T (if b=true then{ sh1 pl t x with sv:=x.sv++[t.1] } else sh1 pl t x)
def shT(ws:List (List Nat))(x:Fl):List W3:=ws.zip ((ws.map x.ow).zip (jh (ws.map x.ow) x.cash))
def shB(ws:List (List Nat))(x:Fl):Bool:=decide (0 < (ws.map x.ow).sum)&&decide (jh (ws.map x.ow) x.cash=ws.map x.ow)
def VM(pl:Int)(ws:List (List Nat))(x:Fl):Fl:={ shL pl (shT ws x) x with sv:=if shB ws x=true then x.sv++ws else x.sv }
theorem jdW(pl:Int):∀(T:List W3) (x:Fl) (s:List (List Nat)),shL pl T { x with sv:=s }={ shL pl T x with sv:=s }
 | [],x,s=>rfl
 | t::T,x,s=>by rw[shL,shL,<- jdW pl T];rfl
theorem jaL(pl:Int):∀(T:List W3) (x:Fl),(shL pl T x).sv=x.sv
 | [],x=>rfl
 | t::T,x=>by rw[shL,jaL pl T];rfl
theorem jdZ(pl:Int)(b:Bool):∀(T:List W3) (x:Fl),shP pl b T x={ shL pl T x with sv:=if b=true then x.sv++T.map (·.1) else x.sv }
 | [],x=>by rw[shP];cases b<;>simp[shL]
 | t::T,x=>by
  rw[shP,jdZ pl b T,shL];cases b with
  | false =>
   simp only[Bool.false_eq_true,if_false];rfl
  | true =>
   simp only[if_true];rw[jdW];simp
theorem jel(pl:Int):∀(T:List W3) (x:Fl),(shL pl T x).en.length=x.en.length+T.length/\(shL pl T x).mv=x.mv
 | [],x=>⟨rfl,rfl⟩
 | t::T,x=>by
  have:=jel pl T (sh1 pl t x);have e:(sh1 pl t x).en.length=x.en.length+1:=by simp[sh1]
  rw[shL,M0];exact⟨by omega,this.2⟩
theorem zD(ws:List (List Nat))(x:Fl):(shT ws x).length=ws.length:=by
 unfold shT;rw[List.length_zip,List.length_zip,YJ];simp
def vn(p:PoolS)(pl:Int)(r:Ru)(x:Fl):Fl:=match r with
 | .one k w=>if k=vH then jb4 pl w x else jcO pl w x
 | .many ws=>VM pl ws x
def qd(p:PoolS):Int->List Ru->Fl->Fl
 | _,[],x=>x
 | k,r::R,x=>qd p (k+1) R (vn p k r x)
theorem jiX(b:Bool)(g nd:Int)(w:List Nat)(y:Fl):(srv b g nd w y).en=y.en/\(srv b g nd w y).mv=y.mv/\(srv b g nd w y).lv=y.lv/\(srv b g nd w y).sv.length<=y.sv.length+1:=by
 unfold srv;split
 ·exact⟨rfl,rfl,rfl,by simp⟩
 ·exact⟨rfl,rfl,rfl,by omega⟩
theorem Kn{C P:List (List Nat)}(p:PoolS)(pl:Int){r:Ru}(d:RuOk C P r)(x:Fl):(vn p pl r x).en.length<=x.en.length+10/\(vn p pl r x).mv=x.mv/\(vn p pl r x).sv.length<=x.sv.length+10:=by
 cases d with
 | rest f=>exact⟨by simp[vn,jb4],rfl,by simp[vn,jb4]⟩
 | pay f =>
  rename_i w;have e:vn p pl (.one YG w) x=jcO pl w x:=rfl;have:=jiX true (got (x.ow w) x.cash) (x.ow w) w;rw[e];exact⟨by unfold jcO;rw[(this _).1];simp,by unfold jcO;rw[(this _).2.1],by unfold jcO;exact N6 (this _).2.2.2 (by show x.sv.length+1<=_;omega)⟩
 | share g h i =>
  rename_i c;have a:=jel pl (shT c x) x;have b:=zD c x;refine⟨?_,a.2,?_⟩
  ·show(shL pl (shT c x) x).en.length<=_;omega
  ·show(if shB c x=true then x.sv++c else x.sv).length<=_;split
   ·simp;omega
   ·omega
theorem kK{C P:List (List Nat)}(p:PoolS):∀(k:Int) (R:List Ru) (x:Fl),(∀ r∈R,RuOk C P r)->(qd p k R x).en.length<=x.en.length+10*R.length/\(qd p k R x).mv=x.mv
 | _,[],x,_=>⟨by rw[qd];simp,rfl⟩
 | k,r::R,x,a=>by
  have h:=Kn p k (a r (by simp)) x;have t:=kK p (k+1) R (vn p k r x) λq b=>a q (by simp[b]);rw[qd,M0];exact⟨by omega,by rw[t.2,h.2.1]⟩
def vN(k:Nat)(g:WG)(x:Fl):Fl:={ x with lv:=put x.lv g.1 (x.lv g.1 - got (x.ow g.2) (x.lv g.1)),ow:=put x.ow g.2 (x.ow g.2 - got (x.ow g.2) (x.lv g.1)),en:=x.en++[⟨k,xV,g.2,x.ow g.2,got (x.ow g.2) (x.lv g.1)⟩] }
def yG:Nat->List WG->Fl->Fl
 | _,[],x=>x
 | k,g::G,x=>yG (k+1) G (vN k g x)
def yf(b:BkS)(c:Int)(ln:LN):Fl:=⟨fnOf b.S,fnOf b.W,fnOf b.L,ln,c,[],[],[]⟩
def JH(p:PoolS)(o:OrdS)(b:BkS)(c:Int)(ln:LN):Fl:=yG 0 p.grds (qd p o.parts.length o.rules (twiceF o.parts c (jy 0 o.parts (je o.parts c).1 (yf b c ln))))
def qW(S:List W2)(sv:List (List Nat))(R:List W2):List W2:=R.map λq=>(q.1,if 0 < fnOf S q.1/\q.1∉sv then q.2+1 else 0)
def jn(p:PoolS)(b:BkS)(x:Fl):BkS:=⟨sz' p.C x.sz,sz' p.C x.ow,qW b.S x.sv b.R,sz' p.P x.lv,b.z⟩
theorem ki:∀(k:Nat) (Q:List W2) (A:List Int) (x:Fl),(jy k Q A x).en.length<=x.en.length+Q.length
 | _,[],_,x=>M8 _
 | _,_::_,[],x=>by rw[jy];omega
 | k,q::Q,a::A,x=>by
  have:=ki (k+1) Q A (JE k q a x);have e:(JE k q a x).en.length=x.en.length+1:=by simp[JE]
  rw[jy,M0];omega
theorem twiceF_en(Q:List W2)(c:Int)(x:Fl):(twiceF Q c x).en.length<=x.en.length+1:=by
 unfold twiceF;split
 ·simp
 ·omega
section
variable {p:PoolS}{x:Fl}{w:List Nat}
theorem Jj{m:List D->Option (D×D)}{mn:Str}{pa:PAf}{ρ:Rh}{i:Nat}{ds:List D}(a:pV i ρ=some (jx p true x))(b:pa ρ=some ds)(c:frzs ds=true)
  (d:∀ a0 a1 a2 a3 a4 a5 a6 a7 a8 a9:D,J6 NS [a0,a1,a2,a3,a4,a5,a6,a7,a8,a9] mn=none):yS m i 0 mn pa ρ=(m (jx p true x::ds)).bind λr=>some (r.1,ρ.set i (some r.2)):=by
 rw[yS,b,L3,a,L3];show(bif true&&(frzs ds&&(J6 NS _ mn).isNone) then _ else none)=_;rw[d,c];rfl
theorem jbn{m:List D->Option D}{mn:Str}{po:PF}{pa:PAf}{ρ:Rh}{ds:List D}{o:Bool}{r:D}(a:po ρ=some (jx p o x))(b:pa ρ=some ds)
  (c:∀ a0 a1 a2 a3 a4 a5 a6 a7 a8 a9:D,J6 NS [a0,a1,a2,a3,a4,a5,a6,a7,a8,a9] mn=none) (e:m (jx p false x::fzs ds)=some r) (f:yF r=true):JF m 0 mn po pa ρ=some r:=by
 rw[JF,a,L3];show(bif true&&(J6 NS _ mn).isNone then(pa ρ).bind λds=>(m (fzs (jx p o x::ds))).bind λd=>bif frzs (jx p o x::ds)||yF d then some d else none else none)=_;rw[c,b,L3,fzs,jg0,e,L3,f,Bool.or_true];rfl
theorem VO{ts:D}{a1 a2:Option D}{B:List Int}(c:jd ts (.int 0)=some (.lst true (B.map D.int))):∀{Q:List W2}{A:List Int}{s:Nat}{x:Fl}{o4 o5 o6 o7:Option D},A=B.drop s->A.length=Q.length->x.en.length+Q.length<=900 ->
  ∃ o4' o5' o6' o7':Option D,j8 (gT 2 (gC (jc [0] 4) (gC (jc [0] 5) gN))) yA (yc s (Q.map e2)) [some (jx p true x),a1,a2,some ts,o4,o5,o6,o7]=some (.nx [some (jx p true (jy s Q A x)),a1,a2,some ts,o4',o5',o6',o7'])
 | [],A,s,x,o4,o5,o6,o7,_,_,_=>⟨o4,o5,o6,o7,by rw[jy];rfl⟩
 | r::Q,[],s,x,o4,o5,o6,o7,_,f,_=>by simp at f
 | r::Q,a::A,s,x,o4,o5,o6,o7,b,f,g=>by
  rw[M0] at g;simp only[M0] at f;have d:s < B.length:=by
   by_cases h:s < B.length
   ·exact h
   ·rw[List.drop_eq_nil_of_le (by omega)] at b;cases b
  rw[List.drop_eq_getElem_cons d] at b;injection b with ha b;have i:jd (.lst true (B.map D.int)) (.int (s:Int))=some (.int a):=by
   rw[uD (by omega) (by rw[L0];omega),N7,List.getElem?_map,X9 d,ha];rfl
  have j:wm [.int a,.int x.cash]=some (.int (got a x.cash)):=rfl;have k:(JE s r a x).en.length=x.en.length+1:=by simp[JE]
  obtain⟨o4',o5',o6',o7',e⟩:=VO c (a1:=a1) (a2:=a2) (Q:=Q) (A:=A) (s:=s+1) (x:=JE s r a x) (o4:=some (.int s)) (o5:=some (e2 r)) (o6:=some (.int a)) (o7:=some (.int (got a x.cash))) b (by omega) (by omega);refine⟨o4',o5',o6',o7',?_⟩;have l:jd (e2 r) (.int 0)=some (.str r.1):=rfl;have m:=Kd (p:=p) (x:=x) (o:=true);rw[L4,yc,lpF ?_,e,jy];show yA [some (jx p true x),a1,a2,some ts,some (.int s),some (e2 r),o6,o7]=_;apply sq (ρ':=[some (jx p true x),a1,a2,some ts,some (.int s),some (e2 r),some (.int a),o7]) (by generalize jx p true x=X at *;simp[c,i]);apply sq (ρ':=[some (jx p true x),a1,a2,some ts,some (.int s),some (e2 r),some (.int a),some (.int (got a x.cash))]) (by generalize jx p true x=X at *;simp[m,j,-qJ]);apply sq (by exact xg (x:=x) rfl rfl);exact QH (x:={ x with cash:=x.cash - got a x.cash }) (e:=⟨s,jfg,r.1,a,got a x.cash⟩) rfl (by simp[jb,e5,l]) (by show x.en.length<=1000;omega)
theorem jc2{Q:List W2}(d:0<=x.cash)(u:x.cash<=2 ^ 900)(v:∀ q∈Q,PtOk q)(f:Q.length<=10)(w:x.en.length<=100) :
  jP [jx p true x,.lst false (Q.map e2)]=some (.non,jx p true (twiceF Q x.cash (jy 0 Q (je Q x.cash).1 x))):=by
 have h:=jc1 (P:=Q) (c:=x.cash) f v d u;have y:=xu (P:=Q) (c:=x.cash);obtain⟨j,k,l,m,e⟩:=VO (p:=p) (ts:=.tup [.lst true ((je Q x.cash).1.map D.int),.int (je Q x.cash).2]) (a1:=some (.lst false (Q.map e2))) (a2:=some (.int x.cash)) (B:=(je Q x.cash).1) rfl (Q:=Q) (A:=(je Q x.cash).1) (s:=0) (x:=x) (o4:=none) (o5:=none) (o6:=none) (o7:=none) rfl y (by omega);have a:=Kd (p:=p) (x:=x) (o:=true);have z:jd (.tup [.lst true ((je Q x.cash).1.map D.int),.int (je Q x.cash).2]) (.int 0)=some (.lst true ((je Q x.cash).1.map D.int)):=rfl;have n:jd (.tup [.lst true ((je Q x.cash).1.map D.int),.int (je Q x.cash).2]) (.int 1)=some (.int (je Q x.cash).2):=rfl;have C:=ki 0 Q (je Q x.cash).1 x;have r:=jk Q;have t:=yN Q;by_cases b:0 < (je Q x.cash).2
 ·have E:=QH (p:=p) (x:=jy 0 Q (je Q x.cash).1 x) (ρ:=[some (jx p true (jy 0 Q (je Q x.cash).1 x)),some (.lst false (Q.map e2)),some (.int x.cash),some (.tup [.lst true ((je Q x.cash).1.map D.int),.int (je Q x.cash).2]),j,k,l,m]) (i:=0) (pv:=vR (ja (p1 xi (pC (.int 1))) (ja (pC (.str [116,119,105,99,101])) (ja (pC (.str [])) (ja (pCB Yv (ja (p2 jd (pV 3) (pC (.int 0))) pN)) (ja (pF (pV 2)) pN)))))) (e:=⟨-1,KM,[],(je Q x.cash).1.sum,x.cash⟩) rfl (by simp[jb,e5,z]) (by omega);rw[twiceF,if_pos b];generalize jx p true { jy 0 Q (je Q x.cash).1 x with en:=(jy 0 Q (je Q x.cash).1 x).en++[⟨-1,KM,[],(je Q x.cash).1.sum,x.cash⟩] }=X2,jx p true (jy 0 Q (je Q x.cash).1 x)=X1,jx p true x=X at *;generalize g:D.tup [.lst true ((je Q x.cash).1.map D.int),.int (je Q x.cash).2]=TT at *;simp[jP,kD,yT,a,h,r,t,e,n,b,E,Yo,-yp]
 ·rw[twiceF,if_neg b];generalize jx p true (jy 0 Q (je Q x.cash).1 x)=X1,jx p true x=X at *;generalize g:D.tup [.lst true ((je Q x.cash).1.map D.int),.int (je Q x.cash).2]=TT at *;simp[jP,kD,yT,a,h,r,t,e,n,b,Yo,-yp]
theorem jcr(c:Int):got c c=c:=by unfold got;split<;>rfl
theorem u5{c:Int}:yk [jx p true x,.str vH,.str w,.int c]=some (.non,jx p true x):=by
 generalize jx p true x=X;have a:wI false (.str vH) (.tup [.str [108,101,110,100],.str [98,97,99,107]])=some (.bl false):=rfl;simp[yk,kD,qY,a,Yo,jb]
theorem jcs{c:Int}(b:w∈p.C)(d:p.C.length<=1000):yk [jx p true x,.str YG,.str w,.int c]=some (.non,jx p true { x with ow:=put x.ow w (x.ow w - c) }):=by
 have a:=jfh (p:=p) (x:=x) (ρ:=[some (jx p true x),some (.str YG),some (.str w),some (.int c),none]) (i:=0) (pk:=pV 2) (pv:=pV 3) rfl rfl rfl b d;generalize jx p true { x with ow:=put x.ow w (x.ow w - c) }=Y,jx p true x=X at *;simp[yk,kD,qY,a,Yo]
theorem xz{d:D}{kw:List Nat}{pl nd:Int}{y:Fl}{b:Bool}(k:jd d (.int 0)=some (.str kw))(l:jd d (.int 1)=some (.str w))(fd:fz d=d)
  (j:jN [jx p false x,d]=some (.int nd))
  (give:yk [jx p true { x with cash:=x.cash - got nd x.cash,en:=x.en++[⟨pl,kw,w,nd,got nd x.cash⟩] },.str kw,.str w,.int (got nd x.cash)]=some (.non,jx p true y))
  (h:wI false (.str kw) (.tup [.str [112,97,121],.str [114,101,112,97,121]])=some (.bl b)) (t:x.en.length<=1000) (u:y.sv.length<=1000) :
  jv [jx p true x,.int pl,d]=some (.non,jx p true (if b=true/\got nd x.cash=nd/\0 < nd then{ y with sv:=y.sv++[w] } else y)):=by
 have m:wm [.int nd,.int x.cash]=some (.int (got nd x.cash)):=rfl;generalize B:got nd x.cash=g at *;have q:=Kd (p:=p) (x:=x) (o:=true);have a:∀ r:Rh,JF jN 0 "need_of" (pV 0) (ja (pV 2) pN) (some (jx p true x)::some (.int pl)::some d::r)=some (.int nd):=λr=>jbn (x:=x) rfl (ds:=[d]) (by simp) (λ_ _ _ _ _ _ _ _ _ _=>rfl) (by rw[show fzs [d]=[d] by rw[fzs,fd];rfl];exact j) rfl;have c:=xg (p:=p) (x:=x) (ρ:=[some (jx p true x),some (.int pl),some d,some (.str kw),some (.str w),some (.int nd),some (.int g)]) (i:=0) (pv:=pV 6) (n:=g) rfl rfl;have e:=QH (p:=p) (x:={ x with cash:=x.cash - g }) (ρ:=[some (jx p true { x with cash:=x.cash - g }),some (.int pl),some d,some (.str kw),some (.str w),some (.int nd),some (.int g)]) (i:=0) (pv:=vR (ja (pF (pV 1)) (ja (pF (pV 3)) (ja (pF (pV 4)) (ja (pF (pV 5)) (ja (pF (pV 6)) pN)))))) (e:=⟨pl,kw,w,nd,g⟩) rfl (by simp[jb,e5]) t;dsimp only at e;have f:yS yk 0 0 "give" (ja (pF (pV 3)) (ja (pF (pV 4)) (ja (pF (pV 6)) pN))) [some (jx p true { x with cash:=x.cash - g,en:=x.en++[⟨pl,kw,w,nd,g⟩] }),some (.int pl),some d,some (.str kw),some (.str w),some (.int nd),some (.int g)]=some (.non,[some (jx p true y),some (.int pl),some d,some (.str kw),some (.str w),some (.int nd),some (.int g)]):=by
  rw[Jj (x:={ x with cash:=x.cash - g,en:=x.en++[⟨pl,kw,w,nd,g⟩] }) rfl (ds:=[.str kw,.str w,.int g]) (by simp) rfl (λ_ _ _ _ _ _ _ _ _ _=>rfl),give];rfl
 have s:=jis (p:=p) (x:=y) (ρ:=[some (jx p true y),some (.int pl),some d,some (.str kw),some (.str w),some (.int nd),some (.int g)]) (i:=0) (pk:=pV 4) (w:=w) rfl rfl u;have A:jx p true (if b=true/\g=nd/\0 < nd then{ y with sv:=y.sv++[w] } else y)=if b=true/\g=nd/\0 < nd then jx p true { y with sv:=y.sv++[w] } else jx p true y:=by split<;>rfl
 rw[A];generalize jx p true { y with sv:=y.sv++[w] }=Y2,jx p true y=Y,jx p true { x with cash:=x.cash - g,en:=x.en++[⟨pl,kw,w,nd,g⟩] }=X3,jx p true { x with cash:=x.cash - g }=X2,jx p true x=X at *;cases b with
 | false=>simp[jv,kD,ye,k,l,a,q,m,c,e,f,s,h,Yo,jb,-qJ,-yp,-JF,-yS]
 | true =>
  by_cases v:g=nd
  ·subst v;by_cases z:0 < g
   ·simp[jv,kD,ye,k,l,a,q,m,c,e,f,s,h,z,Yo,jb,-qJ,-yp,-JF,-yS]
   ·simp[jv,kD,ye,k,l,a,q,m,c,e,f,s,h,z,Yo,jb,-qJ,-yp,-JF,-yS]
  ·simp[jv,kD,ye,k,l,a,q,m,c,e,f,s,h,v,Yo,jb,-qJ,-yp,-JF,-yS]
structure FlB(x:Fl):Prop where
 c0:0<=x.cash
 c1:x.cash<=10 ^ 20
 ow:∀ w,0<=x.ow w/\x.ow w<=10 ^ 20
theorem jdY{L s:Int}(h:0<=L)(h':0<=s):0<=got L s/\got L s<=L/\got L s<=s:=by unfold got;split<;>omega
theorem jh3{f:List Nat->Int}{c d:List Nat}{u:Int}(h:d≠c):put f c u d=f d:=if_neg h
theorem jbH{f:List Nat->Int}{v B:Int}{w:List Nat}(h:∀ n,0<=f n/\f n<=B)(a:0<=v)(h1:v<=B)(n:List Nat):0<=put f w v n/\put f w v n<=B:=by
 unfold put;split
 ·exact⟨a,h1⟩
 ·exact h n
theorem jgh{S:List W2}(h:∀ q∈S,0<=q.2)(n:List Nat):0<=fnOf S n:=by
 unfold fnOf
 induction S with
 | nil=>exact Int.le_refl _
 | cons q S a =>
  rw[lkp];by_cases e:q.1=n
  ·rw[if_pos e];exact h q (by simp)
  ·rw[if_neg e];exact a λr b=>h r (by simp[b])
theorem jeN{B:Int}{S:List W2}(a:0<=B)(h:∀ q∈S,q.2<=B)(n:List Nat):fnOf S n<=B:=by
 unfold fnOf
 induction S with
 | nil=>exact a
 | cons q S b =>
  rw[lkp];by_cases e:q.1=n
  ·rw[if_pos e];exact h q (by simp)
  ·rw[if_neg e];exact b λr c=>h r (by simp[c])
theorem Yk(l:List Int):frzs (l.map D.int)=true:=yI λd hd=>by obtain⟨p,_,rfl⟩:=M5.mp hd;rfl
theorem qc(l:List Int):fzs (l.map D.int)=l.map D.int:=vC λd hd=>by obtain⟨p,_,rfl⟩:=M5.mp hd;rfl
theorem JI(l:List Int):jO (l.map D.int)=true:=by
 rw[yW,List.all_map,List.all_eq_true];intro x _;rfl
theorem zf{α β:Type}:∀{a:List α}{b:List β},a.length=b.length->(a.zip b).map (·.2)=b
 | [],[],_=>rfl
 | [],_::_,h=>by simp at h
 | _::_,[],h=>by simp at h
 | a::l,b::m,h=>by simp at h;simp[zf h]
theorem jb1{α β:Type}:∀{a:List α}{b:List β},a.length=b.length->(a.zip b).map (·.1)=a
 | [],[],_=>rfl
 | [],_::_,h=>by simp at h
 | _::_,[],h=>by simp at h
 | a::l,b::m,h=>by simp at h;simp[jb1 h]
theorem zE:∀(ws:List (List Nat)) (ns gs:List Int),qM (ws.map D.str) (ns.map D.int) (gs.map D.int)=(ws.zip (ns.zip gs)).map eT
 | [],_,_=>rfl
 | _::_,[],_=>rfl
 | _::_,_::_,[]=>rfl
 | w::ws,n::ns,g::gs=>by
  rw[L4,L4,L4,qM,zE ws ns gs];rfl
structure ShOk(x:Fl)(T:List W3):Prop where
 nd:(T.map (·.1)).Nodup
 eq:∀ t∈T,t.2.1=x.ow t.1/\0<=t.2.2/\t.2.2<=t.2.1
 sum:(T.map (·.2.2)).sum<=x.cash
theorem jiA:∀(T:List W3),(∀ t∈T,0<=t.2.2)->0<=(T.map (·.2.2)).sum
 | [],_=>by simp
 | a::T,q=>by
  have:=jiA T λt b=>q t (by simp[b]);have:=q a (by simp);rw[L4,List.sum_cons];omega
theorem ShOk.next{pl:Int}{x:Fl}{t:W3}{T:List W3}(h:ShOk x (t::T)):ShOk (sh1 pl t x) T:=by
 have nd:=h.nd;rw[L4,List.nodup_cons] at nd;have s:=h.sum;rw[L4,List.sum_cons] at s;refine⟨nd.2,λa c=>?_,by show _<=x.cash - t.2.2;omega⟩;have:=h.eq a (by simp[c]);have b:a.1≠t.1:=λz=>nd.1 (z▸M5.mpr ⟨a,c,rfl⟩);show a.2.1=put x.ow t.1 (x.ow t.1 - t.2.2) a.1/\_;rw[jh3 b];exact this
theorem jea{pl:Int}:∀{T:List W3}{x:Fl},FlB x->ShOk x T->FlB (shL pl T x)
 | [],x,k,_=>k
 | t::T,x,k,h=>by
  rw[shL];have e:=h.eq t (by simp);have s:=h.sum;have n:=jiA T λa b=>(h.eq a (by simp[b])).2.1;rw[L4,List.sum_cons] at s;have c0:=k.c0;have c1:=k.c1;have o:=k.ow t.1;exact jea ⟨by show 0<=x.cash - t.2.2;omega,by show x.cash - t.2.2<=_;omega,jbH k.ow (by omega) (by omega)⟩ h.next
structure ShIn(ws:List (List Nat))(x:Fl):Prop where
 ns:∀ v∈ws.map x.ow,0<=v/\v<=10 ^ 20
 sum:(ws.map x.ow).sum<=10 ^ 30
 gl:(jh (ws.map x.ow) x.cash).length=ws.length
 t1:(shT ws x).map (·.1)=ws
 ok:ShOk x (shT ws x)
theorem jlB{ws:List (List Nat)}{x:Fl}(k:FlB x)(u:ws.length<=10)(nd:ws.Nodup):ShIn ws x:=by
 have c0:=k.c0;have d:∀ v∈ws.map x.ow,0<=v/\v<=10 ^ 20:=λv h=>by
  obtain⟨w,_,rfl⟩:=M5.mp h;exact k.ow w
 have e:∀ v∈ws.map x.ow,0<=v:=λv h=>(d v h).1;have a:(ws.map x.ow).length=ws.length:=L0 ..;have f:(ws.map x.ow).sum<=10 ^ 30:=by
  have:=uY _ d;have c:(10:Int) ^ 20*(ws.map x.ow).length<=10 ^ 20*20:=Int.mul_le_mul_of_nonneg_left (by omega) (by decide);omega
 have b:(jh (ws.map x.ow) x.cash).length=ws.length:=by rw[YJ,a]
 have g:(shT ws x).map (·.1)=ws:=jb1 (by rw[List.length_zip,a,b];simp);have j:(shT ws x).map (·.2)=(ws.map x.ow).zip (jh (ws.map x.ow) x.cash):=zf (by rw[List.length_zip,a,b];simp);have l:(shT ws x).map (·.2.2)=jh (ws.map x.ow) x.cash:=by
  have:(shT ws x).map (·.2.2)=((shT ws x).map (·.2)).map (·.2):=by rw[U0];rfl
  rw[this,j];exact zf (by rw[a,b])
 refine⟨d,f,b,g,by rw[g];exact nd,?_,?_⟩
 ·intro t m;obtain⟨i,hi⟩:=List.mem_iff_getElem?.mp m;unfold shT at hi;rw[List.getElem?_zip_eq_some] at hi;obtain⟨n,c⟩:=hi;rw[List.getElem?_zip_eq_some] at c;obtain⟨c,o⟩:=c;have p:=jbS c0 e o c;rw[List.getElem?_map,n] at c;simp at c;exact⟨c.symm,p⟩
 ·rw[l];rcases ue c0 e with⟨r,s⟩ | q
  ·rw[r];exact s
  ·omega
theorem Vu(h:PoolOk p){pl:Int}{a2 a3 a4:Option D}{b:Bool}:∀{T:List W3}{x:Fl}{o6 o7 o8:Option D},x.en.length+T.length<=950->x.sv.length+T.length<=950->(∀ t∈T,t.1∈p.C) ->
  ∃ o6' o7' o8':Option D,j8 (gT 3 (gC (jc [0] 6) (gC (jc [0] 7) (gC (jc [0] 8) gN)))) yz (T.map eT) [some (jx p true x),some (.int pl),a2,a3,a4,some (.bl b),o6,o7,o8]=some (.nx [some (jx p true (shP pl b T x)),some (.int pl),a2,a3,a4,some (.bl b),o6',o7',o8'])
 | [],x,o6,o7,o8,_,_,_=>⟨o6,o7,o8,rfl⟩
 | t::T,x,o6,o7,o8,g,a,d=>by
  have c:=d t (by simp);rw[M0] at g a;have j:p.C.length<=1000:=by have:=h.told2;rw[L0];omega
  let f:Fl:={ x with cash:=x.cash - t.2.2 }
  let k:Fl:={ f with ow:=put x.ow t.1 (x.ow t.1 - t.2.2) }
  have n:(if b=true then{ sh1 pl t x with sv:=x.sv++[t.1] } else sh1 pl t x).en.length=x.en.length+1:=by cases b<;>simp[sh1]
  have o:(if b=true then{ sh1 pl t x with sv:=x.sv++[t.1] } else sh1 pl t x).sv.length<=x.sv.length+1:=by cases b<;>simp[sh1]
  obtain⟨o6',o7',o8',e⟩:=Vu h (pl:=pl) (a2:=a2) (a3:=a3) (a4:=a4) (b:=b) (T:=T) (x:=if b=true then{ sh1 pl t x with sv:=x.sv++[t.1] } else sh1 pl t x) (o6:=some (.str t.1)) (o7:=some (.int t.2.1)) (o8:=some (.int t.2.2)) (by omega) (by omega) (λl m=>d l (by simp[m]));refine⟨o6',o7',o8',?_⟩;rw[L4,lpF ?_,e,shP];show yz [some (jx p true x),some (.int pl),a2,a3,a4,some (.bl b),some (.str t.1),some (.int t.2.1),some (.int t.2.2)]=_;apply sq (by exact xg (x:=x) rfl rfl);apply sq (by exact jfh (x:=f) rfl rfl rfl c j);apply sq (by exact QH (x:=k) (e:=shE pl t) rfl (by simp[jb,e5,shE]) (by show x.en.length<=1000;omega));cases b with
  | false=>rfl
  | true=>exact jis (x:=sh1 pl t x) (pk:=pV 6) (ρ:=[some (jx p true (sh1 pl t x)),some (.int pl),a2,a3,a4,some (.bl true),some (.str t.1),some (.int t.2.1),some (.int t.2.2)]) (i:=0) (w:=t.1) rfl rfl (by show x.sv.length<=1000;omega)
theorem jb7(h:PoolOk p)(k:FlB x){pl:Int}{ws:List (List Nat)}(v:ws.length<=10)(m:∀ w∈ws,w∈p.C)(nd:ws.Nodup)(y:x.en.length<=900)(z:x.sv.length<=900):jF [jx p true x,.int pl,.tup (ws.map D.str)]=some (.non,jx p true (VM pl ws x)):=by
 have c0:=k.c0;have c1:=k.c1;have q:=jlB k v nd;have n:=jbe (ns:=ws.map x.ow) (c:=x.cash) (by rw[L0];omega) q.ns c0 (by omega) q.sum;have L:=zD ws x;obtain⟨A,B,E,e⟩:=Vu h (pl:=pl) (a2:=some (.tup (ws.map D.str))) (a3:=some (.lst false ((ws.map x.ow).map D.int))) (a4:=some (.lst false ((jh (ws.map x.ow) x.cash).map D.int))) (b:=shB ws x) (T:=shT ws x) (x:=x) (o6:=none) (o7:=none) (o8:=none) (by omega) (by omega) (λt F=>m _ (by rw[<- q.t1];exact M5.mpr ⟨t,F,rfl⟩));have G:shP pl (shB ws x) (shT ws x) x=VM pl ws x:=by rw[jdZ,q.t1];rfl
 rw[G] at e;have s:yC (jc [] 0) qT (pF (p2 jG (VG 0 "owed" (pV 1)) (pV 0))) (ws.map D.str) [none,some (jx p true x)]=some ((ws.map x.ow).map D.int):=by
  rw[U0];refine jE (en:=D.str) rfl (λρ=>∃ o,ρ=[o,some (jx p true x)]) ?_ ⟨none,rfl⟩;rintro r H ρ ⟨o,rfl⟩;have I:=jit (p:=p) (x:=x) (o:=true);have J:=vA (o:=true) (f:=x.ow) (m r H);refine⟨[some (.str r),some (jx p true x)],rfl,?_,_,rfl⟩;generalize jx p true x=X,dct true p.C x.ow=DD at *;simp[I,J]
 have d:=Kd (p:=p) (x:=x) (o:=true);have g:lim ws.length=true:=jb (by omega);have i:=uZ true true (jh (ws.map x.ow) x.cash) (ws.map x.ow);have j:jle [.tup (ws.map D.str),.lst false ((ws.map x.ow).map D.int),.lst false ((jh (ws.map x.ow) x.cash).map D.int)]=some ((shT ws x).map eT):=by
  show(bif decide ((ws.map D.str).length<=((ws.map x.ow).map D.int).length)&&decide ((ws.map D.str).length<=((jh (ws.map x.ow) x.cash).map D.int).length) then some (qM (fzs (ws.map D.str)) (fzs ((ws.map x.ow).map D.int)) (fzs ((jh (ws.map x.ow) x.cash).map D.int))) else none)=_;have gl:=q.gl;have d1:decide ((ws.map D.str).length<=((ws.map x.ow).map D.int).length)=true:=X4 (by simp);have K:decide ((ws.map D.str).length<=((jh (ws.map x.ow) x.cash).map D.int).length)=true:=X4 (by rw[L0,L0];omega);rw[d1,K,j5,qc,qc,zE];rfl
 have u:shB ws x=(decide (0 < (ws.map x.ow).sum)&&decide (jh (ws.map x.ow) x.cash=ws.map x.ow)):=rfl;generalize shB ws x=b at *;generalize(shT ws x).map eT=TT at *;generalize jh (ws.map x.ow) x.cash=gs at *;clear q;generalize ws.map x.ow=ns,jx p true (VM pl ws x)=X',jx p true x=X at *;by_cases l:0 < ns.sum
 ·have a:b=decide (gs=ns):=by rw[u,X4 l,Bool.true_and]
  rw[a] at e;simp[jF,kD,yV,jw,s,d,g,n,i,Yk,qc,JI,l,j,e,Yo,ju,j5]
 ·have a:b=false:=by rw[u,X5 l,Bool.false_and]
  rw[a] at e;simp[jF,kD,yV,jw,s,d,g,n,i,Yk,qc,JI,l,j,e,Yo,ju,j5]
theorem xF{pl:Int}{r:Ru}(a:RuOk p.C p.P r)(k:FlB x):FlB (vn p pl r x):=by
 have c0:=k.c0;have c1:=k.c1;cases a with
 | rest c=>exact⟨Int.le_refl _,by show(0:Int)<=10 ^ 20;decide,k.ow⟩
 | pay c =>
  rename_i w;have o:=k.ow w;have g:=jdY o.1 c0;have e:vn p pl (.one YG w) x=jcO pl w x:=rfl;rw[e];unfold jcO srv;split
  ·exact⟨by show 0<=x.cash - got (x.ow w) x.cash;omega,by show x.cash - got (x.ow w) x.cash<=10 ^ 20;omega,jbH k.ow (by omega) (by omega)⟩
  ·exact⟨by show 0<=x.cash - got (x.ow w) x.cash;omega,by show x.cash - got (x.ow w) x.cash<=10 ^ 20;omega,jbH k.ow (by omega) (by omega)⟩
 | share d h f =>
  rename_i i;have b:=jea (pl:=pl) k (jlB k f d).ok;exact⟨b.c0,b.c1,b.ow⟩
theorem jdv(h:PoolOk p){pl:Int}{k w:List Nat}(c:RuOk p.C p.P (.one k w))(f:x.en.length<=900)(g:x.sv.length<=900):jv [jx p true x,.int pl,eRu (.one k w)]=some (.non,jx p true (vn p pl (.one k w) x)):=by
 have i:p.C.length<=1000:=by have:=h.told2;rw[L0];omega
 have j:p.P.length<=1000:=by have:=h.marks2;rw[L0];omega
 cases c with
 | rest a =>
  have e:=xz (p:=p) (x:=x) (w:=w) (d:=eRu (.one vH w)) (kw:=vH) (pl:=pl) (nd:=x.cash) (y:={ x with cash:=x.cash - got x.cash x.cash,en:=x.en++[⟨pl,vH,w,x.cash,got x.cash x.cash⟩] }) (b:=false) rfl rfl rfl jar u5 rfl (by omega) (by show x.sv.length<=1000;omega);rw[e,if_neg (by simp),jcr,Int.sub_self];rfl
 | pay a =>
  have e:=xz (p:=p) (x:=x) (w:=w) (d:=eRu (.one YG w)) (kw:=YG) (pl:=pl) (nd:=x.ow w) (b:=true) rfl rfl rfl (jdA (vA a)) (jcs a i) rfl (by omega) (by show x.sv.length<=1000;omega);rw[e];rfl
theorem VW(h:PoolOk p){a0 a1 a2 a3 a4 a5 a9:Option D}:∀{R:List Ru}{s:Int}{x:Fl}{o7 o8:Option D},(∀ r∈R,RuOk p.C p.P r)->FlB x->x.en.length+10*R.length<=900->x.sv.length+10*R.length<=900 ->
  ∃ o7' o8':Option D,j8 (gT 2 (gC (jc [] 7) (gC (jc [] 8) gN))) Jf (J7 s (R.map eRu)) [a0,a1,a2,a3,a4,a5,some (jx p true x),o7,o8,a9]=some (.nx [a0,a1,a2,a3,a4,a5,some (jx p true (qd p s R x)),o7',o8',a9])
 | [],s,x,o7,o8,_,_,_,_=>⟨o7,o8,rfl⟩
 | r::R,s,x,o7,o8,j,l,c,f=>by
  rw[M0] at c f;have b:=j r (by simp);have n:=Kn p s b x;obtain⟨o7',o8',e⟩:=VW h (a0:=a0) (a1:=a1) (a2:=a2) (a3:=a3) (a4:=a4) (a5:=a5) (a9:=a9) (R:=R) (s:=s+1) (x:=vn p s r x) (o7:=some (.int s)) (o8:=some (eRu r)) (λd hd=>j d (by simp[hd])) (xF b l) (by omega) (by omega);refine⟨o7',o8',?_⟩;have o:Jf [a0,a1,a2,a3,a4,a5,some (jx p true x),some (.int s),some (eRu r),a9]=some (.nx [a0,a1,a2,a3,a4,a5,some (jx p true (vn p s r x)),some (.int s),some (eRu r),a9]):=by
   cases r with
   | one k w =>
    have ex:=jdv h (pl:=s) b (x:=x) (by omega) (by omega);have g:jd (eRu (.one k w)) (.int 0)=some (.str k):=rfl;have ns:(k==[115,104,97,114,101])=false:=by cases b<;>rfl
    have fr:=Kh (.one k w);have m:=Jj (p:=p) (x:=x) (m:=jv) (mn:="take_rule") (pa:=ja (pF (pV 7)) (ja (pF (pV 8)) pN)) (ρ:=[a0,a1,a2,a3,a4,a5,some (jx p true x),some (.int s),some (eRu (.one k w)),a9]) (i:=6) (ds:=[.int s,eRu (.one k w)]) rfl (by simp[fr]) (by simp[fr]) (λ_ _ _ _ _ _ _ _ _ _=>rfl);rw[ex,L3] at m;generalize jx p true (vn p s (.one k w) x)=X1,jx p true x=X,eRu (.one k w)=RR at *;simp[Jf,g,ns,m,-yS]
   | many a =>
    cases b with
    | share q t u =>
     have ex:jF [jx p true x,.int s,.tup (a.map D.str)]=some (.non,jx p true (vn p s (.many a) x)):=jb7 h l u t q (by omega) (by omega);have g:jd (eRu (.many a)) (.int 0)=some (.str qG):=rfl;have v:jd (eRu (.many a)) (.int 1)=some (.tup (a.map D.str)):=rfl;have fr:=ju a;have m:=Jj (p:=p) (x:=x) (m:=jF) (mn:="take_share") (pa:=ja (pF (pV 7)) (ja (pF (p2 jd (pV 8) (pC (.int 1)))) pN)) (ρ:=[a0,a1,a2,a3,a4,a5,some (jx p true x),some (.int s),some (eRu (.many a)),a9]) (i:=6) (ds:=[.int s,.tup (a.map D.str)]) rfl (by simp[v,fr]) (by simp[fr]) (λ_ _ _ _ _ _ _ _ _ _=>rfl);rw[ex,L3] at m;generalize jx p true (vn p s (.many a) x)=X1,jx p true x=X,eRu (.many a)=RR at *;simp[Jf,g,m,-yS]
  rw[L4,J7,lpE ?_ o,e,qd];rfl
theorem jcv(h:PoolOk p){pl:Nat}{g:WG}(h1:g.1∈p.P)(h2:g.2∈p.C)(d:x.en.length<=900) :
  yq [jx p true x,.int pl,.str g.1,.str g.2]=some (.non,jx p true (vN pl g x)):=by
 have i:p.C.length<=1000:=by have:=h.told2;rw[L0];omega
 have j:p.P.length<=1000:=by have:=h.marks2;rw[L0];omega
 have k:wm [.int (x.ow g.2),.int (x.lv g.1)]=some (.int (got (x.ow g.2) (x.lv g.1))):=rfl;unfold vN;generalize got (x.ow g.2) (x.lv g.1)=y at *;obtain⟨po,a⟩:=g;simp only at *
 let b:Fl:={ x with lv:=put x.lv po (x.lv po - y) }
 let c:Fl:={ b with ow:=put x.ow a (x.ow a - y) }
 let l:Fl:={ c with en:=x.en++[⟨pl,xV,a,x.ow a,y⟩] }
 have m:=jit (p:=p) (x:=x) (o:=true);have n:=vA (o:=true) (f:=x.ow) h2;have q:=jj3 (p:=p) (x:=x) (o:=true);have r:=vA (o:=true) (f:=x.lv) h1;show((yY [some (jx p true x),some (.int pl),some (.str po),some (.str a),none,none]).bind (Yo 0))=_;have e:yY [some (jx p true x),some (.int pl),some (.str po),some (.str a),none,none]=some (.nx [some (jx p true l),some (.int pl),some (.str po),some (.str a),some (.int (x.ow a)),some (.int y)]):=by
  apply sq (ρ':=[some (jx p true x),some (.int pl),some (.str po),some (.str a),some (.int (x.ow a)),none]) (by generalize jx p true x=X at *;generalize dct true p.C x.ow=D1 at *;simp[m,n]);apply sq (ρ':=[some (jx p true x),some (.int pl),some (.str po),some (.str a),some (.int (x.ow a)),some (.int y)]) (by generalize jx p true x=X at *;generalize dct true p.P x.lv=D2 at *;simp[q,r,k,-qJ]);apply sq (by exact ji4 (x:=x) rfl rfl rfl h1 j);apply sq (by exact jfh (x:=b) rfl rfl rfl h2 i);exact QH (x:=c) (e:=⟨pl,xV,a,x.ow a,y⟩) rfl (by simp[jb,e5]) (by show x.en.length<=1000;omega)
 rw[e];rfl
theorem YM(h:PoolOk p){a0 a1 a2 a3 a4 a5 a8:Option D}:∀{G:List WG}{s:Nat}{x:Fl}{o7 o9:Option D},(∀ g∈G,g.1∈p.P/\g.2∈p.C)->x.en.length+G.length<=900 ->
  ∃ o7' o9':Option D,j8 (gT 2 (gC (jc [] 7) (gC (jc [] 9) gN))) Kg (yc s (G.map eG)) [a0,a1,a2,a3,a4,a5,some (jx p true x),o7,a8,o9]=some (.nx [a0,a1,a2,a3,a4,a5,some (jx p true (yG s G x)),o7',a8,o9'])
 | [],s,x,o7,o9,_,_=>⟨o7,o9,rfl⟩
 | g::G,s,x,o7,o9,a,b=>by
  rw[M0] at b;have ex:=jcv h (x:=x) (pl:=s) (a g (by simp)).1 (a g (by simp)).2 (by omega);have c:(vN s g x).en.length=x.en.length+1:=by simp[vN]
  obtain⟨o7',o9',e⟩:=YM h (a0:=a0) (a1:=a1) (a2:=a2) (a3:=a3) (a4:=a4) (a5:=a5) (a8:=a8) (G:=G) (s:=s+1) (x:=vN s g x) (o7:=some (.int s)) (o9:=some (eG g)) (λg d=>a g (by simp[d])) (by omega);refine⟨o7',o9',?_⟩;have f:jd (eG g) (.int 0)=some (.str g.1):=rfl;have j:jd (eG g) (.int 1)=some (.str g.2):=rfl;have m:=Jj (p:=p) (x:=x) (m:=yq) (mn:="take_guard") (pa:=ja (pF (pV 7)) (ja (pF (p2 jd (pV 9) (pC (.int 0)))) (ja (pF (p2 jd (pV 9) (pC (.int 1)))) pN))) (ρ:=[a0,a1,a2,a3,a4,a5,some (jx p true x),some (.int s),a8,some (eG g)]) (i:=6) (ds:=[.int s,.str g.1,.str g.2]) rfl (by simp[f,j]) rfl (λ_ _ _ _ _ _ _ _ _ _=>rfl);rw[ex,L3] at m;rw[L4,yc,lpF ?_,e,yG];show(some _).bind _=_;generalize jx p true (vN s g x)=X1,jx p true x=X at *;simp[Kg,m,-yS]
theorem QN{f:Str}{v:D}:∀{ns:List Str}{l:List D},f∉ns->ns.length=l.length->qB ns l f v=(ns++[f],l++[v])
 | [],[],_,_=>rfl
 | [],_::_,_,e=>by simp at e
 | _::_,[],_,e=>by simp at e
 | n::ns,x::l,h,e=>by rw[qB,if_neg λz=>h (by simp[z]),QN (λz=>h (by simp[z])) (by simpa using e)];rfl
theorem vY{f:Str}{pv:PF}{r:Rh}{ns:List Str}{l:List D}{v:D}(a:pv (some (.ins true 0 ns l)::r)=some v)(h:f∉ns/\ns.length<=900:=by decide)(e:ns.length=l.length:=by rfl):Jc 0 0 f pv (some (.ins true 0 ns l)::r)=some (.nx (some (.ins true 0 (ns++[f]) (l++[v]))::r)):=by
 rw[Jc,a,L3];show(bif (0==0)&&decide (ns.length<=900) then some (Out.nx (some (D.ins true 0 (qB ns l f v).1 (qB ns l f v).2)::r)) else none)=_;rw[QN h.1 e,X4 h.2];rfl
theorem jfE(h:PoolOk p){b:BkS}{c:Int}{ln:LN}(k:BkOk p b)(g:(ln.map (·.1)).Nodup)(a:ln.length<=1000) :
  yK [.ins true 0 [] [],vd false p,jW false b,.int c,.lst false (ln.map eR)]=some (.non,jx p true ⟨fnOf b.S,fnOf b.W,fnOf b.L,ln,c,[],[],[]⟩):=by
 have x:=h.marks2;obtain⟨y,z,_,A⟩:=k.len h;have d:=k.S;have e:=k.W;have f:=k.L;have i:yu [.lst false (p.marks.map e2)]=some (dct true p.P (fnOf p.marks)):=yx h.marksn (by omega);have j:yu [.lst false (b.S.map e2)]=some (dct true p.C (fnOf b.S)):=by rw[<- d];exact yx (by rw[d];exact h.toldn) (by omega)
 have l:yu [.lst false (b.W.map e2)]=some (dct true p.C (fnOf b.W)):=by rw[<- e];exact yx (by rw[e];exact h.toldn) (by omega)
 have m:yu [.lst false (b.L.map e2)]=some (dct true p.P (fnOf b.L)):=by rw[<- f];exact yx (by rw[f];exact h.marksn) (by omega)
 have n:=jgT g a;have o:=jax ln;have q:jd (jW false b) (.int 0)=some (.lst false (b.S.map e2)):=rfl;have r:jd (jW false b) (.int 1)=some (.lst false (b.W.map e2)):=rfl;have s:jd (jW false b) (.int 3)=some (.lst false (b.L.map e2)):=rfl;have t:jd (vd false p) (.int 0)=some (.str p.nm):=rfl;have u:jd (vd false p) (.int 2)=some (.lst false (p.marks.map e2)):=rfl;unfold jx;generalize jW false b=BK,vd false p=PP at *;show _=some (D.non,D.ins true 0 NS [.str p.nm,dct true p.P (fnOf p.marks),dct true p.C (fnOf b.S),dct true p.C (fnOf b.W),dct true p.P (fnOf b.L),dLn true ln,.int c,.dK true [] [],.lst true [],.lst true []]);generalize dct true p.P (fnOf p.marks)=a1,dct true p.C (fnOf b.S)=a2,dct true p.C (fnOf b.W)=a3,dct true p.P (fnOf b.L)=a4,dLn true ln=a5 at *;have w:vy [some (.ins true 0 [] []),some PP,some BK,some (.int c),some (.lst false (ln.map eR))]=some (.nx [some (.ins true 0 NS [.str p.nm,a1,a2,a3,a4,a5,.int c,.dK true [] [],.lst true [],.lst true []]),some PP,some BK,some (.int c),some (.lst false (ln.map eR))]):=by
  unfold vy;apply sq (by exact vY (v:=.str p.nm) (by simp[t]));apply sq (by exact vY (v:=a1) (by simp[u,i]));apply sq (by exact vY (v:=a2) (by simp[q,j]));apply sq (by exact vY (v:=a3) (by simp[r,l]));apply sq (by exact vY (v:=a4) (by simp[s,m]));apply sq (by exact vY (v:=a5) (by simp[n,o,xL]));apply sq (by exact vY (v:=.int c) (by simp));apply sq (by exact vY (v:=.dK true [] []) rfl);apply sq (by exact vY (v:=.lst true []) (by simp[lim]));exact vY (v:=.lst true []) (by simp[lim])
 exact congrArg (Option.bind · (Yo 0)) w
end
section
variable {p:PoolS}{x:Fl}{c:Int}
theorem VA{a0:Option D}{o:OrdS}:∀{os:List OrdS}{o2:Option D},(os.map (·.nm)).Nodup->o∈os ->
  ∃ r,j8 (jc [] 2) ym (os.map yP) [a0,some (.str o.nm),o2]=some (.rt (yP o) r)
 | [],o2,_,h=>by simp at h
 | q::os,o2,b,h=>by
  have c:jd (yP q) (.int 0)=some (.str q.nm):=rfl;have d:=vM q;rw[L4,List.nodup_cons] at b;by_cases z:q.nm=o.nm
  ·have e:q=o:=by
    rcases M4.mp h with h | h
    ·exact h.symm
    ·exact absurd (M5.mpr ⟨o,h,z.symm⟩) b.1
   refine⟨[a0,some (.str o.nm),some (yP q)],?_⟩;have a:(q.nm==o.nm)=true:=by simp[z]
   rw[L4,vt,<- e];rw[<- e] at a;generalize yP q=X at *;simp[ym,c,a,d]
  ·have a:(q.nm==o.nm)=false:=U1.mpr z;have f:o∈os:=(M4.mp h).resolve_left λy=>z (by rw[y]);obtain⟨r,e⟩:=VA (a0:=a0) (os:=os) (o2:=some (yP q)) b.2 f;refine⟨r,?_⟩;have g:ym [a0,some (.str o.nm),some (yP q)]=some (.nx [a0,some (.str o.nm),some (yP q)]):=by
    generalize yP q=X at *;simp[ym,c,a]
   rw[L4,lpE ?_ g,e];rfl
theorem xn(l:List OrdS):fzs (l.map yP)=l.map yP:=vC λd hd=>by obtain⟨p,_,rfl⟩:=M5.mp hd;exact vB _ (vM p)
theorem jdn(h:PoolOk p){o:OrdS}(a:o∈p.ords):vi [vd false p,.str o.nm]=some (yP o):=by
 obtain⟨r,e⟩:=VA (a0:=some (vd false p)) (o:=o) (os:=p.ords) (o2:=none) h.ordn a;have b:jd (vd false p) (.int 4)=some (.lst false (p.ords.map yP)):=rfl;have c:=YD p.ords;have d:=xn p.ords;generalize vd false p=PP at *;simp[vi,jR,Jt,b,c,d,e]
theorem jkE(o:Bool)(w:List Nat)(l:List (List Nat)):Q2 true (.str w) (dSv o l)=some (.bl (!decide (w∈l))):=by
 show some (D.bl (true != (KF (l.map KA.str) (l.map λ_=>D.bl true) (.str w)).isSome))=_;have:(KF (l.map KA.str) (l.map λ_=>D.bl true) (.str w)).isSome=decide (w∈l):=by
  induction l with
  | nil=>rfl
  | cons a l b =>
   rw[L4,L4,KF];by_cases e:a=w
   ·rw[if_pos (by rw[e])];simp[e]
   ·rw[if_neg λz=>e (by cases z;rfl),b];simp[Ne.symm e]
 rw[this];cases decide (w∈l)<;>rfl
theorem Yz{NC:List (List Nat)}{S:List W2}(d:NC.length<=1000){a1:Option D}{X:D}{sv:List (List Nat)}(b:zp 0 "served" X=some (dSv false (nub sv))):∀{R:List W2}{acc:List W2}{o4 o5 o6:Option D},(∀ q∈R,q.1∈NC)->acc.length+R.length<=1000 ->
  ∃ o4' o5' o6':Option D,j8 (gT 2 (gC (jc [] 4) (gC (jc [] 5) gN))) jA (R.map e2) [some X,a1,some (dct true NC (fnOf S)),some (.lst true (acc.map e2)),o4,o5,o6]=some (.nx [some X,a1,some (dct true NC (fnOf S)),some (.lst true ((acc++qW S sv R).map e2)),o4',o5',o6'])
 | [],acc,o4,o5,o6,_,_=>⟨o4,o5,o6,by simp[qW]⟩
 | q::R,acc,o4,o5,o6,k,m=>by
  rw[M0] at m;have c:=jkE false q.1 (nub sv);rw[show decide (q.1∈nub sv)=decide (q.1∈sv) from decide_eq_decide.mpr jgW] at c;have g:=vA (o:=true) (f:=fnOf S) (k q (by simp));have h:∃ o6':Option D,jA [some X,a1,some (dct true NC (fnOf S)),some (.lst true (acc.map e2)),some (.str q.1),some (.int q.2),o6]=some (.nx [some X,a1,some (dct true NC (fnOf S)),some (.lst true ((acc++[(q.1,if 0 < fnOf S q.1/\q.1∉sv then q.2+1 else 0)]).map e2)),some (.str q.1),some (.int q.2),o6']):=by
   generalize dct true NC (fnOf S)=DD,dSv false (nub sv)=SS at *;by_cases i:0 < fnOf S q.1
   ·by_cases l:q.1∈sv
    ·exact⟨some (.bl false),by simp(disch:=first | omega | (simp;done) | (simp;omega)) [jA,g,b,c,i,l,jb,e2]⟩
    ·exact⟨some (.bl true),by simp(disch:=first | omega | (simp;done) | (simp;omega)) [jA,g,b,c,i,l,jb,e2]⟩
   ·exact⟨some (.bl false),by simp(disch:=first | omega | (simp;done) | (simp;omega)) [jA,g,b,c,i,jb,e2]⟩
  obtain⟨o6',j⟩:=h;obtain⟨o4',o5',a,e⟩:=Yz d b (a1:=a1) (S:=S) (R:=R) (acc:=acc++[(q.1,if 0 < fnOf S q.1/\q.1∉sv then q.2+1 else 0)]) (o4:=some (.str q.1)) (o5:=some (.int q.2)) (o6:=o6') (λr n=>k r (by simp[n])) (by simp;omega);refine⟨o4',o5',a,?_⟩;rw[L4,lpE ?_ j,e]
  ·rw[List.append_assoc];rfl
  ·rfl
theorem Jz{o:Bool}{M:List (List Nat)}{f:List Nat->Int}{po:PF}{ρ:Rh}(h:po ρ=some (dct o M f)):vw po ρ=some (.lst true ((sz' M f).map e2)):=by
 unfold vw;rw[h];show(bif frzs (M.map λn=>D.int (f n)) then some (D.lst true (((M.map KA.str).zip (M.map λn=>D.int (f n))).map λp=>D.tup [kaD p.1,p.2])) else none)=_;rw[jdm,jbk];simp[sz',e2]
theorem jds(h:PoolOk p){b:BkS}(k:BkOk p b):jH [jx p false x,jW false b]=some (jW true (jn p b x)):=by
 have v:=h.told2;obtain⟨w,y,A,B⟩:=k.len h;have a:=k.S;have c:=k.R;have d:yu [.lst false (b.S.map e2)]=some (dct true p.C (fnOf b.S)):=by rw[<- a];exact yx (by rw[a];exact h.toldn) (by omega)
 obtain⟨f,g,i,e⟩:=Yz (NC:=p.C) (S:=b.S) (X:=jx p false x) (sv:=x.sv) (by rw[L0];omega) jj8 (a1:=some (jW false b)) (R:=b.R) (acc:=[]) (o4:=none) (o5:=none) (o6:=none) (λq j=>by rw[<- c];exact M5.mpr ⟨q,j,rfl⟩) (by simp;omega);rw[X8,List.map_nil] at e;have l:jd (jW false b) (.int 0)=some (.lst false (b.S.map e2)):=rfl;have m:jd (jW false b) (.int 2)=some (.lst false (b.R.map e2)):=rfl;have n:jd (jW false b) (.int 4)=some (.int b.z):=rfl;have s:∀ r:Rh,vw (VG 0 "sizes" (pV 0)) (some (jx p false x)::r)=some (.lst true ((sz' p.C x.sz).map e2)):=λr=>Jz (o:=false) rfl;have t:∀ r:Rh,vw (VG 0 "owed" (pV 0)) (some (jx p false x)::r)=some (.lst true ((sz' p.C x.ow).map e2)):=λr=>Jz (o:=false) rfl;have u:∀ r:Rh,vw (VG 0 "levels" (pV 0)) (some (jx p false x)::r)=some (.lst true ((sz' p.P x.lv).map e2)):=λr=>Jz (o:=false) rfl;show _=some (D.tup [.lst true ((sz' p.C x.sz).map e2),.lst true ((sz' p.C x.ow).map e2),.lst true ((qW b.S x.sv b.R).map e2),.lst true ((sz' p.P x.lv).map e2),.int b.z]);generalize jW false b=BK,jx p false x=X,dct true p.C (fnOf b.S)=DD at *;generalize(qW b.S x.sv b.R).map e2=RR at *;simp(disch:=first | omega | (simp;done) | (simp;omega)) [jH,jR,vO,l,m,n,d,jk,yN,e,s,t,u,jb,-vw]
theorem jh6{x:Fl}{i:Nat}{pe:PF}{ρ:Rh}{r:D}(a:pV i ρ=some (jx p true x))(b:pe ρ=some r):jhb i 0 "entries" "moves" pe ρ=some (.tup [.lst true (x.en.map e5),r,.lst true (x.mv.map eM)],ρ.set i none):=by
 rw[jhb,a,L3];have c:Qe (jx p true x)=some (0,NS,[.str p.nm,dct true p.P (fnOf p.marks),dct true p.C x.sz,dct true p.C x.ow,dct true p.P x.lv,dLn true x.ln,.int x.cash,dSv true (nub x.sv),.lst true (x.en.map e5),.lst true (x.mv.map eM)]):=rfl;rw[c,L3];dsimp only;rw[jmh,jl9,b];rfl
theorem KB(p:PoolS):frz (vd false p)=true:=by
 have a:=qL p.told;have b:=jk p.marks;have c:=Vk p.grds;have d:=YD p.ords;have e:=ju p.eats;simp[vd,frz,frzs,a,b,c,d,e]
theorem KJ{b:BkS}{ln:LN}(k:BkOk p b)(d:0<=c)(h1:c<=10 ^ 20):FlB (yf b c ln):=⟨d,h1,λw=>⟨jgh (λq a=>(k.w q a).1) w,Int.le_trans (jeN (B:=10 ^ 14) (by decide) (λq a=>(k.w q a).2) w) (by decide)⟩⟩
theorem twiceF_bd{Q:List W2}(h:FlB x):FlB (twiceF Q c x):=by unfold twiceF;split<;>exact⟨h.c0,h.c1,h.ow⟩
theorem Yx:∀{Q:List W2}{k:Nat}{A:List Int}{x:Fl},FlB x->(∀ a∈A,0<=a)->FlB (jy k Q A x)
 | [],_,_,x,h,_=>h
 | _::_,_,[],x,h,_=>h
 | q::Q,k,a::A,x,h,c=>by
  have c0:=h.c0;have c1:=h.c1;have g:=jdY (c a (by simp)) c0;rw[jy];exact Yx ⟨by show 0<=x.cash - got a x.cash;omega,by show x.cash - got a x.cash<=10 ^ 20;omega,h.ow⟩ λb d=>c b (by simp[d])
theorem Vh:∀(k:Nat) (Q:List W2) (A:List Int) (x:Fl),(jy k Q A x).sv=x.sv
 | _,[],_,x=>rfl
 | _,_::_,[],x=>rfl
 | k,q::Q,a::A,x=>by rw[jy,Vh];rfl
theorem twiceF_sv(Q:List W2)(c:Int)(x:Fl):(twiceF Q c x).sv=x.sv:=by unfold twiceF;split<;>rfl
theorem jeI(h:PoolOk p){o:OrdS}(B:o∈p.ords){b:BkS}(k:BkOk p b){ln:LN}(J:(ln.map (·.1)).Nodup)(t:ln.length<=1000)(e:0<=c)(K:c<=10 ^ 20) :
  Qf [vd false p,.str o.nm,jW false b,.int c,.lst false (ln.map eR)]=some (.tup [.lst true ((JH p o b c ln).en.map e5),jW true (jn p b (JH p o b c ln)),.lst true ((JH p o b c ln).mv.map eM)]):=by
 have en:=jdn h B;have a:=h.ords o B;have C:=jfE h k (c:=c) J t;have D:=jc2 (p:=p) (x:=yf b c ln) (Q:=o.parts) e (by show c<=2 ^ 900;omega) (λq l=>⟨(a.parts q l).2.1,(a.parts q l).2.2⟩) a.parts2 (U4 _);have l1:(yf b c ln).en.length=0:=rfl;have M:(yf b c ln).cash=c:=rfl;rw[M] at D;have l2:=ki 0 o.parts (je o.parts c).1 (yf b c ln);have l3:=twiceF_en o.parts c (jy 0 o.parts (je o.parts c).1 (yf b c ln));have pl:=a.parts2;have gl:=h.grds2;have N:(⟨fnOf b.S,fnOf b.W,fnOf b.L,ln,c,[],[],[]⟩:Fl)=yf b c ln:=rfl;rw[N] at C;unfold JH;generalize f:twiceF o.parts c (jy 0 o.parts (je o.parts c).1 (yf b c ln))=x1 at *;have O:x1.sv.length=0:=by rw[<- f,twiceF_sv,Vh];rfl
 have hR:=a.rules2;have P:FlB x1:=by rw[<- f];exact twiceF_bd (Yx (KJ k e K) (jag (λq l=>⟨(a.parts q l).2.1,(a.parts q l).2.2⟩) e))
 obtain⟨u,r,v⟩:=VW h (a0:=some (vd false p)) (a1:=some (.str o.nm)) (a2:=some (jW false b)) (a3:=some (.int c)) (a4:=some (.lst false (ln.map eR))) (a5:=some (yP o)) (a9:=none) (R:=o.rules) (s:=(o.parts.length:Int)) (x:=x1) (o7:=none) (o8:=none) a.rules P (by omega) (by omega);have l4:=(kK p (o.parts.length:Int) o.rules x1 a.rules).1;clear f;generalize qd p (o.parts.length:Int) o.rules x1=x2,yf b c ln=x0 at *;obtain⟨E,F,w⟩:=YM h (a0:=some (vd false p)) (a1:=some (.str o.nm)) (a2:=some (jW false b)) (a3:=some (.int c)) (a4:=some (.lst false (ln.map eR))) (a5:=some (yP o)) (a8:=r) (G:=p.grds) (s:=0) (x:=x2) (o7:=u) (o9:=none) h.grds (by omega);generalize yG 0 p.grds x2=x3 at *;have T:=jds (x:=x3) h k;have H:jd (yP o) (.int 1)=some (.lst false (o.parts.map e2)):=rfl;have U:jd (yP o) (.int 2)=some (.lst false (o.rules.map eRu)):=rfl;have V:jd (vd false p) (.int 6)=some (.lst false (p.grds.map eG)):=rfl;have d:=KB p;have X:=vB _ d;have Y:=vM o;have g:=Ym b;have y:=vB _ g;have I:=Jj (p:=p) (x:=x0) (m:=jP) (mn:="take_parts") (pa:=ja (pF (p2 jd (pV 5) (pC (.int 1)))) pN) (ρ:=[some (vd false p),some (.str o.nm),some (jW false b),some (.int c),some (.lst false (ln.map eR)),some (yP o),some (jx p true x0),none,none,none]) (i:=6) (ds:=[.lst false (o.parts.map e2)]) rfl (by simp[H,jk]) (by simp[jk]) (λ_ _ _ _ _ _ _ _ _ _=>rfl);rw[D,L3] at I;have z:=Yj o.rules;have A:=zR o.rules;have n:∀ ρ:Rh,ja (pF (p2 jd (pV 5) (pC (.int 2)))) pN ρ=some [.lst false (o.rules.map eRu)]->pCB kt (ja (p2 jd (pV 5) (pC (.int 1))) pN) ρ=some (.int (o.parts.length:Int))->jiI (ja (pF (p2 jd (pV 5) (pC (.int 2)))) pN) (pCB kt (ja (p2 jd (pV 5) (pC (.int 1))) pN)) ρ=some (J7 (o.parts.length:Int) (o.rules.map eRu)):=by
  intro ρ Z q2;unfold jiI;rw[Z,q2];show(bif Vw (o.parts.length:Int) then some (J7 _ (fzs (o.rules.map eRu))) else none)=_;rw[Qq (by omega) (by omega),A];rfl
 have h1:=n [some (vd false p),some (.str o.nm),some (jW false b),some (.int c),some (.lst false (ln.map eR)),some (yP o),some (jx p true x1),none,none,none] (by simp[U,z]) (by simp[H]);have mm:=jbn (p:=p) (x:=x3) (o:=true) (m:=jH) (mn:="book_behind") (po:=pV 6) (pa:=ja (pV 2) pN) (ρ:=[some (vd false p),some (.str o.nm),some (jW false b),some (.int c),some (.lst false (ln.map eR)),some (yP o),some (jx p true x3),E,r,F]) (ds:=[jW false b]) rfl (by simp) (λ_ _ _ _ _ _ _ _ _ _=>rfl) (by rw[show fzs [jW false b]=[jW false b] by rw[fzs,y];rfl];exact T) (JA _);have m3:=jh6 (p:=p) (x:=x3) (i:=6) (pe:=JF jH 0 "book_behind" (pV 6) (ja (pV 2) pN)) (ρ:=[some (vd false p),some (.str o.nm),some (jW false b),some (.int c),some (.lst false (ln.map eR)),some (yP o),some (jx p true x3),E,r,F]) rfl mm;have j:wL yK 0 (ja (pF (pV 0)) (ja (pF (pV 2)) (ja (pF (pV 3)) (ja (pF (pV 4)) pN)))) [some (vd false p),some (.str o.nm),some (jW false b),some (.int c),some (.lst false (ln.map eR)),some (yP o),none,none,none,none]=some (jx p true x0):=by
  rw[wL];have:ja (pF (pV 0)) (ja (pF (pV 2)) (ja (pF (pV 3)) (ja (pF (pV 4)) pN))) [some (vd false p),some (.str o.nm),some (jW false b),some (.int c),some (.lst false (ln.map eR)),some (yP o),none,none,none,none]=some [vd false p,jW false b,.int c,.lst false (ln.map eR)]:=by simp[d,g,JQ]
  rw[this,L3,C];simp[d,g,JQ]
 generalize jW true (jn p b x3)=BR,jW false b=BK,jx p true x3=X3,jx p true x2=X2,jx p true x1=X1,jx p true x0=X0,vd false p=PP,yP o=OO at *;simp[Qf,jR,jd8,en,X,d,Y,j,I,h1,v,V,Vk,wk,w,m3,-yS,-wL,-jhb,-JF]
end
noncomputable abbrev TN:List KA:=[.str [99,97,115,104],.str [115,105,122,101,115],.str [111,119,101,100],.str [108,101,118,101,108,115],.str [108,111,97,110,115],.str [109,97,114,107,115],.str [114,111,119,115],.str [109,111,118,101,115],.str [115,101,114,118,101,100]]
abbrev T9(o:Bool)(a0 a1 a2 a3 a4 a5 a6 a7 a8:D):D:=.dK o TN [a0,a1,a2,a3,a4,a5,a6,a7,a8]
section
variable {o:Bool}{a0 a1 a2 a3 a4 a5 a6 a7 a8 d:D}{ρ:Rh}{i:Nat}
theorem k0:jG (T9 o a0 a1 a2 a3 a4 a5 a6 a7 a8) (.str [99,97,115,104])=some a0:=rfl
theorem y2:Yn [111,119,101,100] jS (T9 true a0 a1 a2 a3 a4 a5 a6 a7 a8)=some (a2,λz=>T9 true a0 a1 z a3 a4 a5 a6 a7 a8):=rfl
theorem y3:Yn [108,101,118,101,108,115] jS (T9 true a0 a1 a2 a3 a4 a5 a6 a7 a8)=some (a3,λz=>T9 true a0 a1 a2 z a4 a5 a6 a7 a8):=rfl
theorem y6:Yn [114,111,119,115] jS (T9 true a0 a1 a2 a3 a4 a5 a6 a7 a8)=some (a6,λz=>T9 true a0 a1 a2 a3 a4 a5 z a7 a8):=rfl
theorem y8:Yn [115,101,114,118,101,100] jS (T9 true a0 a1 a2 a3 a4 a5 a6 a7 a8)=some (a8,λz=>T9 true a0 a1 a2 a3 a4 a5 a6 a7 z):=rfl
theorem jhD{pv:PF}{l:List D}(a:pV i ρ=some (T9 true a0 a1 a2 a3 a4 a5 a6 a7 (.lst true l)))(b:pv ρ=some d)(c:l.length<=1000) :
  yp i (Yn [115,101,114,118,101,100] jS) pv ρ=some (.nx (ρ.set i (some (T9 true a0 a1 a2 a3 a4 a5 a6 a7 (.lst true (l++[d])))))):=by
 rw[yp,b,L3,a,L3,y8,L3,Jr,L3,jb (by omega)];rfl
theorem xN{pv:PF}(a:pV i ρ=some (T9 true a0 a1 a2 a3 a4 a5 a6 a7 a8))(b:pv ρ=some d)(c:frz d=true) :
  jQ i jS (pC (.str [99,97,115,104])) pv ρ=some (.nx (ρ.set i (some (T9 true d a1 a2 a3 a4 a5 a6 a7 a8)))):=by
 rw[jQ,b,L3,a];show(bif lim 9&&(frz d||false) then _ else none)=_;rw[c];rfl
theorem YZ{ks:List KA}{l:List D}{pv:PF}{k:List Nat}(b:pV i ρ=some (.dK true ks l))(c:pv ρ=some d)(a:KA.str k∉ks)(f:lim ks.length=true) :
  jQ i jS (pC (.str k)) pv ρ=some (.nx (ρ.set i (some (.dK true (ks++[.str k]) (l++[d]))))):=by
 rw[jQ,c,L3,b];show(bif lim ks.length&&(frz d||!decide (KA.str k∈ks)) then some (Out.nx (ρ.set i (some (.dK true (v8 ks l (.str k) d).1 (v8 ks l (.str k) d).2)))) else none)=_;have e:v8 ks l (.str k) d=(ks++[.str k],l++[d]):=by unfold v8;rw[if_neg a]
 rw[f,X5 a,e];simp
theorem u9{L:Ln}{pk pv:PF}{t:D}{N:List (List Nat)}{f:List Nat->Int}{a:D->D}{v:Int}{w:List Nat}(b:pV i ρ=some t)(c:L t=some (dct true N f,a))(d:pk ρ=some (.str w))(e:pv ρ=some (.int v))(g:w∈N)(h:N.length<=1000) :
  jQ i L pk pv ρ=some (.nx (ρ.set i (some (a (dct true N (put f w v)))))):=by
 rw[jQ,e,L3,b,L3,c,L3,jc8,L3,d,L3,show vg (.str w)=some (.str w) from rfl,L3];dsimp only;rw[wv g,jb (by rw[L0];omega),show frz (.int v)=true from rfl];rfl
theorem jdx{pv:PF}{l:List D}(a:pV i ρ=some (T9 true a0 a1 a2 a3 a4 a5 (.lst true l) a7 a8))(b:pv ρ=some d)(c:l.length<=1000) :
  yp i (Yn [114,111,119,115] jS) pv ρ=some (.nx (ρ.set i (some (T9 true a0 a1 a2 a3 a4 a5 (.lst true (l++[d])) a7 a8)))):=by
 rw[yp,b,L3,a,L3,y6,L3,Jr,L3,jb (by omega)];rfl
theorem jap{c a:Int}:yU [T9 true (.int c) a1 a2 a3 a4 a5 a6 a7 a8,.int a]=some (.int (got a c),T9 true (.int (c - got a c)) a1 a2 a3 a4 a5 a6 a7 a8):=by
 have e:wm [.int a,.int c]=some (.int (got a c)):=rfl;generalize got a c=g at *;have b:=k0 (o:=true) (a0:=.int c) (a1:=a1) (a2:=a2) (a3:=a3) (a4:=a4) (a5:=a5) (a6:=a6) (a7:=a7) (a8:=a8);have s:=xN (ρ:=[some (T9 true (.int c) a1 a2 a3 a4 a5 a6 a7 a8),some (.int a),some (.int g)]) (i:=0) (d:=.int (c - g)) (pv:=p2 vb (p2 jG (pV 0) (pC (.str [99,97,115,104]))) (pV 2)) rfl (by generalize T9 true (.int c) a1 a2 a3 a4 a5 a6 a7 a8=X at *;simp[b]) rfl;generalize T9 true (.int (c - g)) a1 a2 a3 a4 a5 a6 a7 a8=Y,T9 true (.int c) a1 a2 a3 a4 a5 a6 a7 a8=X at *;simp[yU,kD,VC,b,e,s,Yo,-qJ]
end
def jt(p:PoolS)(o:Bool)(x:Fl):D:=T9 o (.int x.cash) (dct o p.C x.sz) (dct o p.C x.ow) (dct o p.P x.lv) (.lst false (x.ln.map eR)) (dct o p.P (fnOf p.marks)) (.lst o (x.en.map e5)) (.lst o (x.mv.map eM)) (.lst o (x.sv.map D.str))
section
variable {p:PoolS}{x:Fl}{c:Int}{ρ:Rh}{i:Nat}
theorem jak{pv:PF}{n:Int}(a:pV i ρ=some (jt p true x))(b:pv ρ=some (.int n)):jQ i jS (pC (.str [99,97,115,104])) pv ρ=some (.nx (ρ.set i (some (jt p true { x with cash:=n })))):=xN a b rfl
theorem KY{pv:PF}{e:En}(a:pV i ρ=some (jt p true x))(b:pv ρ=some (e5 e))(c:x.en.length<=1000):yp i (Yn [114,111,119,115] jS) pv ρ=some (.nx (ρ.set i (some (jt p true { x with en:=x.en++[e] })))):=by
 rw[jdx a b (by rw[L0];exact c),<- List.map_singleton,<- N4];rfl
theorem jkf{pk pv:PF}{w:List Nat}{v:Int}(a:pV i ρ=some (jt p true x))(b:pk ρ=some (.str w))(c:pv ρ=some (.int v))(d:w∈p.P)(e:p.P.length<=1000):jQ i (Yn [108,101,118,101,108,115] jS) pk pv ρ=some (.nx (ρ.set i (some (jt p true { x with lv:=put x.lv w v })))):=u9 a y3 b c d e
theorem jfy{pk pv:PF}{w:List Nat}{v:Int}(a:pV i ρ=some (jt p true x))(b:pk ρ=some (.str w))(c:pv ρ=some (.int v))(d:w∈p.C)(e:p.C.length<=1000):jQ i (Yn [111,119,101,100] jS) pk pv ρ=some (.nx (ρ.set i (some (jt p true { x with ow:=put x.ow w v })))):=u9 a y2 b c d e
theorem jkv{pv:PF}{w:List Nat}(a:pV i ρ=some (jt p true x))(b:pv ρ=some (.str w))(c:x.sv.length<=1000):yp i (Yn [115,101,114,118,101,100] jS) pv ρ=some (.nx (ρ.set i (some (jt p true { x with sv:=x.sv++[w] })))):=by
 rw[jhD a b (by rw[L0];exact c),<- List.map_singleton,<- N4];rfl
theorem jcb{a:Int}:yU [jt p true x,.int a]=some (.int (got a x.cash),jt p true { x with cash:=x.cash - got a x.cash }):=jap
theorem zo{o:Bool}:jG (jt p o x) (.str [99,97,115,104])=some (.int x.cash):=rfl
theorem jkj{o:Bool}:jG (jt p o x) (.str [115,105,122,101,115])=some (dct o p.C x.sz):=rfl
theorem jdi{o:Bool}:jG (jt p o x) (.str [111,119,101,100])=some (dct o p.C x.ow):=rfl
theorem jjg{o:Bool}:jG (jt p o x) (.str [108,101,118,101,108,115])=some (dct o p.P x.lv):=rfl
theorem jfd{o:Bool}:jG (jt p o x) (.str [114,111,119,115])=some (.lst o (x.en.map e5)):=rfl
theorem jls{o:Bool}:jG (jt p o x) (.str [109,111,118,101,115])=some (.lst o (x.mv.map eM)):=rfl
theorem jlo{o:Bool}:jG (jt p o x) (.str [115,101,114,118,101,100])=some (.lst o (x.sv.map D.str)):=rfl
theorem jaT(o:Bool):fz (jt p o x)=jt p false x:=by
 unfold jt;rw[fz];simp[fzs,jd6,fz,xO,xB,xL]
theorem jfR(h:PoolOk p){b:BkS}(k:BkOk p b){ln:LN}:JG [vd false p,jW false b,.int c,.lst false (ln.map eR)]=some (jt p true (yf b c ln)):=by
 have u:=h.marks2;obtain⟨v,w,_,x⟩:=k.len h;have a:=k.S;have e:=k.W;have f:=k.L;have g:yu [.lst false (p.marks.map e2)]=some (dct true p.P (fnOf p.marks)):=yx h.marksn (by omega);have i:yu [.lst false (b.S.map e2)]=some (dct true p.C (fnOf b.S)):=by rw[<- a];exact yx (by rw[a];exact h.toldn) (by omega)
 have j:yu [.lst false (b.W.map e2)]=some (dct true p.C (fnOf b.W)):=by rw[<- e];exact yx (by rw[e];exact h.toldn) (by omega)
 have l:yu [.lst false (b.L.map e2)]=some (dct true p.P (fnOf b.L)):=by rw[<- f];exact yx (by rw[f];exact h.marksn) (by omega)
 have m:jd (jW false b) (.int 0)=some (.lst false (b.S.map e2)):=rfl;have n:jd (jW false b) (.int 1)=some (.lst false (b.W.map e2)):=rfl;have o:jd (jW false b) (.int 3)=some (.lst false (b.L.map e2)):=rfl;have q:jd (vd false p) (.int 2)=some (.lst false (p.marks.map e2)):=rfl;have r:=JQ ln;show _=some (T9 true (.int c) (dct true p.C (fnOf b.S)) (dct true p.C (fnOf b.W)) (dct true p.P (fnOf b.L)) (.lst false (ln.map eR)) (dct true p.P (fnOf p.marks)) (.lst true []) (.lst true []) (.lst true []));generalize jW false b=BK,vd false p=PP,dct true p.P (fnOf p.marks)=a1,dct true p.C (fnOf b.S)=a2,dct true p.C (fnOf b.W)=a3,dct true p.P (fnOf b.L)=a4,ln.map eR=LL at *;have s:qk [some PP,some BK,some (.int c),some (.lst false LL),none]=some (.rt (T9 true (.int c) a2 a3 a4 (.lst false LL) a1 (.lst true []) (.lst true []) (.lst true [])) [some PP,some BK,some (.int c),some (.lst false LL),none]):=by
  unfold qk;apply sq (ρ':=[some PP,some BK,some (.int c),some (.lst false LL),some (.dK true [.str [99,97,115,104],.str [115,105,122,101,115],.str [111,119,101,100],.str [108,101,118,101,108,115]] [.int c,a2,a3,a4])]) (by
   have:jaM (xj (pC (.str [99,97,115,104])) (pF (pV 2)) (xj (pC (.str [115,105,122,101,115])) (pCB yu (ja (p2 jd (pV 1) (pC (.int 0))) pN)) (xj (pC (.str [111,119,101,100])) (pCB yu (ja (p2 jd (pV 1) (pC (.int 1))) pN)) (xj (pC (.str [108,101,118,101,108,115])) (pCB yu (ja (p2 jd (pV 1) (pC (.int 3))) pN)) prN)))) [some PP,some BK,some (.int c),some (.lst false LL),none]=some (.dK true [.str [99,97,115,104],.str [115,105,122,101,115],.str [111,119,101,100],.str [108,101,118,101,108,115]] [.int c,a2,a3,a4]):=by
    rw[zM];have t:xj (pC (.str [99,97,115,104])) (pF (pV 2)) (xj (pC (.str [115,105,122,101,115])) (pCB yu (ja (p2 jd (pV 1) (pC (.int 0))) pN)) (xj (pC (.str [111,119,101,100])) (pCB yu (ja (p2 jd (pV 1) (pC (.int 1))) pN)) (xj (pC (.str [108,101,118,101,108,115])) (pCB yu (ja (p2 jd (pV 1) (pC (.int 3))) pN)) prN))) [some PP,some BK,some (.int c),some (.lst false LL),none]=some ([.str [99,97,115,104],.str [115,105,122,101,115],.str [111,119,101,100],.str [108,101,118,101,108,115]],[.int c,a2,a3,a4]):=by
     simp[xj,prN,vg,m,n,o,i,j,l]
    rw[t];rfl
   simp[this,-zM])
  apply sq (by exact YZ (d:=.lst false LL) rfl (by simp[r]) (by decide) (by decide));apply sq (by exact YZ (d:=a1) rfl (by simp[q,g]) (by decide) (by decide));apply sq (by exact YZ (d:=.lst true []) rfl (by simp[lim]) (by decide) (by decide));apply sq (by exact YZ (d:=.lst true []) rfl (by simp[lim]) (by decide) (by decide));apply sq (by exact YZ (d:=.lst true []) rfl (by simp[lim]) (by decide) (by decide));rfl
 show(qk [some PP,some BK,some (.int c),some (.lst false LL),none]).bind Out.val=_;rw[s];rfl
theorem jlS:∀ Q:List W2,(Q.map λ_=>(0:Int)).sum=0
 | []=>rfl
 | q::Q=>by rw[L4,List.sum_cons,jlS Q];rfl
theorem tw_iff{Q:List W2}(d:∀ q∈Q,PtOk q)(a:0<=c):0 < (je Q c).2↔10 < (ts Q).sum/\0 < c:=by
 unfold je;by_cases h:10 < (ts Q).sum
 ·rw[if_pos h];show 0 < (ups c Q).sum - c↔_;have u:=jhH (P:=Q) (c:=c);by_cases b:0 < c
  ·have:c*11<=c*(ts Q).sum:=Int.mul_le_mul_of_nonneg_left (by omega) a;exact⟨λ_=>⟨h,b⟩,λ_=>by omega⟩
  ·have e:c=0:=by omega
   subst e;have:(ups 0 Q).sum=0:=by
    unfold ups;have:(Q.map λp=>(0*p.2+9) / 10)=Q.map λ_=>(0:Int):=List.map_congr_left λp _=>by rw[Int.zero_mul];rfl
    rw[this];exact jlS Q
   rw[this];exact⟨λz=>by omega,λz=>by omega⟩
 ·rw[if_neg h];exact⟨λz=>by omega,λz=>absurd z.1 h⟩
theorem YE{a1 a2:Option D}{B:List Int}:∀{Q:List W2}{A:List Int}{s:Nat}{x:Fl}{o4 o5:Option D},A=B.drop s->A.length=Q.length->x.en.length+Q.length<=900 ->
  ∃ o4' o5':Option D,j8 (gT 2 (gC (jc [0] 4) (gC (jc [0] 5) gN))) y4 (yc s (Q.map e2)) [some (jt p true x),a1,a2,some (.lst true (B.map D.int)),o4,o5]=some (.nx [some (jt p true (jy s Q A x)),a1,a2,some (.lst true (B.map D.int)),o4',o5'])
 | [],A,s,x,o4,o5,_,_,_=>⟨o4,o5,by rw[jy];rfl⟩
 | r::Q,[],s,x,o4,o5,_,f,_=>by simp at f
 | r::Q,a::A,s,x,o4,o5,b,f,i=>by
  rw[M0] at i;simp only[M0] at f;have d:s < B.length:=by
   by_cases h:s < B.length
   ·exact h
   ·rw[List.drop_eq_nil_of_le (by omega)] at b;cases b
  rw[List.drop_eq_getElem_cons d] at b;injection b with ha b;have j:jd (.lst true (B.map D.int)) (.int (s:Int))=some (.int a):=by
   rw[uD (by omega) (by rw[L0];omega),N7,List.getElem?_map,X9 d,ha];rfl
  have k:(JE s r a x).en.length=x.en.length+1:=by simp[JE]
  obtain⟨o4',o5',e⟩:=YE (a1:=a1) (a2:=a2) (B:=B) (Q:=Q) (A:=A) (s:=s+1) (x:=JE s r a x) (o4:=some (.int s)) (o5:=some (e2 r)) b (by omega) (by omega);refine⟨o4',o5',?_⟩;have l:jd (e2 r) (.int 0)=some (.str r.1):=rfl;rw[L4,yc,lpF ?_,e,jy];show y4 [some (jt p true x),a1,a2,some (.lst true (B.map D.int)),some (.int s),some (e2 r)]=_;unfold y4 we;have m:pV 0 [some (jt p true x),a1,a2,some (.lst true (B.map D.int)),some (.int s),some (e2 r)]=some (jt p true x):=rfl;rw[m,L3];unfold jt;rw[y6,L3,Jr,L3,jb (by rw[L0];omega),cond_true];refine jjC λz=>?_;have n:=jap (c:=x.cash) (a:=a) (a1:=dct true p.C x.sz) (a2:=dct true p.C x.ow) (a3:=dct true p.P x.lv) (a4:=.lst false (x.ln.map eR)) (a5:=dct true p.P (fnOf p.marks)) (a6:=.tok z) (a7:=.lst true (x.mv.map eM)) (a8:=.lst true (x.sv.map D.str));have o:=y6 (a0:=.int (x.cash - got a x.cash)) (a1:=dct true p.C x.sz) (a2:=dct true p.C x.ow) (a3:=dct true p.P x.lv) (a4:=.lst false (x.ln.map eR)) (a5:=dct true p.P (fnOf p.marks)) (a6:=.tok z) (a7:=.lst true (x.mv.map eM)) (a8:=.lst true (x.sv.map D.str));have q:(JE s r a x).en.map e5=x.en.map e5++[.tup [.int s,.str jfg,.str r.1,.int a,.int (got a x.cash)]]:=by simp[JE,e5]
  show _=some (Out.nx [some (T9 true (.int (x.cash - got a x.cash)) (dct true p.C x.sz) (dct true p.C x.ow) (dct true p.P x.lv) (.lst false (x.ln.map eR)) (dct true p.P (fnOf p.marks)) (.lst true ((JE s r a x).en.map e5)) (.lst true (x.mv.map eM)) (.lst true (x.sv.map D.str))),a1,a2,some (.lst true (B.map D.int)),some (.int s),some (e2 r)]);rw[q];generalize x.en.map e5=EE,B.map D.int=BB,e2 r=RR,got a x.cash=g at *;have t:jeT (.tok z)=some z:=rfl;dsimp only;generalize u:T9 true (.int x.cash) (dct true p.C x.sz) (dct true p.C x.ow) (dct true p.P x.lv) (.lst false (x.ln.map eR)) (dct true p.P (fnOf p.marks)) (.tok z) (.lst true (x.mv.map eM)) (.lst true (x.sv.map D.str))=X at *;generalize v:T9 true (.int (x.cash - g)) (dct true p.C x.sz) (dct true p.C x.ow) (dct true p.P x.lv) (.lst false (x.ln.map eR)) (dct true p.P (fnOf p.marks)) (.tok z) (.lst true (x.mv.map eM)) (.lst true (x.sv.map D.str))=Y at *;simp(disch:=first | omega | (simp;done) | (simp;omega)) [yw,jS,j,l,n,o,t,jb]
end
section
variable {p:PoolS}{x:Fl}{c:Int}
theorem jb8(l:List W2):yC (jc [] 0) qT (pF (p2 jd (pV 0) (pC (.int 1)))) (l.map e2) [none]=some ((ts l).map D.int):=by
 unfold ts;rw[U0];refine jE (l:=l) (en:=e2) rfl (λρ=>∃ o,ρ=[o]) ?_ ⟨none,rfl⟩;rintro x a ρ ⟨o,rfl⟩;exact⟨_,rfl,rfl,_,rfl⟩
theorem jbX{Q:List W2}(b:0<=c)(y:c<=2 ^ 900)(f:∀ q∈Q,PtOk q)(g:Q.length<=10)(C:x.en.length<=100) :
  yD [jt p true x,.lst false (Q.map e2),.int c]=some (.non,jt p true (twiceF Q c (jy 0 Q (je Q c).1 x))):=by
 have h:=zW (P:=Q) (c:=c) g f b y;have E:=xu (P:=Q) (c:=c);obtain⟨u,v,e⟩:=YE (p:=p) (a1:=some (.lst false (Q.map e2))) (a2:=some (.int c)) (B:=(je Q c).1) (Q:=Q) (A:=(je Q c).1) (s:=0) (x:=x) (o4:=none) (o5:=none) rfl E (by omega);have F:=ki 0 Q (je Q c).1 x;have j:=jk Q;have k:=yN Q;have J:=jfQ f;have c1:=jb8 Q;have l:=kU true (ts Q);have G:=kU true (je Q c).1;have m:lim (Q.map e2).length=true:=jb (by rw[L0];omega);have n:lim (yc 0 (Q.map e2)).length=true:=jb (by rw[yd,L0];omega);have o:=vz (je Q c).1;have r:=zw (je Q c).1;have w:=tw_iff f b;by_cases d:0 < (je Q c).2
 ·have a:=w.mp d;have H:=KY (p:=p) (x:=jy 0 Q (je Q c).1 x) (ρ:=[some (jt p true (jy 0 Q (je Q c).1 x)),some (.lst false (Q.map e2)),some (.int c),some (.lst true ((je Q c).1.map D.int)),u,v]) (i:=0) (pv:=vR (ja (p1 xi (pC (.int 1))) (ja (pC (.str [116,119,105,99,101])) (ja (pC (.str [])) (ja (pCB Yv (ja (pV 3) pN)) (ja (pF (pV 2)) pN)))))) (e:=⟨-1,KM,[],(je Q c).1.sum,c⟩) rfl (by simp[jb,e5]) (by omega);rw[twiceF,if_pos d];generalize jt p true { jy 0 Q (je Q c).1 x with en:=(jy 0 Q (je Q c).1 x).en++[⟨-1,KM,[],(je Q c).1.sum,c⟩] }=X2,jt p true (jy 0 Q (je Q c).1 x)=X1,jt p true x=X at *;generalize(je Q c).1.map D.int=AA at *;generalize(ts Q).map D.int=TT at *;generalize Q.map e2=QQ at *;simp[yD,kD,vJ,h,j,k,e,c1,l,a.1,a.2,H,m,n,o,r,jw,List.getElem?_cons_zero,Option.join,Yo,-yp,-vq]
 ·have a:=λz=>d (w.mpr z);rw[twiceF,if_neg d];generalize jt p true (jy 0 Q (je Q c).1 x)=X1,jt p true x=X at *;generalize(je Q c).1.map D.int=AA at *;generalize(ts Q).map D.int=TT at *;generalize Q.map e2=QQ at *;by_cases t:10 < (ts Q).sum
  ·have I:¬ 0 < c:=λz=>a ⟨t,z⟩;simp[yD,kD,vJ,h,j,k,e,c1,l,t,I,m,n,o,r,jw,List.getElem?_cons_zero,Option.join,Yo,-yp,-vq]
  ·simp[yD,kD,vJ,h,j,k,e,c1,l,t,m,n,o,r,jw,List.getElem?_cons_zero,Option.join,Yo,-yp,-vq]
theorem jcZ{pl:Int}{w:List Nat}(a:x.en.length<=1000):qr [jt p true x,.int pl,.str w]=some (.non,jt p true (jb4 pl w x)):=by
 have b:=zo (p:=p) (x:=x) (o:=true);have e:JO [some (jt p true x),some (.int pl),some (.str w),none]=some (.nx [some (jt p true (jb4 pl w x)),some (.int pl),some (.str w),some (.int x.cash)]):=by
  apply sq (ρ':=[some (jt p true x),some (.int pl),some (.str w),some (.int x.cash)]) (by generalize jt p true x=X at *;simp[b]);apply sq (by exact jak (x:=x) (n:=0) rfl rfl);exact KY (x:={ x with cash:=0 }) (e:=⟨pl,vH,w,x.cash,x.cash⟩) rfl (by simp[jb,e5]) a
 show(JO [some (jt p true x),some (.int pl),some (.str w),none]).bind (Yo 0)=_;rw[e];rfl
theorem jgS{pl:Int}{w:List Nat}(j:w∈p.C)(q:p.C.length<=1000)(d:x.en.length<=1000)(h:x.sv.length<=1000):Jw [jt p true x,.int pl,.str w]=some (.non,jt p true (jcO pl w x)):=by
 have r:=jdi (p:=p) (x:=x) (o:=true);have s:=vA (o:=true) (f:=x.ow) j;have t:=jcb (p:=p) (x:=x) (a:=x.ow w);unfold jcO;generalize got (x.ow w) x.cash=g at *;generalize u:x.ow w=nd at *
 let c:Fl:={ x with cash:=x.cash - g }
 let k:Fl:={ c with ow:=put x.ow w (nd - g) }
 let l:Fl:={ k with en:=x.en++[⟨pl,YG,w,nd,g⟩] }
 have b:∀ y:Fl,y.sv.length<=1000->(sIf (dPT (KW (ji (p2 v7 (pV 4) (pV 3))) (ji (p2 KQ (pV 3) (pC (.int 0)))))) (yp 0 (Yn [115,101,114,118,101,100] jS) (pF (pV 2))) jM) [some (jt p true (y)),some (.int pl),some (.str w),some (.int nd),some (.int g)]=some (.nx [some (jt p true (srv true g nd w y)),some (.int pl),some (.str w),some (.int nd),some (.int g)]):=λy z=>by
  have sv:=jkv (p:=p) (x:=y) (ρ:=[some (jt p true (y)),some (.int pl),some (.str w),some (.int nd),some (.int g)]) (i:=0) (pv:=pF (pV 2)) (w:=w) rfl (by simp) z;unfold srv;have A:jt p true (if true=true/\g=nd/\0 < nd then{ y with sv:=y.sv++[w] } else y)=if true=true/\g=nd/\0 < nd then jt p true { y with sv:=y.sv++[w] } else jt p true y:=by split<;>rfl
  rw[A];generalize jt p true { y with sv:=y.sv++[w] }=Y2,jt p true y=Y at *;by_cases m:g=nd
  ·subst m;by_cases n:0 < g
   ·simp[sv,n,-yp]
   ·simp[n,-yp]
  ·simp[m,-yp]
 have e:Vc [some (jt p true x),some (.int pl),some (.str w),none,none]=some (.nx [some (jt p true (srv true g nd w l)),some (.int pl),some (.str w),some (.int nd),some (.int g)]):=by
  apply sq (ρ':=[some (jt p true x),some (.int pl),some (.str w),some (.int nd),none]) (by generalize jt p true x=X at *;generalize dct true p.C x.ow=D1 at *;simp[r,s]);apply sq (ρ':=[some (jt p true c),some (.int pl),some (.str w),some (.int nd),some (.int g)]) (by show(yw yU 0 jS (ja (pF (pV 3)) pN) [some (jt p true x),some (.int pl),some (.str w),some (.int nd),none]).bind _=_;generalize jt p true x=X at *;generalize jt p true c=X1 at *;simp[yw,jS,t]);apply sq (by exact jfy (x:=c) (v:=nd - g) rfl rfl (by simp) j q);apply sq (by exact KY (x:=k) (e:=⟨pl,YG,w,nd,g⟩) rfl (by simp[jb,e5]) d);exact b l h
 show(Vc [some (jt p true x),some (.int pl),some (.str w),none,none]).bind (Yo 0)=_;rw[e];rfl
theorem zZ{r:Rh}{g:Int}{v:Nat}(c:pV v (some (jt p true x)::r)=some (.int g)):jQ 0 jS (pC (.str [99,97,115,104])) (p2 vb (p2 jG (pV 0) (pC (.str [99,97,115,104]))) (pV v)) (some (jt p true x)::r)=some (.nx (some (jt p true { x with cash:=x.cash - g })::r)):=by
 have d:=zo (p:=p) (x:=x) (o:=true);refine jak (x:=x) (n:=x.cash - g) (ρ:=some (jt p true x)::r) (i:=0) rfl ?_;show((((some (jt p true x)).bind λa=>((some (D.str [99,97,115,104])).bind λb=>jG a b))).bind λa=>(pV v (some (jt p true x)::r)).bind λb=>vb a b)=_;rw[c];show((jG (jt p true x) (.str [99,97,115,104])).bind λa=>vb a (.int g))=_;rw[d];rfl
theorem Y8(h:PoolOk p){pl:Int}{a2 a3 a4:Option D}:∀{T:List W3}{x:Fl}{o5 o6 o7:Option D},x.en.length+T.length<=950->ShOk x T->(∀ t∈T,t.1∈p.C) ->
  ∃ o5' o6' o7':Option D,j8 (gT 3 (gC (jc [0] 5) (gC (jc [0] 6) (gC (jc [0] 7) gN)))) kE (T.map eT) [some (jt p true x),some (.int pl),a2,a3,a4,o5,o6,o7]=some (.nx [some (jt p true (shL pl T x)),some (.int pl),a2,a3,a4,o5',o6',o7'])
 | [],x,o5,o6,o7,_,_,_=>⟨o5,o6,o7,rfl⟩
 | t::T,x,o5,o6,o7,f,b,c=>by
  have a:=c t (by simp);have i:=(b.eq t (by simp)).1;rw[M0] at f;have j:p.C.length<=1000:=by have:=h.told2;rw[L0];omega
  have n:(sh1 pl t x).en.length=x.en.length+1:=by simp[sh1]
  obtain⟨o5',o6',o7',e⟩:=Y8 h (pl:=pl) (a2:=a2) (a3:=a3) (a4:=a4) (T:=T) (x:=sh1 pl t x) (o5:=some (.str t.1)) (o6:=some (.int t.2.1)) (o7:=some (.int t.2.2)) (by omega) b.next (λk l=>c k (by simp[l]));refine⟨o5',o6',o7',?_⟩
  let d:Fl:={ x with ow:=put x.ow t.1 (x.ow t.1 - t.2.2) }
  let m:Fl:={ d with cash:=x.cash - t.2.2 }
  rw[L4,lpF ?_,e,shL];show kE [some (jt p true x),some (.int pl),a2,a3,a4,some (.str t.1),some (.int t.2.1),some (.int t.2.2)]=_;apply sq (by exact jfy (x:=x) (v:=x.ow t.1 - t.2.2) rfl rfl (by rw[<- i];simp) a j);apply sq (by exact zZ (x:=d) (v:=7) (g:=t.2.2) rfl);exact KY (x:=m) (e:=shE pl t) rfl (by simp[jb,e5,shE]) (by show x.en.length<=1000;omega)
theorem jiE{y:Fl}{ws:List (List Nat)}{r:Rh}(a:pV 2 (some (jt p true y)::r)=some (.tup (ws.map D.str)))(b:y.sv.length+ws.length<=1000):wJ 0 (pC (.str [115,101,114,118,101,100])) (pV 2) (some (jt p true y)::r)=some (.nx (some (jt p true { y with sv:=y.sv++ws })::r)):=by
 have e:jt p true { y with sv:=y.sv++ws }=T9 true (.int y.cash) (dct true p.C y.sz) (dct true p.C y.ow) (dct true p.P y.lv) (.lst false (y.ln.map eR)) (dct true p.P (fnOf p.marks)) (.lst true (y.en.map e5)) (.lst true (y.mv.map eM)) (.lst true (y.sv.map D.str++ws.map D.str)):=by rw[<- N4];rfl
 rw[e];unfold wJ;rw[show pC (.str [115,101,114,118,101,100]) (some (jt p true y)::r)=some (.str [115,101,114,118,101,100]) from rfl,L3,show vg (.str [115,101,114,118,101,100])=some (.str [115,101,114,118,101,100]) from rfl,L3,a,L3,show jbz (.tup (ws.map D.str))=some (ws.map D.str) by show(bif frzs (ws.map D.str) then _ else none)=_;rw[ju];rfl,L3];show(bif lim ((y.sv.map D.str).length+(ws.map D.str).length) then _ else none)=_;rw[jb (by rw[L0,L0];omega)];rfl
theorem uH(h:PoolOk p)(k:FlB x){pl:Int}{ws:List (List Nat)}(Q:ws.length<=10)(L:∀ w∈ws,w∈p.C)(nd:ws.Nodup)(R:x.en.length<=900)(S:x.sv.length<=900):yB [jt p true x,.int pl,.tup (ws.map D.str)]=some (.non,jt p true (VM pl ws x)):=by
 have c0:=k.c0;have c1:=k.c1;have q:=jlB k Q nd;have A:=jgN (ns:=ws.map x.ow) (c:=x.cash) (by rw[L0];omega) q.ns c0 (by omega) q.sum;have tl:=zD ws x;obtain⟨M,N,O,e⟩:=Y8 h (pl:=pl) (a2:=some (.tup (ws.map D.str))) (a3:=some (.lst false ((ws.map x.ow).map D.int))) (a4:=some (.lst false ((jh (ws.map x.ow) x.cash).map D.int))) (T:=shT ws x) (x:=x) (o5:=none) (o6:=none) (o7:=none) (by omega) q.ok (λt U=>L _ (by rw[<- q.t1];exact M5.mpr ⟨t,U,rfl⟩));have i:=jaL pl (shT ws x) x;have ex:=jiE (p:=p) (y:=shL pl (shT ws x) x) (ws:=ws) (r:=[some (.int pl),some (.tup (ws.map D.str)),some (.lst false ((ws.map x.ow).map D.int)),some (.lst false ((jh (ws.map x.ow) x.cash).map D.int)),M,N,O]) rfl (by rw[i];omega);have B:yC (jc [] 0) qT (pF (p2 jG (p2 jG (pV 1) (pC (.str [111,119,101,100]))) (pV 0))) (ws.map D.str) [none,some (jt p true x)]=some ((ws.map x.ow).map D.int):=by
  rw[U0];refine jE (en:=D.str) rfl (λρ=>∃ o,ρ=[o,some (jt p true x)]) ?_ ⟨none,rfl⟩;rintro r V ρ ⟨o,rfl⟩;have W:=jdi (p:=p) (x:=x) (o:=true);have Y:=vA (o:=true) (f:=x.ow) (L r V);refine⟨[some (.str r),some (jt p true x)],rfl,?_,_,rfl⟩;generalize jt p true x=X,dct true p.C x.ow=DD at *;simp[W,Y]
 have j:=zo (p:=p) (x:=x) (o:=true);have l:lim ws.length=true:=jb (by omega);have b:=uZ false false (jh (ws.map x.ow) x.cash) (ws.map x.ow);have E:=kU false (ws.map x.ow);have m:jle [.tup (ws.map D.str),.lst false ((ws.map x.ow).map D.int),.lst false ((jh (ws.map x.ow) x.cash).map D.int)]=some ((shT ws x).map eT):=by
  show(bif decide ((ws.map D.str).length<=((ws.map x.ow).map D.int).length)&&decide ((ws.map D.str).length<=((jh (ws.map x.ow) x.cash).map D.int).length) then some (qM (fzs (ws.map D.str)) (fzs ((ws.map x.ow).map D.int)) (fzs ((jh (ws.map x.ow) x.cash).map D.int))) else none)=_;have gl:=q.gl;have d1:decide ((ws.map D.str).length<=((ws.map x.ow).map D.int).length)=true:=X4 (by simp);have Z:decide ((ws.map D.str).length<=((jh (ws.map x.ow) x.cash).map D.int).length)=true:=X4 (by rw[L0,L0];omega);rw[d1,Z,j5,qc,qc,zE];rfl
 have n:shB ws x=(decide (0 < (ws.map x.ow).sum)&&decide (jh (ws.map x.ow) x.cash=ws.map x.ow)):=rfl;have s:VM pl ws x={ shL pl (shT ws x) x with sv:=if shB ws x=true then x.sv++ws else x.sv }:=rfl;rw[i] at ex;have F:=Yk (ws.map x.ow);have G:=qc (ws.map x.ow);have H:=Yk (jh (ws.map x.ow) x.cash);have I:=qc (jh (ws.map x.ow) x.cash);have J:=JI (jh (ws.map x.ow) x.cash);have gl2:lim (((ws.map x.ow).map D.int)).length=true:=jb (by rw[L0,L0];omega);by_cases g:0 < (ws.map x.ow).sum/\jh (ws.map x.ow) x.cash=ws.map x.ow
 ·have d:shB ws x=true:=by rw[n,X4 g.1,X4 g.2];rfl
  rw[s,if_pos d];have q1:=g.1;have P:=g.2;have a:v7 (.lst false ((jh (ws.map x.ow) x.cash).map D.int)) (.lst false ((ws.map x.ow).map D.int))=some (.bl true):=by rw[b,X4 P]
  clear s n d g q b P;generalize(shT ws x).map eT=TT at *;generalize jt p true { shL pl (shT ws x) x with sv:=x.sv++ws }=X2,jt p true (shL pl (shT ws x) x)=X1,jt p true x=X at *;generalize(jh (ws.map x.ow) x.cash).map D.int=GG at *;generalize u:(ws.map x.ow).sum=sm at *;generalize(ws.map x.ow).map D.int=NN at *;simp[yB,kD,ky,jw,List.getElem?_cons_zero,Option.join,B,j,l,A,a,E,F,G,H,I,J,q1,m,e,ex,Yo,ju,j5,-vq]
 ·have d:shB ws x=false:=by
   rw[n];by_cases z:0 < (ws.map x.ow).sum
   ·rw[X5 λy=>g ⟨z,y⟩,Bool.and_false]
   ·rw[X5 z,Bool.false_and]
  have K:({ shL pl (shT ws x) x with sv:=if shB ws x=true then x.sv++ws else x.sv }:Fl)=shL pl (shT ws x) x:=by
   rw[d];simp only[Bool.false_eq_true,if_false];rw[<- i]
  rw[s,K];by_cases v:jh (ws.map x.ow) x.cash=ws.map x.ow
  ·have z:¬ 0 < (ws.map x.ow).sum:=λy=>g ⟨y,v⟩;have a:v7 (.lst false ((jh (ws.map x.ow) x.cash).map D.int)) (.lst false ((ws.map x.ow).map D.int))=some (.bl true):=by rw[b,X4 v]
   clear s n d g q b v K;generalize(shT ws x).map eT=TT at *;generalize jt p true (shL pl (shT ws x) x)=X1,jt p true x=X at *;generalize(jh (ws.map x.ow) x.cash).map D.int=GG at *;generalize u:(ws.map x.ow).sum=sm at *;generalize(ws.map x.ow).map D.int=NN at *;simp[yB,kD,ky,jw,List.getElem?_cons_zero,Option.join,B,j,l,A,a,E,F,G,H,I,J,z,m,e,Yo,ju,j5,-vq]
  ·have a:v7 (.lst false ((jh (ws.map x.ow) x.cash).map D.int)) (.lst false ((ws.map x.ow).map D.int))=some (.bl false):=by rw[b,X5 v]
   clear s n d g q b v K;generalize(shT ws x).map eT=TT at *;generalize jt p true (shL pl (shT ws x) x)=X1,jt p true x=X at *;generalize(jh (ws.map x.ow) x.cash).map D.int=GG at *;generalize u:(ws.map x.ow).sum=sm at *;generalize(ws.map x.ow).map D.int=NN at *;simp[yB,kD,ky,jw,List.getElem?_cons_zero,Option.join,B,j,l,A,a,E,F,G,H,I,J,m,e,Yo,ju,j5,-vq]
theorem Vl(h:PoolOk p){a0 a2 a3 a4:Option D}{o:OrdS}:∀{R:List Ru}{s:Nat}{x:Fl}{o6 o7 o8:Option D},(∀ r∈R,RuOk p.C p.P r)->FlB x->x.en.length+10*R.length<=900->x.sv.length+10*R.length<=900 ->
  ∃ o6' o7' o8':Option D,j8 (gT 2 (gC (jc [] 6) (gC (jc [] 7) gN))) yX (yc s (R.map eRu)) [a0,some (yP o),a2,a3,a4,some (jt p true x),o6,o7,o8]=some (.nx [a0,some (yP o),a2,a3,a4,some (jt p true (qd p ((o.parts.length:Int)+(s:Int)) R x)),o6',o7',o8'])
 | [],s,x,o6,o7,o8,_,_,_,_=>⟨o6,o7,o8,rfl⟩
 | r::R,s,x,o6,o7,o8,l,m,g,i=>by
  rw[M0] at g i;have j:=l r (by simp);have q:=Kn p ((o.parts.length:Int)+(s:Int)) j x;have t:p.C.length<=1000:=by have:=h.told2;rw[L0];omega
  have E:p.P.length<=1000:=by have:=h.marks2;rw[L0];omega
  obtain⟨o6',o7',o8',e⟩:=Vl h (a0:=a0) (a2:=a2) (a3:=a3) (a4:=a4) (o:=o) (R:=R) (s:=s+1) (x:=vn p ((o.parts.length:Int)+(s:Int)) r x) (o6:=some (.int (s:Int))) (o7:=some (eRu r)) (o8:=some (.int ((o.parts.length:Int)+(s:Int)))) (λd hd=>l d (by simp[hd])) (xF j m) (by omega) (by omega);refine⟨o6',o7',o8',?_⟩;have u:(o.parts.length:Int)+((s+1:Nat):Int)=(o.parts.length:Int)+(s:Int)+1:=by omega
  rw[u] at e;have v:yX [a0,some (yP o),a2,a3,a4,some (jt p true x),some (.int (s:Int)),some (eRu r),o8]=some (.nx [a0,some (yP o),a2,a3,a4,some (jt p true (vn p ((o.parts.length:Int)+(s:Int)) r x)),some (.int (s:Int)),some (eRu r),some (.int ((o.parts.length:Int)+(s:Int)))]):=by
   have k:jd (yP o) (.int 1)=some (.lst false (o.parts.map e2)):=rfl;have lo:kt [.lst false (o.parts.map e2)]=some (.int (o.parts.length:Int)):=by simp
   cases j with
   | rest n =>
    rename_i w;have b:qr [jt p true x,.int ((o.parts.length:Int)+(s:Int)),.str w]=some (.non,jt p true (vn p ((o.parts.length:Int)+(s:Int)) (.one vH w) x)):=jcZ (by omega);have c:jd (eRu (.one vH w)) (.int 0)=some (.str vH):=rfl;have f:jd (eRu (.one vH w)) (.int 1)=some (.str w):=rfl;generalize  yP o=OO,jt p true (vn p ((o.parts.length:Int)+(s:Int)) (.one vH w) x)=X1,jt p true x=X,eRu (.one vH w)=RR,o.parts.map e2=QQ at *;simp[yX,k,lo,c,f,b,yw,jS,-yh]
   | pay n =>
    rename_i w;have b:Jw [jt p true x,.int ((o.parts.length:Int)+(s:Int)),.str w]=some (.non,jt p true (vn p ((o.parts.length:Int)+(s:Int)) (.one YG w) x)):=jgS n t (by omega) (by omega);have c:jd (eRu (.one YG w)) (.int 0)=some (.str YG):=rfl;have f:jd (eRu (.one YG w)) (.int 1)=some (.str w):=rfl;generalize  yP o=OO,jt p true (vn p ((o.parts.length:Int)+(s:Int)) (.one YG w) x)=X1,jt p true x=X,eRu (.one YG w)=RR,o.parts.map e2=QQ at *;simp[yX,k,lo,c,f,b,yw,jS,-yh]
   | share y z A =>
    rename_i a;have b:yB [jt p true x,.int ((o.parts.length:Int)+(s:Int)),.tup (a.map D.str)]=some (.non,jt p true (vn p ((o.parts.length:Int)+(s:Int)) (.many a) x)):=uH h m A z y (by omega) (by omega);have c:jd (eRu (.many a)) (.int 0)=some (.str qG):=rfl;have f:jd (eRu (.many a)) (.int 1)=some (.tup (a.map D.str)):=rfl;have B:=ju a;generalize yP o=OO,jt p true (vn p ((o.parts.length:Int)+(s:Int)) (.many a) x)=X1,jt p true x=X,eRu (.many a)=RR,o.parts.map e2=QQ at *;simp[yX,k,lo,c,f,b,B,yw,jS,-yh]
  rw[L4,yc,lpE ?_ v,e]
  ·rfl
  ·rfl
theorem JX(h:PoolOk p){a1:Option D}:∀{G:List WG}{s:Nat}{x:Fl}{o2 o3 o4 o5:Option D},(∀ g∈G,g.1∈p.P/\g.2∈p.C)->x.en.length+G.length<=900 ->
  ∃ o2' o3' o4' o5':Option D,j8 (gT 2 (gC (jc [0] 2) (gC (jc [0] 3) gN))) vF (yc s (G.map eG)) [some (jt p true x),a1,o2,o3,o4,o5]=some (.nx [some (jt p true (yG s G x)),a1,o2',o3',o4',o5'])
 | [],s,x,o2,o3,o4,o5,_,_=>⟨o2,o3,o4,o5,rfl⟩
 | g::G,s,x,o2,o3,o4,o5,a,b=>by
  rw[M0] at b;have n:(vN s g x).en.length=x.en.length+1:=by simp[vN]
  obtain⟨o2',o3',o4',o5',e⟩:=JX h (a1:=a1) (G:=G) (s:=s+1) (x:=vN s g x) (o2:=some (.int s)) (o3:=some (eG g)) (o4:=some (.int (x.ow g.2))) (o5:=some (.int (got (x.ow g.2) (x.lv g.1)))) (λg q=>a g (by simp[q])) (by omega);refine⟨o2',o3',o4',o5',?_⟩;have c:=(a g (by simp)).1;have d:=(a g (by simp)).2;have r:p.C.length<=1000:=by have:=h.told2;rw[L0];omega
  have t:p.P.length<=1000:=by have:=h.marks2;rw[L0];omega
  have i:jd (eG g) (.int 0)=some (.str g.1):=rfl;have j:jd (eG g) (.int 1)=some (.str g.2):=rfl;rw[L4,yc,lpF ?_,e,yG];show vF [some (jt p true x),a1,some (.int s),some (eG g),o4,o5]=_;have u:wm [.int (x.ow g.2),.int (x.lv g.1)]=some (.int (got (x.ow g.2) (x.lv g.1))):=rfl;unfold vN;generalize got (x.ow g.2) (x.lv g.1)=y at *
  let k:Fl:={ x with lv:=put x.lv g.1 (x.lv g.1 - y) }
  let w:Fl:={ k with ow:=put x.ow g.2 (x.ow g.2 - y) }
  have z:=jdi (p:=p) (x:=x) (o:=true);have A:=vA (o:=true) (f:=x.ow) d;have l:=jjg (p:=p) (x:=x) (o:=true);have m:=vA (o:=true) (f:=x.lv) c;apply sq (ρ':=[some (jt p true x),a1,some (.int s),some (eG g),some (.int (x.ow g.2)),o5]) (by generalize jt p true x=X at *;generalize dct true p.C x.ow=D1 at *;generalize eG g=GG at *;simp[z,A,j]);apply sq (ρ':=[some (jt p true x),a1,some (.int s),some (eG g),some (.int (x.ow g.2)),some (.int y)]) (by generalize jt p true x=X at *;generalize dct true p.P x.lv=D2 at *;generalize eG g=GG at *;simp[l,m,i,u,-qJ]);apply sq (by exact jkf (x:=x) (v:=x.lv g.1 - y) rfl rfl (by generalize jt p true x=X at *;generalize dct true p.P x.lv=D2 at *;generalize eG g=GG at *;simp[l,m,i]) c t);apply sq (by exact jfy (x:=k) (v:=x.ow g.2 - y) rfl rfl (by simp) d r);exact KY (x:=w) (e:=⟨s,xV,g.2,x.ow g.2,y⟩) rfl (by simp[jb,e5,j]) (by show x.en.length<=1000;omega)
theorem wQ(h:PoolOk p)(a:x.en.length<=800):vp [jt p true x,.lst false (p.grds.map eG)]=some (.non,jt p true (yG 0 p.grds x)):=by
 have l:=h.grds2;obtain⟨b,c,d,f,e⟩:=JX h (a1:=some (.lst false (p.grds.map eG))) (G:=p.grds) (s:=0) (x:=x) (o2:=none) (o3:=none) (o4:=none) (o5:=none) h.grds (by omega);have g:=Vk p.grds;have i:=wk p.grds;have j:lim (yc 0 (p.grds.map eG)).length=true:=jb (by rw[yd,L0];omega);have k:lim (p.grds.map eG).length=true:=jb (by rw[L0];omega);generalize jt p true x=X,jt p true (yG 0 p.grds x)=Y,p.grds.map eG=GG at *;simp[vp,kD,Jv,g,i,k,j,e,Yo]
end
section
variable {p:PoolS}{x:Fl}{c:Int}
theorem Ks{X:D}{k:List Nat}{o:Bool}{N:List (List Nat)}{f:List Nat->Int}(b:jG X (.str k)=some (dct o N f)){l:List W2}(a:l.map (·.1)=N):yC (gT 2 (gC (jc [] 0) (gC (jc [] 1) gN))) qT (vR (ja (pF (pV 0)) (ja (pF (p2 jG (p2 jG (pV 2) (pC (.str k))) (pV 0))) pN))) (l.map e2) [none,none,some X]=some ((sz' N f).map e2):=by
 have e:(sz' N f).map e2=l.map λq=>e2 (q.1,f q.1):=by rw[<- a];unfold sz';rw[U0,U0];rfl
 rw[e];refine jE (l:=l) (en:=e2) rfl (λρ=>∃ o c,ρ=[o,c,some X]) ?_ ⟨none,none,rfl⟩;rintro q d ρ ⟨h,i,rfl⟩;have g:=vA (o:=o) (f:=f) (show q.1∈N by rw[<- a];exact M5.mpr ⟨q,d,rfl⟩);refine⟨[some (.str q.1),some (.int q.2),some X],rfl,?_,_,_,rfl⟩;generalize dct o N f=DD at *;simp[b,g,jb,e2]
theorem VL{X BK:D}{sv:List (List Nat)}{S:List W2}{NC:List (List Nat)}(b:jG X (.str [115,101,114,118,101,100])=some (.lst false (sv.map D.str)))(c:jd BK (.int 0)=some (.lst false (S.map e2)))(d:yu [.lst false (S.map e2)]=some (dct true NC (fnOf S))):∀{R:List W2}{acc:List W2}{o3 o4 o5:Option D},(∀ q∈R,q.1∈NC)->acc.length+R.length<=1000 ->
  ∃ o3' o4' o5':Option D,j8 (gT 2 (gC (jc [] 3) (gC (jc [] 4) gN))) yg (R.map e2) [some X,some BK,some (.lst true (acc.map e2)),o3,o4,o5,none,none]=some (.nx [some X,some BK,some (.lst true ((acc++qW S sv R).map e2)),o3',o4',o5',none,none])
 | [],acc,o3,o4,o5,_,_=>⟨o3,o4,o5,by simp[qW]⟩
 | q::R,acc,o3,o4,o5,l,n=>by
  rw[M0] at n;have g:=jaW true false q.1 sv;have h:=vA (o:=true) (f:=fnOf S) (l q (by simp));have i:∃ o5':Option D,yg [some X,some BK,some (.lst true (acc.map e2)),some (.str q.1),some (.int q.2),o5,none,none]=some (.nx [some X,some BK,some (.lst true ((acc++[(q.1,if 0 < fnOf S q.1/\q.1∉sv then q.2+1 else 0)]).map e2)),some (.str q.1),some (.int q.2),o5',none,none]):=by
   generalize dct true NC (fnOf S)=DD,sv.map D.str=SS at *;by_cases j:0 < fnOf S q.1
   ·by_cases m:q.1∈sv
    ·exact⟨some (.bl false),by simp(disch:=first | omega | (simp;done) | (simp;omega)) [yg,c,d,h,b,g,j,m,jb,e2]⟩
    ·exact⟨some (.bl true),by simp(disch:=first | omega | (simp;done) | (simp;omega)) [yg,c,d,h,b,g,j,m,jb,e2]⟩
   ·exact⟨some (.bl false),by simp(disch:=first | omega | (simp;done) | (simp;omega)) [yg,c,d,h,b,g,j,jb,e2]⟩
  obtain⟨o5',k⟩:=i;obtain⟨o3',o4',a,e⟩:=VL b c d (R:=R) (acc:=acc++[(q.1,if 0 < fnOf S q.1/\q.1∉sv then q.2+1 else 0)]) (o3:=some (.str q.1)) (o4:=some (.int q.2)) (o5:=o5') (λr p=>l r (by simp[p])) (by simp;omega);refine⟨o3',o4',a,?_⟩;rw[L4,lpE ?_ k,e]
  ·rw[List.append_assoc];rfl
  ·rfl
def Kb(b:BkS):D:=.tup [.lst false (b.S.map e2),.lst false (b.W.map e2),.lst false (b.R.map e2),.lst true (b.L.map e2),.int b.z]
theorem uj(h:PoolOk p){b:BkS}(k:BkOk p b):vK [jt p false x,jW false b]=some (Kb (jn p b x)):=by
 have O:=h.told2;obtain⟨Q,T,U,V⟩:=k.len h;have c:=k.S;have o:=k.R;have r:yu [.lst false (b.S.map e2)]=some (dct true p.C (fnOf b.S)):=by rw[<- c];exact yx (by rw[c];exact h.toldn) (by omega)
 have f:jd (jW false b) (.int 0)=some (.lst false (b.S.map e2)):=rfl;have s:jd (jW false b) (.int 1)=some (.lst false (b.W.map e2)):=rfl;have t:jd (jW false b) (.int 2)=some (.lst false (b.R.map e2)):=rfl;have g:jd (jW false b) (.int 3)=some (.lst false (b.L.map e2)):=rfl;have i:jd (jW false b) (.int 4)=some (.int b.z):=rfl;obtain⟨u,v,w,e⟩:=VL (X:=jt p false x) (BK:=jW false b) (sv:=x.sv) (S:=b.S) (NC:=p.C) jlo f r (R:=b.R) (acc:=[]) (o3:=none) (o4:=none) (o5:=none) (λq y=>by rw[<- o];exact M5.mpr ⟨q,y,rfl⟩) (by simp;omega);rw[X8,List.map_nil] at e;have A:=Ks (X:=jt p false x) (jkj) c;have B:=Ks (X:=jt p false x) (jdi) k.W;have g3:=Ks (X:=jt p false x) (jjg) k.L;have E:lim (b.S.map e2).length=true:=jb (by rw[L0];omega);have F:lim (b.W.map e2).length=true:=jb (by rw[L0];omega);have j:lim (b.L.map e2).length=true:=jb (by rw[L0];omega);have G:lim (b.R.map e2).length=true:=jb (by rw[L0];omega);show _=some (D.tup [.lst false ((sz' p.C x.sz).map e2),.lst false ((sz' p.C x.ow).map e2),.lst false ((qW b.S x.sv b.R).map e2),.lst true ((sz' p.P x.lv).map e2),.int b.z]);have H:=jk b.S;have I:=jk b.W;have l:=jk b.L;have J:=jk b.R;have K:=yN b.R;have m:=jk (sz' p.C x.sz);have M:=yN (sz' p.C x.sz);have n:=jk (sz' p.C x.ow);have N:=yN (sz' p.C x.ow);have a:=jk (qW b.S x.sv b.R);have d:=yN (qW b.S x.sv b.R);generalize jW false b=BK,jt p false x=X at *;generalize(qW b.S x.sv b.R).map e2=RR at *;generalize(sz' p.C x.sz).map e2=Z1 at *;generalize(sz' p.C x.ow).map e2=Z2 at *;generalize(sz' p.P x.lv).map e2=Z3 at *;generalize b.S.map e2=Y1,b.W.map e2=Y2,b.L.map e2=Y3,b.R.map e2=Y4 at *;simp(disch:=first | omega | (simp;done) | (simp;omega)) [vK,jR,JV,f,s,t,g,i,e,A,B,g3,E,F,j,G,H,I,l,J,K,m,M,n,N,a,d,fz,fzs,jw,List.getElem?_cons_zero,Option.join,jb,-vR];simp(disch:=first | omega | (simp;done) | (simp;omega)) [g,i,g3,j,l,m,n,a,jw,List.getElem?_cons_zero,Option.join,jb]
end
section
variable {p:PoolS}{c:Int}
theorem jjb(h:PoolOk p){o:OrdS}(B:o∈p.ords){b:BkS}(k:BkOk p b){ln:LN}(d:0<=c)(C:c<=10 ^ 20) :
  Jh [vd false p,yP o,jW false b,.int c,.lst false (ln.map eR)]=some (.tup [.lst false ((JH p o b c ln).en.map e5),Kb (jn p b (JH p o b c ln)),.lst false ((JH p o b c ln).mv.map eM)]):=by
 have a:=h.ords o B;have D:=jfR h k (c:=c) (ln:=ln);have E:=jbX (p:=p) (x:=yf b c ln) (c:=c) (Q:=o.parts) d (by omega) (λq e=>⟨(a.parts q e).2.1,(a.parts q e).2.2⟩) a.parts2 (U4 _);have Y:(yf b c ln).en.length=0:=rfl;have Z:=ki 0 o.parts (je o.parts c).1 (yf b c ln);have l3:=twiceF_en o.parts c (jy 0 o.parts (je o.parts c).1 (yf b c ln));have pl:=a.parts2;have gl:=h.grds2;unfold JH;have F:FlB (twiceF o.parts c (jy 0 o.parts (je o.parts c).1 (yf b c ln))):=twiceF_bd (Yx (KJ k d C) (jag (λq e=>⟨(a.parts q e).2.1,(a.parts q e).2.2⟩) d));have G:(twiceF o.parts c (jy 0 o.parts (je o.parts c).1 (yf b c ln))).sv.length=0:=by rw[twiceF_sv,Vh];rfl
 generalize twiceF o.parts c (jy 0 o.parts (je o.parts c).1 (yf b c ln))=x1 at *;have hR:=a.rules2;obtain⟨H,I,J,f⟩:=Vl h (a0:=some (vd false p)) (a2:=some (jW false b)) (a3:=some (.int c)) (a4:=some (.lst false (ln.map eR))) (o:=o) (R:=o.rules) (s:=0) (x:=x1) (o6:=none) (o7:=none) (o8:=none) a.rules F (by omega) (by omega);rw[show(o.parts.length:Int)+((0:Nat):Int)=(o.parts.length:Int) by omega] at f;have l4:=(kK p (o.parts.length:Int) o.rules x1 a.rules).1;generalize qd p (o.parts.length:Int) o.rules x1=x2 at *;have K:yF (jt p true (yf b c ln))=false \/ True:=.inr trivial;generalize yf b c ln=x0 at *;have L:=wQ (p:=p) (x:=x2) h (by omega);generalize yG 0 p.grds x2=x3 at *;have M:=uj (x:=x3) h k;have N:jd (yP o) (.int 1)=some (.lst false (o.parts.map e2)):=rfl;have O:jd (yP o) (.int 2)=some (.lst false (o.rules.map eRu)):=rfl;have P:jd (vd false p) (.int 6)=some (.lst false (p.grds.map eG)):=rfl;have l:=Yj o.rules;have m:=zR o.rules;have g:lim (o.rules.map eRu).length=true:=jb (by rw[L0];omega);have n:lim (yc 0 (o.rules.map eRu)).length=true:=by rw[yd];exact g
 have i:=KB p;have S:=vB _ i;have T:=vM o;have j:=Ym b;have r:=vB _ j;have t:=JQ ln;have u:=xL ln;have U:=Vk p.grds;have v:=jk o.parts;have A:=jaT (p:=p) (x:=x3) true;have w:=jaT (p:=p) (x:=x3) false;have V:frz (jt p false x3)=true:=by rw[<- A];exact jay _
 have W:=jfd (p:=p) (x:=x3) (o:=false);have X:=jls (p:=p) (x:=x3) (o:=false);have y:=zq x3.en;have z:=jb2 x3.mv;generalize Kb (jn p b x3)=BR,jW false b=BK,jt p true x3=X3,jt p false x3=X3f,jt p true x2=X2,jt p true x1=X1,jt p true x0=X0,vd false p=PP,yP o=OO,o.parts.map e2=QQ,p.grds.map eG=GG,o.rules.map eRu=RU,ln.map eR=LL,x3.en.map e5=EE,x3.mv.map eM=MM at *;simp[Jh,jR,K6,D,S,i,T,j,r,t,u,U,v,N,O,l,m,g,n,P,E,f,L,A,w,V,W,X,y,z,M,yw,jS,jb]
end
def alk(n:Nat)(d:D):Prop:=jU n [d,d]=some (.bl true)
theorem YV(n:Nat)(i:Int):alk (n+1) (.int i):=by
 unfold alk jU;have a:uC (.int i) .non=some (.bl false):=rfl;simp[jR,vG,zC,a]
theorem xy{n:Nat}{d:D}{l:List D}(m:∀(i:Nat) (x:D),l[i]?=some x->jd d (.int (0+(i:Int)))=some x)(j:frzs l=true)(h:∀ x∈l,alk n x):∃ o2,j8 (jc [] 2) (vo (jU n)) (vm 0 l.length) [some d,some d,none]=some (.nx [some d,some d,o2]):=by
 obtain⟨p,e,o2,rfl⟩:=j7 (G:=jc [] 2) (f:=vo (jU n)) (xs:=vm 0 l.length) (λi ρ=>∃ o2,ρ=[some d,some d,o2]) (by
  rintro i x ρ a ⟨o2,rfl⟩;obtain⟨rfl,hi⟩:=vh a;have o:l[i]?=some l[i]:=X9 hi;have b:=m i _ o;have k:=List.getElem_mem hi;have c:fz l[i]=l[i]:=vB _ (by rw[Yh] at j;exact List.all_eq_true.mp j _ k);have g:jU n [l[i],l[i]]=some (.bl true):=h _ k;refine⟨_,_,rfl,.inl ?_,some (.int (0+(i:Int))),rfl⟩;simp[vo,b,c,g,-Int.zero_add]) (ρ:=[some d,some d,none]) ⟨none,rfl⟩
 exact⟨o2,e⟩
theorem zk{n:Nat}{o:Bool}{l:List D}(c:frzs l=true)(g:l.length<=1000)(h:∀ x∈l,alk n x):alk (n+1) (.lst o l):=by
 unfold alk jU;obtain⟨k,e⟩:=xy (d:=.lst o l) (λi x b=>by rw[uD (by omega) (by have:=(L8.mp b).1;omega),show(0+(i:Int)).toNat=i by omega];exact b) c h;have f:uC (.lst o l) .non=some (.bl false):=rfl;have a:Va [.int (l.length:Int)]=some (vm 0 l.length):=by
  have:=yr (j:=(l.length:Int)) (by omega) (by omega);simpa using this
 simp[jR,vG,zC,f,a,e]
theorem Kc{n:Nat}{l:List D}(c:frzs l=true)(g:l.length<=1000)(h:∀ x∈l,alk n x):alk (n+1) (.tup l):=by
 unfold alk jU;obtain⟨k,e⟩:=xy (d:=.tup l) (λi x b=>by rw[jko (by omega) (by have:=(L8.mp b).1;omega),show(0+(i:Int)).toNat=i by omega];exact b) c h;have f:uC (.tup l) .non=some (.bl false):=rfl;have a:Va [.int (l.length:Int)]=some (vm 0 l.length):=by
  have:=yr (j:=(l.length:Int)) (by omega) (by omega);simpa using this
 simp[jR,vG,zC,f,a,e]
theorem Q4(n:Nat)(i:List Nat):alk (n+1) (.str i):=by
 unfold alk jU;have a:uC (.str i) .non=some (.bl false):=rfl;simp[jR,vG,zC,a]
theorem VT:∀(k:Nat) (G:List WG) (x:Fl),(yG k G x).en.length=x.en.length+G.length
 | _,[],x=>rfl
 | k,g::G,x=>by
  have:=VT (k+1) G (vN k g x);have e:(vN k g x).en.length=x.en.length+1:=by simp[vN]
  rw[yG,M0];omega
theorem VZ:∀(k:Nat) (G:List WG) (x:Fl),(yG k G x).mv=x.mv
 | _,[],x=>rfl
 | k,g::G,x=>by rw[yG,VZ];rfl
theorem YH:∀(k:Nat) (Q:List W2) (A:List Int) (x:Fl),(jy k Q A x).mv=x.mv
 | _,[],_,x=>rfl
 | _,_::_,[],x=>rfl
 | k,q::Q,a::A,x=>by rw[jy,YH];rfl
theorem jes{p:PoolS}{o:OrdS}{b:BkS}{c:Int}{ln:LN}(h:PoolOk p)(a:o∈p.ords):(JH p o b c ln).mv.length=0:=by
 unfold JH;rw[VZ,(kK p _ _ _ (h.ords o a).rules).2];unfold twiceF;split
 ·show(jy 0 o.parts (je o.parts c).1 (yf b c ln)).mv.length=0;rw[YH];rfl
 ·rw[YH];rfl
theorem jeB{p:PoolS}{o:OrdS}{b:BkS}{c:Int}{ln:LN}(h:PoolOk p)(a:o∈p.ords):(JH p o b c ln).en.length<=900:=by
 have d:=ki 0 o.parts (je o.parts c).1 (yf b c ln);have e:=twiceF_en o.parts c (jy 0 o.parts (je o.parts c).1 (yf b c ln));have f:(yf b c ln).en.length=0:=rfl;have pl:=(h.ords o a).parts2;have gl:=h.grds2;unfold JH;rw[VT];have g:=(h.ords o a).rules2;have:=(kK p (o.parts.length:Int) o.rules (twiceF o.parts c (jy 0 o.parts (je o.parts c).1 (yf b c ln))) (h.ords o a).rules).1;omega
theorem wa(n:Nat)(l:List W2)(a:l.length<=100):alk (n+3) (.lst false (l.map e2)):=by
 refine zk (jk l) (by rw[L0];omega) λd hd=>?_;obtain⟨q,_,rfl⟩:=M5.mp hd;refine Kc rfl (by simp) λd hd=>?_;simp only[M4,List.not_mem_nil,or_false] at hd;rcases hd with rfl | rfl
 ·exact Q4 _ _
 ·exact YV _ _
def jd3(x:Fl)(b:BkS):D:=.tup [.lst false (x.en.map e5),jW false b,.lst false (x.mv.map eM)]
theorem jc7{x:Fl}{b:BkS}(h1:x.en.length<=900)(h2:x.mv.length=0)(f:b.S.length<=10)(g:b.W.length<=10)(h:b.R.length<=10)(i:b.L.length<=10):yn [jd3 x b,jd3 x b]=some (.bl true):=by
 have e:x.mv=[]:=List.length_eq_zero_iff.mp h2;show alk 8 _;refine Kc (n:=7) (by have a:=zq x.en;have b':=Ym b;have c:=jb2 x.mv;simp[frzs,frz,a,b',c]) (by simp) λd hd=>?_;simp only[M4,List.not_mem_nil,or_false] at hd;rcases hd with rfl | rfl | rfl
 ·refine zk (n:=6) (zq x.en) (by rw[L0];omega) λd hd=>?_;obtain⟨q,_,rfl⟩:=M5.mp hd;refine Kc (n:=5) rfl (by simp) λd hd=>?_;simp only[M4,List.not_mem_nil,or_false] at hd;rcases hd with rfl | rfl | rfl | rfl | rfl
  ·exact YV _ _
  ·exact Q4 _ _
  ·exact Q4 _ _
  ·exact YV _ _
  ·exact YV _ _
 ·refine Kc (n:=6) (by simp[frzs,frz,jk]) (by simp) λd hd=>?_;simp only[M4,List.not_mem_nil,or_false] at hd;rcases hd with rfl | rfl | rfl | rfl | rfl
  ·exact wa 3 _ (by omega)
  ·exact wa 3 _ (by omega)
  ·exact wa 3 _ (by omega)
  ·exact wa 3 _ (by omega)
  ·exact YV _ _
 ·rw[e];exact zk (n:=6) rfl (by decide) λd hd=>by simp at hd
theorem Qj{a0 a1 a2 a3 a4 a5 a6 a7 a8 a9:Option D}:∀{l:List (List D)}{o:Option D},(∀ x∈l,x.length<=1000)->∃ o',j8 (jc [] 10) vD (l.map (D.lst true)) [a0,a1,a2,a3,a4,a5,a6,a7,a8,a9,o]=some (.nx [a0,a1,a2,a3,a4,a5,a6,a7,a8,a9,o'])
 | [],o,_=>⟨o,rfl⟩
 | x::l,o,h=>by
  obtain⟨o',e⟩:=Qj (a0:=a0) (a1:=a1) (a2:=a2) (a3:=a3) (a4:=a4) (a5:=a5) (a6:=a6) (a7:=a7) (a8:=a8) (a9:=a9) (l:=l) (o:=some (.lst true (x++[.int 7]))) λy a=>h y (by simp[a]);refine⟨o',?_⟩;have b:vD [a0,a1,a2,a3,a4,a5,a6,a7,a8,a9,some (.lst true x)]=some (.nx [a0,a1,a2,a3,a4,a5,a6,a7,a8,a9,some (.lst true (x++[.int 7]))]):=by
   have:=h x (by simp);simp(disch:=omega) [vD,jb]
  rw[L4,lpE ?_ b,e];rfl
theorem jaP{fe:FE}{g:D->Rh->Option Rh}{f:FS}{ρ a:Rh}{l:List D}(h:fe ρ=some (.lst true l,a)):w8 fe g f ρ=j8 g f l a:=by
 unfold w8;rw[h]
theorem jaq(b:BkS):vS [jW false b]=some (jW true b):=by
 have a:jd (jW false b) (.int 0)=some (.lst false (b.S.map e2)):=rfl;have c:jd (jW false b) (.int 1)=some (.lst false (b.W.map e2)):=rfl;have d:jd (jW false b) (.int 2)=some (.lst false (b.R.map e2)):=rfl;have e:jd (jW false b) (.int 3)=some (.lst false (b.L.map e2)):=rfl;have f:jd (jW false b) (.int 4)=some (.int b.z):=rfl;show _=some (D.tup [.lst true (b.S.map e2),.lst true (b.W.map e2),.lst true (b.R.map e2),.lst true (b.L.map e2),.int b.z]);have g:=jk b.S;have h:=jk b.W;have i:=jk b.R;have j:=jk b.L;generalize jW false b=BB at *;simp[vS,jR,JZ,a,c,d,e,f,g,h,i,j,jb]
theorem jbc{p:PoolS}{b:BkS}(h:PoolOk p)(k:BkOk p b)(o:Bool)(n:Nat):okE (n+3) (jW o b)=true:=by
 have w:∀{l:List W2}{C:List (List Nat)},l.map (·.1)=C->(∀ c∈C,Wd c)->∀ q∈l,Wd q.1:=λe a q g=>a _ (e▸M5.mpr ⟨q,g,rfl⟩);have d:∀ c∈p.C,Wd c:=λc a=>by obtain⟨t,f,rfl⟩:=M5.mp a;exact(h.told t f).w
 have i:∀ c∈p.P,Wd c:=λc a=>by obtain⟨t,f,rfl⟩:=M5.mp a;exact(h.marks t f).1
 have j:okE (n+2) (.lst o (b.S.map e2))=true:=YK (w k.S d) n;have m:okE (n+2) (.lst o (b.W.map e2))=true:=YK (w k.W d) n;have r:okE (n+2) (.lst o (b.R.map e2))=true:=YK (w k.R d) n;have s:okE (n+2) (.lst o (b.L.map e2))=true:=YK (w k.L i) n;show kI (n+2) [.lst o (b.S.map e2),.lst o (b.W.map e2),.lst o (b.R.map e2),.lst o (b.L.map e2),.int b.z]=true;simp[kI,j,m,r,s]
theorem jiL{zs:List Int}(c:Int)(hz:zs.length<=100):Jl [.lst false (zs.map D.int),.int c]=some (.bl true):=by
 obtain⟨ns,M,hl,I,J⟩:=xr c (many:=12) (by decide) (by decide);have en:jV [.int c,.int 12]=some (.lst true (ns.map D.str)):=M;obtain⟨p,ep,h,N⟩:=jgU hz en hl I J;have em:=yo (c:=c) (k:=2) (by decide) (by decide);have m0:=ve c 2;generalize kg c 2=m at em m0;have o2:=h.ord2;have s:(m % 2).toNat < p.ords.length:=by omega
 have eo:jd (.lst false (p.ords.map yP)) (.int (m % 2))=some (yP p.ords[(m % 2).toNat]):=by
  rw[uD (by omega) (by rw[L0];omega),List.getElem?_map,X9 s];rfl
 have t:=List.getElem_mem s;generalize p.ords[(m % 2).toNat]=o at eo t;obtain⟨b,eb,k⟩:=jgd (c:=c) h;have hd:ns.drop 10 ⊆ ns:=λw I=>List.mem_of_mem_drop I;have O:(yM ns (some 10) none).Nodup:=uq J;have q:yM ns (some 10) none=ns.drop 10:=wU ns (by decide);have Q:p.nm∉yM ns (some 10) none:=by
  rw[q,N];intro z;obtain⟨a,l,rfl⟩:∃ a l,ns=a::l:=by cases ns with | nil=>simp at hl | cons a l=>exact⟨a,l,rfl⟩
  rw[List.nodup_cons] at J;exact J.1 (List.mem_of_mem_drop (show a∈List.drop 9 l from z))
 obtain⟨ln,el,l1,l2,l3⟩:=jdc (c:=c) (p:=p) Q O (by rw[q,List.length_drop];omega);have es:=jaD true ns (some 10) none;obtain⟨v,ev,v0,v1⟩:=jeF (c:=c) h k;have ec:=jaq b;have ef:=jeI h t k (ln:=ln) l1 (by omega) v0 v1;have ed:=jjb h t k (ln:=ln) v0 v1;have fe:=jeB (b:=b) (c:=v) (ln:=ln) h t;have fm:=jes (p:=p) (o:=o) (b:=b) (c:=v) (ln:=ln) h t;obtain⟨lS,lW,lR,lV⟩:=k.len h;have t2:=h.told2;have m2:=h.marks2;generalize JH p o b v ln=x at *;have ea:=jc7 (x:=x) (b:=jn p b x) fe fm (by show(sz' p.C x.sz).length<=10;simp[sz'];omega) (by show(sz' p.C x.ow).length<=10;simp[sz'];omega) (by show(qW b.S x.sv b.R).length<=10;simp[qW];omega) (by show(sz' p.P x.lv).length<=10;simp[sz'];omega);have T:fz (vd true p)=vd false p:=by
  have i:=QC p.told;have j:=yN p.marks;have n:=wk p.grds;have a4:=xn p.ords;have a5:=j5 p.eats;simp[vd,fz,fzs,i,j,n,a4,a5]
 have u:=KB p;have fp:=vB _ u;have fo:=vM o;have U:=vB _ fo;have A:=Ym b;have B:=vB _ A;have E:=jba true b;have V:=JA b;have X:=JQ ln;have F:=xL ln;have Y:=jbt ln;have j4:jd (vd false p) (.int 4)=some (.lst false (p.ords.map yP)):=rfl;have i0:jd (yP o) (.int 0)=some (.str o.nm):=rfl;have b1:=ju (yM ns (some 10) none);have b2:=j5 (yM ns (some 10) none);have c3:jO (ns.map D.str)=true:=Ja _;have fsc:=vz zs;have Z:=qj zs;have fk:kdD=.lst false [.str qG,.str qG,.str YG]:=rfl;have f1:fz (.tup [.lst true (x.en.map e5),jW true (jn p b x),.lst true (x.mv.map eM)])=jd3 x (jn p b x):=by
  have i:=xO x.en;have j:=xB x.mv;have n:=jba true (jn p b x);simp[jd3,fz,fzs,i,j,n]
 have f2:fz (.tup [.lst false (x.en.map e5),Kb (jn p b x),.lst false (x.mv.map eM)])=jd3 x (jn p b x):=by
  have i:=xO x.en;have j:=xB x.mv;have n:fz (Kb (jn p b x))=jW false (jn p b x):=by simp[Kb,jW,fz,fzs,yN]
  simp[jd3,fz,fzs,i,j,n]
 have f3:yF (.tup [.lst true (x.en.map e5),jW true (jn p b x),.lst true (x.mv.map eM)])=true:=by
  have i:jO (x.en.map e5)=true:=qe λd hd=>by obtain⟨p,_,rfl⟩:=M5.mp hd;rfl
  have j:jO (x.mv.map eM)=true:=qe λd hd=>by obtain⟨p,_,rfl⟩:=M5.mp hd;rfl
  have n:=JA (jn p b x);simp[yF,jO,i,j,n]
 have f4:frz (jd3 x (jn p b x))=true:=by rw[<- f1];exact jay _
 have f5:=vB _ f4;have hne:KH (.lst true [jW true b,.lst true (ln.map eR)]) (.lst true [jW false b,.lst false (ln.map eR)])=some (.bl false):=by
  have kR:kI 18 (ln.map eR)=true:=jam λd hd=>by
   obtain⟨r,hr,rfl⟩:=M5.mp hd;obtain⟨⟨w,hwm,hk⟩,_⟩:=l3 r hr;have ww:Wd w:=I w (q▸hwm|>List.mem_of_mem_drop);have wn:Wd p.nm:=h.nm;have w1:Wd r.1.1/\Wd r.1.2:=by rcases hk with e | e<;>rw[e]<;>exact⟨by assumption,by assumption⟩
   show kI 17 [.str r.1.1,.str r.1.2,.int r.2]=true;simp[kI,zm w1.1.2,zm w1.2.2]
  have q1:=jbc h k true 16;have q2:=jbc h k false 16;refine jfB ?_ ?_ ?_
  ·show(okE 19 (jW true b)&&(kI 18 (ln.map eR)&&true))=true;rw[q1,kR];rfl
  ·show(okE 19 (jW false b)&&(kI 18 (ln.map eR)&&true))=true;rw[q2,kR];rfl
  ·simp[fz,fzs,E,B,F]
 obtain⟨o10,et⟩:=Qj (a0:=some (.lst false (zs.map D.int))) (a1:=some (.int c)) (a2:=some (vd false p)) (a3:=some (yP o)) (a4:=some (jW false b)) (a5:=some (.lst false (ln.map eR))) (a6:=some (.int v)) (a7:=some (.lst true [jW true b,.lst true (ln.map eR)])) (a8:=some (.tup [.dead,.tup [.dead,.dead,.dead,.dead,.int (jn p b x).z],.dead])) (a9:=some (.tup [.lst false (x.en.map e5),Kb (jn p b x),.lst false (x.mv.map eM)])) (l:=[x.en.map e5,(jn p b x).S.map e2,(jn p b x).W.map e2,(jn p b x).R.map e2,(jn p b x).L.map e2,x.mv.map eM]) (o:=none) (by
  intro y hy;have z1:(sz' p.C x.sz).length<=10:=by simp[sz'];omega
  have z2:(sz' p.C x.ow).length<=10:=by simp[sz'];omega
  have z3:(qW b.S x.sv b.R).length<=10:=by simp[qW];omega
  have z4:(sz' p.P x.lv).length<=10:=by simp[sz'];omega
  simp only[M4,List.not_mem_nil,or_false,jn] at hy;rcases hy with rfl | rfl | rfl | rfl | rfl | rfl<;>rw[L0]<;>omega)
 have G:∀ K:Option D,jjV (vj (wd 8 (lIx 0 jS)) (vj (wd 8 (lIx 0 (lIx 1 jS))) (vj (wd 8 (lIx 1 (lIx 1 jS))) (vj (wd 8 (lIx 2 (lIx 1 jS))) (vj (wd 8 (lIx 3 (lIx 1 jS))) (vj (wd 8 (lIx 2 jS)) jg9)))))) [some (.lst false (zs.map D.int)),some (.int c),some (vd false p),some (yP o),some (jW false b),some (.lst false (ln.map eR)),some (.int v),some (.lst true [jW true b,.lst true (ln.map eR)]),some (.tup [.lst true (x.en.map e5),jW true (jn p b x),.lst true (x.mv.map eM)]),K,none]=some (.lst true ([x.en.map e5,(jn p b x).S.map e2,(jn p b x).W.map e2,(jn p b x).R.map e2,(jn p b x).L.map e2,x.mv.map eM].map (D.lst true)),[some (.lst false (zs.map D.int)),some (.int c),some (vd false p),some (yP o),some (jW false b),some (.lst false (ln.map eR)),some (.int v),some (.lst true [jW true b,.lst true (ln.map eR)]),some (.tup [.dead,.tup [.dead,.dead,.dead,.dead,.int (jn p b x).z],.dead]),K,none]):=λK=>rfl;have H:=jaP (g:=jc [] 10) (f:=vD) (G (some (.tup [.lst false (x.en.map e5),Kb (jn p b x),.lst false (x.mv.map eM)])));rw[et] at H;clear et G;generalize D.tup [.dead,.tup [.dead,.dead,.dead,.dead,.int (jn p b x).z],.dead]=DD,D.tup [.lst true (x.en.map e5),jW true (jn p b x),.lst true (x.mv.map eM)]=F1,D.tup [.lst false (x.en.map e5),Kb (jn p b x),.lst false (x.mv.map eM)]=F2,jd3 x (jn p b x)=F3,jW true b=BT,jW false b=BF,vd true p=PT,vd false p=PF',yP o=OO,p.ords.map yP=OS at *;generalize(yM ns (some 10) none).map D.str=CC at *;generalize ns.map D.str=NN,ln.map eR=LL,zs.map D.int=ZZ at *;have h7a:jd (.lst true [BT,.lst true LL]) (.int 0)=some BT:=rfl;have h7b:jd (.lst true [BT,.lst true LL]) (.int 1)=some (.lst true LL):=rfl;simp(disch:=first | omega | (simp;done) | (simp;omega)) [Jl,jR,KN,ep,T,em,jD,j4,eo,fo,U,eb,en,es,el,ev,ec,ef,ed,ea,fp,u,A,B,E,V,X,F,Y,i0,b1,b2,c3,fsc,Z,f1,f2,f3,f4,f5,H,hne,h7a,h7b,fz,fzs,frz,frzs,yF,jO,jb]
theorem jeR(ns:List Int)(g:ns.length<=63):∃ s:Int,qw [.lst false (ns.map D.int)]=some (.int s):=by
 obtain⟨h,e,s,a,rfl,_⟩:=j7 (G:=jc [] 2) (f:=kP) (xs:=ns.map D.int) (λi ρ=>∃(s:Int) (a:Option D),ρ=[some (.lst false (ns.map D.int)),some (.int s),a]/\0<=s/\s < 2147483647) (by
  rintro i x ρ b ⟨s,a,rfl,s0,s1⟩;rw[List.getElem?_map] at b;obtain⟨y,j,rfl⟩:=Option.map_eq_some_iff.mp b;refine⟨_,_,rfl,.inl ?_,(s*1000003+y+1) % 2147483647,some (.int y),rfl,N9 _ (by decide),N8 _ (by decide)⟩;simp(disch:=omega) [kP,yJ,jD]) (ρ:=[some (.lst false (ns.map D.int)),some (.int 0),none]) ⟨0,none,rfl,by decide,by decide⟩
 have c:=vz ns;have d:=qj ns;refine⟨s,?_⟩;generalize ns.map D.int=NN at *;simp[qw,jR,Vx,c,d,e]
theorem jdj(ns:List Int)(h:ns.length<=63)(o:∀ x∈ns,Builtin.Int.intBits x<=2 ^ 20):wM [.lst false (ns.map D.int)]=some (.bl true):=by
 obtain⟨s,j⟩:=jeR ns h;have d:=vz ns;have g:fzs (ns.map D.int)=ns.map D.int:=qj ns;obtain⟨p,e,a,rfl⟩:=j7 (G:=jc [] 2) (f:=xb) (xs:=vm 0 4) (λi ρ=>∃ a:Option D,ρ=[some (.lst false (ns.map D.int)),some (.int s),a]) (by
  rintro i x ρ l ⟨a,rfl⟩;obtain⟨rfl,hi⟩:=vh l;have m:=yo (c:=s) (k:=700+(0+(i:Int))) (by omega) (by omega);have n:=jiL (zs:=ns) (kg s (700+(0+(i:Int)))) (by omega);refine⟨_,_,rfl,.inl ?_,some (.int (0+(i:Int))),rfl⟩;generalize ns.map D.int=NN at *;simp[xb,m,n,fz,d,g,-Int.zero_add]) (ρ:=[some (.lst false (ns.map D.int)),some (.int s),none]) ⟨none,rfl⟩
 have b:Va [.int 4]=some (vm 0 4):=rfl;generalize ns.map D.int=NN at *;simp[wM,jR,jhw,j,fz,d,g,b,e,lim]
end K24
set_option maxHeartbeats 0
namespace K24
open PySem L2 QD
theorem all_mk{l:PySem.W.OpenLaw}{w:World}{K:PySem.W.Frag}{mg:Str->Option Value}{fa a:Addr}(hfa:mg "law" = some (.ref fa))(_:PySem.W.nsIn K mainGlobals "Fall" = some (some (.ref a)))(T:Txt l.prog w K mg λ_=>a):∃ fd:FuncData,(∀(s:Shared) (v:Value),BindsTo s fd ⟨[v],[]⟩ [("_law_script",v)])/\∀ base:Heap,K.In base->base.Ns mainGlobals mg->FnOk l.prog w K mg base CX0 10 fa fd ["_law_script"] (λvs H Q E=>∀ C:Addr,spP ⟨K,λ_=>C⟩ wM 1 vs H Q E):=by
 obtain⟨f',fd',F',G'⟩:=(jhJ T).2.2.2.2.2.2.2.2.2.2.2.2.2.2.2.2.2.2.2.2.2.2.2.2.2.2.2.2.2.2.2.2.2.2.2.2.2.2.2.2.2;cases hfa.symm.trans F'.mgf;obtain⟨⟨oc,od,kV,doc,pm,an,cdv,ct,osl,rfl,_,_⟩,_⟩:=F'.fn;exact⟨_,λs v=>.of_eq rfl,λbase _ _=>(G' base).imp λvs H Q E h=>h a⟩
theorem walk{l:PySem.W.OpenLaw}{q:Program}{loose:List Str}{XP:(Str->Option Value)->Heap->Prop}{YP:World->Heap->Prop}{d:DefRec}{K:Params->PySem.W.Frag}(hn:l.most=some 63)(hdf:d.params.defaults=[])
  (hY:∀(w:World) (h:Heap),YP w h->(K w.params).In h)
  (F:∀(w:World) (mg:Str->Option Value) (fa:Addr) (h:Heap),(K w.params).In h->h.Ns mainGlobals mg->mg d.name=some (.ref fa) ->
   ∃ fd:FuncData,(∀(s:Shared) (u:Value),BindsTo s fd ⟨[u],[]⟩ [("_law_script",u)])/\∀ base:Heap,(K w.params).In base->base.Ns mainGlobals mg->FnOk l.prog w (K w.params) mg base CX0 10 fa fd ["_law_script"] (λvs H Q E=>∀ C:Addr,spP ⟨K w.params,λ_=>C⟩ wM 1 vs H Q E)) :
  PySem.W.WalkO q loose XP YP l.row.toRowW d [] (λf vs=>PySem.call f vs) :=
 L2.walk_ofB (n:=63) (k:=10) (x:="_law_script") (CX:=λ_=>CX0) (sp:=λw=>(λvs H Q E=>∀ C:Addr,spP ⟨K w.params,λ_=>C⟩ wM 1 vs H Q E)) hn (by decide) hdf ⟨rfl,by decide,by decide⟩ hY F (λ_ H a ns hl hb _ hS=>λC=>jip (jdj ns hl hb) hS) λ_ _ _ _ _ z=>z
end K24
namespace PySem.W.Fast
def tw8760515184040993914:=0
def tw5272241703400294928:=0
def tw12018908200441191007:=0
def tw13980718027480913798:=0
def tw3811070985525628176:=0
def tw11012878658618552840:=0
def tw11180956385510337045:=0
def tw13747475262405875286:=0
def tw833005363371701908:=0
def tw13303344411994742594:=0
def tw14239900734655194363:=0
def tw12718072850546029923:=0
def tw5161360750605291985:=0
def tw7481777083579256620:=0
def tw13902296543775719070:=0
def tw13962763730544583165:=0
def tw12265424538794586878:=0
def tw10583581659619976810:=0
def tw13419881236485552213:=0
def tw16920894913904554822:=0
def tw7489272814769353659:=0
def tw14150043015445979322:=0
def tw18365297620721269741:=0
def tw3180885786317667351:=0
def tw13044208920592153725:=0
def tw5742621972210278220:=0
def tw9228757465666362531:=0
def tw248685130910206262:=0
def tw11633952301755144850:=0
def tw6056892876814507152:=0
def tw14289993897346885608:=0
def tw4031673126520734332:=0
def tw12647640493829818033:=0
def tw15572967875606265561:=0
def tw210928593866544745:=0
def tw8341046209222213399:=0
def tw6619763143702670600:=0
def tw1631502690252645066:=0
def tw4537728452201867951:=0
def tw2484306198795589986:=0
def tw10733723003444766920:=0
def tw10947698081126629080:=0
def tw4708971765336768785:=0
def tw5965578997345630681:=0
def tw5867777257346977263:=0
def tw16269872812162189609:=0
def tw3924849038749592094:=0
def tw3856758715583236809:=0
def tw11809039476709741729:=0
def tw17103672429558011823:=0
def tw14952038408810538525:=0
def tw5086806772001754866:=0
def tw6498488602352084536:=0
def tw4425108579625283159:=0
def tw18358422527779654319:=0
def tw14610993298059144730:=0
def tw7750195775883974372:=0
def tw15401046693009761122:=0
def tw1726025304418669894:=0
def tw14826130991757129060:=0
def tw4792174229386956815:=0
def tw9215630974831213294:=0
def tw3997902100830989673:=0
def tw4512312209032204366:=0
def tw6090195541468233513:=0
def tw18131127417872591516:=0
def tw7273815156539540495:=0
def tw18216689197606191073:=0
def tw15793752585660817167:=0
def tw15665490475985938167:=0
def tw18217489403347381730:=0
def tw4471581804412747415:=0
def tw9342158106085948121:=0
def tw18130981924025368719:=0
def tw13005718045482241857:=0
def tw14135406896314559562:=0
def tw12625356695986493581:=0
def tw11065263412623926824:=0
def tw6842460007580612868:=0
def tw17284340712955086782:=0
def tw11252696303551404724:=0
def tw7268269479132337406:=0
def tw9502780619986025072:=0
def tw8565855755029780363:=0
def tw4023983337927061289:=0
def tw13977986317736995847:=0
def tw2618747915642260854:=0
def tw12948465655725815414:=0
def tw397347087732045805:=0
def tw17342699429498674043:=0
def tw9298640430917950100:=0
def tw558261296857972134:=0
def tw2874813450965166355:=0
def tw17062930456297855229:=0
def tw14826212071186717273:=0
def tw4055667795406310308:=0
def tw4295563621130420004:=0
def tw442824148337601238:=0
def tw5672876836870140067:=0
def tw18413629776721894759:=0
def tw10881989588250892665:=0
def tw14002496147311735696:=0
def tw6505405847017158023:=0
def tw1361782275794118650:=0
end PySem.W.Fast
set_option maxHeartbeats 0
open PySem PySem.W PyProof.Rows
set_option maxRecDepth 100000 in
set_option maxHeartbeats 0 in
theorem PySem.Challenge.cw_tranchefall_k24_shares_in_a_fall_holds : PySem.Challenge.rw_tranchefall_k24_shares_in_a_fall.Holds := by
 w_on;o_law;k_head;(case hw=>w_witness2)
 k_fill
 refine K24.walk (l:=PySem.Challenge.rw_tranchefall_k24_shares_in_a_fall) rfl rfl (λw h Y=>PySem.W.kIn_of Y) ?F
 case F =>
  intro w mg fa h KX G hmg;refine' K24.all_mk hmg ?c ?t
  (case c=>k_is)
  case t =>
   constructor
   all_goals first
    | ((first | refine⟨QD.fsc,QD.hasF KX G (by k_is) (by k_is) (by k_is) (by k_is) ?_⟩ | refine⟨QD.fsc,QD.hasM (by k_is) (by k_is) (by k_is) (by k_is) (by k_is) ?_⟩);first | exact λ_ _ _ _ _ _ us hl=>(match us,hl with | [_],_=>rfl) | exact λ_ _ _ _ _ _ us hl=>(match us,hl with | [_,_],_=>rfl) | exact λ_ _ _ _ _ _ us hl=>(match us,hl with | [_,_,_],_=>rfl) | exact λ_ _ _ _ _ _ us hl=>(match us,hl with | [_,_,_,_],_=>rfl) | exact λ_ _ _ _ _ _ us hl=>(match us,hl with | [_,_,_,_,_],_=>rfl) | exact λ_ _ _ _ _ _ us hl=>(match us,hl with | [_,_,_,_,_,_],_=>rfl) | exact λ_ _ _ _ _ _ us hl=>(match us,hl with | [_,_,_,_,_,_,_,_,_],_=>rfl))
    | exact PySem.W.mg_none_of KX G (by k_is) | exact PySem.W.mg_of KX G (by k_is) | exact⟨by k_is,by k_is,by k_is,by k_is⟩ | k_is | (show PySem.W.findIn _ _ _=_;k_is)
