import PyProof.Rows.All
import Wide.All
import OpenK.AllK
import Wide.FinOn
import Lean
import PyProof.EqAt
import PyProof.EqKinds
import PyProof.TupleCall
import KE.KItemsList
import KE.KRevIter
import PyProof.CollectIter
import PyProof.DictWalks
import PyProof.WalksMore
import PyProof.SumWalkG
import KE.KSortTup
import PyProof.Draws
import PySem.Challenge.RW_tranchefall_k27_lends_and_backs
set_option Elab.async false
set_option linter.all false
set_option maxRecDepth 100000
noncomputable section
section
open PySem PySem.Spec PyProof.Rows
abbrev L0:=@List.length_map
abbrev L1:=@wpAny_bind
abbrev L3:=@Option.bind_some
abbrev L4:=@List.map_cons
abbrev L5:=@List.mem_cons_of_mem
abbrev L6:=@List.mem_cons_self
abbrev L7:=@Heap.get?_push_of_some
abbrev L8:=@List.getElem?_eq_some_iff
abbrev L9:=@Bool.and_eq_true
abbrev M0:=@List.length_cons
abbrev M3:=@Bool.false_ne_true
abbrev M4:=@List.mem_cons
abbrev M5:=@List.mem_map
abbrev M6:=@wpAny_pure
abbrev M7:=@List.mem_singleton
abbrev M8:=@Nat.le_refl
abbrev M9:=@List.append_nil
abbrev N0:=@Heap.lt_size
abbrev N1:=@List.mem_append
abbrev N2:=@List.size_toArray
abbrev N3:=@List.length_append
abbrev N4:=@List.map_append
abbrev N5:=@Nat.ne_of_lt
abbrev N6:=@Nat.le_trans
abbrev N7:=@Int.toNat_natCast
abbrev N8:=@Int.emod_lt_of_pos
abbrev N9:=@Int.emod_nonneg
abbrev U0:=@List.map_map
abbrev U1:=@beq_eq_false_iff_ne
abbrev U2:=@List.mem_append_right
abbrev U3:=@Nat.lt_of_lt_of_le
abbrev U4:=@Nat.zero_le
abbrev U5:=@wpAny_field
abbrev U6:=@List.zip_cons_cons
abbrev U7:=@List.count_append
abbrev U8:=@List.nodup_append
abbrev U9:=@List.foldl_cons
abbrev X4:=@decide_eq_true
abbrev X5:=@decide_eq_false
abbrev X6:=@of_decide_eq_true
abbrev X7:=@Option.some.inj
abbrev X8:=@List.getElem?_eq_getElem
abbrev X9:=@List.length_take
abbrev E1:=@Heap.get?_push_size
abbrev E4:=@Nat.lt_of_le_of_lt
end
namespace L2
open PySem PySem.Spec PyProof.Rows
noncomputable abbrev Key:=Sum Int Str
noncomputable def zy:Key->Value->Bool
 | .inl k,v=>Value.isInt k v
 | .inr x,v=>Value.isStrOf x v
noncomputable def jk1(w:World):Key->Int
 | .inl k=>hashInt k
 | .inr x=>hashStr w x
theorem jT:∀{k:Key}{v:Value},zy k v=true->(∃ i t,k=Sum.inl i/\v=Value.int i t) \/ (∃ x t,k=Sum.inr x/\v=Value.str x t)
 | .inl i,v,h=>by
  obtain⟨t,e⟩:=Value.isInt_shape (k:=i) (v:=v) h;exact .inl ⟨i,t,rfl,e⟩
 | .inr x,v,h=>by
  obtain⟨t,e⟩:=Value.isStrOf_shape (x:=x) (v:=v) h;exact .inr ⟨x,t,rfl,e⟩
theorem uV(i:Int)(t:Tok):zy (.inl i) (.int i t)=true:=by simp[zy,Value.isInt]
theorem ja9(x:Str)(t:Tok):zy (.inr x) (.str x t)=true:=by simp[zy,Value.isStrOf]
theorem jiz(a b:Int):decide ((Sum.inl a:Key)=Sum.inl b)=(a==b):=by
 by_cases e:a=b
 ·subst e;simp
 ·have h:¬ (Sum.inl a:Key)=Sum.inl b:=λq=>e (Sum.inl.inj q);rw[X5 h];exact(U1.mpr e).symm
theorem jhh(a b:Str):decide ((Sum.inr a:Key)=Sum.inr b)=decide (a=b):=by
 by_cases e:a=b
 ·subst e;simp
 ·have h:¬ (Sum.inr a:Key)=Sum.inr b:=λq=>e (Sum.inr.inj q);rw[X5 h,X5 e]
theorem jiK(a:Int)(b:Str):decide ((Sum.inl a:Key)=Sum.inr b)=false:=X5 (λq=>nomatch q)
theorem jiT(a:Str)(b:Int):decide ((Sum.inr a:Key)=Sum.inl b)=false:=X5 (λq=>nomatch q)
def jB(prog:Program)(w:World):PySem.KeyKind prog w Key where
 is:=zy
 hash:=jk1 w
 inj:=λv a b ha hb=>by
  rcases jT ha with⟨i,t,rfl,rfl⟩ | ⟨x,t,rfl,rfl⟩
  ·rcases jT hb with⟨j,u,rfl,e⟩ | ⟨y,u,rfl,e⟩
   ·injection e with e1 _;rw[e1]
   ·exact nomatch e
  ·rcases jT hb with⟨j,u,rfl,e⟩ | ⟨y,u,rfl,e⟩
   ·exact nomatch e
   ·injection e with e1 _;rw[e1]
 byValue:=λk v h=>by
  rcases jT h with⟨i,t,rfl,rfl⟩ | ⟨x,t,rfl,rfl⟩<;>rfl
 pyHash:=λhv h=>by
  rcases jT hv with⟨i,t,rfl,rfl⟩ | ⟨x,t,rfl,rfl⟩
  ·exact wpAny_pyHash_int h
  ·exact wpAny_pyHash_str h
 eqBool:=λhu hv h=>by
  rcases jT hu with⟨i,t,rfl,rfl⟩ | ⟨x,t,rfl,rfl⟩
  ·rcases jT hv with⟨j,u,rfl,rfl⟩ | ⟨y,u,rfl,rfl⟩
   ·rw[jiz] at h;exact wpAny_eqBool_int h
   ·rw[jiK] at h;exact SeqAt.EqAt.int_str i t y u _ _ _ _ h
  ·rcases jT hv with⟨j,u,rfl,rfl⟩ | ⟨y,u,rfl,rfl⟩
   ·rw[jiT] at h;exact SeqAt.EqAt.str_int x t j u _ _ _ _ h
   ·rw[jhh] at h;exact wpAny_eqBool_str h
 «strs»:=λk x t v h=>by
  rcases jT h with⟨i,u,rfl,e⟩ | ⟨y,u,rfl,e⟩
  ·exact nomatch e
  ·injection e with e1 _;subst e1;cases v<;>rfl
theorem wx(prog:Program)(w:World)(k:Key)(v:Value):(jB prog w).is k v=zy k v:=rfl
theorem zk(prog:Program)(w:World)(i:Int)(t:Tok):(jB prog w).is (.inl i) (.int i t)=true:=uV i t
theorem ze(prog:Program)(w:World)(x:Str)(t:Tok):(jB prog w).is (.inr x) (.str x t)=true:=ja9 x t
inductive V where
 | non | bl (b:Bool) | int (i:Int) | str (x:Str) | byt (b:Array UInt8) | flt (b:UInt64) | ref (a:Addr) | ty (n:String)
 deriving DecidableEq
def RelV:V->Value->Prop
 | .non,u=>u=Value.none
 | .bl b,u=>u=Value.bool b
 | .int i,u=>∃ t,u=Value.int i t
 | .str x,u=>∃ t,u=Value.str x t
 | .byt b,u=>∃ t,u=Value.bytes b t
 | .flt b,u=>∃ t,u=Value.float b t
 | .ref a,u=>u=Value.ref a
 | .ty n,u=>u=Value.type n
abbrev Vals:List V->List Value->Prop:=Paired RelV
theorem Vals.length(r:Vals xs us):xs.length=us.length:=Paired.length r
theorem Vals.get:∀{xs:List V}{us:List Value}{i:Nat}{x:V},Vals xs us->xs[i]?=some x->∃ u,us[i]?=some u/\RelV x u
 | _,_,_,_,.nil,e=>by simp at e
 | _,_,0,_,.cons r _,e=>by simp at e;subst e;exact⟨_,rfl,r⟩
 | _,_,i+1,x,.cons _ t,e=>by
  obtain⟨u,a,b⟩:=Vals.get (i:=i) (x:=x) t (by simpa using e);exact⟨u,by simpa using a,b⟩
theorem Vals.set(r:RelV x u):∀{xs:List V}{us:List Value}(i:Nat),Vals xs us->Vals (xs.set i x) (us.set i u)
 | _,_,_,.nil=>.nil
 | _,_,0,.cons _ t=>.cons r t
 | _,_,i+1,.cons q t=>.cons q (Vals.set r i t)
theorem Vals.append:∀{xs ys:List V}{us ws:List Value},Vals xs us->Vals ys ws->Vals (xs++ys) (us++ws)
 | _,_,_,_,.nil,s=>s
 | _,_,_,_,.cons r t,s=>.cons r (Vals.append t s)
theorem Vals.take:∀{xs:List V}{us:List Value}(n:Nat),Vals xs us->Vals (xs.take n) (us.take n)
 | _,_,0,_=>.nil
 | _,_,_+1,.nil=>.nil
 | _,_,n+1,.cons r t=>.cons r (Vals.take n t)
theorem Vals.drop:∀{xs:List V}{us:List Value}(n:Nat),Vals xs us->Vals (xs.drop n) (us.drop n)
 | _,_,0,r=>r
 | _,_,_+1,.nil=>.nil
 | _,_,n+1,.cons _ t=>Vals.drop n t
def RelO:Option V->Option Value->Prop
 | some v,some u=>RelV v u
 | none,none=>True
 | _,_=>False
def KV{κ:Type}:List (κ×V)->List (κ×Value)->Prop:=Paired λ(p:κ×V) (q:κ×Value)=>p.1=q.1/\RelV p.2 q.2
noncomputable def kV:Key->V
 | .inl i=>.int i
 | .inr x=>.str x
inductive HO where
  | lst (xs:List V)
  | tup (xs:List V)
  | dK (kvs:List (Key×V)) | dT (kvs:List (List Key×V))
  | set (S:Int->Bool) (n:Nat)
  | ins (C dx:Addr) (fs:List (Str×V))
  | own (x:Addr)
  | xd (fs:List (Str×V))
  | met (f x:Addr)
  | rng (lo hi:Int)
  | frz (o:Obj) (u:HO)
  | tbl (ps:Array Value)
  | ext (φ:Heap->Prop)
noncomputable abbrev Hp:=Addr->Option HO
noncomputable def upd(H:Hp)(a:Addr)(o:HO):Hp:=λb=>if b=a then some o else H b
theorem ju:upd H a o a=some o:=by unfold upd;rw[if_pos rfl]
theorem jf(h:b≠a):upd H a o b=H b:=by unfold upd;rw[if_neg h]
theorem jkn{H:Hp}{a b:Addr}{o u:HO}(h:H a=some o)(h':H b=some u)(d:o≠u):a≠b:=by
 intro e;subst e;rw[h] at h';exact d (X7 h')
theorem ke{H:Hp}{a b:Addr}{o:HO}(h:H a=some o)(h':H b=none):a≠b:=by
 intro e;subst e;rw[h] at h';cases h'
def IsTupN(h:Heap)(a:Addr)(its:Array Value):Prop:=IsTup h a its/\∃ o,h.get? a=some o/\o.dict=none
theorem IsTupN.new(h:Heap)(its:Array Value):IsTupN (h.push { cls:=.type "tuple",data:=.seq its }) h.objs.size its:=⟨IsTup.new h its,_,E1 _ rfl,rfl⟩
theorem IsTupN.lt(x:IsTupN h a its):a < h.objs.size:=x.1.lt
section
variable (P:Program)(w:World)
def ObjOk(H:Hp)(h:Heap)(a:Addr):HO->Prop
 | .lst xs=>xs.length<=sizeLine/\∃(its:List Value) (n:Nat),Vals xs its/\h.get? a=some { cls:=.type "list",data:=.seq its.toArray n }
 | .tup xs=>xs.length<=sizeLine/\∃ its:List Value,Vals xs its/\IsTupN h a its.toArray
 | .dK kvs=>kvs.length<=sizeLine/\(a==sysModules)=false/\∃ vs,KV kvs vs/\h.DictOf (jB P w) a vs
 | .dT kvs=>kvs.length<=sizeLine/\(a==sysModules)=false/\∃ xs:List (List Key×Addr×Value),
   Paired (λ(p:List Key×V) (q:List Key×Addr×Value)=>p.1=q.1/\H q.2.1=some (.tup (p.1.map kV))/\RelV p.2 q.2.2) kvs xs /\
   ∃ o es ep,h.get? a=some o/\o.ExactDict/\o.data=.dict es ep/\es.toList=xs.map (entryOfKey (tupleKind (jB P w)))/\(xs.map (·.1)).Nodup
 | .set S n=>h.SetOf (intKind P w) a S n
 | .ins C dx fs=>H dx=some (.own a)/\fs.length<=1000/\dx≠a/\h.get? a=some (PySem.W.instObj C dx) /\
   ∃ mA,h.Ns1 dx mA/\(∀ f,RelO (fs.lookup f) (mA f))/\PySem.Within mA (fs.map (·.1))
 | .own _=>∃ o,h.get? a=some o
 | .xd fs=>∃ mA,h.Ns1 a mA/\∀ f,RelO (fs.lookup f) (mA f)
 | .rng lo hi=>∃ t u v,h.get? a=some { cls:=.type "range",data:=.fields #[.int lo t,.int hi u,.int 1 v] }
 | .frz o u=>h.get? a=some o/\ObjOk H h a u
 | .tbl ps=>h.get? a=some { cls:=.none,data:=.fields ps }
 | .met f x=>h.get? a=some (PySem.W.methodObj (.ref f) (.ref x))
 | .ext φ=>φ h/\(∃ o,h.get? a=some o)/\∀ h1 h2:Heap,φ h1->(∀ o,h1.get? a=some o->h2.get? a=some o)->φ h2
def HOk(H:Hp)(h:Heap):Prop:=∀ a o,H a=some o->ObjOk P w H h a o
end
section
variable {P:Program}{w:World}{H H':Hp}{h h':Heap}{a:Addr}{o:HO}
theorem ObjOk.lt(x:ObjOk P w H h a o):a < h.objs.size:=by
 cases o with
 | lst c=>obtain⟨_,_,_,_,e⟩:=x;exact N0 e
 | tup c=>obtain⟨_,_,_,p⟩:=x;exact p.lt
 | dK b=>obtain⟨_,_,_,_,o,_,_,e,_⟩:=x;exact N0 e
 | dT b=>obtain⟨_,_,_,_,o,_,_,e,_⟩:=x;exact N0 e
 | set S n=>obtain⟨o,_,_,_,e,_⟩:=x;exact N0 e
 | ins C d fs=>obtain⟨_,_,_,e,_⟩:=x;exact N0 e
 | own y=>obtain⟨_,e⟩:=x;exact N0 e
 | xd fs=>obtain⟨_,⟨_,_,_,e,_⟩,_⟩:=x;exact N0 e
 | rng lo hi=>obtain⟨_,_,_,e⟩:=x;exact N0 e
 | frz ob u=>obtain⟨e,_⟩:=x;exact N0 e
 | tbl g=>exact N0 (show h.get? a=some _ from x)
 | met f y=>exact N0 (show h.get? a=some _ from x)
 | ext φ=>obtain⟨_,⟨_,e⟩,_⟩:=x;exact N0 e
theorem Paired.mapP:∀{l₁:List α}{l₂:List β},Paired F l₁ l₂->(∀ a b,F a b->G a b)->Paired G l₁ l₂
 | _,_,.nil,_=>.nil
 | _,_,.cons r t,f=>.cons (f _ _ r) (Paired.mapP t f)
theorem ObjOk.stay(x:ObjOk P w H h a o)(k:∀ b u,(b=a \/ H b=some (.own a))->h.get? b=some u->h'.get? b=some u)
  (D:∀ b,H b=some (.own a)->H' b=some (.own a)) (E:∀ b xs,H b=some (.tup xs)->H' b=some (.tup xs)):ObjOk P w H' h' a o:=by
 induction o with
 | lst xs=>obtain⟨z,j,n,r,e⟩:=x;exact⟨z,j,n,r,k _ _ (.inl rfl) e⟩
 | tup xs=>obtain⟨z,j,r,⟨ob,e,c⟩,l,e2,F⟩:=x;exact⟨z,j,r,⟨ob,k _ _ (.inl rfl) e,c⟩,l,k _ _ (.inl rfl) e2,F⟩
 | dK m=>obtain⟨z,y,G,r,ob,g,i,e,c⟩:=x;exact⟨z,y,G,r,ob,g,i,k _ _ (.inl rfl) e,c⟩
 | dT m =>
  obtain⟨z,y,xs,r,ob,g,i,e,c⟩:=x;exact⟨z,y,xs,Paired.mapP r λp q z=>⟨z.1,E _ _ z.2.1,z.2.2⟩,ob,g,i,k _ _ (.inl rfl) e,c⟩
 | set S n=>obtain⟨ob,g,i,t,e,c⟩:=x;exact⟨ob,g,i,t,k _ _ (.inl rfl) e,c⟩
 | ins C J fs =>
  obtain⟨d,z,ne,e,s,⟨od,g,i,e2,c⟩,r⟩:=x;exact⟨D _ d,z,ne,k _ _ (.inl rfl) e,s,⟨od,g,i,k _ _ (.inr d) e2,c⟩,r⟩
 | own y=>obtain⟨ob,e⟩:=x;exact⟨ob,k _ _ (.inl rfl) e⟩
 | xd fs=>obtain⟨s,⟨od,g,i,e,c⟩,r⟩:=x;exact⟨s,⟨od,g,i,k _ _ (.inl rfl) e,c⟩,r⟩
 | rng lo hi=>obtain⟨t,u,v,e⟩:=x;exact⟨t,u,v,k _ _ (.inl rfl) e⟩
 | frz ob u I=>obtain⟨e,q⟩:=x;exact⟨k _ _ (.inl rfl) e,I q⟩
 | tbl A =>
  have e:h.get? a=some { cls:=.none,data:=.fields A }:=x;show h'.get? a=some { cls:=.none,data:=.fields A };exact k a _ (.inl rfl) e
 | met f y =>
  have e:h.get? a=some (PySem.W.methodObj (.ref f) (.ref y)):=x;show h'.get? a=some (PySem.W.methodObj (.ref f) (.ref y));exact k a _ (.inl rfl) e
 | ext φ=>obtain⟨p,⟨o,e⟩,B⟩:=x;exact⟨B _ _ p λo q=>k _ _ (.inl rfl) q,⟨o,k _ _ (.inl rfl) e⟩,B⟩
theorem HOk.lt(x:HOk P w H h)(e:H a=some o):a < h.objs.size:=(x a o e).lt
theorem HOk.fresh(x:HOk P w H h)(e:h.objs.size<=a):H a=none:=by
 cases q:H a with
 | none=>rfl
 | some u=>exact absurd (U3 (x.lt q) e) (Nat.lt_irrefl _)
theorem HOk.kept(x:HOk P w H h)(k:∀ b u,h.get? b=some u->h'.get? b=some u):HOk P w H h':=λa o e =>
 (x a o e).stay (λb u _ q=>k b u q) (λ_ q=>q) λ_ _ q=>q
theorem HOk.laid(x:HOk P w H h)(k:∀ b u,h.get? b=some u->h'.get? b=some u)(g:h.objs.size<=a)(new:ObjOk P w (upd H a o) h' a o):HOk P w (upd H a o) h':=λb u e=>by
 have d:=x.fresh g;by_cases f:b=a
 ·subst f;rw[ju] at e;cases e;exact new
 ·rw[jf f] at e;exact(x b u e).stay (λc v _ q=>k c v q) (λc q=>by rw[jf (ke q d)];exact q) λc i q=>by rw[jf (ke q d)];exact q
end
def Rd(H:Hp)(a:Addr)(u:HO):Prop:=H a=some u \/ ∃ o,H a=some (.frz o u)
theorem Rd.ok(r:Rd H a u)(x:HOk P w H h):ObjOk P w H h a u:=by
 rcases r with r | ⟨o,r⟩
 ·exact x a u r
 ·obtain⟨_,q⟩:=x a _ r;exact q
def Mut:Option HO->Prop
 | some (.lst _)=>True
 | some (.dK _)=>True
 | some (.dT _)=>True
 | some (.set _ _)=>True
 | some (.ins _ _ _)=>True
 | some (.ext _)=>True
 | _=>False
section
variable {P:Program}{w:World}{H:Hp}{h h':Heap}{x e:Addr}{o':HO}
theorem HOk.write(ok:HOk P w H h)(g:Mut (H x))(n:e=x \/ H e=some (.own x))(k:∀ b u,b≠e->h.get? b=some u->h'.get? b=some u)(m:∃ u,h'.get? e=some u)
  (new:ObjOk P w (upd H x o') h' x o'):HOk P w (upd H x o') h':=λb u q=>by
 have d:∀ c y,H c=some (.own y)->c≠x:=λc y r z=>by subst z;rw[r] at g;exact g
 have f:∀ c i,H c=some (.tup i)->c≠x:=λc i r z=>by subst z;rw[r] at g;exact g
 by_cases j:b=x
 ·subst j;rw[ju] at q;cases q;exact new
 ·rw[jf j] at q;by_cases a:b=e
  ·have o:H b=some (.own x):=by
    rcases n with z | z
    ·exact absurd (a.trans z) j
    ·rw[a];exact z
   rw[q] at o;cases o;obtain⟨v,p⟩:=m;exact⟨v,by rw[a];exact p⟩
  ·refine(ok b u q).stay (λc v l r=>k c v ?_ r) (λc r=>by rw[jf (d c b r)];exact r) λc i r=>by rw[jf (f c i r)];exact r
   rcases l with rfl | l
   ·exact a
   ·rintro rfl;rcases n with z | z
    ·exact d c b l z
    ·rw[l] at z;cases z;exact j rfl
end
structure Un(fs ex:List Addr)(H H':Hp)(h h':Heap):Prop where
 keep:∀ b o,h.get? b=some o->H b=none->b∉fs->b∉ex->h'.get? b=some o
 slot:∀ b o,h.get? b=some o->H b=none->b∈fs->b∉ex->∃ sl,h'.get? b=some { o with slots:=sl }
 free:∀ b o,h.get? b=some o->H b=none->b∉ex->H' b=none
 there:∀ b o,h.get? b=some o->b∉ex->∃ o',h'.get? b=some o'
 tups:∀ b xs,H b=some (.tup xs)->H' b=some (.tup xs)
 frzs:∀ b o u,H b=some (.frz o u)->H' b=some (.frz o u)
 tbls:∀ b ps,H b=some (.tbl ps)->∃ more,H' b=some (.tbl (ps++more))
section
variable {fs fs' ex ex':List Addr}{H H1 H2:Hp}{h h1 h2 h':Heap}{a x e:Addr}{o:HO}
theorem Un.any(u:Un fs ex H H1 h h1)  (q:h.get? b=some ob) (n:H b=none) (a:b∉ex):∃ sl,h1.get? b=some { ob with slots:=sl }:=by
 by_cases c:b∈fs
 ·exact u.slot b ob q n c a
 ·exact⟨ob.slots,u.keep b ob q n c a⟩
theorem Un.kept(k:∀ b u,h.get? b=some u->h'.get? b=some u):Un fs ex H H h h' :=
 ⟨λb ob q _ _ _=>k b ob q,λb ob q _ _ _=>⟨ob.slots,k b ob q⟩,λ_ _ _ n _=>n,λb ob q _=>⟨ob,k b ob q⟩,λ_ _ q=>q,λ_ _ _ q=>q,λ_ a q=>⟨#[],by rw[q];simp⟩⟩
theorem Un.refl:Un fs ex H H h h:=Un.kept λ_ _ q=>q
theorem Un.laid(k:∀ b u,h.get? b=some u->h'.get? b=some u)(d:h.objs.size<=a)(c:H a=none):Un fs ex H (upd H a o) h h' where
 keep:=λb u q _ _ _=>k b u q
 slot:=λb u q _ _ _=>⟨u.slots,k b u q⟩
 free:=λb u q n _=>by rw[jf (N5 (U3 (N0 q) d))];exact n
 there:=λb u q _=>⟨u,k b u q⟩
 tups:=λb e q=>by rw[jf (ke q c)];exact q
 frzs:=λb u e q=>by rw[jf (ke q c)];exact q
 tbls:=λb f q=>⟨#[],by rw[jf (ke q c),q];simp⟩
theorem Un.write(c:Mut (H x))(j:e=x \/ H e=some (.own x))(k:∀ b u,b≠e->h.get? b=some u->h'.get? b=some u)(d:∃ u,h'.get? e=some u):Un fs ex H (upd H x o) h h':=by
 have g:∀ b,H b=none->b≠x:=λb n z=>by subst z;rw[n] at c;exact c
 have i:∀ b,H b=none->b≠e:=λb n z=>by
  subst z;rcases j with r | r
  ·exact g b n r
  ·rw[n] at r;cases r
 have f:∀ b u,H b=some u->¬ Mut (some u)->b≠x:=λb u q nm z=>by subst z;rw[q] at c;exact nm c
 refine⟨λb u q n _ _=>k b u (i b n) q,λb u q n _ _=>⟨u.slots,k b u (i b n) q⟩,λb u q n _=>by rw[jf (g b n)];exact n,λb u q _=>?_,
  λb l q=>by rw[jf (f b _ q λz=>z)];exact q,λb u l q=>by rw[jf (f b _ q λz=>z)];exact q,λb m q=>⟨#[],by rw[jf (f b _ q λz=>z),q];simp⟩⟩
 by_cases a:b=e
 ·subst a;exact d
 ·exact⟨u,k b u a q⟩
end
noncomputable def trk(h:Heap)(H:Hp):List Addr:=(List.range h.objs.size).filter λa=>(H a).isSome
def jbC(h:Heap)(H:Hp):Heap:=PySem.W.hideAll h (trk h H)
theorem jaF(h:Heap)(H:Hp):(jbC h H).objs.size=h.objs.size:=PySem.W.hideAll_size _ _
theorem jdb(e:h.get? b=some o)(n:H b=none):(jbC h H).get? b=some o :=
 PySem.W.hideAll_get _ e λa=>by
  have q:(H b).isSome=true:=(List.mem_filter.mp a).2;rw[n] at q;simp at q
theorem jfo(e:(jbC h H).get? b=some o):h.get? b=some o/\H b=none:=by
 have a:h.get? b=some o:=PySem.W.of_hideAll (trk h H) e;refine⟨a,?_⟩;cases q:H b with
 | none=>rfl
 | some x =>
  have c:b∈trk h H:=List.mem_filter.mpr ⟨List.mem_range.mpr (N0 a),by simp[q]⟩;have z:(jbC h H).get? b=none:=PySem.W.hideAll_none (trk h H) c;rw[z] at e;cases e
noncomputable def jeU(g h:Heap)(L:Addr):List (Addr×Obj):=(List.range h.objs.size).filterMap λa=>if a=L \/ (g.get? a).isSome=true then none else(h.get? a).map λo=>(a,o)
def rest(g h:Heap)(L d:Addr):List (Addr×Obj):=(jeU g h L).filter λp=>decide (p.1≠d)
structure Mod(K:PySem.W.Frag)(mg:Str->Option Value)(base:Heap):Prop where
 kin:K.In base
 glob:base.Ns mainGlobals mg
 blt:∃ mb,base.Ns builtinsNs mb/\∀ x:Str,x≠"__name__"->mb x=bootBuiltins x
 nolimit:base.NoLimit
structure Cx where
 prog:Program
 w:World
 K:PySem.W.Frag
 mg:Str->Option Value
 base:Heap
 A:Around
 N:List Str
 s₀:Shared
 H₀:Hp
 env:Env
 outer:List Env
 stack:List Env
 ex:List Addr
 fn:Str->Bool
 calm:Bool
 pn:List (Addr×Obj)
 xe:Value->Shared->Prop
noncomputable def frs(l:List Env):List Addr:=l.filterMap (·.frame)
abbrev Cx.fs(X:Cx):List Addr:=frs X.outer
def Vis(sc:Scope)(x:Str):Prop:=sc.names.lookup x=some .local \/ sc.names.lookup x=some .cell \/ sc.names.lookup x=some .free
def Loc(sc:Scope)(x:Str):Prop:=sc.names.lookup x=some .local \/ sc.names.lookup x=some .cell
def jlj(env:Env)(h:Heap)(m:Str->Option Value)(x:Str)(u:Value):Prop :=
 (env.kindOf x=some .local/\m x=some u) \/ ((env.kindOf x=some .cell \/ env.kindOf x=some .free)/\∃ c,env.cells.lookup x=some c/\h.IsCell c (some u))
structure Cx.Ok(X:Cx):Prop where
 mod:Mod X.K X.mg X.base
 kind:X.env.scope.kind=.function
 glob:X.env.globals=mainGlobals
 blt:X.env.builtins=builtinsNs
 above:X.s₀.heap.objs.size<=X.env.locals
 inj:∀ x y c,X.env.cells.lookup x=some c->X.env.cells.lookup y=some c->x=y
 has:∀ x,(X.env.kindOf x=some .cell \/ X.env.kindOf x=some .free)->∃ c,X.env.cells.lookup x=some c
 cab:∀ x c,X.fn x=true->X.env.cells.lookup x=some c->X.s₀.heap.objs.size<=c
 hd:X.calm=true->X.A.handled=none
 frames:X.A.frames=some X.stack
 stk:X.stack=X.outer \/ (X.stack=X.env::X.outer/\X.env.frame=some X.env.locals)
 exf:∀ b∈X.ex,b≠X.env.locals/\∀ x c,X.env.cells.lookup x=some c->c≠b
 bs:∀ b o,X.base.get? b=some o->X.s₀.heap.get? b=some o/\X.H₀ b=none
 bsz:X.base.objs.size<=X.s₀.heap.objs.size
 noex:∀ b o,X.base.get? b=some o->b∉X.ex
 exfs:∀ b∈X.ex,b∉X.fs
 funs:X.s₀.heap.FunFrames X.base X.outer
 frf:∀ b∈X.fs,X.H₀ b=none
structure Inv(X:Cx)(pins:List (Addr×Obj))(σ:List (Option V))(H:Hp)(s:Shared):Prop where
 ok:X.Ok
 os:s.os=X.s₀.os
 bare:AllBare s.gens
 base:Un X.fs X.ex X.H₀ H X.s₀.heap s.heap
 loc:∃ m,s.heap.Ns X.env.locals m/\∀(i:Nat) (x:Str) (v:V),X.N[i]?=some x->σ[i]?=some (some v)->Vis X.env.scope x->∃ u,RelV v u/\jlj X.env s.heap m x u
 cell:∀ x c,X.env.cells.lookup x=some c->∃ v,s.heap.IsCell c v
 free:H X.env.locals=none
 freeC:∀ x c,X.env.cells.lookup x=some c->H c=none
 pin:∀ p∈X.pn++pins,s.heap.get? p.1=some p.2/\H p.1=none/\p.1≠X.env.locals/\p.1∉X.fs/\∀ v,p.2.data≠.cell v
 hok:HOk X.prog X.w H s.heap
 len:σ.length=X.N.length
section
variable {X:Cx}{pins:List (Addr×Obj)}{σ:List (Option V)}{H H':Hp}{s:Shared}{h':Heap}
theorem Cx.Ok.nofr(ok:X.Ok)  {o:Obj}(e:X.base.get? b=some o):b∉X.fs:=λa=>by
 have:=(ok.funs.mem a).1;rw[e] at this;cases this
theorem Inv.bs(I:Inv X pins σ H s):∀ b o,X.base.get? b=some o->s.heap.get? b=some o/\H b=none:=λb o e =>
 ⟨I.base.keep b o (I.ok.bs b o e).1 (I.ok.bs b o e).2 (I.ok.nofr e) (I.ok.noex b o e),I.base.free b o (I.ok.bs b o e).1 (I.ok.bs b o e).2 (I.ok.noex b o e)⟩
theorem Inv.bk(I:Inv X pins σ H s):∀ b o,X.base.get? b=some o->s.heap.get? b=some o:=λb o e=>(I.bs b o e).1
theorem Inv.mod(I:Inv X pins σ H s):Mod X.K X.mg X.base:=I.ok.mod
theorem Inv.kIn(I:Inv X pins σ H s):X.K.In s.heap:=I.ok.mod.kin.keeps I.bk
theorem Inv.lt(I:Inv X pins σ H s):X.env.locals < s.heap.objs.size:=let ⟨_,hn,_⟩:=I.loc;hn.lt
theorem Inv.sz(I:Inv X pins σ H s):X.s₀.heap.objs.size<=s.heap.objs.size:=N6 I.ok.above (Nat.le_of_lt I.lt)
theorem Inv.nofs(I:Inv X pins σ H s)  (h:s.heap.objs.size<=a):a∉X.fs:=λb=>by
 obtain⟨_,o,c,_⟩:=I.ok.funs.mem b;exact absurd (U3 (N0 c) (N6 I.sz h)) (Nat.lt_irrefl _)
theorem Inv.cne(I:Inv X pins σ H s):∀ x c,X.env.cells.lookup x=some c->c≠X.env.locals:=λx c e z=>by
 obtain⟨v,o,d,hd⟩:=I.cell x c e;obtain⟨m,⟨f,g,h,a,b,_⟩,_⟩:=I.loc;rw[z,a] at d;cases d;rw[b] at hd;cases hd
theorem Inv.funs(I:Inv X pins σ H s):s.heap.FunFrames X.base X.outer:=by
 have all:∀(l:List Env),(∀ b∈frs l,b∈X.fs)->X.s₀.heap.FunFrames X.base l->s.heap.FunFrames X.base l:=by
  intro l
  induction l with
  | nil=>intro _ _;trivial
  | cons env r g =>
   intro f h;obtain⟨i,⟨L,o,a,j,k,hd⟩,m⟩:=h;have c:L∈X.fs:=f L (by unfold frs;rw[List.filterMap_cons,a];exact L6);obtain⟨n,e⟩:=I.base.slot L o k (I.ok.frf L c) c λz=>I.ok.exfs L z c;exact⟨i,⟨L,_,a,j,e,hd⟩,g (λb d=>f b (by unfold frs;rw[List.filterMap_cons,a];exact L5 _ d)) m⟩
 exact all X.outer (λ_ d=>d) I.ok.funs
theorem Inv.stack(I:Inv X pins σ H s):s.heap.FunFrames X.base X.stack:=by
 rcases I.ok.stk with e | ⟨e,a⟩
 ·rw[e];exact I.funs
 ·rw[e];obtain⟨m,b,_⟩:=I.loc;refine .cons (by rw[I.ok.kind];decide) a b ?_ I.funs;exact Heap.get?_none_of_le (N6 I.ok.bsz I.ok.above)
theorem Inv.stkSub(I:Inv X pins σ H s):∀ b∈frs X.stack,b∈X.env.locals::X.fs:=λb a=>by
 rcases I.ok.stk with e | ⟨e,c⟩
 ·rw[e] at a;exact L5 _ a
 ·rw[e] at a;unfold frs at a;rw[List.filterMap_cons,c] at a;exact a
theorem Inv.stkFree(I:Inv X pins σ H s):∀ b∈frs X.stack,H b=none:=λb a=>by
 rcases M4.mp (I.stkSub b a) with e | a
 ·rw[e];exact I.free
 ·obtain⟨_,o,c,_⟩:=I.ok.funs.mem a;exact I.base.free b o c (I.ok.frf b a) λz=>I.ok.exfs b z a
theorem Inv.step{g':Array GenState}{t':Nat}{ch:List Addr}(I:Inv X pins σ H s)
  (f:∀ b∈ch,(b∈X.ex \/ X.s₀.heap.objs.size<=b)/\b≠X.env.locals/\(∀ x c,X.env.cells.lookup x=some c->c≠b)/\∀ p∈X.pn++pins,p.1≠b)
  (keep:∀ b o,b≠X.env.locals->b∉X.fs->b∉ch->s.heap.get? b=some o->H b=none->h'.get? b=some o)
  (slot:∀ b o,b≠X.env.locals->b∈X.fs->b∉ch->s.heap.get? b=some o->H b=none->∃ sl,h'.get? b=some { o with slots:=sl }) (free:∀ b o,b∉ch->s.heap.get? b=some o->H b=none->H' b=none)
  (there:∀ b o,b∉ch->s.heap.get? b=some o->∃ o',h'.get? b=some o')
  (tups:∀ b xs,H b=some (.tup xs)->H' b=some (.tup xs)) (frzs:∀ b o u,H b=some (.frz o u)->H' b=some (.frz o u)) (tbls:∀ b ps,H b=some (.tbl ps)->∃ more,H' b=some (.tbl (ps++more)))
  (ns:∀ m,s.heap.Ns X.env.locals m->h'.Ns X.env.locals m) (hok:HOk X.prog X.w H' h') (G:AllBare g') :
  Inv X pins σ H' { s with heap:=h',gens:=g',drawn:=d',toks:=t' }:=by
 have B:∀ b o,X.s₀.heap.get? b=some o->b≠X.env.locals:=λb o e=>N5 (U3 (N0 e) I.ok.above);have j:∀ b o,X.s₀.heap.get? b=some o->b∉X.ex->b∉ch:=λb o e a y=>by
  rcases(f b y).1 with z | z
  ·exact a z
  ·exact absurd (U3 (N0 e) z) (Nat.lt_irrefl _)
 have g:∀ x c,X.env.cells.lookup x=some c->∀ v,s.heap.IsCell c v->h'.IsCell c v:=λx c e v ⟨o,A,hd⟩=>by
  have h:c∉ch:=λz=>(f c z).2.2.1 x c e rfl;by_cases D:c∈X.fs
  ·obtain⟨sl,q⟩:=slot c o (I.cne x c e) D h A (I.freeC x c e);exact⟨_,q,hd⟩
  ·exact⟨o,keep c o (I.cne x c e) D h A (I.freeC x c e),hd⟩
 refine⟨I.ok,I.os,G,⟨λb o e n y a=>?_,λb o e n y a=>?_,λb o e n a=>?_,λb o e a=>?_,λb xs e=>tups b xs (I.base.tups b xs e),λb o xs e=>frzs b o xs (I.base.frzs b o xs e),λb ps e=>?_⟩,?_,λx c e=>?_,?_,λx c e=>?_,λp E=>?_,hok,I.len⟩
 ·exact keep b o (B b o e) y (j b o e a) (I.base.keep b o e n y a) (I.base.free b o e n a)
 ·obtain⟨sl,t⟩:=I.base.slot b o e n y a;obtain⟨C,e2⟩:=slot b _ (B b o e) y (j b o e a) t (I.base.free b o e n a);exact⟨C,e2⟩
 ·obtain⟨o',t⟩:=I.base.there b o e a;exact free b o' (j b o e a) t (I.base.free b o e n a)
 ·obtain⟨o',t⟩:=I.base.there b o e a;exact there b o' (j b o e a) t
 ·obtain⟨J,t⟩:=I.base.tbls b ps e;obtain⟨K,e2⟩:=tbls b _ t;exact⟨J++K,by rw[e2,Array.append_assoc]⟩
 ·obtain⟨m,L,M⟩:=I.loc;refine⟨m,ns m L,λi x v t e2 e3=>?_⟩;obtain⟨u,r,l⟩:=M i x v t e2 e3;refine⟨u,r,?_⟩;rcases l with l | ⟨k,c,e,z⟩
  ·exact .inl l
  ·exact .inr ⟨k,c,e,g x c e _ z⟩
 ·obtain⟨v,z⟩:=I.cell x c e;exact⟨v,g x c e v z⟩
 ·obtain⟨m,⟨o,_,_,A,_⟩,_⟩:=I.loc;exact free _ o (λz=>(f _ z).2.1 rfl) A I.free
 ·obtain⟨v,o,A,hd⟩:=I.cell x c e;exact free c o (λz=>(f c z).2.2.1 x c e rfl) A (I.freeC x c e)
 ·obtain⟨e,n,ne,F,d⟩:=I.pin p E;have h:p.1∉ch:=λz=>(f p.1 z).2.2.2 p E rfl;exact⟨keep p.1 p.2 ne F h e n,free p.1 p.2 h e n,ne,F,d⟩
theorem Inv.un{t':Nat}(I:Inv X pins σ H s)(u:Un X.fs [] H H' s.heap h')(hok:HOk X.prog X.w H' h'):Inv X pins σ H' { s with heap:=h',toks:=t' }:=by
 obtain⟨m,⟨o,k,l,g,r⟩,_⟩:=id I.loc;obtain⟨p,h⟩:=u.any g I.free (by simp);exact I.step (g':=s.gens) (d':=s.drawn) (ch:=[]) (λ_ z=>nomatch z) (λb o _ c _ e n=>u.keep b o e n c (by simp)) (λb o _ c _ e n=>u.slot b o e n c (by simp)) (λb o _ e n=>u.free b o e n (by simp)) (λb o _ e=>u.there b o e (by simp)) u.tups u.frzs u.tbls (λq i=>by
  obtain⟨t,d,f,a,j⟩:=i;rw[g] at a;cases a;exact⟨_,d,f,h,j⟩) hok I.bare
theorem Inv.call{g':Array GenState}{t':Nat}{ch:List Addr}(I:Inv X pins σ H s)(u:Un (frs X.stack) ch H H' s.heap h')(hok:HOk X.prog X.w H' h')(k:AllBare g')
  (d:∀ b∈ch,(b∈X.ex \/ X.s₀.heap.objs.size<=b)/\b≠X.env.locals/\(∀ x c,X.env.cells.lookup x=some c->c≠b)/\∀ p∈X.pn++pins,p.1≠b) :
  Inv X pins σ H' { s with heap:=h',gens:=g',drawn:=d',toks:=t' }:=by
 obtain⟨m,⟨o,v,y,j,r⟩,_⟩:=id I.loc;obtain⟨A,g⟩:=u.any j I.free λz=>(d _ z).2.1 rfl;exact I.step (ch:=ch) d (λb o g l a e n=>u.keep b o e n (λz=>(M4.mp (I.stkSub b z)).elim g l) a) (λb o _ _ a e n=>u.any e n a) (λb o a e n=>u.free b o e n a) (λb o a e=>u.there b o e a) u.tups u.frzs u.tbls (λB q=>by
  obtain⟨C,h,i,f,t⟩:=q;rw[j] at f;cases f;exact⟨_,h,i,g,t⟩) hok k
theorem Inv.turned{t':Nat}(I:Inv X pins σ H s)(k:∀ b o,b≠it->s.heap.get? b=some o->h'.get? b=some o)(g:H it=none)(f:it≠X.env.locals)
  (h1:it∈X.ex \/ X.s₀.heap.objs.size<=it) (h2:∀ x c,X.env.cells.lookup x=some c->c≠it) (h:∀ p∈X.pn++pins,p.1≠it):Inv X pins σ H { s with heap:=h',toks:=t' }:=by
 have d:∀ b u,H b=some u->b≠it:=λb u e z=>by rw[z,g] at e;cases e
 refine I.step (g':=s.gens) (d':=s.drawn) (ch:=[it]) (λb i=>?_) (λb o _ _ a e _=>k b o (λz=>a (by simp[z])) e) (λb o _ _ a e _=>⟨o.slots,k b o (λz=>a (by simp[z])) e⟩) (λ_ _ _ _ n=>n)
  (λb o a e=>⟨o,k b o (λz=>a (by simp[z])) e⟩) (λ_ _ e=>e) (λ_ _ _ e=>e) (λb y e=>⟨#[],by rw[e];simp⟩) (λm j=>?_) (λb u e=>?_) I.bare
 ·have e:b=it:=by simpa using i
  subst e;exact⟨h1,f,h2,h⟩
 ·obtain⟨o,l,t,w,r⟩:=j;exact⟨o,l,t,k _ o (Ne.symm f) w,r⟩
 ·refine(I.hok b u e).stay (λc v a q=>k c v ?_ q) (λ_ q=>q) λ_ _ q=>q;rcases a with z | z
  ·rw[z];exact d b u e
  ·exact d c _ z
theorem Inv.tok(I:Inv X pins σ H s)(t:Nat):Inv X pins σ H { s with toks:=t }:=I.un (h':=s.heap) (t':=t) Un.refl I.hok
theorem Inv.kept(I:Inv X pins σ H s)(k:∀ b u,s.heap.get? b=some u->h'.get? b=some u):Inv X pins σ H { s with heap:=h',toks:=t' }:=I.un (Un.kept k) (I.hok.kept k)
theorem Inv.laid(I:Inv X pins σ H s)(k:∀ b u,s.heap.get? b=some u->h'.get? b=some u)(c:s.heap.objs.size<=a)(new:ObjOk X.prog X.w (upd H a o) h' a o) :
  Inv X pins σ (upd H a o) { s with heap:=h',toks:=t' }:=I.un (Un.laid k c (I.hok.fresh c)) (I.hok.laid k c new)
theorem Inv.write(I:Inv X pins σ H s)(c:Mut (H x))(d:e=x \/ H e=some (.own x))(k:∀ b u,b≠e->s.heap.get? b=some u->h'.get? b=some u)(a:∃ u,h'.get? e=some u)
  (new:ObjOk X.prog X.w (upd H x o) h' x o):Inv X pins σ (upd H x o) { s with heap:=h',toks:=t' }:=I.un (Un.write c d k a) (I.hok.write c d k a new)
theorem Inv.pins_of(I:Inv X pins σ H s)(h:∀ p∈pins',s.heap.get? p.1=some p.2/\H p.1=none/\p.1≠X.env.locals/\p.1∉X.fs/\∀ v,p.2.data≠.cell v):Inv X pins' σ H s :=
 ⟨I.ok,I.os,I.bare,I.base,I.loc,I.cell,I.free,I.freeC,λp a=>(N1.mp a).elim (λz=>I.pin p (List.mem_append_left _ z)) (h p),I.hok,I.len⟩
theorem xC{N:List Str}(c:N.Nodup){i j:Nat}(a:N[i]?=some x)(b:N[j]?=some x):i=j:=by
 obtain⟨e,d⟩:=L8.mp a;obtain⟨f,e2⟩:=L8.mp b;exact(List.getElem_inj c).mp (d.trans e2.symm)
theorem jax(I:Inv X pins σ H s)(hN:X.N.Nodup)(hi:X.N[i]?=some x)(B:Loc X.env.scope x)(r:RelV v u)
  (h:∀ s',Inv X pins (σ.set i (some v)) H s'->(∃ a,Heap.SameBut a s.heap s'.heap/\(a=X.env.locals \/ X.env.cells.lookup x=some a))->Q () s') (hf:X.fn x=true \/ X.env.scope.names.lookup x=some .local:=by first | exact .inl rfl | exact .inr rfl | assumption):wpAny M A (storeName X.env x u) Q E s:=by
 obtain⟨m,W,hl⟩:=id I.loc;have L:(X.env.scope.kind==.class||(X.env.scope.kind==.module&&X.env.locals != X.env.globals))=false:=by rw[I.ok.kind];rfl
 have O:i < σ.length:=by rw[I.len];exact(L8.mp hi).1
 have cne:=I.cne;have g:∀{a:Addr}{K:Heap},(∃ o,s.heap.get? a=some o/\H a=none)->Heap.SameBut a s.heap K->HOk X.prog X.w H K:=λ{a K} ha f b ob e=>by
  obtain⟨_,_,C⟩:=ha;refine(I.hok b ob e).stay (λc U t q=>(f.2 c ?_).trans q) (λ_ q=>q) λ_ _ q=>q;rintro rfl;rcases t with rfl | t
  ·rw[C] at e;cases e
  ·rw[C] at t;cases t
 rcases B with D | D
 ·refine wpAny_storeName_local D W (λK Y f=>?_) L;obtain⟨oL,_,_,Z,_⟩:=id W;refine h _ ⟨I.ok,I.os,I.bare,⟨λb o e n F B=>?_,λb o e n F B=>?_,I.base.free,λb o e B=>?_,I.base.tups,I.base.frzs,I.base.tbls⟩,⟨_,Y,λj y v' l e2 e3=>?_⟩,λy c e=>?_,I.free,I.freeC,λp hp=>?_,g ⟨oL,Z,I.free⟩ f,by simpa using I.len⟩ ⟨_,f,.inl rfl⟩
  ·exact(f.2 b (N5 (U3 (N0 e) I.ok.above))).trans (I.base.keep b o e n F B)
  ·obtain⟨sl,l⟩:=I.base.slot b o e n F B;exact⟨sl,(f.2 b (N5 (U3 (N0 e) I.ok.above))).trans l⟩
  ·obtain⟨o',l⟩:=I.base.there b o e B;exact⟨o',(f.2 b (N5 (U3 (N0 e) I.ok.above))).trans l⟩
  ·by_cases G:j=i
   ·subst G;rw[hi] at l;cases l;rw[List.getElem?_set_self O] at e2;cases e2;exact⟨u,r,.inl ⟨D,by simp⟩⟩
   ·rw[List.getElem?_set_ne (Ne.symm G)] at e2;obtain⟨u',r',q⟩:=hl j y v' l e2 e3;refine⟨u',r',?_⟩;rcases q with⟨k,e⟩ | ⟨k,c,e,z⟩
    ·refine .inl ⟨k,?_⟩;have:y≠x:=λe=>G (xC hN l (e▸hi));simp[this,e]
    ·exact .inr ⟨k,c,e,z.sameBut f (cne y c e)⟩
  ·obtain⟨U,z⟩:=I.cell y c e;exact⟨U,z.sameBut f (cne y c e)⟩
  ·obtain⟨e,n,ne,nf,d⟩:=I.pin p hp;exact⟨(f.2 p.1 ne).trans e,n,ne,nf,d⟩
 ·have J:X.fn x=true:=by
   rcases hf with z | z
   ·exact z
   ·rw[z] at D;cases D
  obtain⟨c,t⟩:=I.ok.has x (.inl D);obtain⟨U,z⟩:=I.cell x c t;refine wpAny_storeName_cell I.ok.kind D t z (λK P f=>?_);obtain⟨oc,R,S⟩:=id z;refine h { s with heap:=K } ⟨I.ok,I.os,I.bare,⟨λb o e n F B=>?_,λb o e n F B=>?_,I.base.free,λb o e B=>?_,I.base.tups,I.base.frzs,I.base.tbls⟩,⟨m,W.sameBut f (Ne.symm (cne x c t)),λj y v' l e2 e3=>?_⟩,λy V e=>?_,I.free,I.freeC,λp hp=>?_,g ⟨oc,R,I.freeC x c t⟩ f,by simpa using I.len⟩ ⟨c,f,.inr t⟩
  ·exact(f.2 b (N5 (U3 (N0 e) (I.ok.cab x c J t)))).trans (I.base.keep b o e n F B)
  ·obtain⟨sl,l⟩:=I.base.slot b o e n F B;exact⟨sl,(f.2 b (N5 (U3 (N0 e) (I.ok.cab x c J t)))).trans l⟩
  ·obtain⟨o',l⟩:=I.base.there b o e B;exact⟨o',(f.2 b (N5 (U3 (N0 e) (I.ok.cab x c J t)))).trans l⟩
  ·by_cases G:j=i
   ·subst G;rw[hi] at l;cases l;rw[List.getElem?_set_self O] at e2;cases e2;exact⟨u,r,.inr ⟨.inl D,c,t,P⟩⟩
   ·rw[List.getElem?_set_ne (Ne.symm G)] at e2;obtain⟨u',r',q⟩:=hl j y v' l e2 e3;refine⟨u',r',?_⟩;rcases q with q | ⟨k,V,e,z'⟩
    ·exact .inl q
    ·refine .inr ⟨k,V,e,z'.sameBut f ?_⟩;rintro rfl;exact G (xC hN l (I.ok.inj _ _ _ e t▸hi))
  ·by_cases T:V=c
   ·subst T;exact⟨_,P⟩
   ·obtain⟨w2,z2⟩:=I.cell y V e;exact⟨w2,z2.sameBut f T⟩
  ·obtain⟨e,n,ne,nf,d⟩:=I.pin p hp;refine⟨(f.2 p.1 ?_).trans e,n,ne,nf,d⟩;intro q;rw[q,R] at e;have q':oc=p.2:=X7 e;exact d U (by rw[<- q'];exact S)
theorem Ki(I:Inv X pins σ H s)(a:X.N.Nodup)(hi:X.N[i]?=some x)(b:Loc X.env.scope x)(r:RelV v u)
  (h:∀ s',Inv X pins (σ.set i (some v)) H s'->Q () s') (c:X.fn x=true \/ X.env.scope.names.lookup x=some .local:=by first | exact .inl rfl | exact .inr rfl | assumption):wpAny M A (storeName X.env x u) Q E s :=
 jax I a hi b r (λs' d _=>h s' d) c
end
abbrev XK:=Value->Option Addr->Hp->Prop
noncomputable abbrev St:=List (Option V)
abbrev VK:=V->Hp->Prop
abbrev TE:=St->Hp->VK->Prop
abbrev TT:=St->Hp->(Bool->Hp->Prop)->Prop
abbrev TA:=St->Hp->(List V->Hp->Prop)->Prop
structure Ends where
 nx:St->Hp->Prop
 rt:VK
 bk:St->Hp->Prop:=λ_ _=>False
 ct:St->Hp->Prop:=λ_ _=>False
abbrev TS:=Ends->St->Hp->Prop
def EP(X:Cx)(pins:List (Addr×Obj))(σ:St)(Q:VK)(u:Value)(s':Shared):Prop:=∃ v H',Inv X pins σ H' s'/\RelV v u/\Q v H'
def TP(X:Cx)(pins:List (Addr×Obj))(σ:St)(Q:Bool->Hp->Prop)(b:Bool)(s':Shared):Prop:=∃ H',Inv X pins σ H' s'/\Q b H'
def AP(X:Cx)(pins:List (Addr×Obj))(σ:St)(Q:List V->Hp->Prop)(us:List Value)(s':Shared):Prop:=∃ vs H',Inv X pins σ H' s'/\Vals vs us/\Q vs H'
def SP(X:Cx)(pins:List (Addr×Obj))(D:Ends)(f:Flow)(s':Shared):Prop :=
 match f with
 | .next=>∃ σ' H',Inv X pins σ' H' s'/\D.nx σ' H'
 | .brk=>∃ σ' H',Inv X pins σ' H' s'/\D.bk σ' H'
 | .cont=>∃ σ' H',Inv X pins σ' H' s'/\D.ct σ' H'
 | .ret u=>∃ v σ' H',Inv X pins σ' H' s'/\RelV v u/\D.rt v H'
def PE(X:Cx)(e:Expr)(t:TE):Prop :=
 ∀(pins:List (Addr×Obj)) (s:Shared) (σ:St) (H:Hp) (Q:VK),Inv X pins σ H s->t σ H Q->wpAny (model X.prog X.w) X.A (eval e X.env) (EP X pins σ Q) X.xe s
def PT(X:Cx)(e:Expr)(t:TT):Prop :=
 ∀(pins:List (Addr×Obj)) (s:Shared) (σ:St) (H:Hp) (Q:Bool->Hp->Prop),Inv X pins σ H s->t σ H Q->wpAny (model X.prog X.w) X.A (isTrue e X.env (eval e X.env)) (TP X pins σ Q) X.xe s
def PW(X:Cx)(e:Expr)(t:TT):Prop :=
 ∀(whole:Sem Value) (pins:List (Addr×Obj)) (s:Shared) (σ:St) (H:Hp) (Q:Bool->Hp->Prop),Inv X pins σ H s->t σ H Q->wpAny (model X.prog X.w) X.A (isTrue e X.env whole) (TP X pins σ Q) X.xe s
theorem PW.pt(h:PW X e t):PT X e t:=h _
def PA(X:Cx)(es:List Expr)(t:TA):Prop :=
 ∀(pos:Pos) (pins:List (Addr×Obj)) (s:Shared) (σ:St) (H:Hp) (Q:List V->Hp->Prop),Inv X pins σ H s->t σ H Q->wpAny (model X.prog X.w) X.A (spliced (backTo pos (starEach es X.env))) (AP X pins σ Q) X.xe s
def PS(X:Cx)(st:Stmt)(t:TS):Prop :=
 ∀(pins:List (Addr×Obj)) (s:Shared) (σ:St) (H:Hp) (D:Ends),Inv X pins σ H s->t D σ H->wpAny (model X.prog X.w) X.A (exec st X.env) (SP X pins D) X.xe s
def PSs(X:Cx)(st:List Stmt)(t:TS):Prop :=
 ∀(pins:List (Addr×Obj)) (s:Shared) (σ:St) (H:Hp) (D:Ends),Inv X pins σ H s->t D σ H->wpAny (model X.prog X.w) X.A (execs st X.env) (SP X pins D) X.xe s
theorem thn(h:wpAny M A t Q E s)(b:∀ a s,Q a s->Q' a s):wpAny M A t Q' E s:=wpAny_mono h b λ_ _ x=>x
section
variable {X:Cx}
noncomputable def kD(i:Nat):TE:=λσ H Q=>∃ v,σ[i]?=some (some v)/\Q v H
noncomputable def tC(v:V):TE:=λ_ H Q=>Q v H
theorem jdn(k:X.N[i]?=some x)(n:Vis X.env.scope x)(hd:(x==("__debug__" : Str))=false:=by decide)(g:(x==("__classdict__" : Str))=false:=by decide):PE X (.Name x pos) (kD i):=by
 intro f s σ H Q I h;obtain⟨v,e,h⟩:=h;obtain⟨m,o,p⟩:=I.loc;obtain⟨u,r,l⟩:=p i x v k e n;have b:EP X f σ Q u s:=⟨v,H,I,r,h⟩;rcases l with⟨d,q⟩ | ⟨d,c,j,a⟩
 ·exact wpAny_Name (wpAny_loadName_local I.ok.kind d o q b) hd
 ·rcases d with d | d
  ·exact wpAny_Name (wpAny_loadName_cell I.ok.kind d j a b) hd
  ·exact wpAny_Name (wpAny_loadName_free I.ok.kind d j a b g) hd
theorem jdq{i j pos}:PE X (.Constant (.int i) j pos) (tC (.int i)):=λ_ _ _ H _ I h=>wpAny_Constant_int ⟨.int i,H,I.tok _,⟨_,rfl⟩,h⟩
theorem jj9{b j pos}:PE X (.Constant (.bool b) j pos) (tC (.bl b)):=λ_ _ _ H _ I h=>Constant_bool ⟨.bl b,H,I,rfl,h⟩
theorem jgN{j pos}:PE X (.Constant .none j pos) (tC .non):=λ_ _ _ H _ I h=>Constant_none ⟨.non,H,I,rfl,h⟩
theorem jhY{x j pos}:PE X (.Constant (.str x) j pos) (tC (.str x)):=λ_ _ _ H _ I h=>Calls.Constant_str ⟨.str x,H,I.tok _,⟨_,rfl⟩,h⟩
def Gl(X:Cx)(x:Str):Prop:=X.env.kindOf x=some .globalImplicit
theorem jaY(I:Inv X pins σ H s)(a:Gl X x)(b:X.mg x=some u)(h:Q u s)
  (hd:(x==("__debug__" : Str))=false:=by decide):wpAny (model X.prog X.w) X.A (eval (.Name x pos) X.env) Q E s :=
 Calls.Name_function_global I.ok.kind a (Calls.loadGlobal_global (by rw[I.ok.glob];exact I.mod.glob.keeps I.bk) b h) hd
theorem YO(I:Inv X pins σ H s)(a:Gl X x)(b:X.mg x=none)(c:bootBuiltins x=some u)(h:Q u s)
  (d:x≠"__name__":=by decide) (hd:(x==("__debug__" : Str))=false:=by decide):wpAny (model X.prog X.w) X.A (eval (.Name x pos) X.env) Q E s:=by
 obtain⟨g,e,f⟩:=I.mod.blt;exact Calls.Name_function_global I.ok.kind a (Calls.loadGlobal_builtin (by rw[I.ok.glob];exact I.mod.glob.keeps I.bk) b (by rw[I.ok.blt];exact e.keeps I.bk) ((f x d).trans c) h) hd
theorem jev(a:Gl X x)(b:X.mg x=none)(c:bootBuiltins x=some u)(r:RelV v u)(d:x≠"__name__":=by decide)(hd:(x==("__debug__" : Str))=false:=by decide):PE X (.Name x pos) (tC v) :=
 λ_ _ _ H _ I h=>YO I a b c ⟨v,H,I,r,h⟩ d hd
variable {a b:Expr}{ta tb:TE}{pos:Pos}
def PC(X:Cx)(op:CmpOp)(a b:Expr)(t:TE):Prop :=
 ∀(pins:List (Addr×Obj)) (s:Shared) (σ:St) (H:Hp) (Q:VK),Inv X pins σ H s->t σ H Q ->
  wpAny (model X.prog X.w) X.A (eval a X.env) (λv s₁=>wpAny (model X.prog X.w) X.A (eval b X.env) (λu s₂=>wpAny (model X.prog X.w) X.A (compareOp op v u) (EP X pins σ Q) X.xe s₂) X.xe s₁) X.xe s
theorem jcT(b:Expr)  (h:op≠.In) (h2:op≠.NotIn):behindInMarks op b=false:=by
 have a:(op==CmpOp.In)=false:=by cases op<;>first | rfl | exact absurd rfl h
 have e2:(op==CmpOp.NotIn)=false:=by cases op<;>first | rfl | exact absurd rfl h2
 cases b<;>simp[behindInMarks,a,e2]
noncomputable def tB(t:TE):TT:=λσ H Q=>t σ H λx H1=>∃ c,x=.bl c/\Q c H1
theorem jhc(h:PC X op a b t)(h1:behindInMarks op b=false:=by first | exact jcT _ (by decide) (by decide) | rfl):PE X (.Compare a [op] [b] pos) t:=λc s σ H Q I d=>wpAny_Compare1 (h c s σ H Q I d) h1
theorem jin(h:PE X e t)(b:∀ whole,isTrue e X.env whole=(do let v <- whole;standAt e.pos;holding [v] (truthy v)):=by intro _;rfl):PT X e (tB t):=by
 intro a s σ H Q I c;refine isTrue_plain (thn (h a s σ H _ I c) λv s1 ⟨x,f,g,i,j⟩=>?_) (b _);obtain⟨d,rfl,q⟩:=j;cases i;exact wpAny_truthy_bool ⟨f,g,q⟩
variable {tA tB':TT}{rest:List Expr}
noncomputable def jjR(t u:TT):TT:=λσ H Q=>t σ H λc H1=>if c=true then u σ H1 Q else Q false H1
noncomputable def jkz(t:TT):TT:=λσ H Q=>t σ H λc H1=>Q (!c) H1
theorem jfJ(d:PT X a tA):PW X (.BoolOp .And [a] pos) tA:=by
 intro f b s σ H Q I h;refine isTrue_and (thn (d b s σ H Q I h) λc s1 e=>?_);cases c with
 | true=>exact isTrue_and_nil e
 | false=>exact e
theorem jhO(i:PT X a tA)(j:PW X (.BoolOp .And (b::rest) pos) tB'):PW X (.BoolOp .And (a::b::rest) pos) (jjR tA tB'):=by
 intro k d s σ H Q I h;refine isTrue_and (thn (i d s σ H _ I h) λc s1 ⟨e,f,g⟩=>?_);cases c with
 | true=>exact j k d s1 σ e Q f g
 | false=>exact⟨e,f,g⟩
theorem jhe(d:PT X a tA):PT X (.UnaryOp .Not a pos) (jkz tA):=by
 intro b s σ H Q I h;exact isTrue_not (d b s σ H (λc e=>Q (!c) e) I h)
noncomputable def jdV(ta tb:TE):TE:=λσ H Q=>ta σ H λx H1=>∃ c,x=.bl c/\if c=true then tb σ H1 Q else Q (.bl false) H1
noncomputable def jes(ta:TE):TE:=λσ H Q=>ta σ H λx H1=>∃ c,x=.bl c/\Q (.bl (!c)) H1
theorem jhq{op}(h:PE X a t):PE X (.BoolOp op [a] pos) t:=λb s σ H Q I c=>BoolOp_one (h b s σ H Q I c)
theorem jhM(i:PE X a ta)(j:PE X (.BoolOp .And (b::rest) pos) tb):PE X (.BoolOp .And (a::b::rest) pos) (jdV ta tb):=by
 intro d s σ H Q I h;refine BoolOp_and (thn (i d s σ H _ I h) λv s1 k=>?_);obtain⟨x,f,g,l,e⟩:=k;obtain⟨c,rfl,e⟩:=e;cases l;refine wpAny_truthy_bool ?_;cases c with
 | true=>exact j d s1 σ f Q g e
 | false=>exact⟨.bl false,f,g,rfl,e⟩
theorem jg6(e:PE X a ta):PE X (.UnaryOp .Not a pos) (jes ta):=by
 intro b s σ H Q I h;refine UnaryOp_ (thn (e b s σ H _ I h) λv s1 f=>?_);obtain⟨x,g,i,j,d⟩:=f;obtain⟨c,rfl,d⟩:=d;cases j;exact not_of (wpAny_truthy_bool ⟨.bl (!c),g,i,rfl,d⟩)
noncomputable def tIf(t:TT)(ta tb:TE):TE:=λσ H Q=>t σ H λc H1=>if c=true then ta σ H1 Q else tb σ H1 Q
theorem jbL(j:PT X c tA)(k:PE X a ta)(l:PE X b tb):PE X (.IfExp c a b pos) (tIf tA ta tb):=by
 intro e s σ H Q I h;refine wpAny_IfExp (thn (j e s σ H _ I h) λd s1 ⟨f,g,i⟩=>?_);cases d with
 | true=>exact k e s1 σ f Q g i
 | false=>exact l e s1 σ f Q g i
end
def SqL(K:PySem.W.Frag)(H:Hp)(a:Addr)(xs:List V):Prop :=
 Rd H a (.lst xs) \/
  ∃(o:Obj) (its:Array Value) (n:Nat),K.lookup a=some o/\o.cls=.type "list"/\o.dict=none/\o.data=.seq its n/\its.size<=sizeLine/\Vals xs its.toList
def SqT(K:PySem.W.Frag)(H:Hp)(a:Addr)(xs:List V):Prop :=
 Rd H a (.tup xs) \/
  ∃(o:Obj) (its:Array Value) (n:Nat),K.lookup a=some o/\o.cls=.type "tuple"/\o.data=.seq its n/\its.size<=sizeLine/\Vals xs its.toList
noncomputable def jk3:Value->Option V
 | .none=>some .non
 | .bool b=>some (.bl b)
 | .int i _=>some (.int i)
 | .str x _=>some (.str x)
 | .bytes b _=>some (.byt b)
 | .float b _=>some (.flt b)
 | .ref a=>some (.ref a)
 | .type n=>some (.ty n)
 | _=>none
theorem RelV.abs(r:RelV x u):jk3 u=some x:=by
 cases x with
 | non=>cases r;rfl
 | bl _=>cases r;rfl
 | int _=>obtain⟨t,rfl⟩:=r;rfl
 | str _=>obtain⟨t,rfl⟩:=r;rfl
 | byt _=>obtain⟨t,rfl⟩:=r;rfl
 | flt _=>obtain⟨t,rfl⟩:=r;rfl
 | ref _=>cases r;rfl
 | ty _=>cases r;rfl
theorem RelV.inj(r:RelV x u)(q:RelV y u):x=y:=X7 (r.abs.symm.trans q.abs)
theorem Vals.inj:∀{xs ys:List V}{us:List Value},Vals xs us->Vals ys us->xs=ys
 | _,_,_,.nil,.nil=>rfl
 | _,_,_,.cons r t,.cons a b=>by rw[r.inj a,Vals.inj t b]
section
variable {X:Cx}{pins:List (Addr×Obj)}{σ:St}{H:Hp}{s:Shared}{a:Addr}{xs ys:List V}
theorem SqL.of{K:PySem.W.Frag}(h:H a=some (.lst xs)):SqL K H a xs:=.inl (.inl h)
theorem SqT.of{K:PySem.W.Frag}(h:H a=some (.tup xs)):SqT K H a xs:=.inl (.inl h)
theorem Inv.list(I:Inv X pins σ H s)(h:SqL X.K H a xs):∃ its:List Value,Vals xs its/\PlainL s.heap a its.toArray/\xs.length<=sizeLine:=by
 rcases h with h | ⟨o,its,n,b,c,hd,d,f,r⟩
 ·obtain⟨z,its,n,r,e⟩:=h.ok I.hok;exact⟨its,r,⟨_,n,e,rfl,rfl,rfl⟩,z⟩
 ·refine⟨its.toList,r,⟨o,n,I.kIn a o b,c,hd,by simpa using d⟩,?_⟩;have e:=r.length;simp only[Array.length_toList] at e
  lia
theorem Inv.tuple(I:Inv X pins σ H s)(h:SqT X.K H a xs):∃ its:List Value,Vals xs its/\IsTup s.heap a its.toArray/\xs.length<=sizeLine:=by
 rcases h with h | ⟨o,its,n,b,c,d,f,r⟩
 ·obtain⟨z,its,r,p⟩:=h.ok I.hok;exact⟨its,r,p.1,z⟩
 ·refine⟨its.toList,r,⟨o,I.kIn a o b,c,n,by simpa using d⟩,?_⟩;have e:=r.length;simp only[Array.length_toList] at e
  lia
theorem Inv.list_inj(I:Inv X pins σ H s)(h:SqL X.K H a xs)(h':SqL X.K H a ys):xs=ys:=by
 obtain⟨c,r,⟨o,n,e,_,_,d⟩,_⟩:=I.list h;obtain⟨b,i,⟨j,k,f,_,_,g⟩,_⟩:=I.list h';rw[e] at f;cases f;rw[d] at g;injection g with d1 _;have:c=b:=by simpa using congrArg Array.toList d1
 subst this;exact r.inj i
theorem Inv.tuple_inj(I:Inv X pins σ H s)(h:SqT X.K H a xs)(h':SqT X.K H a ys):xs=ys:=by
 obtain⟨c,r,⟨o,e,_,n,d⟩,_⟩:=I.tuple h;obtain⟨b,i,⟨j,f,_,k,g⟩,_⟩:=I.tuple h';rw[e] at f;cases f;rw[d] at g;injection g with d1 _;have:c=b:=by simpa using congrArg Array.toList d1
 subst this;exact r.inj i
end
noncomputable abbrev Cx.wish(X:Cx)(E:Value->Shared->Prop):Cx:={ X with xe:=E }
noncomputable abbrev Cx.nox(X:Cx):Cx:=X.wish λ_ _=>False
theorem Cx.Ok.wish{X:Cx}(ok:X.Ok)(E:Value->Shared->Prop):(X.wish E).Ok :=
 ⟨ok.mod,ok.kind,ok.glob,ok.blt,ok.above,ok.inj,ok.has,ok.cab,ok.hd,ok.frames,ok.stk,ok.exf,ok.bs,ok.bsz,ok.noex,ok.exfs,ok.funs,ok.frf⟩
theorem Cx.Ok.unwish{X:Cx}{E:Value->Shared->Prop}(ok:(X.wish E).Ok):X.Ok :=
 ⟨ok.mod,ok.kind,ok.glob,ok.blt,ok.above,ok.inj,ok.has,ok.cab,ok.hd,ok.frames,ok.stk,ok.exf,ok.bs,ok.bsz,ok.noex,ok.exfs,ok.funs,ok.frf⟩
section
variable {X:Cx}{pins:List (Addr×Obj)}{σ:St}{H:Hp}{s:Shared}{E:Value->Shared->Prop}
theorem Inv.wish(I:Inv X pins σ H s)(E:Value->Shared->Prop):Inv (X.wish E) pins σ H s:=⟨I.ok.wish E,I.os,I.bare,I.base,I.loc,I.cell,I.free,I.freeC,I.pin,I.hok,I.len⟩
theorem Inv.unwish(I:Inv (X.wish E) pins σ H s):Inv X pins σ H s:=⟨I.ok.unwish,I.os,I.bare,I.base,I.loc,I.cell,I.free,I.freeC,I.pin,I.hok,I.len⟩
theorem SP.unwish(h:SP (X.wish E) pins D f s'):SP X pins D f s':=by
 cases f with
 | next=>obtain⟨a,b,I,q⟩:=h;exact⟨a,b,I.unwish,q⟩
 | brk=>obtain⟨a,b,I,q⟩:=h;exact⟨a,b,I.unwish,q⟩
 | cont=>obtain⟨a,b,I,q⟩:=h;exact⟨a,b,I.unwish,q⟩
 | ret u=>obtain⟨v,a,b,I,r,q⟩:=h;exact⟨v,a,b,I.unwish,r,q⟩
theorem PSs.nox{st:List Stmt}{t:TS}(h:PSs X.nox st t):PSs X st t:=λa s σ H D I b =>
 wpAny_mono (h a s σ H D (I.wish _) b) (λ_ _ q=>q.unwish) λ_ _ z=>False.elim z
end
section
variable {X:Cx}{st:Stmt}{rest:List Stmt}{t u:TS}{e:Expr}{te:TE}{pos:Pos}
noncomputable def jeL:TS:=λD σ H=>D.nx σ H
noncomputable def jjh(t u:TS):TS:=λD σ H=>t { D with nx:=u D } σ H
theorem jfl:PSs X [] jeL:=λ_ _ σ H _ I h=>wpAny_execs_nil ⟨σ,H,I,h⟩
theorem jcp(h1:PS X st t)(h2:PSs X rest u):PSs X (st::rest) (jjh t u):=by
 intro a s σ H D I h;refine wpAny_execs_cons (thn (h1 a s σ H { D with nx:=u D } I h) λf s1 q=>?_);cases f with
 | next =>
  obtain⟨b,c,d,q⟩:=q;exact h2 a s1 b c D d q
 | ret v=>exact q
 | brk=>exact q
 | cont=>exact q
theorem jfi(h1:PS X st t):PSs X [st] t:=by
 intro a s σ H D I h;refine wpAny_execs_cons (thn (h1 a s σ H D I h) λf s1 q=>?_);cases f with
 | next=>exact wpAny_execs_nil q
 | ret v=>exact q
 | brk=>exact q
 | cont=>exact q
theorem Inv.quiet(I:Inv X pins σ H s):interactive X.env=false:=by simp[interactive,I.ok.kind]
noncomputable def V1(te:TE):TS:=λD σ H=>te σ H λ_ H1=>D.nx σ H1
theorem VS(b:PE X e te)(c:swapsWith e none pos.line X.env=pure false:=by rfl):PS X (.Expr e pos) (V1 te):=by
 intro a s σ H D I h;exact wpAny_Expr_any (thn (b a s σ H _ I h) λv s1 ⟨x,d,f,i,g⟩=>⟨σ,d,f,g⟩) I.quiet c
noncomputable def jjN(te:TE):TS:=λD σ H=>te σ H D.rt
theorem jiO(b:PE X e te):PS X (.Return (some e) pos) (jjN te):=by
 intro a s σ H D I h;exact wpAny_Return_some (thn (b a s σ H _ I h) λv s1 ⟨x,c,d,f,g⟩=>⟨x,σ,c,d,f,g⟩)
noncomputable def jjq(c:TT)(t u:TS):TS:=λD σ H=>c σ H λb H1=>if b=true then t D σ H1 else u D σ H1
theorem jj3(j:PT X c tc)(k:PSs X a t)(l:PSs X b u):PS X (.If c a b pos) (jjq tc t u):=by
 intro e s σ H D I h;refine wpAny_If (thn (j e s σ H _ I h) λd s1 ⟨f,g,i⟩=>?_);cases d with
 | true=>exact k e s1 σ f D g i
 | false=>exact l e s1 σ f D g i
noncomputable def jaa:TS:=λ_ _ _=>False
theorem jc8:PS X st jaa:=λ_ _ _ _ _ _ h=>h.elim
end
abbrev TG:=V->St->Hp->(St->Hp->Prop)->Prop
abbrev TGs:=List V->St->Hp->(St->Hp->Prop)->Prop
def PG(X:Cx)(target:Expr)(t:TG):Prop :=
 ∀(pins:List (Addr×Obj)) (s:Shared) (σ:St) (H:Hp) (v:V) (u:Value) (Q:St->Hp->Prop),Inv X pins σ H s->RelV v u->t v σ H Q ->
  wpAny (model X.prog X.w) X.A (assign target X.env u) (λ_ s'=>∃ σ' H',Inv X pins σ' H' s'/\Q σ' H') X.xe s
def PGs(X:Cx)(ts:List Expr)(t:TGs):Prop :=
 ∀(pins:List (Addr×Obj)) (s:Shared) (σ:St) (H:Hp) (vs:List V) (us:List Value) (Q:St->Hp->Prop),Inv X pins σ H s->Vals vs us->t vs σ H Q ->
  wpAny (model X.prog X.w) X.A (assignInOrder ((assignEach ts X.env).map (·.2)) us) (λ_ s'=>∃ σ' H',Inv X pins σ' H' s'/\Q σ' H') X.xe s
abbrev jkG:=V->V->V->Hp->(Hp->Prop)->Prop
def jkP(X:Cx)(t:jkG):Prop :=
 ∀(pins:List (Addr×Obj)) (s:Shared) (σ:St) (H:Hp) (o i v:V) (ov iv u:Value) (Q:Hp->Prop),Inv X pins σ H s->RelV o ov->RelV i iv->RelV v u->t o i v H Q ->
  wpAny (model X.prog X.w) X.A (setItem ov iv u) (λ_ s'=>∃ H',Inv X pins σ H' s'/\Q H') X.xe s
abbrev TIp:=V->V->Hp->VK->Prop
def PIp(X:Cx)(op:Operator)(t:TIp):Prop :=
 ∀(pins:List (Addr×Obj)) (s:Shared) (σ:St) (H:Hp) (x y:V) (v u:Value) (Q:VK),Inv X pins σ H s->RelV x v->RelV y u->t x y H Q ->
  wpAny (model X.prog X.w) X.A (inplaceOp op v u) (EP X pins σ Q) X.xe s
section
variable {X:Cx}{pos:Pos}
noncomputable def V7(i:Nat):TG:=λv σ H Q=>Q (σ.set i (some v)) H
theorem uw(b:X.N.Nodup)(hi:X.N[i]?=some x)(c:Loc X.env.scope x)(d:X.fn x=true \/ X.env.scope.names.lookup x=some .local:=by first | exact .inl rfl | exact .inr rfl | assumption):PG X (.Name x pos) (V7 i):=by
 intro a s σ H v u Q I r h;exact wpAny_assign_Name (Ki I b hi c r (λf e=>⟨_,H,e,h⟩) d)
noncomputable def jjL:TGs:=λvs σ H Q=>vs=[]/\Q σ H
noncomputable def jfv(t:TG)(u:TGs):TGs:=λvs σ H Q=>∃ v r,vs=v::r/\t v σ H λσ' H'=>u r σ' H' Q
theorem jeh:PGs X [] jjL:=by
 intro a s σ H b c Q I r h;obtain⟨e,h⟩:=h;subst e;cases r;exact assignInOrder_nil ⟨σ,H,I,h⟩
theorem jcH(h1:PG X e t)(h2:PGs X es u)
  (b:(assignEach (e::es) X.env).map (·.2)=assign e X.env::(assignEach es X.env).map (·.2):=by rfl):PGs X (e::es) (jfv t u):=by
 intro a s σ H l m Q I r h;obtain⟨v,n,c,h⟩:=h;subst c;cases r with
 | cons r d =>
  rw[b];refine assignInOrder_cons (thn (h1 a s σ H _ _ _ I r h) λ_ s1 f=>?_);obtain⟨g,i,j,k⟩:=f;exact h2 a s1 g i _ _ Q j d k
noncomputable def ji3(K:PySem.W.Frag)(n:Nat)(t:TGs):TG:=λv σ H Q=>∃ a xs,v=.ref a/\SqT K H a xs/\xs.length=n/\t xs σ H Q
theorem jiE(i:X.calm=true)(h:PGs X es t)
  (j:(assignEach es X.env).length=n:=by rfl) (d:(assignEach es X.env).findIdx? (·.1)=none:=by rfl):PG X (.Tuple es k pos) (ji3 X.K n t):=by
 intro c s σ H v u Q I r f;obtain⟨a,l,m,p,q,f⟩:=f;subst m;cases r;obtain⟨w,g,x,B⟩:=I.tuple p;refine assign_Tuple_tuple (I.ok.hd i) x (by simp[j,<- q,g.length]) d λy z=>?_;have A:Inv X c σ H { s with heap:=y }:=I.kept (t':=s.toks) λb o e=>z b o (N5 (N0 e)) e;exact h c _ σ H l _ Q A (by simpa using g) f
noncomputable def jjx(to ti:TE)(t:jkG):TG:=λv σ H Q=>to σ H λo H1=>ti σ H1 λi H2=>t o i v H2 λH3=>Q σ H3
theorem jh9(c:PE X o to)(hi:PE X i ti)(d:jkP X t)
  (e:∀ v,assign (.Subscript o i pos) X.env v=(do
   let ov <- holding [v] (eval o X.env)
   let iv <- holding [v,ov] (eval i X.env)
   standAt pos
   holding [v,ov,iv] (setItem ov iv v)
   release [v,ov,iv] []):=by intro _;rfl):PG X (.Subscript o i pos) (jjx to ti t):=by
 intro a s σ H v u Q I r h;rw[e];refine L1 (wpAny_holding (thn (c a s σ H _ I h) λov s1 b=>?_));obtain⟨x,f,g,j,k⟩:=b;refine L1 (wpAny_holding (thn (hi a s1 σ f _ g k) λiv l b=>?_));obtain⟨y,m,n,p,q⟩:=b;refine L1 (wpAny_standAt (L1 (wpAny_holding (thn (d a l σ m x y v ov iv u _ n j p r q) λ_ B ⟨w,z,A⟩=>?_))));exact wpAny_release ⟨σ,w,z,A⟩
noncomputable def jfN(te:TE)(g:TG):TS:=λD σ H=>te σ H λx H1=>g x σ H1 D.nx
theorem jij(b:PE X e te)(c:PG X tg g)(d:swapsWithSole [tg] e pos.line X.env=pure false:=by rfl)(f:swappedStores [tg] e X.env=pure none:=by rfl)
  (h1:(assignEach [tg] X.env).map (·.2)=[assign tg X.env]:=by rfl):PS X (.Assign [tg] e pos) (jfN te g):=by
 intro a s σ H D I h;refine wpAny_Assign_stores (thn (b a s σ H _ I h) λv s1 i=>?_) d f;obtain⟨x,j,k,l,m⟩:=i;rw[h1];exact thn (c a s1 σ j x v _ k l m) λ_ n q=>q
theorem jhG(b:X.N.Nodup)(hi:X.N[i]?=some x)(c:Loc X.env.scope x)(d:PE X e te)(f:swapsWith e (some (.Name x pos')) pos.line X.env=pure false:=by rfl)(g:X.fn x=true \/ X.env.scope.names.lookup x=some .local:=by first | exact .inl rfl | exact .inr rfl | assumption) :
  PS X (.Assign [.Name x pos'] e pos) (jfN te (V7 i)):=by
 intro a s σ H D I h;refine wpAny_Assign_Name (thn (d a s σ H _ I h) λv s1 j=>?_) f;obtain⟨y,k,l,m,n⟩:=j;exact Ki l b hi c m (λp o=>⟨_,k,o,n⟩) g
noncomputable def ipI(f:Int->Int->Int):TIp:=λx y H Q=>∃ i j,x=.int i/\y=.int j/\Q (.int (f i j)) H
theorem jg2:PIp X .Add (ipI λi j=>i+j):=by
 intro a s σ H x y v u Q I b c h;obtain⟨i,j,d,e2,q⟩:=h;subst d;subst e2;obtain⟨t,rfl⟩:=b;obtain⟨e,rfl⟩:=c;exact iadd_int ⟨.int _,H,I.tok _,⟨_,rfl⟩,q⟩
theorem jiU:PIp X .Sub (ipI λi j=>i - j):=by
 intro a s σ H x y v u Q I b c h;obtain⟨i,j,d,e2,q⟩:=h;subst d;subst e2;obtain⟨t,rfl⟩:=b;obtain⟨e,rfl⟩:=c;exact isub_int ⟨.int _,H,I.tok _,⟨_,rfl⟩,q⟩
end
structure It where
 go:Nat->Hp->Prop
 yld:Nat->Hp->V->Hp->Prop
 stop:Nat->Hp->Prop
def wt(X:Cx)(pins:List (Addr×Obj))(H:Hp)(b:Addr):Prop :=
 H b=none/\b≠X.env.locals/\b∉X.fs/\(b∈X.ex \/ X.s₀.heap.objs.size<=b)/\(∀ x c,X.env.cells.lookup x=some c->c≠b)/\∀ p∈X.pn++pins,p.1≠b
theorem Inv.fpOk(I:Inv X pins σ H s)(a:s.heap.objs.size<=b)(d:H' b=none):wt X pins H' b:=by
 refine⟨d,Nat.ne_of_gt (U3 I.lt a),I.nofs a,.inr (N6 I.sz a),λx c e z=>?_,λp f z=>?_⟩
 ·obtain⟨v,q⟩:=I.cell x c e;exact absurd (U3 q.lt (by rw[z];exact a)) (Nat.lt_irrefl _)
 ·exact absurd (U3 (N0 (I.pin p f).1) (by rw[z];exact a)) (Nat.lt_irrefl _)
structure Turn(P:Program)(w:World)(K:PySem.W.Frag)(tg:Expr)(J:It)(fp:List Addr)(it:Addr)(tn:Nat->Heap->Prop):Prop where
 mem:it∈fp
 obj:∀ i h,tn i h->∀ b∈fp,∃ o,h.get? b=some o/\∀ v,o.data≠.cell v
 keep:∀ i h h',tn i h->(∀ b∈fp,∀ o,h.get? b=some o->h'.get? b=some o)->tn i h'
 item:∀(X:Cx),X.prog=P->X.w=w->X.K=K->X.calm=true->∀(i:Nat) (pins:List (Addr×Obj)) (s:Shared) (σ:St) (H:Hp) (E:Value->Shared->Prop),Inv X pins σ H s->(∀ b∈fp,wt X pins H b)->tn i s.heap->J.go i H ->
  wpAny (model P w) X.A (pyNext (.ref it)) (λr s1=>∃ u,r=some u /\
   wpAny (model P w) X.A (letOwnedTupleGo tg (.ref it) u) (λ_ s2=>∃ x H',Inv X pins σ H' s2/\RelV x u/\J.yld i H x H'/\tn (i+1) s2.heap/\∀ b∈fp,H' b=none) E s1) E s
 done:∀(X:Cx),X.prog=P->X.w=w->X.K=K->X.calm=true->∀(i:Nat) (pins:List (Addr×Obj)) (s:Shared) (σ:St) (H:Hp) (E:Value->Shared->Prop),Inv X pins σ H s->(∀ b∈fp,wt X pins H b)->tn i s.heap->J.stop i H ->
  wpAny (model P w) X.A (pyNext (.ref it)) (λr s1=>r=none/\Inv X pins σ H s1) E s
 self:∀(A:Around) (i:Nat) (s:Shared) (Q:Value->Shared->Prop) (E:Value->Shared->Prop),tn i s.heap->Q (.ref it) s->wpAny (model P w) A (pyIter (.ref it)) Q E s
abbrev TI:=St->Hp->(It->Hp->Prop)->Prop
def PIE(X:Cx)(pins:List (Addr×Obj))(σ:St)(tg:Expr)(R:It->Hp->Prop)(itv:Value)(s2:Shared):Prop :=
 ∃(it:Addr) (fp:List Addr) (tn:Nat->Heap->Prop) (J:It) (H':Hp),itv=.ref it/\Inv X pins σ H' s2/\Turn X.prog X.w X.K tg J fp it tn/\tn 0 s2.heap/\(∀ b∈fp,wt X pins H' b)/\R J H'
def PI(X:Cx)(tg iter:Expr)(wi:TI):Prop :=
 ∀(pins:List (Addr×Obj)) (s:Shared) (σ:St) (H:Hp) (R:It->Hp->Prop),Inv X pins σ H s->wi σ H R ->
  wpAny (model X.prog X.w) X.A (eval iter X.env) (λv s1=>wpAny (model X.prog X.w) X.A (pyIter v) (PIE X pins σ tg R) X.xe s1) X.xe s
theorem jcd(b:s.heap.get? it=some o)(c:o.cls=.type n)(hd:o.data=.fields vs)
  (d:["enumerate","zip","dict_itemiterator","dict_reverseitemiterator","odict_iterator","itertools.zip_longest","itertools.pairwise"].contains n=false) (a:Q () s):wpAny M A (letOwnedTupleGo tg (.ref it) u) Q E s:=by
 unfold letOwnedTupleGo;cases tg<;>first
  | exact M6 a
  | (cases u<;>first
    | exact M6 a
    | (refine L1 (wpAny_load b ?_)
       rw[c,hd];show wpAny M A (if(["enumerate","zip","dict_itemiterator","dict_reverseitemiterator","odict_iterator","itertools.zip_longest","itertools.pairwise"].contains n&&vs[0]?==some (rawInt _))=true then _ else _) Q E s;rw[if_neg (by intro h;rw[d,Bool.false_and] at h;cases h)];exact M6 a))
noncomputable def Itl(K:PySem.W.Frag)(a:Addr):It :=
 ⟨λi H=>∃ xs x,SqL K H a xs/\xs[i]?=some x,λi H x H'=>H'=H/\∀ xs,SqL K H a xs->xs[i]?=some x,λi H=>∃ xs,SqL K H a xs/\xs.length<=i⟩
noncomputable def Itt(K:PySem.W.Frag)(a:Addr):It :=
 ⟨λi H=>∃ xs x,SqT K H a xs/\xs[i]?=some x,λi H x H'=>H'=H/\∀ xs,SqT K H a xs->xs[i]?=some x,λi H=>∃ xs,SqT K H a xs/\xs.length<=i⟩
noncomputable def Itr(lo:Int)(n:Nat):It:=⟨λi _=>i < n,λi H x H'=>H'=H/\x=.int (lo+i),λi _=>n<=i⟩
theorem jae{P:Program}{w:World}{K:PySem.W.Frag}{tg:Expr}(a j:Addr):Turn P w K tg (Itl K a) [j] j (λi h=>h.IsListIter j a i) where
 mem:=by simp
 obj:=λi h f b l=>by
  have e:b=j:=by simpa using l
  subst e;obtain⟨o,e,c,d⟩:=f;exact⟨o,e,λv z=>by rw[d] at z;cases z⟩
 keep:=λi h n f k=>f.at λo e=>k j (by simp) o e
 item:=by
  intro X t y A O i g s σ H E I q f B;subst t y A;obtain⟨Q,x,r,C⟩:=B;obtain⟨D,F,p,R⟩:=I.list r;obtain⟨u,S,T⟩:=F.get C;obtain⟨G,J,U,L,M,N⟩:=q j (by simp);refine wpAny_pyNext_list_item f p.isList (x:=u) (by simpa using S) λn m V=>?_;have Y:Inv X g σ H { s with heap:=n }:=I.turned (t':=s.toks) (λb o l e=>(V.2 b l).trans e) G J L M N;obtain⟨o,e,c,d⟩:=id m;exact⟨u,rfl,jcd (s:={ s with heap:=n }) e c d (by decide) ⟨x,H,Y,T,⟨rfl,λys Z=>by rw[I.list_inj Z r];exact C⟩,m,λb l=>(q b l).1⟩⟩
 done:=by
  intro X t y A O i g s σ H E I q f B;subst t y A;obtain⟨Q,r,C⟩:=B;obtain⟨D,F,p,R⟩:=I.list r;obtain⟨G,J,U,L,M,N⟩:=q j (by simp);have hl:=F.length;exact wpAny_pyNext_list_end (I.ok.hd O) f p.isList (by simp;lia) λn eb=>⟨rfl,I.turned (t':=s.toks) (λb o l e=>eb b o l e) G J L M N⟩
 self:=λ_ _ _ _ _ f h=>wpAny_pyIter_listiter f h
theorem xW{P:Program}{w:World}{K:PySem.W.Frag}{tg:Expr}(a j:Addr):Turn P w K tg (Itt K a) [j] j (λi h=>h.IsTupleIter j a i) where
 mem:=by simp
 obj:=λi h f b l=>by
  have e:b=j:=by simpa using l
  subst e;obtain⟨o,e,c,d⟩:=f;exact⟨o,e,λv z=>by rw[d] at z;cases z⟩
 keep:=λi h q f k=>f.at λo e=>k j (by simp) o e
 item:=by
  intro X y A B O i g s σ H E I r f C;subst y A B;obtain⟨Q,x,t,D⟩:=C;obtain⟨m,F,p,R⟩:=I.tuple t;obtain⟨u,S,T⟩:=F.get D;obtain⟨G,J,U,L,M,N⟩:=r j (by simp);refine wpAny_pyNext_tuple_item f (show s.heap.IsTuple a m.toArray from p) (x:=u) (by simpa using S) λq n V=>?_;have Y:Inv X g σ H { s with heap:=q }:=I.turned (t':=s.toks) (λb o l e=>(V.2 b l).trans e) G J L M N;obtain⟨o,e,c,d⟩:=id n;exact⟨u,rfl,jcd (s:={ s with heap:=q }) e c d (by decide) ⟨x,H,Y,T,⟨rfl,λys Z=>by rw[I.tuple_inj Z t];exact D⟩,n,λb l=>(r b l).1⟩⟩
 done:=by
  intro X y A B O i g s σ H E I r f C;subst y A B;obtain⟨Q,t,D⟩:=C;obtain⟨m,F,p,R⟩:=I.tuple t;obtain⟨G,J,U,L,M,N⟩:=r j (by simp);have hl:=F.length;exact wpAny_pyNext_tuple_end (I.ok.hd O) f (show s.heap.IsTuple a m.toArray from p) (by simp;lia) λq eb=>⟨rfl,I.turned (t':=s.toks) (λb o l e=>eb b o l e) G J L M N⟩
 self:=λ_ _ _ _ _ f h=>wpAny_pyIter_tupleiter f h
theorem wv{P:Program}{w:World}{K:PySem.W.Frag}{tg:Expr}(c:Addr)(lo:Int)(n:Nat):Turn P w K tg (Itr lo n) [c] c (λi h=>IsRangeIter h c (lo+(i:Nat)*1) ((n:Int) - (i:Nat)) 1) where
 mem:=by simp
 obj:=λi h a b f=>by
  have e:b=c:=by simpa using f
  subst e;exact⟨_,a,λv z=>by
   have F:Data.fields _=Data.cell v:=z;cases F⟩
 keep:=λi h j a k=>k c (by simp) _ a
 item:=by
  intro X m p q r i d s σ H E I l a u;subst m p q;obtain⟨x,y,G,A,B,C⟩:=l c (by simp);have W:=Walks.range (prog:=X.prog) (w:=X.w) (I.ok.hd r) c lo 1 n;refine W.item i s _ _ u a λv j D J g L=>?_;obtain⟨t,rfl⟩:=J;have M:Inv X d σ H { s with heap:=j,toks:=D }:=I.turned (λb o f e=>L b o (by simpa using f) e) x y A B C;refine⟨_,rfl,jcd (s:={ s with heap:=j,toks:=D }) (n:="range_iterator") g rfl rfl (by decide) ⟨.int (lo+i),H,M,⟨t,?_⟩,⟨rfl,rfl⟩,g,λb f=>(l b f).1⟩⟩;rw[Int.mul_one]
 done:=by
  intro X m p q r i d s σ H E I l a u;subst m p q;obtain⟨x,y,G,A,B,C⟩:=l c (by simp);exact wpAny_pyNext_range_end (I.ok.hd r) a (by have:n<=i:=u;lia) λj N=>⟨rfl,I.turned (t':=s.toks) (λb o f e=>N b o f e) x y A B C⟩
 self:=λ_ _ _ _ _ a h=>wpAny_pyIter_rangeiter a h
section
variable {X:Cx}{tg:Expr}
theorem jby{pins:List (Addr×Obj)}{s:Shared}{R:It->Hp->Prop}{E:Value->Shared->Prop}{lo hi:Int}{tk:Nat}(I:Inv X pins σ H s)(h1:-(2 ^ 62)<=lo)(h2:lo < 2 ^ 62)(c:-(2 ^ 62)<=hi)(d:hi < 2 ^ 62)
  (q:R (Itr lo (hi - lo).toNat) H):wpAny (model X.prog X.w) X.A (pyIter (.ref s.heap.objs.size)) (PIE X pins σ tg R) E { s with heap:=s.heap.push { cls:=.type "range",data:=.fields #[.int lo t,.int hi u,.int 1 v] },toks:=tk }:=by
 refine wpAny_pyIter_range (IsRange.new ..) (small_one h1 h2 c d) ?_;have a:Inv X pins σ H { s with heap:=s.heap.push { cls:=.type "range",data:=.fields #[.int lo t,.int hi u,.int 1 v] },toks:=tk }:=I.kept λb o e=>L7 _ e;refine⟨(s.heap.push { cls:=.type "range",data:=.fields #[.int lo t,.int hi u,.int 1 v] }).objs.size,[(s.heap.push { cls:=.type "range",data:=.fields #[.int lo t,.int hi u,.int 1 v] }).objs.size],_,_,H,rfl,
  a.kept (t':=tk) λb o e=>L7 _ e,wv _ lo (hi - lo).toNat,?_,λb f=>?_,q⟩
 ·have g:lo+((0:Nat):Int)*1=lo:=by simp
  have e2:(((hi - lo).toNat:Nat):Int) - ((0:Nat):Int)=Builtin.Range.rangeSize lo hi 1:=by rw[rangeSize_one];split<;>lia
  show IsRangeIter _ _ (lo+((0:Nat):Int)*1) ((((hi - lo).toNat:Nat):Int) - ((0:Nat):Int)) 1;rw[g,e2];exact E1 _ rfl
 ·have e:b=(s.heap.push { cls:=.type "range",data:=.fields #[.int lo t,.int hi u,.int 1 v] }).objs.size:=by simpa using f
  subst e;exact a.fpOk (M8 _) (a.hok.fresh (M8 _))
def jeF(ta:TA):TI:=λσ H R=>ta σ H λvs H1=>∃ j:Int,vs=[.int j]/\-(2 ^ 62)<=j/\j < 2 ^ 62/\R (Itr 0 j.toNat) H1
theorem jbo(d:Gl X "range")(f:X.mg "range" = none)(g:PA X [a] ta)(i:starEach [a] X.env=[(false,eval a X.env)]:=by rfl):PI X tg (.Call (.Name "range" p) [a] [] pos) (jeF ta):=by
 intro b s σ H R I h;refine Call_ (YO I d f boot_range (PyProof.Rows.callWith_type1 (thn (g pos b s σ H _ I h) λo s1 ⟨u,v,k,l,c⟩=>?_) i rfl));obtain⟨j,e,c,m,q⟩:=c;subst e;cases l with
 | cons r n =>
  cases n;obtain⟨t,rfl⟩:=r;exact call_range_1 (jby k (by lia) (by lia) c m (by simpa using q))
def jey(wi:TI)(g:TG)(tb:TS):TS:=λD σ H=>wi σ H λJ H1=>∃ W:Nat->Nat->St->Hp->Prop,(∃ m,W 0 m σ H1)/\∀ i m σ H,W i m σ H ->
 (J.stop i H/\D.nx σ H) \/ (J.go i H/\∃ N:St->Hp->Prop,(∀ σ' H',N σ' H'->∃ m',m' < m/\W (i+1) m' σ' H')/\∀ x H',J.yld i H x H'->g x σ H' λσ2 H2=>tb { D with nx:=N,ct:=N,bk:=D.nx } σ2 H2)
noncomputable def Vw(fp:List Addr)(h:Heap):List (Addr×Obj):=fp.filterMap λb=>(h.get? b).map λo=>(b,o)
theorem qv(a:b∈fp)(e:h.get? b=some o):(b,o)∈Vw fp h:=List.mem_filterMap.mpr ⟨b,a,by rw[e];rfl⟩
theorem ja7(a:p∈Vw fp h):p.1∈fp/\h.get? p.1=some p.2:=by
 obtain⟨b,c,e⟩:=List.mem_filterMap.mp a;cases q:h.get? b with
 | none=>rw[q] at e;cases e
 | some o =>
  rw[q] at e;have d:(b,o)=p:=X7 e;subst d;exact⟨c,q⟩
theorem Inv.pinned(I:Inv X pins σ H s)(f:∀ b∈fp,wt X pins H b)(g:∀ b∈fp,∃ o,s.heap.get? b=some o/\∀ v,o.data≠.cell v):Inv X (pins++Vw fp s.heap) σ H s :=
 I.pins_of λp h=>(N1.mp h).elim (λz=>I.pin p (U2 _ z)) λz=>by
  obtain⟨a,e⟩:=ja7 z;obtain⟨i,j,k,_⟩:=f p.1 a;obtain⟨o,c,d⟩:=g p.1 a;rw[e] at c;cases c;exact⟨e,i,j,k,d⟩
theorem Inv.unpinned(I:Inv X (pins++pl) σ H s):Inv X pins σ H s:=I.pins_of λp a=>I.pin p (U2 _ (List.mem_append_left _ a))
theorem jak(B:PassesOwn (model X.prog X.w) X.A X.env X.xe)(V:X.calm=true)(hi:PI X tg iter wi)(hg:PG X tg g)(c:PSs X body tb)
  (hs:∀ x,foldedSetIterable iter X.env x=pure x:=by intro _;rfl):PS X (.For tg iter body [] pos) (jey wi g tb):=by
 intro a s σ H D I h;refine wpAny_For (thn (hi a s σ H _ I h) λv s1 h1=>thn h1 λitv s2 h2=>?_) hs;obtain⟨it,C,Y,J,H2,e,I2,T,O,Z,W,⟨m0,w0⟩,turn⟩:=h2;subst e
 -- what stays true of the iterator's objects through the loop
 have j:∀{t:Hp},(∀ b∈C,t b=none)->∀ b∈C,wt X a t b:=λhn b c=>⟨hn b c,(Z b c).2⟩;refine codeAny_forLoop_any (λn s'=>∃ i E t,Inv X a E t s'/\Y i s'.heap/\(∀ b∈C,t b=none)/\W i n E t) ?_ m0 ⟨0,σ,H2,I2,O,λb c=>(Z b c).1,w0⟩;rintro n s3 ⟨i,F,M,I3,G,K,w3⟩;rcases turn i n F M w3 with⟨stop,qn⟩ | ⟨go,N,hN,step⟩
 ·refine wpAny_passesOwn B (thn (T.done X rfl rfl rfl V i a s3 F M X.xe I3 (j K) G stop) λr s4 ⟨P,I4⟩=>?_);subst P;exact wpAny_execs_nil ⟨F,M,I4,qn⟩
 ·refine wpAny_passesOwn B (thn (T.item X rfl rfl rfl V i a s3 F M X.xe I3 (j K) G go) λr s4 ⟨u,P,h4⟩=>?_);subst P;refine wpAny_passesOwn B (thn h4 λ_ s5 Q=>?_);obtain⟨x,H5,I5,r5,y5,z,R⟩:=Q;have S:=I5.pinned (j R) (T.obj _ _ z);refine wpAny_passesOwn B (thn (hg _ s5 F H5 x u _ S r5 (step x H5 y5)) λ_ s6 Q=>?_);obtain⟨σ6,H6,I6,q6⟩:=Q;refine wpAny_passesOwn B (thn (c _ s6 σ6 H6 _ I6 q6) λf U y=>?_);have k:∀{l:St}{p:Hp},Inv X (a++Vw C s5.heap) l p U->N l p->∃ m,m < n/\∃ i E t,Inv X a E t U/\Y i U.heap/\(∀ b∈C,t b=none)/\W i m E t:=λ{l p} q L=>by
   obtain⟨m',hm,w7⟩:=hN l p L;refine⟨m',hm,i+1,l,p,q.unpinned,T.keep _ _ _ z λb c o e=>(q.pin (b,o) (U2 _ (U2 _ (qv c e)))).1,λb c=>?_,w7⟩;obtain⟨o,e,d⟩:=T.obj _ _ z b c;exact(q.pin (b,o) (U2 _ (U2 _ (qv c e)))).2.1
  cases f with
  | next=>obtain⟨l,p,q,L⟩:=y;exact k q L
  | cont=>obtain⟨l,p,q,L⟩:=y;exact k q L
  | brk=>obtain⟨l,p,q,y⟩:=y;exact⟨l,p,q.unpinned,y⟩
  | ret v=>obtain⟨x7,l,p,q,r7,y⟩:=y;exact⟨x7,l,p,q.unpinned,r7,y⟩
end
abbrev R2:=V->V->Hp->VK->Prop
def OpR(X:Cx)(f:Value->Value->Sem Value)(r:R2):Prop :=
 ∀(pins:List (Addr×Obj)) (s:Shared) (σ:St) (H:Hp) (x y:V) (v u:Value) (Q:VK),Inv X pins σ H s->RelV x v->RelV y u->r x y H Q ->
  wpAny (model X.prog X.w) X.A (f v u) (EP X pins σ Q) X.xe s
def UnR(X:Cx)(f:Value->Sem Value)(r:V->Hp->VK->Prop):Prop :=
 ∀(pins:List (Addr×Obj)) (s:Shared) (σ:St) (H:Hp) (x:V) (v:Value) (Q:VK),Inv X pins σ H s->RelV x v->r x H Q ->
  wpAny (model X.prog X.w) X.A (f v) (EP X pins σ Q) X.xe s
def Jt(X:Cx)(f:Value)(r:List V->Hp->VK->Prop):Prop :=
 ∀(pins:List (Addr×Obj)) (s:Shared) (σ:St) (H:Hp) (xs:List V) (us:List Value) (Q:VK),Inv X pins σ H s->Vals xs us->r xs H Q ->
  wpAny (model X.prog X.w) X.A (call f us) (EP X pins σ Q) X.xe s
noncomputable def tOp(r:R2)(ta tb:TE):TE:=λσ H Q=>ta σ H λx H1=>tb σ H1 λy H2=>r x y H2 Q
noncomputable def tUn(r:V->Hp->VK->Prop)(ta:TE):TE:=λσ H Q=>ta σ H λx H1=>r x H1 Q
noncomputable def rI(C:Int->Int->Prop)(g:Int->Int->V):R2:=λx y H Q=>∃ i j,x=.int i/\y=.int j/\C i j/\Q (g i j) H
noncomputable def rI0(g:Int->Int->V):R2:=λx y H Q=>∃ i j,x=.int i/\y=.int j/\Q (g i j) H
def rU(g:Int->V):V->Hp->VK->Prop:=λx H Q=>∃ i,x=.int i/\Q (g i) H
section
variable {X:Cx}{a b c:Expr}{ta tb tc:TE}{pos:Pos}
theorem jjt(d:PE X a ta)(e:PE X b tb){pins:List (Addr×Obj)}{s:Shared}{R:V->V->Hp->Prop}(I:Inv X pins σ H s)
  (h:ta σ H λx H1=>tb σ H1 λy H2=>R x y H2) {Q:Value->Shared->Prop}{f:Value->Value->Sem Value}
  (g:∀ v u s2 x y H2,Inv X pins σ H2 s2->RelV x v->RelV y u->R x y H2->wpAny (model X.prog X.w) X.A (f v u) Q X.xe s2) :
  wpAny (model X.prog X.w) X.A (eval a X.env) (λv s₁=>wpAny (model X.prog X.w) X.A (eval b X.env) (λu s₂=>wpAny (model X.prog X.w) X.A (f v u) Q X.xe s₂) X.xe s₁) X.xe s:=by
 refine thn (d pins s σ H _ I h) λv s1 c=>?_;obtain⟨x,H1,i,j,k⟩:=c;refine thn (e pins s1 σ H1 _ i k) λu s2 c=>?_;obtain⟨y,H2,l,m,n⟩:=c;exact g v u s2 x y H2 l j m n
theorem wb(d:OpR X (binaryOp op) r)(e:PE X a ta)(f:PE X b tb):PE X (.BinOp a op b pos) (tOp r ta tb):=by
 intro c s σ H Q I h;exact wpAny_BinOp (jjt e f I h λv u g x y i j k l q=>d c g σ i x y v u Q j k l q)
theorem jke(c:UnR X (unaryOp op) r)(d:PE X a ta):PE X (.UnaryOp op a pos) (tUn r ta):=by
 intro b s σ H Q I h;exact UnaryOp_ (thn (d b s σ H _ I h) λv s1 ⟨x,e,f,g,i⟩=>c b s1 σ e x v Q f g i)
theorem opI{f:Value->Value->Sem Value}{C:Int->Int->Prop}{g:Int->Int->Int}
  (a:∀(i j:Int) (t u:Tok) (s:Shared) (Q:Value->Shared->Prop) (E:Value->Shared->Prop),C i j->Q (.int (g i j) s.toks) { s with toks:=s.toks+1 }->wpAny (model X.prog X.w) X.A (f (.int i t) (.int j u)) Q E s) :
  OpR X f (rI C λi j=>.int (g i j)):=by
 intro b s σ H x y v u Q I c d h;obtain⟨i,j,rfl,rfl,e,q⟩:=h;obtain⟨t,rfl⟩:=c;obtain⟨k,rfl⟩:=d;exact a i j t k s _ _ e ⟨.int (g i j),H,I.tok _,⟨_,rfl⟩,q⟩
theorem jkQ{f:Value->Value->Sem Value}{g:Int->Int->Int}
  (a:∀(i j:Int) (t u:Tok) (s:Shared) (Q:Value->Shared->Prop) (E:Value->Shared->Prop),Q (.int (g i j) s.toks) { s with toks:=s.toks+1 }->wpAny (model X.prog X.w) X.A (f (.int i t) (.int j u)) Q E s) :
  OpR X f (rI0 λi j=>.int (g i j)):=by
 intro b s σ H x y v u Q I c d h;obtain⟨i,j,rfl,rfl,q⟩:=h;obtain⟨t,rfl⟩:=c;obtain⟨e,rfl⟩:=d;exact a i j t e s _ _ ⟨.int (g i j),H,I.tok _,⟨_,rfl⟩,q⟩
theorem jkX{f:Value->Value->Sem Value}{g:Int->Int->Bool}
  (a:∀(i j:Int) (t u:Tok) (s:Shared) (Q:Value->Shared->Prop) (E:Value->Shared->Prop),Q (.bool (g i j)) s->wpAny (model X.prog X.w) X.A (f (.int i t) (.int j u)) Q E s) :
  OpR X f (rI0 λi j=>.bl (g i j)):=by
 intro b s σ H x y v u Q I c d h;obtain⟨i,j,rfl,rfl,q⟩:=h;obtain⟨t,rfl⟩:=c;obtain⟨e,rfl⟩:=d;exact a i j t e s _ _ ⟨.bl (g i j),H,I,rfl,q⟩
def jkt(i j:Int):Prop:=0<=j/\j<=1000000/\i.natAbs < 2 ^ 64
theorem jik:OpR X (binaryOp .Add) (rI0 λi j=>.int (i+j)):=jkQ λ_ _ _ _ _ _ _ q=>add_int q
theorem jid:OpR X (binaryOp .Sub) (rI0 λi j=>.int (i - j)):=jkQ λ_ _ _ _ _ _ _ q=>sub_int q
theorem jgI:OpR X (binaryOp .Mod) (rI (λ_ j=>0 < j) λi j=>.int (i % j)):=opI λi j _ _ _ _ _ a q=>by
 have b:(0:Int) < j:=a;exact mod_int' (by lia) (by rw[Int.fmod_eq_emod_of_nonneg i (by lia)];exact q)
theorem jhN:OpR X (binaryOp .Pow) (rI jkt λi j=>.int (i ^ j.toNat)):=opI λ_ _ _ _ _ _ _ a q=>pow_int_small a.1 a.2.1 a.2.2 q
theorem unI{f:Value->Sem Value}{g:Int->Int}
  (a:∀(i:Int) (t:Tok) (s:Shared) (Q:Value->Shared->Prop) (E:Value->Shared->Prop),Q (.int (g i) s.toks) { s with toks:=s.toks+1 }->wpAny (model X.prog X.w) X.A (f (.int i t)) Q E s) :
  UnR X f (rU λi=>.int (g i)):=by
 intro b s σ H x v Q I c h;obtain⟨i,rfl,q⟩:=h;obtain⟨t,rfl⟩:=c;exact a i t s _ _ ⟨.int (g i),H,I.tok _,⟨_,rfl⟩,q⟩
theorem jiC:UnR X (unaryOp .USub) (rU λi=>.int (-i)):=unI λ_ _ _ _ _ q=>neg_int q
end
noncomputable def jjU:V->V->Bool
 | .non,.non=>true | .non,.int _=>true | .int _,.non=>true | .non,.bl _=>true | .bl _,.non=>true | .non,.str _=>true | .str _,.non=>true
 | .int _,.int _=>true | .bl _,.bl _=>true | .str _,.str _=>true | .byt _,.byt _=>true
 | .int _,.str _=>true | .str _,.int _=>true | .bl _,.str _=>true | .str _,.bl _=>true
 | _,_=>false
def rEq:R2:=λx y H Q=>jjU x y=true/\Q (.bl (decide (x=y))) H
def rNe:R2:=λx y H Q=>jjU x y=true/\Q (.bl (!decide (x=y))) H
theorem Qu:decide (V.int i=V.int j)=(i==j):=by
 rw[Bool.eq_iff_iff];simp
theorem jbr:decide (V.bl i=V.bl j)=(i==j):=by
 rw[Bool.eq_iff_iff];simp
theorem jbp:decide (V.str i=V.str j)=(i==j):=by
 rw[Bool.eq_iff_iff];simp
theorem jar:decide (V.byt i=V.byt j)=(i.toList==j.toList):=by
 rw[Bool.eq_iff_iff];cases i;cases j;simp
section
variable {X:Cx}{a b c:Expr}{ta tb tc:TE}{pos:Pos}
theorem jE(I:Inv X pins σ H s)(q:Q (.bl k) H)(e:k=k'):EP X pins σ Q (.bool k') s:=by
 subst e;exact⟨.bl k,H,I,rfl,q⟩
theorem jjP:OpR X (compareOp .Eq) rEq:=by
 intro e s σ H x y v u Q I d a h;obtain⟨c,q⟩:=h;cases x with
 | non =>
  cases d;cases y with
  | non=>cases a;exact PySem.EqNone.eq_none_none (jE I q (by simp))
  | bl j=>cases a;exact PySem.EqNone.eq_none_bool (jE I q (by simp))
  | int j=>obtain⟨b,rfl⟩:=a;exact PySem.EqNone.eq_none_int (jE I q (by simp))
  | str j=>obtain⟨b,rfl⟩:=a;exact PySem.EqNone.eq_none_str (jE I q (by simp))
  | _=>exact absurd (show false=true from c) M3
 | bl i =>
  cases d;cases y with
  | non=>cases a;exact PySem.EqNone.eq_bool_none (jE I q (by simp))
  | bl j=>cases a;exact eq_bool (jE I q jbr)
  | str j=>obtain⟨b,rfl⟩:=a;exact PySem.EqMixed.eq_bool_str (jE I q (by simp))
  | _=>exact absurd (show false=true from c) M3
 | int i =>
  obtain⟨t,rfl⟩:=d;cases y with
  | non=>cases a;exact PySem.EqNone.eq_int_none (jE I q (by simp))
  | int j=>obtain⟨b,rfl⟩:=a;exact eq_int (jE I q Qu)
  | str j=>obtain⟨b,rfl⟩:=a;exact PySem.EqMixed.eq_int_str (jE I q (by simp))
  | _=>exact absurd (show false=true from c) M3
 | str i =>
  obtain⟨t,rfl⟩:=d;cases y with
  | non=>cases a;exact PySem.EqNone.eq_str_none (jE I q (by simp))
  | bl j=>cases a;exact PySem.EqMixed.eq_str_bool (jE I q (by simp))
  | int j=>obtain⟨b,rfl⟩:=a;exact PySem.EqMixed.eq_str_int (jE I q (by simp))
  | str j=>obtain⟨b,rfl⟩:=a;exact eq_str (jE I q jbp)
  | _=>exact absurd (show false=true from c) M3
 | byt i =>
  obtain⟨t,rfl⟩:=d;cases y with
  | byt j=>obtain⟨b,rfl⟩:=a;exact PySem.W.eq_bytes (jE I q jar)
  | _=>exact absurd (show false=true from c) M3
 | _=>cases y<;>exact absurd (show false=true from c) M3
theorem jjb:OpR X (compareOp .NotEq) rNe:=by
 intro e s σ H x y v u Q I d a h;obtain⟨c,q⟩:=h;cases x with
 | non =>
  cases d;cases y with
  | non=>cases a;exact PySem.EqNone.ne_none_none (jE I q (by simp))
  | bl j=>cases a;exact PySem.EqNone.ne_none_bool (jE I q (by simp))
  | int j=>obtain⟨b,rfl⟩:=a;exact PySem.EqNone.ne_none_int (jE I q (by simp))
  | str j=>obtain⟨b,rfl⟩:=a;exact PySem.EqNone.ne_none_str (jE I q (by simp))
  | _=>exact absurd (show false=true from c) M3
 | bl i =>
  cases d;cases y with
  | non=>cases a;exact PySem.EqNone.ne_bool_none (jE I q (by simp))
  | bl j=>cases a;exact ne_bool (jE I q (congrArg not jbr))
  | str j=>obtain⟨b,rfl⟩:=a;exact PySem.EqMixed.ne_bool_str (jE I q (by simp))
  | _=>exact absurd (show false=true from c) M3
 | int i =>
  obtain⟨t,rfl⟩:=d;cases y with
  | non=>cases a;exact PySem.EqNone.ne_int_none (jE I q (by simp))
  | int j=>obtain⟨b,rfl⟩:=a;exact ne_int (jE I q (congrArg not Qu))
  | str j=>obtain⟨b,rfl⟩:=a;exact PySem.EqMixed.ne_int_str (jE I q (by simp))
  | _=>exact absurd (show false=true from c) M3
 | str i =>
  obtain⟨t,rfl⟩:=d;cases y with
  | non=>cases a;exact PySem.EqNone.ne_str_none (jE I q (by simp))
  | bl j=>cases a;exact PySem.EqMixed.ne_str_bool (jE I q (by simp))
  | int j=>obtain⟨b,rfl⟩:=a;exact PySem.EqMixed.ne_str_int (jE I q (by simp))
  | str j=>obtain⟨b,rfl⟩:=a;exact ne_str (jE I q (congrArg not jbp))
  | _=>exact absurd (show false=true from c) M3
 | byt i =>
  obtain⟨t,rfl⟩:=d;cases y with
  | byt j=>obtain⟨b,rfl⟩:=a;exact PySem.W.ne_bytes (jE I q (congrArg not jar))
  | _=>exact absurd (show false=true from c) M3
 | _=>cases y<;>exact absurd (show false=true from c) M3
theorem jjC:OpR X (compareOp .Lt) (rI0 λi j=>.bl (decide (i < j))):=jkX λ_ _ _ _ _ _ _ q=>lt_int q
theorem jjj:OpR X (compareOp .Gt) (rI0 λi j=>.bl (decide (j < i))):=jkX λ_ _ _ _ _ _ _ q=>gt_int q
theorem jbg:OpR X (compareOp .In) (λx y H Q=>∃ i j,x=.str i/\y=.str j/\Q (.bl (!(Builtin.Str.occurrences j i 0 j.length 1).isEmpty)) H):=by
 intro a s σ H x y v u Q I b c h;obtain⟨i,j,rfl,rfl,q⟩:=h;obtain⟨t,rfl⟩:=b;obtain⟨d,rfl⟩:=c;exact in_str (jE I q rfl)
theorem jh6:OpR X (compareOp .Is) (λx y H Q=>y=.non/\Q (.bl (decide (x=.non))) H):=by
 intro a s σ H x y v u Q I b c h;obtain⟨rfl,q⟩:=h;cases c;refine is_none_gen (jE I q ?_);cases x<;>first
  | (cases b;rfl)
  | (obtain⟨t,rfl⟩:=b;rfl)
theorem KF:OpR X (compareOp .NotIn) (λx y H Q=>∃ i j,x=.str i/\y=.str j/\Q (.bl (!(!(Builtin.Str.occurrences j i 0 j.length 1).isEmpty))) H):=by
 intro a s σ H x y v u Q I b c h;obtain⟨i,j,rfl,rfl,q⟩:=h;obtain⟨t,rfl⟩:=b;obtain⟨d,rfl⟩:=c;exact notIn_str (jE I q rfl)
theorem Qb(b:Expr)  (h:op≠.In:=by decide) (h2:op≠.NotIn:=by decide):behindInMarks op b=false:=by
 have a:(op==CmpOp.In)=false:=by cases op<;>first | rfl | exact absurd rfl h
 have e2:(op==CmpOp.NotIn)=false:=by cases op<;>first | rfl | exact absurd rfl h2
 cases b<;>simp[behindInMarks,a,e2]
theorem jfh(d:OpR X (compareOp op) r)(e:PE X a ta)(f:PE X b tb)(g:behindInMarks op b=false):PE X (.Compare a [op] [b] pos) (tOp r ta tb):=by
 intro c s σ H Q I h;exact wpAny_Compare1 (jjt e f I h λv u i x y j k l m q=>d c i σ j x y v u Q k l m q) g
noncomputable def jeo(t:TE):TT:=λσ H Q=>t σ H λx H'=>∃ k,x=.bl k/\Q k H'
theorem je5(f:OpR X (compareOp op) r)(g:PE X a ta)(i:PE X b tb)(j:behindInMarks op b=false):PT X (.Compare a [op] [b] pos) (jeo (tOp r ta tb)):=by
 intro d s σ H Q I h;refine wpAny_isTrue_Compare1 (thn (g d s σ H _ I h) λv s1 ⟨x,l,m,n,o⟩=>thn (i d s1 σ l _ m o) λu p ⟨y,q,t,w,A⟩ =>
  thn (f d p σ q x y v u _ t n w A) λc F ⟨z,B,C,D,k,e,E⟩=>?_) j
 subst e;cases D;exact wpAny_truthy_bool ⟨B,C,E⟩
theorem K6:(sizeLine:Nat) < 2 ^ 63:=by rw[sizeLine_eq];decide
theorem xQ:OpR X (binaryOp .Add) (λx y H Q=>∃ i j,x=.str i/\y=.str j/\i.length+j.length<=sizeLine/\Q (.str (i++j)) H):=by
 intro a s σ H x y v u Q I b c h;obtain⟨i,j,rfl,rfl,d,q⟩:=h;obtain⟨t,rfl⟩:=b;obtain⟨e,rfl⟩:=c;exact add_str (λe f=>⟨.str (i++j),H,I.tok _,⟨_,rfl⟩,q⟩) d
theorem jg0(r:Vals [x] us):∃ u,us=[u]/\RelV x u:=by
 cases r with
 | cons a b=>cases b;exact⟨_,rfl,a⟩
theorem jhR(r:Vals [x,y] us):∃ u w',us=[u,w']/\RelV x u/\RelV y w':=by
 cases r with
 | cons a b =>
  cases b with
  | cons c d=>cases d;exact⟨_,_,rfl,a,c⟩
theorem jam(c:X.calm=true):Jt X (.builtin "max") (λxs H Q=>∃ i j,xs=[.int i,.int j]/\Q (.int (if j > i then j else i)) H):=by
 intro b s σ H xs d Q I r h;obtain⟨i,j,rfl,q⟩:=h;obtain⟨u,e,rfl,⟨t,rfl⟩,⟨f,rfl⟩⟩:=jhR r;refine max_two_ints (I.ok.hd c) λg l k=>⟨_,H,I.kept k,?_,q⟩;by_cases a:j > i
 ·rw[if_pos a,if_pos a];exact⟨_,rfl⟩
 ·rw[if_neg a,if_neg a];exact⟨_,rfl⟩
theorem uy(c:X.calm=true):Jt X (.builtin "min") (λxs H Q=>∃ i j,xs=[.int i,.int j]/\Q (.int (if j < i then j else i)) H):=by
 intro b s σ H xs d Q I r h;obtain⟨i,j,rfl,q⟩:=h;obtain⟨u,e,rfl,⟨t,rfl⟩,⟨f,rfl⟩⟩:=jhR r;refine min_two_ints (I.ok.hd c) λg l k=>⟨_,H,I.kept k,?_,q⟩;by_cases a:j < i
 ·rw[if_pos a,if_pos a];exact⟨_,rfl⟩
 ·rw[if_neg a,if_neg a];exact⟨_,rfl⟩
def jj6(K:PySem.W.Frag)(x:V)(H:Hp)(n:Nat):Prop :=
 match x with
 | .str y=>y.length<=sizeLine/\n=y.length
 | .byt y=>y.size<=sizeLine/\n=y.size
 | .ref p=>(∃ xs,SqL K H p xs/\n=xs.length) \/ ∃ xs,SqT K H p xs/\n=xs.length
 | _=>False
theorem jbK:Jt X (.builtin "len") (λxs H Q=>∃ x n,xs=[x]/\jj6 X.K x H n/\Q (.int n) H):=by
 intro i s σ H xs l Q I r h;obtain⟨x,n,rfl,e,q⟩:=h;obtain⟨u,rfl,c⟩:=jg0 r;have m:=K6;have o:sizeLine=16777216:=sizeLine_eq;cases x with
 | str y =>
  obtain⟨t,rfl⟩:=c;obtain⟨j,b⟩:y.length<=sizeLine/\n=y.length:=e;subst b;exact len_str (by lia) ⟨.int _,H,I.tok _,⟨_,rfl⟩,q⟩
 | byt y =>
  obtain⟨t,rfl⟩:=c;obtain⟨j,b⟩:y.size<=sizeLine/\n=y.size:=e;subst b;exact PySem.W.len_bytes (by lia) ⟨.int _,H,I.tok _,⟨_,rfl⟩,q⟩
 | ref p =>
  cases c;have b:(∃ xs,SqL X.K H p xs/\n=xs.length) \/ ∃ xs,SqT X.K H p xs/\n=xs.length:=e;rcases b with⟨xs,d,b⟩ | ⟨xs,d,b⟩
  ·subst b;obtain⟨f,g,pl,k⟩:=I.list d;have a:=g.length;exact Calls.call_len_list pl.isList (by simp only[N2];lia) ⟨.int xs.length,H,I.tok _,⟨_,by simp only[N2];rw[a]⟩,q⟩
  ·subst b;obtain⟨f,g,pl,k⟩:=I.tuple d;have a:=g.length;exact len_tuple pl (by simp only[N2];lia) ⟨.int xs.length,H,I.tok _,⟨_,by simp only[N2];rw[a]⟩,q⟩
 | _=>exact(show False from e).elim
end
structure ObjM(h:Heap)(x dx C:Addr)(mA:Str->Option Value):Prop where
 obj:h.get? x=some (PySem.W.instObj C dx)
 ns:h.Ns1 dx mA
 ne:dx≠x
theorem jaE{h:Heap}{mA:Str->Option Value}(n:h.Ns1 dx mA):∃ od,h.get? dx=some od/\∀ name,PySem.W.lookIn name od=some (mA name):=by
 obtain⟨o,c,k,d,hd,f,_,g⟩:=n;refine⟨o,d,λname=>?_⟩;have e:=g name;unfold nsFind findBy at e;rw[<- Array.find?_toList] at e;unfold PySem.W.lookIn;rw[hd];dsimp only;split
 ·rename_i y q;rw[q] at e;exact congrArg some e
 ·rename_i q;rw[q] at e;have a:c.toList.any (·.refKey)=false:=by
   rw[List.any_eq_false];intro y i;obtain⟨z,t,b⟩:=f y (Array.mem_toList_iff.mp i);simp[DictEntry.refKey,b]
  have j:¬ c.toList.any (·.refKey)=true:=by rw[a];exact M3
  rw[if_neg j];exact congrArg some e
theorem ObjM.look(I:ObjM h x dx C mA):∃ od,PySem.W.InstAt h x (PySem.W.instObj C dx) C (some od)/\∀ name,PySem.W.lookIn name od=some (mA name) :=
 let ⟨od,ho,hl⟩:=jaE I.ns
 ⟨od,⟨I.obj,rfl,rfl,ho⟩,hl⟩
section
variable {prog:Program}{w:World}{A:Around}{E:Value->Shared->Prop}{s:Shared}{K:PySem.W.Frag}{x dx C f:Addr}{mA:Str->Option Value}{name:Str}{v:Value}
theorem jfp{a:Bool}{Q:Value->Shared->Prop}(X:K.In s.heap)(I:ObjM s.heap x dx C mA)(c:PySem.W.plainGet K C name=true)(d:PySem.W.hasDictIn K C=true)
  (e:PySem.W.findIn K (.ref C) name=some none) (f:mA name=some v) (b:PySem.W.handedIn v=true) (h:Q v { s with toks:=s.toks+1 }) :
  wpAny (model prog w) A (getAttr (.ref x) name a) Q E s:=by
 obtain⟨od,J,g⟩:=I.look;exact PySem.W.get_value X J (PySem.W.plainGet_of c).1 (PySem.W.findObj_own d e rfl (by rw[g,f])) b h
theorem jcK{pl:Sem Bool}{Q:Value×List Value->Shared->Prop}(X:K.In s.heap)(I:ObjM s.heap x dx C mA)(a:PySem.W.plainGet K C name=true)
  (b:PySem.W.findIn K (.ref C) name=some (some (.ref f))) (c:PySem.W.isFn K (.ref f)=true) (d:mA name=none) (h:Q (.ref f,[.ref x]) s) :
  wpAny (model prog w) A (getMethod (.ref x) name pl) Q E s:=by
 obtain⟨od,J,e⟩:=I.look;exact PySem.W.method_fn X J (PySem.W.plainGet_of a).1 (PySem.W.plainGet_of a).2 b (beq_iff_eq.mp c) (by show(PySem.W.lookIn name od).map (·.isSome)=some false;rw[e,d];rfl) h
theorem jfT{ns:List Str}{Q:Unit->Shared->Prop}(X:K.In s.heap)(I:ObjM s.heap x dx C mA)
  (j:PySem.W.findIn K (.ref C) "__setattr__" = some (some (.builtin "object.__setattr__"))) (k:PySem.W.plainOver K C=true) (l:PySem.W.takerIn K C name=some none) (m:PySem.W.hasDictIn K C=true)
  (n:PySem.Within mA ns) (hsz:ns.length<=sizeLine)
  (h:∀ h',ObjM h' x dx C (λy=>if y=name then some v else mA y)->Heap.SameBut dx s.heap h'->Q () { s with heap:=h',toks:=s.toks+2 }) :
  wpAny (model prog w) A (setAttr (.ref x) name v) Q E s:=by
 obtain⟨od,J,u⟩:=I.look;refine PySem.W.set_plain X J j (PySem.W.osa_open (s:={ s with toks:=s.toks+1 }) (r:=none) X J k l λb=>?_);obtain⟨z,o,e⟩:=PySem.W.any_some m;have p:s.heap.get? x=some ⟨.ref C,some dx,.plain,#[]⟩:=I.obj;refine L1 (M6 (L1 (L1 (wpAny_loadPart p (L1 (PySem.W.Looks.here (s:={ s with toks:=s.toks+1 }) (PySem.W.looks_clsIn X o) ?_))))));rw[e];refine M6 (a:=some dx) (L1 (M6 (L1 ?_)));refine wpAny_nsSet1 (s:={ s with toks:=s.toks+1 }) I.ns λh' c d=>?_;obtain⟨B,q,t,f,g,i⟩:=c.count (PySem.Within.cons name v n);refine L1 (wpAny_lookBehind f (by rw[g];exact pastItsLine_dict (N6 i (by rw[M0];lia))) ?_);exact M6 (h _ ⟨(d.2 _ (Ne.symm I.ne)).trans I.obj,c,I.ne⟩ d)
theorem jcP{R:Result->Shared->Prop}{vs:List Value}{kw:List (Str×Value)}(X:K.In s.heap)(a:PySem.W.makesIn K C=true)
  (hi:PySem.W.findIn K (.ref C) "__init__" = some (some (.ref f))) (b:PySem.W.typeIn K (.ref f)=some (.type "function"))
  (h:codeAny (model prog w) (A.under (.builtin "type.__call__" ⟨.ref C::vs,kw⟩)) (.call (.ref f) ⟨.ref (s.heap.objs.size+1)::vs,kw⟩) (PySem.W.InitBack (s.heap.objs.size+1) R)
   { s with heap:=(s.heap.push PySem.W.emptyDict).push (PySem.W.instObj C s.heap.objs.size) }) :
  codeAny (model prog w) A (.call (.ref C) ⟨vs,kw⟩) R s:=by
 obtain⟨c,g,d,t,os⟩:=s;exact PySem.W.make_core (PySem.W.makes_of X a) (PySem.W.looks_findIn X hi) (λself=>PySem.W.bind_fn X self b) (.inl rfl) h
end
noncomputable def VA(f:Str)(v:V):List (Str×V)->List (Str×V)
 | []=>[(f,v)]
 | (g,x)::r=>if g=f then(g,v)::r else(g,x)::VA f v r
theorem YV(f g:Str)(v:V):∀ fs:List (Str×V),(VA f v fs).lookup g=if g=f then some v else fs.lookup g
 | []=>by
  show List.lookup g [(f,v)]=_;by_cases h:g=f
  ·have a:(g==f)=true:=beq_iff_eq.mpr h;simp only[List.lookup,a,if_pos h]
  ·have a:(g==f)=false:=U1.mpr h;simp only[List.lookup,a,if_neg h]
 | (k,x)::r=>by
  have c:=YV f g v r;rw[show VA f v ((k,x)::r)=(if k=f then(k,v)::r else(k,x)::VA f v r) from rfl];by_cases b:k=f
  ·rw[if_pos b];by_cases h:g=k
   ·have a:(g==k)=true:=beq_iff_eq.mpr h;simp only[List.lookup,a,if_pos (h.trans b)]
   ·have a:(g==k)=false:=U1.mpr h;simp only[List.lookup,a,if_neg (λe:g=f=>h (e.trans b.symm))]
  ·rw[if_neg b];by_cases h:g=k
   ·have a:(g==k)=true:=beq_iff_eq.mpr h;simp only[List.lookup,a,if_neg (λe:g=f=>b (h.symm.trans e))]
   ·have a:(g==k)=false:=U1.mpr h;simp only[List.lookup,a];exact c
theorem YI(f:Str)(v:V):∀ fs:List (Str×V),f∈(VA f v fs).map (·.1)/\∀ g,g∈fs.map (·.1)->g∈(VA f v fs).map (·.1)
 | []=>⟨by simp[VA],λg h=>by simp at h⟩
 | (k,x)::r=>by
  obtain⟨b,c⟩:=YI f v r;rw[show VA f v ((k,x)::r)=(if k=f then(k,v)::r else(k,x)::VA f v r) from rfl];by_cases a:k=f
  ·rw[if_pos a];subst a;exact⟨by simp,λg h=>by simpa using h⟩
  ·rw[if_neg a];refine⟨?_,λg h=>?_⟩
   ·rw[L4];exact L5 _ b
   ·rw[L4] at h ⊢;rcases M4.mp h with e | e
    ·exact M4.mpr (.inl e)
    ·exact L5 _ (c g e)
theorem Yy(f:Str)(v:V):∀ fs:List (Str×V),(VA f v fs).length<=fs.length+1
 | []=>by simp[VA]
 | (k,x)::r=>by
  have b:=Yy f v r;rw[show VA f v ((k,x)::r)=(if k=f then(k,v)::r else(k,x)::VA f v r) from rfl];by_cases a:k=f
  ·rw[if_pos a,M0,M0];lia
  ·rw[if_neg a,M0,M0];lia
theorem RelO.some_of(r:RelO (some v) o):∃ u,o=some u/\RelV v u:=by
 cases o with
 | none=>exact(show False from r).elim
 | some u=>exact⟨u,rfl,r⟩
theorem RelO.none_of(r:RelO none o):o=none:=by
 cases o with
 | none=>rfl
 | some u=>exact(show False from r).elim
theorem jav(r:RelV v u):PySem.W.handedIn u=true:=by
 cases v with
 | non=>cases(show u=Value.none from r);rfl
 | bl b=>cases(show u=Value.bool b from r);rfl
 | int i=>obtain⟨t,e⟩:=(show ∃ t,u=Value.int i t from r);cases e;rfl
 | str x=>obtain⟨t,e⟩:=(show ∃ t,u=Value.str x t from r);cases e;rfl
 | byt b=>obtain⟨t,e⟩:=(show ∃ t,u=Value.bytes b t from r);cases e;rfl
 | flt b=>obtain⟨t,e⟩:=(show ∃ t,u=Value.float b t from r);cases e;rfl
 | ref a=>cases(show u=Value.ref a from r);rfl
 | ty n=>cases(show u=Value.type n from r);rfl
section
variable {P:Program}{w:World}{H H':Hp}{h h':Heap}{a C dx:Addr}{fs fs':List (Str×V)}
theorem Q4(hok:HOk P w H h)(e:H a=some (.ins C dx fs)):∃ mA,ObjM h a dx C mA/\(∀ f,RelO (fs.lookup f) (mA f))/\PySem.Within mA (fs.map (·.1))/\fs.length<=1000/\H dx=some (.own a):=by
 obtain⟨d,z,ne,ob,mA,n,r,q⟩:=(show ObjOk P w H h a (.ins C dx fs) from hok a _ e);exact⟨mA,⟨ob,n,ne⟩,r,q,z,d⟩
end
structure Cls(K:PySem.W.Frag)(C:Addr):Prop where
 pg:PySem.W.plainGet K C Str.empty=true
 hd:PySem.W.hasDictIn K C=true
 po:PySem.W.plainOver K C=true
 sa:PySem.W.findIn K (.ref C) "__setattr__" = some (some (.builtin "object.__setattr__"))
theorem Cls.get{K:PySem.W.Frag}{C:Addr}(c:Cls K C)(f:Str):PySem.W.plainGet K C f=true:=c.pg
def NoAttr(K:PySem.W.Frag)(C:Addr)(f:Str):Prop:=PySem.W.findIn K (.ref C) f=some none
theorem NoAttr.taker{K:PySem.W.Frag}{C:Addr}{f:Str}(n:NoAttr K C f):PySem.W.takerIn K C f=some none:=by
 unfold PySem.W.takerIn;rw[show PySem.W.findIn K (.ref C) f=some none from n];rfl
structure Con(K:PySem.W.Frag)(C:Addr)(f:Str)(v:V)(u:Value):Prop where
 at_:PySem.W.findIn K (.ref C) f=some (some u)
 rel:RelV v u
 get:PySem.W.specialIn K u "__get__" = some none
 cp:PySem.W.copiedNames.contains f=false
structure Meth(K:PySem.W.Frag)(C:Addr)(m:Str)(f:Addr):Prop where
 at_:PySem.W.findIn K (.ref C) m=some (some (.ref f))
 fn:PySem.W.isFn K (.ref f)=true
 kp:PySem.W.keepIn K (.ref f)=true
section
variable {X:Cx}{pins:List (Addr×Obj)}{σ:St}{H:Hp}{s:Shared}{a C dx:Addr}{fs:List (Str×V)}{f:Str}{v:V}{A:Around}{E:Value->Shared->Prop}
theorem VD(I:Inv X pins σ H s)(e:H a=some (.ins C dx fs))(c:Cls X.K C)(n:NoAttr X.K C f)(l:fs.lookup f=some v)
  (h:∀ u s',Inv X pins σ H s'->RelV v u->Q u s'):wpAny (model X.prog X.w) A (getAttr (.ref a) f b) Q E s:=by
 obtain⟨g,O,r,_,_,_⟩:=Q4 I.hok e;obtain⟨u,i,d⟩:=RelO.some_of (v:=v) (o:=g f) (by rw[<- l];exact r f);exact jfp I.kIn O (c.get f) c.hd n i (jav d) (h u _ (I.tok _) d)
theorem wu(I:Inv X pins σ H s)(e:H a=some (.ins C dx fs))(c:Cls X.K C)(k:Meth X.K C m g)(l:fs.lookup m=none)
  (h:Q (.ref g,[.ref a]) s):wpAny (model X.prog X.w) A (getMethod (.ref a) m pl) Q E s:=by
 obtain⟨b,O,r,_,_,_⟩:=Q4 I.hok e;have d:b m=none:=RelO.none_of (by rw[<- l];exact r m);exact jcK I.kIn O (c.get m) k.at_ k.fn d h
theorem Vn(I:Inv X pins σ H s)(e:H a=some (.ins C dx fs))(c:Cls X.K C)(n:NoAttr X.K C f)(D:fs.length < 1000)(l:RelV y u)
  (h:∀ s',Inv X pins σ (upd H a (.ins C dx (VA f y fs))) s'->Q () s'):wpAny (model X.prog X.w) A (setAttr (.ref a) f u) Q E s:=by
 obtain⟨i,O,r,j,_,k⟩:=Q4 I.hok e;have m:(fs.map (·.1)).length<=sizeLine:=by rw[L0,sizeLine_eq];lia
 refine jfT I.kIn O c.sa c.po n.taker c.hd j m λp d t=>h _ ?_;have hd:∃ o,p.get? dx=some o:=let ⟨o,_,_,e',_⟩:=d.ns;⟨o,e'⟩
 refine I.write (x:=a) (e:=dx) (by rw[e];exact True.intro) (.inr k) (λb q v z=>(t.2 b v).trans z) hd ?_;refine⟨by rw[jf O.ne];exact k,?_,O.ne,d.obj,_,d.ns,λg=>?_,λg B=>?_⟩
 ·have:=Yy f y fs;lia
 ·show RelO ((VA f y fs).lookup g) (if g=f then some u else i g);rw[YV];by_cases q:g=f
  ·rw[if_pos q,if_pos q];exact l
  ·rw[if_neg q,if_neg q];exact r g
 ·by_cases q:g=f
  ·rw[q];exact(YI f y fs).1
  ·refine(YI f y fs).2 g (j g λz=>B ?_);show(if g=f then some u else i g)=none;rw[if_neg q];exact z
theorem Inv.made(I:Inv X pins σ H s):Inv X pins σ (upd (upd H s.heap.objs.size (.own (s.heap.objs.size+1))) (s.heap.objs.size+1) (.ins C s.heap.objs.size []))
  { s with heap:=(s.heap.push PySem.W.emptyDict).push (PySem.W.instObj C s.heap.objs.size) }:=by
 have c:(s.heap.push PySem.W.emptyDict).get? s.heap.objs.size=some PySem.W.emptyDict:=E1 s.heap rfl;have e2:((s.heap.push PySem.W.emptyDict).push (PySem.W.instObj C s.heap.objs.size)).get? (s.heap.objs.size+1)=some (PySem.W.instObj C s.heap.objs.size):=by
  have:=E1 (s.heap.push PySem.W.emptyDict) (o:=PySem.W.instObj C s.heap.objs.size) rfl
  rwa [Heap.size_push] at this
 have e3:(s.heap.push PySem.W.emptyDict).Ns s.heap.objs.size (λ_=>none):=⟨PySem.W.emptyDict,#[],_,c,rfl,(λe d=>absurd d (by simp)),λ_=>rfl⟩;have f:=I.laid (a:=s.heap.objs.size) (o:=.own (s.heap.objs.size+1)) (h':=s.heap.push PySem.W.emptyDict) (t':=s.toks) (λb u q=>L7 _ q) (M8 _) ⟨_,c⟩;refine f.laid (a:=s.heap.objs.size+1) (o:=.ins C s.heap.objs.size []) (t':=s.toks) (λb u q=>L7 _ q) (Nat.le_of_eq (Heap.size_push _ _)) ?_;have ne:s.heap.objs.size≠s.heap.objs.size+1:=N5 (Nat.lt_succ_self _);refine⟨by rw[jf ne,ju],U4 _,ne,e2,λ_=>none,(Heap.Ns1.of_empty e3).at λo q=>L7 _ q,λ_=>True.intro,λy g=>absurd rfl g⟩
theorem jeA(a:attributeBase e f env (eval e env)=eval e env)
  (h:wpAny (model prog w) A (eval e env) (λo s₁=>wpAny (model prog w) A (getAttr o f true) Q E s₁) E s):wpAny (model prog w) A (eval (.Attribute e f pos) env) Q E s :=
 Attribute_any_ h (by rw[arm_eval_Attribute,a])
end
noncomputable def jcl(K:PySem.W.Frag)(ta:TE)(f:Str):TE:=λσ H Q=>ta σ H λx H1=>∃ a C dx fs v,x=.ref a/\H1 a=some (.ins C dx fs)/\Cls K C/\NoAttr K C f/\fs.lookup f=some v/\Q v H1
def jjG(K:PySem.W.Frag)(ta tv:TE)(f:Str):TS:=λD σ H=>tv σ H λy H1=>ta σ H1 λx H2=>∃ a C dx fs,x=.ref a/\H2 a=some (.ins C dx fs)/\Cls K C/\NoAttr K C f/\fs.length < 1000 /\
 D.nx σ (upd H2 a (.ins C dx (VA f y fs)))
def jjE(X:Cx)(op:Operator)(rd:V->V->Hp->VK->Prop):Prop :=
 ∀(pins:List (Addr×Obj)) (s:Shared) (σ:St) (H:Hp) (x y:V) (u v:Value) (Q:VK),Inv X pins σ H s->RelV x u->RelV y v->rd x y H Q->wpAny (model X.prog X.w) X.A (inplaceOp op u v) (EP X pins σ Q) X.xe s
def zv(K:PySem.W.Frag)(ta tv:TE)(rd:V->V->Hp->VK->Prop)(f:Str):TS:=λD σ H=>ta σ H λx H1=>∃ a C dx fs v,x=.ref a/\H1 a=some (.ins C dx fs)/\Cls K C/\NoAttr K C f/\fs.lookup f=some v /\
 tv σ H1 λy H2=>rd v y H2 λz H3=>∃ dx' fs',H3 a=some (.ins C dx' fs')/\fs'.length < 1000/\D.nx σ (upd H3 a (.ins C dx' (VA f z fs')))
section
variable {X:Cx}{o e value:Expr}{f:Str}{pos pos' tpos:Pos}{ta tv:TE}
theorem xi(d:PE X e ta)(g:attributeBase e f X.env (eval e X.env)=eval e X.env):PE X (.Attribute e f pos) (jcl X.K ta f):=by
 intro b s σ H Q I h;refine jeA g (thn (d b s σ H _ I h) λu s1 i=>?_);obtain⟨x,j,k,m,a,C,t,fs,v,ex,o,c,n,l,q⟩:=i;subst ex;obtain rfl:u=Value.ref a:=m;exact VD k o c n l λw y p r=>⟨v,j,p,r,q⟩
theorem jhu(d:PE X o ta)(e:PE X value tv)(g:swapsWith value (some (.Attribute o f pos')) pos.line X.env=pure false):PS X (.Assign [.Attribute o f pos'] value pos) (jjG X.K ta tv f):=by
 intro b s σ H D I h;refine plainObj_wpAny_Assign_Attribute (thn (e b s σ H _ I h) λu s1 ⟨y,i,j,k,q⟩=>thn (d b s1 σ i _ j q) λm A p=>?_) g;obtain⟨x,B,r,t,a,C,E,fs,ex,v,c,n,l,w⟩:=p;subst ex;obtain rfl:m=Value.ref a:=t;exact Vn r v c n l k λF z=>⟨σ,_,z,w⟩
theorem jaU(i:PE X o ta)(j:PE X value tv)(d:jjE X op rd):PS X (.AugAssign (.Attribute o f tpos) op value pos) (zv X.K ta tv rd f):=by
 intro b s σ H D I h;refine wpAny_AugAssign_AttributeAny (thn (i b s σ H _ I h) λk s1 e=>?_);obtain⟨x,m,p,r,a,C,U,fs,v,ex,t,c,n,l,q⟩:=e;subst ex;obtain rfl:k=Value.ref a:=r;refine VD p t c n l λu w A B=>thn (j b w σ m _ A q) λE F ⟨y,G,J,L,M⟩=>thn (d b F σ G v y u E _ J B L M) λV W e=>?_;obtain⟨z,Y,N,O,P,Q,g,R,S⟩:=e;exact Vn N g c n R O λZ T=>⟨σ,_,T,S⟩
def ji1:V->V->Hp->VK->Prop:=λx y H Q=>∃ i j,x=.int i/\y=.int j/\Q (.int (i - j)) H
theorem jaB:jjE X .Sub ji1:=by
 rintro a s σ H x y u v Q I c d ⟨i,j,rfl,rfl,q⟩;obtain⟨t,rfl⟩:=(show ∃ t,u=Value.int i t from c);obtain⟨b,rfl⟩:=(show ∃ b,v=Value.int j b from d);exact PyProof.Rows.isub_int ⟨.int (i - j),H,I.tok _,⟨_,rfl⟩,q⟩
end
section
variable {X:Cx}{pins:List (Addr×Obj)}{σ:St}{H:Hp}{s:Shared}{A:Around}{E:Value->Shared->Prop}{Q:Value->Shared->Prop}{c:Value}{b:Bool}
inductive TyOf (K:PySem.W.Frag) (H:Hp):V->Value->Prop where
 | non:TyOf K H .non (.type "NoneType")
 | bl (x:Bool):TyOf K H (.bl x) (.type "bool")
 | int (i:Int):TyOf K H (.int i) (.type "int")
 | str (x:Str):TyOf K H (.str x) (.type "str")
 | flt (x:UInt64):TyOf K H (.flt x) (.type "float")
 | lst {a:Addr}{xs:List V}(e:H a=some (.lst xs)):TyOf K H (.ref a) (.type "list")
 | frz {a:Addr}{o:Obj}{xs:List V}(e:H a=some (.frz o (.lst xs))):TyOf K H (.ref a) (.type "list")
 | tup {a:Addr}{xs:List V}(e:H a=some (.tup xs)):TyOf K H (.ref a) (.type "tuple")
 | dK {a:Addr}{kvs:List (Key×V)}(e:H a=some (.dK kvs)):TyOf K H (.ref a) (.type "dict")
 | dT {a:Addr}{kvs:List (List Key×V)}(e:H a=some (.dT kvs)):TyOf K H (.ref a) (.type "dict")
 | ins {a C dx:Addr}{fs:List (Str×V)}(e:H a=some (.ins C dx fs)) (cl:Cls K C) (ha:PySem.W.findIn K (.ref C) "__class__" = some (some (.builtin "object.__class__")))
   (hn:PySem.W.specialIn K (.builtin "object.__class__") "__get__" = some (some (.builtin "getset_descriptor.__get__"))) (htk:PySem.W.takesIn K (.builtin "object.__class__")=some true)
   (hm:PySem.W.mroIn K C (.type "object")=some true):TyOf K H (.ref a) (.ref C)
end
structure Room(k:Nat)(A:Around):Prop where
 hd:A.handled=none
 dp:A.depth+3*k+5 < recursionLimit
 un:A.units+16*k+200 < cLine
theorem Room.mono(r:Room k A)(h:j<=k):Room j A:=⟨r.hd,by have:=r.dp;lia,by have:=r.un;lia⟩
theorem Room.deeper(r:Room (k+1) A)(env:Env):Room k (A.deeper env) :=
 ⟨r.hd,by have:=r.dp;show A.depth+1+3*k+5 < _;lia,by have:=r.un;show A.units+3+16*k+200 < _;lia⟩
theorem wa{A:Around}{us:List Value}{kw:List (Str×Value)}:(A.under (.builtin "type.__call__" ⟨.ref C::us,kw⟩)).depth=A.depth+1:=by
 first | rfl | simp[Around.under,Code.weight,Code.isCreation,Code.isGuard,Code.isCaller,Code.frames,Code.isFrame,guardIds]
theorem wL{A:Around}{us:List Value}{kw:List (Str×Value)}:(A.under (.builtin "type.__call__" ⟨.ref C::us,kw⟩)).units=A.units+1:=by
 first | rfl | simp[Around.under,Code.cUnits,Code.frames,Code.isFrame]
theorem Room.make(r:Room (k+1) A)(C:Addr)(us:List Value)(kw:List (Str×Value)):Room k (A.under (.builtin "type.__call__" ⟨.ref C::us,kw⟩)) :=
 ⟨r.hd,by have:=r.dp;rw[wa];lia,by have:=r.un;rw[wL];lia⟩
theorem Room.depth(r:Room k A):A.depth < recursionLimit:=by have:=r.dp;lia
theorem Room.units(r:Room k A):A.units+64 < cLine:=by have:=r.un;lia
noncomputable def Y7:TA:=λ_ H Q=>Q [] H
noncomputable def yc(ta:TE)(tr:TA):TA:=λσ H Q=>ta σ H λx H1=>tr σ H1 λxs H2=>Q (x::xs) H2
section
variable {X:Cx}{e:Expr}{es:List Expr}{te:TE}{t:TA}{pos:Pos}
theorem vO:PA X [] Y7:=λ_ _ _ _ H Q I h=>Calls.spliced_nil ⟨[],H,I,.nil,h⟩
theorem jG(b:PE X e te)(c:PA X es t)(d:starEach (e::es) X.env=(false,eval e X.env)::starEach es X.env:=by rfl):PA X (e::es) (yc te t):=by
 intro pos a s σ H Q I h;rw[d];show wpAny _ _ (spliced ((false,eval e X.env)::backTo pos (starEach es X.env))) _ _ s;refine Calls.spliced_cons (thn (b a s σ H _ I h) λu s1 f=>?_);obtain⟨x,g,i,j,k⟩:=f;exact thn (c pos a s1 σ g _ i k) λq r ⟨l,m,n,o,p⟩=>⟨x::l,m,n,.cons j o,p⟩
def zM(t:TA):TE:=λσ H Q=>t σ H λxs H1=>xs.length<=sizeLine/\∀ p,H1 p=none->Q (.ref p) (upd H1 p (.tup xs))
def jiG(t:TA):TE:=λσ H Q=>t σ H λxs H1=>xs.length<=sizeLine/\∀ p,H1 p=none->Q (.ref p) (upd H1 p (.lst xs))
theorem Jd{x1}(h:PA X es t):PE X (.Tuple es x1 pos) (zM t):=by
 intro a s σ H Q I f;refine wpAny_Tuple_spliced (thn (h pos a s σ H _ I f) λg s1 ⟨i,c,d,r,z,q⟩=>⟨by rw[<- r.length];exact z,?_⟩);have j:c s1.heap.objs.size=none:=d.hok.fresh (M8 _);refine⟨.ref s1.heap.objs.size,upd c s1.heap.objs.size (.tup i),d.laid (t':=s1.toks) (λb u e=>L7 _ e) (M8 _) ?_,rfl,q _ j⟩;exact⟨z,g,r,⟨_,E1 _ rfl,rfl,_,rfl⟩,_,E1 _ rfl,rfl⟩
theorem jdr(h:PA X es t):PE X (.List es pos) (jiG t):=by
 intro a s σ H Q I f;refine wpAny_List_spliced (thn (h pos a s σ H _ I f) λg s1 ⟨i,c,d,r,z,q⟩=>⟨by rw[<- r.length];exact z,?_⟩);have j:c s1.heap.objs.size=none:=d.hok.fresh (M8 _);refine⟨.ref s1.heap.objs.size,upd c s1.heap.objs.size (.lst i),d.laid (t':=s1.toks) (λb u e=>L7 _ e) (M8 _) ?_,rfl,q _ j⟩;exact⟨z,g,0,r,E1 _ rfl⟩
end
abbrev Sp:=List V->Hp->VK->XK->Prop
abbrev CXT:=List Env->Hp->Shared->XK->Value->Shared->Prop
structure Env0(P:Program)(w:World)(K:PySem.W.Frag)(mg:Str->Option Value)(base:Heap)(A:Around)(outer:List Env)(s:Shared)(H:Hp):Prop where
 frames:A.frames=some outer
 mod:Mod K mg base
 bs:∀ b o,base.get? b=some o->s.heap.get? b=some o/\H b=none
 bsz:base.objs.size<=s.heap.objs.size
 funs:s.heap.FunFrames base outer
 frf:∀ b∈frs outer,H b=none
 hok:HOk P w H s.heap
 bare:AllBare s.gens
def CE(outer:List Env)(P:Program)(w:World)(H:Hp)(s:Shared)(Q:VK)(u:Value)(s':Shared):Prop :=
 ∃ v H',s'.os=s.os/\AllBare s'.gens/\Un (frs outer) [] H H' s.heap s'.heap/\HOk P w H' s'.heap/\RelV v u/\Q v H'
def CR(CX:CXT)(outer:List Env)(P:Program)(w:World)(H:Hp)(s:Shared)(Q:VK)(E:XK)(r:Result)(s':Shared):Prop :=
 match r with
 | .ok (.ret u)=>CE outer P w H s Q u s'
 | .ok _=>False
 | .error e=>CX outer H s E e s'
structure FnOk(P:Program)(w:World)(K:PySem.W.Frag)(mg:Str->Option Value)(base:Heap)(CX:CXT)(k:Nat)(f:Addr)(fd:FuncData)(ps:List Str)(sp:Sp):Prop where
 len:∀ vs H Q E,sp vs H Q E->vs.length=ps.length
 run:∀(A:Around) (outer:List Env) (s:Shared) (H:Hp) (args:Args) (us:List Value) (vs:List V) (Q:VK) (E:XK),Room k A->Env0 P w K mg base A outer s H->BindsTo s fd args (ps.zip us)->Vals vs us->sp vs H Q E ->
  codeAny (model P w) A (.call (.ref f) args) (CR CX outer P w H s Q E) s
theorem FnOk.imp{P:Program}{w:World}{K:PySem.W.Frag}{mg:Str->Option Value}{base:Heap}{CX:CXT}{k:Nat}{f:Addr}{fd:FuncData}{ps:List Str}{sp a:Sp}(F:FnOk P w K mg base CX k f fd ps sp)
  (h:∀ vs H Q E,a vs H Q E->sp vs H Q E):FnOk P w K mg base CX k f fd ps a :=
 ⟨λvs H Q E q=>F.len vs H Q E (h _ _ _ _ q),λA outer s H b c vs Q E d e g i j=>F.run A outer s H b c vs Q E d e g i (h _ _ _ _ j)⟩
theorem Env0.make{P:Program}{w:World}{K:PySem.W.Frag}{mg:Str->Option Value}{base:Heap}{A:Around}{outer:List Env}{s:Shared}{H:Hp}(e:Env0 P w K mg base A outer s H)(C:Addr)(us:List Value)(kw:List (Str×Value)) :
  Env0 P w K mg base (A.under (.builtin "type.__call__" ⟨.ref C::us,kw⟩)) outer s H:=⟨by first | exact e.frames | (simpa [Around.under,Code.envs,Code.isFrame,pushEnvs] using e.frames),e.mod,e.bs,e.bsz,e.funs,e.frf,e.hok,e.bare⟩
section
variable {X:Cx}{pins:List (Addr×Obj)}{σ:St}{H:Hp}{s s':Shared}
theorem Inv.env0(I:Inv X pins σ H s):Env0 X.prog X.w X.K X.mg X.base X.A X.stack s H :=
 ⟨I.ok.frames,I.ok.mod,I.bs,N6 I.ok.bsz I.sz,I.stack,I.stkFree,I.hok,I.bare⟩
theorem Inv.after(I:Inv X pins σ H s)(h:CE X.stack X.prog X.w H s Q u s'):EP X pins σ Q u s':=by
 obtain⟨v,c,os,bare,un,hok,r,q⟩:=h;obtain⟨e,g,d,t,a⟩:=s';obtain rfl:a=s.os:=os;exact⟨v,c,I.call (h':=e) (g':=g) (d':=d) (t':=t) (ch:=[]) un hok bare (λb z=>absurd z (by simp)),r,q⟩
end
noncomputable def x6(sp:Sp)(dvs:List V)(E:XK)(t:TA):TE:=λσ H Q=>t σ H λvs H1=>sp (vs++dvs) H1 Q E
noncomputable def uN(C:Addr)(m:Str)(sp:Sp)(dvs:List V)(E:XK)(ta:TE)(t:TA):TE:=λσ H Q=>ta σ H λx H1=>∃ a dx fs,x=.ref a/\H1 a=some (.ins C dx fs)/\fs.lookup m=none /\
 t σ H1 λvs H2=>sp (x::(vs++dvs)) H2 Q E
def jfg(C:Addr)(sp:Sp)(dvs:List V)(E:XK)(t:TA):TE:=λσ H Q=>t σ H λvs H1=>∀ x dx,H1 x=none->H1 dx=none->dx≠x ->
 sp (.ref x::(vs++dvs)) (upd (upd H1 dx (.own x)) x (.ins C dx [])) (λv H2=>v=.non/\Q (.ref x) H2) E
def Binds(K:PySem.W.Frag)(fd:FuncData)(ps:List Str)(ds:List Value):Prop :=
 ∀(s:Shared) (us:List Value),K.In s.heap->(us++ds).length=ps.length->BindsTo s fd ⟨us,[]⟩ (ps.zip (us++ds))
theorem Binds.all{K:PySem.W.Frag}{fd:FuncData}{ps:List Str}(h:∀ us:List Value,us.length=ps.length->bindArgs fd ⟨us,[]⟩=pure (ps.zip us)):Binds K fd ps []:=λs us _ a=>by
 rw[M9] at a ⊢;exact .of_eq (h us a)
def Vk(CX:CXT)(X:Cx)(E:XK):Prop:=∀(pins:List (Addr×Obj)) (σ:St) (H:Hp) (s:Shared) (e:Value) (s':Shared),Inv X pins σ H s->CX X.stack H s E e s'->X.xe e s'
section
variable {X:Cx}{CX:CXT}{k:Nat}{f C:Addr}{fd:FuncData}{ps:List Str}{sp:Sp}{dvs:List V}{ds:List Value}{E:XK}{x m:Str}{p pos apos:Pos}{e o:Expr}{es:List Expr}{ta:TE}{t:TA}
theorem jdi(F:FnOk X.prog X.w X.K X.mg X.base CX k f fd ps sp)(c:Room k X.A)(d:Binds X.K fd ps ds)(hd:Vals dvs ds)(g:Vk CX X E)
  (I:Inv X pins σ H s) (r:Vals vs us) (h:sp (vs++dvs) H Q E):wpAny (model X.prog X.w) X.A (call (.ref f) us) (EP X pins σ Q) X.xe s:=by
 have b:Vals (vs++dvs) (us++ds):=r.append hd;have i:(us++ds).length=ps.length:=by rw[<- b.length];exact F.len _ _ _ _ h
 refine wpAny_call (codeAny_mono (F.run X.A X.stack s H ⟨us,[]⟩ (us++ds) (vs++dvs) Q E c I.env0 (d s us I.kIn i) b h) λr j a=>?_);cases r with
 | error e=>exact g pins σ H s e j I a
 | ok l =>
  cases l with
  | ret u=>exact I.after a
  | next=>exact False.elim a
  | brk=>exact False.elim a
  | cont=>exact False.elim a
theorem jfS(F:FnOk X.prog X.w X.K X.mg X.base CX k f fd ps sp)(g:Room k X.A)(i:Gl X x)(j:X.mg x=some (.ref f))(l:PySem.W.keepIn X.K (.ref f)=true)(m:Binds X.K fd ps ds)(hd:Vals dvs ds)(n:Vk CX X E)
  (o:PA X (e::es) t) (b:(x==("__debug__" : Str))=false:=by decide) (u:starEach (e::es) X.env=(false,eval e X.env)::starEach es X.env:=by rfl) (c:(backTo pos (starEach es X.env)).any (·.1)=false:=by rfl) :
  PE X (.Call (.Name x p) (e::es) [] pos) (x6 sp dvs E t):=by
 intro a s σ H Q I h;refine wpAny_Call_Name_kw (jaY I i j ?_ b);refine PySem.W.callWith_K (h₀:=X.base) I.ok.mod.kin l (thn (o pos a s σ H _ I h) λv s1 ⟨y,z,d,r,q⟩=>⟨d.kIn,?_⟩) u c;exact jdi F g m hd n d r q
theorem jaQ(y:PE X o ta)(c:Cls X.K C)(i:Meth X.K C m f)(F:FnOk X.prog X.w X.K X.mg X.base CX k f fd ps sp)(z:Room k X.A)(B:Binds X.K fd ps ds)(hd:Vals dvs ds)(D:Vk CX X E)(G:PA X (e::es) t)
  (d:starEach (e::es) X.env=(false,eval e X.env)::starEach es X.env:=by rfl) (g:(backTo pos (starEach es X.env)).any (·.1)=false:=by rfl)
  (J:eval (.Call (.Attribute o m apos) (e::es) [] pos) X.env=(do
   let ov <- eval o X.env
   standAt apos.atName
   let (f,first) <- holding [ov] (getMethod ov m pl)
   callWith pos f first (backTo pos (starEach (e::es) X.env)) (backToKw pos (keywordEach [] X.env))):=by rfl) :
  PE X (.Call (.Attribute o m apos) (e::es) [] pos) (uN C m sp dvs E ta t):=by
 intro b s σ H Q I h;refine PySem.W.methodCall_KW (pl:=pl) (thn (y b s σ H _ I h) λu s1 L=>?_) J;obtain⟨x,M,j,N,a,R,fs,ex,O,l,q⟩:=L;subst ex;obtain rfl:u=Value.ref a:=N;refine wu j O c i l ?_;refine PySem.W.callWith_K (first:=[.ref a]) (h₀:=X.base) I.ok.mod.kin i.kp (thn (G pos b s1 σ M _ j q) λn S ⟨p,T,v,r,P⟩=>⟨v.kIn,?_⟩) d g;exact jdi (us:=.ref a::n) (vs:=.ref a::p) F z B hd D v (.cons rfl r) P
structure Mk(K:PySem.W.Frag)(C f:Addr):Prop where
 makes:PySem.W.makesIn K C=true
 init:PySem.W.findIn K (.ref C) "__init__" = some (some (.ref f))
 fn:PySem.W.isFn K (.ref f)=true
 kp:PySem.W.keepIn K (.ref C)=true
theorem jcv(M:Mk X.K C f)(F:FnOk X.prog X.w X.K X.mg X.base CX k f fd ps sp)(g:Room (k+1) X.A)(i:Binds X.K fd ps ds)(hd:Vals dvs ds)
  (j:Vk CX X E) (I:Inv X pins σ H s) (r:Vals vs us)
  (h:∀ x dx,H x=none->H dx=none->dx≠x->sp (.ref x::(vs++dvs)) (upd (upd H dx (.own x)) x (.ins C dx [])) (λv H2=>v=.non/\Q (.ref x) H2) E) :
  wpAny (model X.prog X.w) X.A (call (.ref C) us) (EP X pins σ Q) X.xe s:=by
 have c:=h (s.heap.objs.size+1) s.heap.objs.size (I.hok.fresh (Nat.le_succ _)) (I.hok.fresh (M8 _)) (N5 (Nat.lt_succ_self _));have b:=Inv.made (C:=C) I;have d:Vals (V.ref (s.heap.objs.size+1)::(vs++dvs)) (Value.ref (s.heap.objs.size+1)::(us++ds)):=.cons rfl (r.append hd);have l:(Value.ref (s.heap.objs.size+1)::us++ds).length=ps.length:=by
  have e:=d.length;rw[F.len _ _ _ _ c] at e;exact e.symm
 refine wpAny_call (jcP (f:=f) I.kIn M.makes M.init (beq_iff_eq.mp M.fn) (codeAny_mono (F.run _ X.stack _ _ ⟨Value.ref (s.heap.objs.size+1)::us,[]⟩ (Value.ref (s.heap.objs.size+1)::(us++ds)) _ _ E (g.make C us [])
  (b.env0.make C us []) (i _ (Value.ref (s.heap.objs.size+1)::us) b.kIn l) d c) λr m a=>?_))
 cases r with
 | error e=>exact j pins σ _ _ e m b a
 | ok n =>
  cases n with
  | ret u =>
   obtain⟨v,o,p,q,t,y⟩:=b.after a;subst t;exact⟨q,⟨V.ref (s.heap.objs.size+1),o,p,rfl,y⟩⟩
  | next=>exact False.elim a
  | brk=>exact False.elim a
  | cont=>exact False.elim a
theorem jdO(M:Mk X.K C f)(F:FnOk X.prog X.w X.K X.mg X.base CX k f fd ps sp)(g:Room (k+1) X.A)(i:Gl X x)(j:X.mg x=some (.ref C))(l:Binds X.K fd ps ds)(hd:Vals dvs ds)(m:Vk CX X E)
  (n:PA X (e::es) t) (b:(x==("__debug__" : Str))=false:=by decide) (o:starEach (e::es) X.env=(false,eval e X.env)::starEach es X.env:=by rfl) (c:(backTo pos (starEach es X.env)).any (·.1)=false:=by rfl) :
  PE X (.Call (.Name x p) (e::es) [] pos) (jfg C sp dvs E t):=by
 intro a s σ H Q I h;refine wpAny_Call_Name_kw (jaY I i j ?_ b);refine PySem.W.callWith_K (h₀:=X.base) I.ok.mod.kin M.kp (thn (n pos a s σ H _ I h) λu s1 ⟨v,y,d,r,q⟩=>⟨d.kIn,?_⟩) o c;exact jcv M F g l hd m d r q
end
section
variable {X:Cx}{CX:CXT}{k:Nat}{f C:Addr}{fd:FuncData}{ps ks:List Str}{sp:Sp}{E:XK}{x m:Str}{p pos apos kpos:Pos}{e o:Expr}{es:List Expr}{kws:List Keyword}{te ta:TE}{t tk:TA}{nm:Option Str}
structure KBinds(K:PySem.W.Frag)(fd:FuncData)(ps ks:List Str)(g:List Value->List Value->List Value)(gV:List V->List V->List V):Prop where
 to:∀(s:Shared) (us ws:List Value),K.In s.heap->(g us ws).length=ps.length->BindsTo s fd ⟨us,ks.zip ws⟩ (ps.zip (g us ws))
 rel:∀{vs:List V}{us:List Value}{zs:List V}{ws:List Value},Vals vs us->Vals zs ws->Vals (gV vs zs) (g us ws)
variable {g:List Value->List Value->List Value}{gV:List V->List V->List V}
end
structure FnScope(N P:List Str)(sc:Scope):Prop where
 kind:sc.kind=.function
 co:sc.isCoroutine=false
 gen:sc.isGenerator=false
 nd:N.Nodup
 pre:N.take P.length=P
 par:∀ x∈P,sc.names.lookup x=some .local \/ sc.names.lookup x=some .cell
 nofree:∀ y∈sc.names,y.2≠.free
theorem Ql{kindOf:Str->Option NameKind}  : ∀{binds:List (Str×Value)}{m:Str->Option Value},(∀ v,(x,v)∉binds)->bindL kindOf binds m x=m x
 | [],_,_=>rfl
 | (n,v)::r,m,h=>by
  unfold bindL;rw[Ql λw a=>h w (L5 _ a)];split
  ·have:x≠n:=by rintro rfl;exact h v L6
   simp[this]
  ·rfl
theorem Qe{kindOf:Str->Option NameKind}  : ∀{binds:List (Str×Value)}{m:Str->Option Value},(∀ v,(x,v)∉binds)->bindC kindOf binds m x=m x
 | [],_,_=>rfl
 | (n,v)::r,m,h=>by
  unfold bindC;rw[Qe λw a=>h w (L5 _ a)];split
  ·rfl
  ·have:x≠n:=by rintro rfl;exact h v L6
   simp[this]
theorem KN{kindOf:Str->Option NameKind}  : ∀{P:List Str}{vs:List Value}{i:Nat}{m:Str->Option Value},P.Nodup->P[i]?=some x->vs[i]?=some v->kindOf x=some .local ->
  bindL kindOf (P.zip vs) m x=some v
 | [],_,_,_,_,h,_,_=>by simp at h
 | _::_,[],_,_,_,_,h,_=>by simp at h
 | p::P,w::vs,0,m,nd,a,b,c=>by
  simp at a b;subst a;subst b;show bindL kindOf ((p,w)::P.zip vs) m p=_;unfold bindL;rw[Ql λv d=>(List.nodup_cons.mp nd).1 (List.of_mem_zip d).1,if_pos c];simp
 | p::P,w::vs,i+1,m,nd,a,b,c=>by
  show bindL kindOf ((p,w)::P.zip vs) m x=_;unfold bindL;exact KN (i:=i) (List.nodup_cons.mp nd).2 (by simpa using a) (by simpa using b) c
theorem K5{kindOf:Str->Option NameKind}  : ∀{P:List Str}{vs:List Value}{i:Nat}{m:Str->Option Value},P.Nodup->P[i]?=some x->vs[i]?=some v->kindOf x≠some .local ->
  bindC kindOf (P.zip vs) m x=some v
 | [],_,_,_,_,h,_,_=>by simp at h
 | _::_,[],_,_,_,_,h,_=>by simp at h
 | p::P,w::vs,0,m,nd,a,b,c=>by
  simp at a b;subst a;subst b;show bindC kindOf ((p,w)::P.zip vs) m p=_;unfold bindC;rw[Qe λv d=>(List.nodup_cons.mp nd).1 (List.of_mem_zip d).1,if_neg c];simp
 | p::P,w::vs,i+1,m,nd,a,b,c=>by
  show bindC kindOf ((p,w)::P.zip vs) m x=_;unfold bindC;exact K5 (i:=i) (List.nodup_cons.mp nd).2 (by simpa using a) (by simpa using b) c
noncomputable def start(N:List Str)(vs:List V):St:=vs.map some++List.replicate (N.length - vs.length) none
noncomputable def jdw(CX:CXT)(P:Program)(w:World)(K:PySem.W.Frag)(mg:Str->Option Value)(base:Heap)(N:List Str)(qual:Str)(scope:Scope)(f:Addr)(cd:Value)(A:Around)(outer:List Env)(s:Shared)(H:Hp)(E:XK):Cx where
 prog:=P
 w:=w
 K:=K
 mg:=mg
 base:=base
 A:=A.deeper (envOfC qual scope s.heap.objs.size f cd)
 N:=N
 s₀:=s
 H₀:=H
 env:=envOfC qual scope s.heap.objs.size f cd
 outer:=outer
 stack:=envOfC qual scope s.heap.objs.size f cd::outer
 ex:=[]
 calm:=true
 fn:=λ_=>true
 pn:=[]
 xe:=λe s'=>wpAny (model P w) (A.deeper (envOfC qual scope s.heap.objs.size f cd)) (leaving (envOfC qual scope s.heap.objs.size f cd) e) (λ_ s''=>CX outer H s E e s'') (λe' s''=>CX outer H s E e' s'') s'
theorem zZ{sc:Scope}{n:Nat}(h:sc.names.lookup x=some .cell):∃ c,(cellsFrom n sc.names []).lookup x=some c:=by
 have q:=PySem.W.cellsFrom_some sc.names n [] (.inl h);exact Option.isSome_iff_exists.mp q
theorem uH{CX:CXT}{P:Program}{w:World}{K:PySem.W.Frag}{mg:Str->Option Value}{base:Heap}{N ps:List Str}{qual:Str}{scope:Scope}{f:Addr}{cd:Value}{A:Around}{outer:List Env}{s s1:Shared}{H:Hp}{E:XK}{us:List Value}{vs:List V}
  (S:FnScope N ps scope) (hd:A.handled=none) (g:Env0 P w K mg base A outer s H) (I:vs.length=ps.length) (r:Vals vs us)
  (x:InCallC s s.heap.objs.size (bindL (envOfC qual scope s.heap.objs.size f cd).kindOf (ps.zip us) λ_=>none) (cellsFrom (s.heap.objs.size+1) scope.names []) (bindC (envOfC qual scope s.heap.objs.size f cd).kindOf (ps.zip us) λ_=>none) s1) :
  Inv (jdw CX P w K mg base N qual scope f cd A outer s H E) [] (start N vs) H s1:=by
 have D:ps.length<=N.length:=by have:=congrArg List.length S.pre;rw[X9] at this;lia
 obtain⟨t,J,rfl,B⟩:=x.done;have j:∀ b:Addr,b∉(jdw CX P w K mg base N qual scope f cd A outer s H E).ex:=λb z=>absurd (show b∈([]:List Addr) from z) (by simp);refine⟨⟨g.mod,S.kind,rfl,rfl,M8 _,λy z c t d=>?_,λy l=>?_,λy c _ h=>?_,λ_=>hd,Around.frames_deeper g.frames,.inr ⟨rfl,rfl⟩,λb z=>absurd z (j b),g.bs,g.bsz,λb _ _=>j b,λb z=>absurd z (j b),g.funs,g.frf⟩,
  rfl,g.bare,Un.kept B,⟨_,x.toInCall.ns,λi y v t d L=>?_⟩,λy c h=>⟨_,x.cell y c h⟩,g.hok.fresh (M8 _),λy c h=>?_,λp m=>absurd (show p∈([]:List (Addr×Obj)) from m) (by simp),g.hok.kept B,?_⟩
 ·exact name_of_addr x.apart (PySem.mem_of_lookup t) (PySem.mem_of_lookup d)
 ·have l:scope.names.lookup y=some .cell \/ scope.names.lookup y=some .free:=l;rcases l with l | l
  ·exact zZ l
  ·exact absurd rfl (S.nofree _ (PySem.mem_of_lookup l))
 ·exact Nat.le_of_lt (x.above y c (PySem.mem_of_lookup h))
 ·have hi:i < vs.length:=by
   unfold start at d;by_cases hi:i < vs.length
   ·exact hi
   ·rw[List.getElem?_append_right (by simpa using hi)] at d;rw[List.getElem?_replicate] at d;split at d<;>cases d
  have F:vs[i]?=some v:=by
   unfold start at d;rw[List.getElem?_append_left (by simpa using hi),List.getElem?_map] at d;cases e:vs[i]? with
   | none=>rw[e] at d;cases d
   | some a=>rw[e] at d;cases d;rfl
  obtain⟨u,C,G⟩:=r.get F;have m:ps[i]?=some y:=by
   rw[<- S.pre,List.getElem?_take_of_lt (by lia)];exact t
  have o:ps.Nodup:=by rw[<- S.pre];exact S.nd.sublist (List.take_sublist _ _)
  refine⟨u,G,?_⟩;rcases S.par y (List.mem_of_getElem? m) with k | k
  ·exact .inl ⟨k,KN o m C k⟩
  ·obtain⟨c,e⟩:=zZ (n:=s.heap.objs.size+1) k;refine .inr ⟨.inl k,c,e,?_⟩;have q:=x.cell y c e;rw[K5 o m C (by show scope.names.lookup y≠_;rw[k];decide)] at q;exact q
 ·exact g.hok.fresh (Nat.le_of_lt (x.above y c (PySem.mem_of_lookup h)))
 ·unfold start;show _=N.length;rw[N3,L0,List.length_replicate]
  lia
theorem jkB{CX:CXT}{P:Program}{w:World}{K:PySem.W.Frag}{mg:Str->Option Value}{base:Heap}{k:Nat}{f:Addr}{name qual:Str}{params:Arguments}{body:List Stmt}{scope:Scope}{F kV h pm a ct oc:Value}{an od:Option Addr}
  {p:Array (Option Value)}{N ps:List Str}{sp:Sp}(M:K.lookup f=some ⟨oc,od,.func (PySem.W.fnOf name qual params body scope F kV h pm an a ct),p⟩) (z:PySem.W.codeIn K a qual=true) (S:FnScope N ps scope)
  (len:∀ vs H Q E,sp vs H Q E->vs.length=ps.length)
  (c:∀(A:Around) (outer:List Env) (s:Shared) (H:Hp) (vs:List V) (Q:VK) (E:XK),Room k (A.deeper (envOfC qual scope s.heap.objs.size f a))->sp vs H Q E ->
   ∃ t,PSs (jdw CX P w K mg base N qual scope f a A outer s H E) body t/\t { nx:=λ_ H'=>Q .non H',rt:=Q } (start N vs) H) :
  FnOk P w K mg base CX (k+1) f (PySem.W.fnOf name qual params body scope F kV h pm an a ct) ps sp:=by
 refine⟨len,λA outer s H G O vs Q E B i R r j=>?_⟩;have T:=len _ _ _ _ j;have L:K.In s.heap:=i.mod.kin.keeps λb o e=>(i.bs b o e).1;have lim:s.heap.NoLimit:=i.mod.nolimit.keeps λb o e=>(i.bs b o e).1;have d:∀ y∈ps.zip O,scope.names.lookup y.1=some .local \/ (scope.names.lookup y.1=some .cell/\((cellsFrom (s.heap.objs.size+1) scope.names []).lookup y.1).isSome=true):=λ⟨n,v⟩ U=>by
  rcases S.par n (List.of_mem_zip U).1 with q | q
  ·exact .inl q
  ·exact .inr ⟨q,PySem.W.cellsFrom_some _ _ _ (.inl q)⟩
 refine codeAny_call_function B.depth (L _ _ M) rfl S.co S.gen rfl (PySem.W.codeRec_of L z) (R _ _ _ _ ?_);refine wpAny_newFunctionEnv_cells S.kind d λenv X s1 x=>?_;subst X;refine⟨lim.keeps x.toInCall.keep,codeAny_func ?_⟩;obtain⟨t,Y,Z⟩:=c A outer s H vs Q E (B.deeper _) j;have I:Inv (jdw CX P w K mg base N qual scope f a A outer s H E) [] (start N vs) H s1:=uH S B.hd i T r x;refine wpAny_mono (Y [] s1 (start N vs) H _ I Z) (λfl C g=>?_) λe C g=>g;have l:∀{m:St}{H':Hp}{v:V}{u:Value},Inv (jdw CX P w K mg base N qual scope f a A outer s H E) [] m H' C->RelV v u->Q v H'->CE outer P w H s Q u C :=
  λ{m H' v u} J D q=>⟨v,H',J.os,J.bare,J.base,J.hok,D,q⟩
 cases fl with
 | ret u =>
  obtain⟨v,m,H',J,D,q⟩:=g;exact l J D q
 | next =>
  obtain⟨m,H',J,q⟩:=g;exact l (v:=V.non) (u:=Value.none) J rfl q
 | brk =>
  obtain⟨_,_,_,q⟩:=g;exact False.elim q
 | cont =>
  obtain⟨_,_,_,q⟩:=g;exact False.elim q
section
variable {X:Cx}{x:Str}{p pos:Pos}{e:Expr}{es:List Expr}{t:TA}{id T:String}{r:List V->Hp->VK->Prop}
noncomputable def tCB(r:List V->Hp->VK->Prop)(t:TA):TE:=λσ H Q=>t σ H λvs H1=>r vs H1 Q
theorem xc(d:Jt X (.builtin id) r)(f:Gl X x)(g:X.mg x=none)(i:bootBuiltins x=some (.builtin id))(j:PA X (e::es) t)(k:x≠"__name__":=by decide)(b:(x==("__debug__" : Str))=false:=by decide)
  (l:starEach (e::es) X.env=(false,eval e X.env)::starEach es X.env:=by rfl) (c:(backTo pos (starEach es X.env)).any (·.1)=false:=by rfl):PE X (.Call (.Name x p) (e::es) [] pos) (tCB r t):=by
 intro a s σ H Q I h;refine wpAny_Call_Name_kw (YO I f g i ?_ k b);exact PyProof.Rows.callWith_builtin1 (thn (j pos a s σ H _ I h) λm s1 ⟨n,o,q,u,v⟩=>d a s1 σ o n m Q q u v) l c
theorem K4(d:Jt X (.type T) r)(f:Gl X x)(g:X.mg x=none)(i:bootBuiltins x=some (.type T))(j:PA X (e::es) t)(k:x≠"__name__":=by decide)(b:(x==("__debug__" : Str))=false:=by decide)
  (l:starEach (e::es) X.env=(false,eval e X.env)::starEach es X.env:=by rfl) (c:(backTo pos (starEach es X.env)).any (·.1)=false:=by rfl):PE X (.Call (.Name x p) (e::es) [] pos) (tCB r t):=by
 intro a s σ H Q I h;refine wpAny_Call_Name_kw (YO I f g i ?_ k b);exact PyProof.Rows.callWith_type1 (thn (j pos a s σ H _ I h) λm s1 ⟨n,o,q,u,v⟩=>d a s1 σ o n m Q q u v) l c
end
end L2
namespace HT
open PySem PyProof.Rows
section
open PySem.SeqAt
open PySem.AutoSeq1 (wpAny_loadPart')
open PySem.MeetsSeq PySem.MeetsSeq2 PySem.MeetsSeq3
end
section
variable {prog:Program}{w:World}{A:Around}{E:Value->Shared->Prop}{s:Shared}
theorem cat_tup(q:IsTup s.heap t vs.toArray)(r:IsTup s.heap b ws.toArray)(k:vs≠[])
  (h1:ws=[]->Q (.ref t) s) (h2:ws≠[]->Q (.ref s.heap.objs.size) { s with heap:=s.heap.push { cls:=.type "tuple",data:=.seq (vs++ws).toArray } })
  (hsz:vs.length+ws.length<=sizeLine):wpAny (model prog w) A (binaryOp .Add (.ref t) (.ref b)) Q E s:=by
 obtain⟨⟨cls,dd,data,l⟩,h,m,n,hd⟩:=id q;obtain⟨⟨o,c,j,d⟩,a,f,p,g⟩:=id r;simp only at m hd f g;subst m hd f g;have e:vs.toArray++ws.toArray=(vs++ws).toArray:=by simp
 by_cases i:ws=[]
 ·exact concat_meets ⟨_,h,rfl⟩ ⟨_,a,rfl⟩ noFill_tuple_add seq_tuple_add PySem.F.slot_tuple_add PySem.F.entry_tuple_add (PySem.F.args_tuple_add_2 _ _)
   (tuple_addW1 t b vs.toArray ws.toArray n p dd c l d (by simpa using k) (by simp[i])) ⟨h,a,h1 i⟩
 ·refine concat_meets ⟨_,h,rfl⟩ ⟨_,a,rfl⟩ noFill_tuple_add seq_tuple_add PySem.F.slot_tuple_add PySem.F.entry_tuple_add (PySem.F.args_tuple_add_2 _ _)
   (tuple_addW2 t b vs.toArray ws.toArray n p dd c l d (by simpa using k) (by simpa using i) (by rw[N2,N2];exact hsz)) ⟨h,a,?_⟩
  rw[e];exact h2 i
noncomputable def sIx(n d:Nat):Option Int->Nat
 | none=>d
 | some v=>if v < 0 then(v+(n:Int)).toNat else min v.toNat n
theorem sIx_none(n d:Nat):sIx n d none=d:=rfl
theorem sIx_nat(n d k:Nat):sIx n d (some (k:Int))=min k n:=by
 show(if(k:Int) < 0 then((k:Int)+(n:Int)).toNat else min (k:Int).toNat n)=min k n;rw[if_neg (by lia),N7]
theorem sIx_le(n d:Nat)(hd:d<=n)(o:Option Int):sIx n d o<=n:=by
 cases o with
 | none=>exact hd
 | some v =>
  show(if v < 0 then(v+(n:Int)).toNat else min v.toNat n)<=n;by_cases a:v < 0
  ·rw[if_pos a];lia
  ·rw[if_neg a];exact Nat.min_le_right _ _
theorem uR(v:Int)(n d:Nat):(if v < 0 then max (v+(n:Int)) 0 else min v (n:Int))=((sIx n d (some v):Nat):Int):=by
 show(if v < 0 then max (v+(n:Int)) 0 else min v (n:Int))=(((if v < 0 then(v+(n:Int)).toNat else min v.toNat n):Nat):Int);by_cases a:v < 0
 ·simp only[if_pos a];lia
 ·simp only[if_neg a];lia
theorem wN(lo hi:Option Int)(n:Nat):Builtin.Slice.sliceAdjust lo hi 1 (n:Int)=(((sIx n 0 lo:Nat):Int),((sIx n n hi:Nat):Int)):=by
 have a:¬ ((1:Int) < 0):=by lia
 unfold Builtin.Slice.sliceAdjust;simp only[a,if_false];refine Prod.ext ?_ ?_
 ·cases lo with
  | none=>rfl
  | some v=>exact uR v n 0
 ·cases hi with
  | none=>rfl
  | some v=>exact uR v n n
theorem we(i j:Nat):Builtin.Slice.slicePlaces (i:Int) (j:Int) 1=j - i:=by
 unfold Builtin.Slice.slicePlaces;have a:(1:Int) > 0:=by lia
 simp only[a,if_true,Int.ediv_one];split<;>lia
theorem Vm(p:IsPart v o)(h:Q o s):wpAny (model prog w) A (Builtin.Slice.slicePartIndex v) Q E s:=by
 cases p with
 | none=>exact slicePart_none h
 | int i t=>exact slicePart_int h
theorem JU{lo hi:Option Int}{n:Nat}{Q:Int×Int×Nat->Shared->Prop}(c:s.heap.IsSliceOf sl vl vu .none)(pl:IsPart vl lo)(d:IsPart vu hi)
  (h:Q (((sIx n 0 lo:Nat):Int),1,sIx n n hi - sIx n 0 lo) s):wpAny (model prog w) A (Builtin.Slice.sliceApplied (.ref sl) (pure (n:Int))) Q E s:=by
 obtain⟨os,a,e,b⟩:=id c;unfold Builtin.Slice.sliceApplied Builtin.Slice.sliceFields;refine L1 (L1 (U5 a b (x:=vl) rfl (L1 (U5 a b (x:=vu) rfl (L1 (U5 a b (x:=.none) rfl (M6 ?_)))))));refine L1 (slicePart_none ?_);show wpAny _ _ (if((1:Int)==0)=true then _ else _) _ _ s;rw[if_neg (by decide)];refine L1 (Vm pl (L1 (Vm d (L1 (M6 ?_)))));show wpAny _ _ (match Builtin.Slice.sliceAdjust lo hi 1 (n:Int) with | (lo,hi)=>pure (lo,(1:Int),Builtin.Slice.slicePlaces lo hi 1)) _ _ s;rw[wN lo hi n];show wpAny _ _ (pure (((sIx n 0 lo:Nat):Int),(1:Int),Builtin.Slice.slicePlaces ((sIx n 0 lo:Nat):Int) ((sIx n n hi:Nat):Int) 1)) _ _ s;rw[we];exact M6 h
theorem jbH(xs:Array Value)(i k:Nat):((List.range k).filterMap λ(m:Nat)=>xs[((i:Int)+(m:Int)*1).toNat]?).toArray=((xs.toList.drop i).take k).toArray:=by
 have e:(λ(m:Nat)=>xs[((i:Int)+(m:Int)*1).toNat]?)=λm=>xs[i+m]?:=by
  funext m
  have:((i:Int)+(m:Int)*1).toNat=i+m:=by lia
  rw[this]
 rw[e];have:=pick_run xs i k;rw[List.filterMap_map] at this;have e2:((λx=>xs[x]?) ∘ λx=>i+x)=λm=>xs[i+m]?:=rfl;rw[e2] at this;rw[this]
theorem getItem_tuple_cut{items:Array Value}{lo hi:Option Int}{Q:Value->Shared->Prop}(b:IsTup s.heap t items)(g:s.heap.IsSliceOf sl vl vu .none)(pl:IsPart vl lo)(i:IsPart vu hi)
  (j:¬ (sIx items.size 0 lo=0/\sIx items.size items.size hi=items.size))
  (h:Q (.ref s.heap.objs.size) { s with heap:=s.heap.push { cls:=.type "tuple",data:=.seq ((items.toList.drop (sIx items.size 0 lo)).take (sIx items.size items.size hi - sIx items.size 0 lo)).toArray } })
  (hsz:items.size<=sizeLine):wpAny (model prog w) A (getItem (.ref t) (.ref sl)) Q E s:=by
 have a:sizeOk (.seq ((items.toList.drop (sIx items.size 0 lo)).take (sIx items.size items.size hi - sIx items.size 0 lo)).toArray):=by
  show((items.toList.drop (sIx items.size 0 lo)).take (sIx items.size items.size hi - sIx items.size 0 lo)).toArray.size<=sizeLine;rw[N2,X9,List.length_drop,Array.length_toList]
  lia
 have l:sIx items.size items.size hi<=items.size:=sIx_le _ _ (M8 _) hi;obtain⟨os,c,d,k⟩:=id g;have e:s.TypeIs (.ref sl) "slice":=⟨os,c,d⟩;unfold getItem
 try with_reducible refine wpAny_holding ?_
 first | refine L1 (M6 ?_) | skip
 refine L1 (wpAny_sequenceKey b.typeIs (by decide) ?_);refine L1 (wpAny_callSpecial?_slot (name:=Str.ofString "__getitem__") b.typeIs PyProof.Rows.slot_tuple_getitem
  (wpAny_call_entry PyProof.Rows.slot_tuple_getitem b.typeIs entry_tuple_getitem ?_ (args_tuple_getitem _ _)))
 show wpAny _ _ (Builtin.Tuple.tupleItemsOf (.ref t) >>= _) _ _ s;refine L1 (tupleItemsOf_ b ?_);refine L1 (wpAny_typeOf e ?_);rw[if_pos (by decide)];refine L1 (JU g pl i ?_);have f:¬ ((((sIx items.size 0 lo:Nat):Int)==0&&(1:Int)==1&&(sIx items.size items.size hi - sIx items.size 0 lo)==items.size)=true):=by
  intro q;rw[L9,L9] at q;have n:((sIx items.size 0 lo:Nat):Int)=0:=eq_of_beq q.1.1;have o:sIx items.size items.size hi - sIx items.size 0 lo=items.size:=eq_of_beq q.2;exact j ⟨by lia,by lia⟩
 show wpAny _ _ (if(((sIx items.size 0 lo:Nat):Int)==0&&(1:Int)==1&&(sIx items.size items.size hi - sIx items.size 0 lo)==items.size)=true then _ else _) _ _ s;rw[if_neg f,jbH]
 first
  | exact L1 (m:=Builtin.Tuple.tupleExact _) (wpAny_newObj_type (M6 ⟨_,rfl,M6 h⟩) a)
  | exact L1 (m:=Builtin.Tuple.tupleExact _) (wpAny_newObj_type (L1 (M6 (M6 ⟨_,rfl,M6 h⟩))) a)
  | exact L1 (L1 (m:=Builtin.Tuple.tupleExact _) (wpAny_newObj_type (M6 (M6 ⟨_,rfl,M6 h⟩)) a))
  | exact L1 (L1 (m:=Builtin.Tuple.tupleExact _) (wpAny_newObj_type (M6 ⟨_,rfl,M6 h⟩) a))
end
end HT
namespace L2
open PySem PySem.Spec PyProof.Rows
abbrev TO:=St->Hp->(Option Int->Hp->Prop)->Prop
def PO(X:Cx)(e:Option Expr)(t:TO):Prop :=
 ∀(pins:List (Addr×Obj)) (s:Shared) (σ:St) (H:Hp) (Q:Option Int->Hp->Prop),Inv X pins σ H s->t σ H Q ->
  wpAny (model X.prog X.w) X.A (evalPart e X.env) (λu s'=>∃ o H',Inv X pins σ H' s'/\IsPart u o/\Q o H') X.xe s
noncomputable def zu:TO:=λ_ H Q=>Q none H
noncomputable def jf9(t:TE):TO:=λσ H Q=>t σ H λx H1=>∃ i,x=.int i/\Q (some i) H1
theorem wR:∀{us:List Value},Vals (ns.map V.int) us->IntsAre us ns:=by
 induction ns with
 | nil=>intro us r;rw[List.map_nil] at r;cases r;exact .nil
 | cons n ns a =>
  intro us r;rw[L4] at r;cases r with
  | cons b c =>
   obtain⟨t,e⟩:=b;subst e;exact .cons n t (a c)
section
variable {X:Cx}{e:Expr}{te:TE}{lo hi:Option Expr}{tl th:TO}{pos p2:Pos}
theorem jee:PO X none zu:=by
 intro a s σ H Q I h;rw[evalPart_none];exact M6 ⟨none,H,I,.none,h⟩
theorem jeE(h:PE X e te):PO X (some e) (jf9 te):=by
 intro a s σ H Q I b;rw[evalPart_some];refine thn (h a s σ H _ I b) λu s1 c=>?_;obtain⟨x,d,f,g,j⟩:=c;obtain⟨i,rfl,q⟩:=j;obtain⟨t,rfl⟩:=g;exact⟨some i,d,f,.int i t,q⟩
def SlR(X:Cx)(r:V->Option Int->Option Int->Hp->VK->Prop):Prop :=
 ∀(pins:List (Addr×Obj)) (s:Shared) (σ:St) (H:Hp) (x:V) (v vl vu:Value) (lo hi:Option Int) (sl:Addr) (Q:VK),Inv X pins σ H s->RelV x v->s.heap.IsSliceOf sl vl vu .none->IsPart vl lo->IsPart vu hi->r x lo hi H Q ->
  ∃ T id,typeLookup (.type T) "__getitem__" = pure (some (.builtin id))/\s.TypeIs v T/\wpAny (model X.prog X.w) X.A (getItem v (.ref sl)) (EP X pins σ Q) X.xe s
theorem SlR.or(h:SlR X r)(h':SlR X r'):SlR X (λx lo hi H Q=>r x lo hi H Q \/ r' x lo hi H Q):=by
 intro a s σ H x v b c lo hi d Q I e f pl g q;rcases q with q | q
 ·exact h a s σ H x v b c lo hi d Q I e f pl g q
 ·exact h' a s σ H x v b c lo hi d Q I e f pl g q
noncomputable def tSl(r:V->Option Int->Option Int->Hp->VK->Prop)(te:TE)(tl th:TO):TE:=λσ H Q=>te σ H λx H1=>tl σ H1 λl H2=>th σ H2 λu H3=>r x l u H3 Q
theorem jcj{r:V->Option Int->Option Int->Hp->VK->Prop}(j:SlR X r)(k:PE X e te)(m:PO X lo tl)(n:PO X hi th):PE X (.Subscript e (.Slice lo hi none p2) pos) (tSl r te tl th):=by
 intro a s σ H Q I h;refine Subscript_ (thn (k a s σ H _ I h) λv s1 g=>?_);obtain⟨x,o,p,t,y⟩:=g;refine wpAny_Slice (thn (m a s1 σ o _ p y) λd z ⟨l,B,C,pl,D⟩=>thn (n a z σ B _ C D) λf c g=>?_);obtain⟨u,i,E,F,G⟩:=g;rw[evalPart_none];refine M6 ?_;have J:Inv X a σ i { c with heap:=c.heap.push { cls:=.type "slice",data:=.fields #[d,f,.none] } }:=E.kept (t':=c.toks) λb ob q=>L7 _ q;obtain⟨T,id,K,L,M⟩:=j a { c with heap:=c.heap.push { cls:=.type "slice",data:=.fields #[d,f,.none] } } σ i x v d f l u c.heap.objs.size Q J t (Heap.IsSliceOf.new ..) pl F G;show wpAny (model X.prog X.w) X.A (subscriptTail e (.Slice lo hi none p2) v (.ref c.heap.objs.size)) (EP X a σ Q) X.xe { c with heap:=c.heap.push { cls:=.type "slice",data:=.fields #[d,f,.none] } };exact tail_any (ops:=[.ref c.heap.objs.size,v]) L K M (by with_unfolding_all rfl)
def jdz(xs:List V)(lo hi:Option Int):List V:=(xs.drop (HT.sIx xs.length 0 lo)).take (HT.sIx xs.length xs.length hi - HT.sIx xs.length 0 lo)
theorem Yv(xs:List V)(lo hi:Option Int):(jdz xs lo hi).length<=xs.length:=by
 unfold jdz;rw[X9,List.length_drop]
 lia
def jkN(K:PySem.W.Frag):V->Option Int->Option Int->Hp->VK->Prop:=λx lo hi H Q=>∃ a xs,x=.ref a/\SqT K H a xs /\
 ¬ (HT.sIx xs.length 0 lo=0/\HT.sIx xs.length xs.length hi=xs.length)/\∀ p,H p=none->Q (.ref p) (upd H p (.tup (jdz xs lo hi)))
theorem jhx:SlR X (jkN X.K):=by
 intro f s σ H x v p t lo hi u Q I j k pl l h;obtain⟨a,d,rfl,m,n,q⟩:=h;cases j;obtain⟨e,r,g,i⟩:=I.tuple m;have c:e.toArray.size=d.length:=by rw[N2];exact r.length.symm
 refine⟨"tuple",_,PyProof.Rows.slot_tuple_getitem.lookup,g.typeIs,?_⟩;refine HT.getItem_tuple_cut g k pl l (by rw[c];exact n) ?_ (by rw[c];exact i);rw[c];refine⟨.ref s.heap.objs.size,_,I.laid (t':=s.toks) (o:=.tup (jdz d lo hi)) (λb ob q=>L7 _ q) (M8 _) ?_,rfl,q _ (I.hok.fresh (M8 _))⟩;exact⟨N6 (Yv d lo hi) i,_,(r.drop (HT.sIx d.length 0 lo)).take (HT.sIx d.length d.length hi - HT.sIx d.length 0 lo),IsTupN.new _ _⟩
def jgU(K:PySem.W.Frag):R2:=λx y H Q=>∃ a b xs ys,x=.ref a/\y=.ref b/\SqT K H a xs/\SqT K H b ys/\xs≠[]/\xs.length+ys.length<=sizeLine /\
 (ys=[]->Q (.ref a) H)/\(ys≠[]->∀ p,H p=none->Q (.ref p) (upd H p (.tup (xs++ys))))
theorem Vals.nil_iff(r:Vals xs us):us=[]↔xs=[]:=by
 cases r with
 | nil=>simp
 | cons _ _=>simp
theorem jfL:OpR X (binaryOp .Add) (jgU X.K):=by
 intro e s σ H x y v u Q I i j h;obtain⟨a,b,k,l,rfl,rfl,m,n,p,f,r,t⟩:=h;cases i;cases j;obtain⟨A,d,p1,_⟩:=I.tuple m;obtain⟨g,c,p2,_⟩:=I.tuple n;refine HT.cat_tup p1 p2 (λz=>p (d.nil_iff.mp z)) (λz=>⟨.ref a,H,I,rfl,r (c.nil_iff.mp z)⟩) (λz=>?_) (by rw[<- d.length,<- c.length];exact f);refine⟨.ref s.heap.objs.size,_,I.laid (t':=s.toks) (o:=.tup (k++l)) (λb ob q=>L7 _ q) (M8 _) ?_,rfl,t (λw=>z (c.nil_iff.mpr w)) _ (I.hok.fresh (M8 _))⟩;exact⟨by rw[N3];exact f,_,d.append c,IsTupN.new _ _⟩
end
noncomputable def ixN(n:Nat)(i:Int):Option Nat:=if 0<=i then(if i < n then some i.toNat else none) else if -(n:Int)<=i then some (i+n).toNat else none
def atI{α:Type}(xs:List α)(i:Int):Option α:=(ixN xs.length i).bind λj=>xs[j]?
theorem zD(h:ixN n i=some j):seqIndex? i n=some j/\j < n/\-(n:Int)<=i/\i < n:=by
 unfold ixN at h;by_cases b:0<=i
 ·rw[if_pos b] at h;by_cases a:i < n
  ·rw[if_pos a] at h;have e:i.toNat=j:=X7 h;exact⟨by rw[seqIndex_of b a,e],by lia,by lia,a⟩
  ·rw[if_neg a] at h;cases h
 ·rw[if_neg b] at h;by_cases a:-(n:Int)<=i
  ·rw[if_pos a] at h;have e:(i+n).toNat=j:=X7 h;exact⟨by rw[seqIndex_neg (by lia) a,e],by lia,a,by lia⟩
  ·rw[if_neg a] at h;cases h
theorem Qz(h:atI xs i=some v):∃ j,seqIndex? i xs.length=some j/\xs[j]?=some v/\j < xs.length/\-(xs.length:Int)<=i/\i < xs.length:=by
 unfold atI at h;cases e:ixN xs.length i with
 | none=>rw[e] at h;cases h
 | some j =>
  rw[e] at h;obtain⟨a,b,c,d⟩:=zD e;exact⟨j,a,h,b,c,d⟩
def VO(b:Expr):Prop:=∀ o i,subscripted b false o i=operate [o,i] (getItem o i)
def IxR(X:Cx)(r:R2):Prop :=
 ∀(value slice:Expr) (pins:List (Addr×Obj)) (s:Shared) (σ:St) (H:Hp) (x y:V) (v u:Value) (Q:VK),Inv X pins σ H s->RelV x v->RelV y u->r x y H Q ->
  subscripted slice false v u=operate [v,u] (getItem v u)->wpAny (model X.prog X.w) X.A (subscriptTail value slice v u) (EP X pins σ Q) X.xe s
def MtR(X:Cx)(id:String)(r:V->List V->Hp->VK->Prop):Prop :=
 ∀(pins:List (Addr×Obj)) (s:Shared) (σ:St) (H:Hp) (x:V) (xs:List V) (v:Value) (us:List Value) (Q:VK),Inv X pins σ H s->RelV x v->Vals xs us->r x xs H Q ->
  wpAny (model X.prog X.w) X.A (call (.builtin id) (v::us)) (EP X pins σ Q) X.xe s
section
variable {X:Cx}{a b:Expr}{ta tb:TE}{pos:Pos}
theorem IxR.or(h:IxR X r)(h':IxR X r'):IxR X (λx y H Q=>r x y H Q \/ r' x y H Q):=by
 intro value slice a s σ H x y v u Q I b c q d;rcases q with q | q
 ·exact h value slice a s σ H x y v u Q I b c q d
 ·exact h' value slice a s σ H x y v u Q I b c q d
theorem jhj(d:IxR X r)(e:PE X a ta)(f:PE X b tb)(g:VO b):PE X (.Subscript a b pos) (tOp r ta tb):=by
 intro c s σ H Q I h;exact Subscript_ (jjt e f I h λv u i x y j k l m q=>d a b c i σ j x y v u Q k l m q (g _ _))
def jkL(K:PySem.W.Frag):R2:=λx y H Q=>∃ p xs i v,x=.ref p/\y=.int i/\SqL K H p xs/\atI xs i=some v/\Q v H
def jkO(K:PySem.W.Frag):R2:=λx y H Q=>∃ p xs i v,x=.ref p/\y=.int i/\SqT K H p xs/\atI xs i=some v/\Q v H
def jkS:R2:=λx y H Q=>∃ z i c,x=.str z/\y=.int i/\z.length<=sizeLine/\atI z.cps.toList i=some c/\Q (.str ⟨#[c]⟩) H
theorem ix_list:IxR X (jkL X.K):=by
 intro value slice a s σ H x y v u Q I m n h g;obtain⟨p,G,i,z,rfl,rfl,o,A,q⟩:=h;cases m;obtain⟨t,rfl⟩:=n;obtain⟨d,r,pl,J⟩:=I.list o;obtain⟨j,c,B,L,C,D⟩:=Qz A;obtain⟨w,k,e⟩:=r.get B;have E:=r.length;have M:=K6;have b:EP X a σ Q w s:=⟨z,H,I,e,q⟩;by_cases l:0<=i
 ·have f:i.toNat=j:=by
   rw[seqIndex_of l D] at c;exact X7 c
  exact item_listR pl.isList l (by lia) (by rw[f];simpa using k) b g
 ·have f:(i+(d.toArray.size:Int)).toNat=j:=by
   rw[seqIndex_neg (by lia) C] at c;rw[N2,<- E];exact X7 c
  exact subscriptTail_builtinR (x:=w) pl.isList.typeIs slot_list_getitem.lookup
   (wpAny_getItem_list_neg (Q:=λr F=>r=w/\EP X a σ Q r F) pl.isList (by lia) (by rw[N2]<;>lia) (by lia) (by rw[f];simpa using k) ⟨rfl,b⟩) g
theorem ix_tup:IxR X (jkO X.K):=by
 intro value slice a s σ H x y v u Q I d e h f;obtain⟨p,C,i,z,rfl,rfl,g,k,q⟩:=h;cases d;obtain⟨t,rfl⟩:=e;obtain⟨l,r,pl,D⟩:=I.tuple g;obtain⟨j,m,n,E,F,G⟩:=Qz k;obtain⟨w,o,b⟩:=r.get n;have A:=r.length;have J:=K6;have c:EP X a σ Q w s:=⟨z,H,I,b,q⟩;exact subscriptTail_builtinR (x:=w) pl.typeIs slot_tuple_getitem.lookup
  (getItem_tuple (j:=j) (Q:=λr B=>r=w/\EP X a σ Q r B) pl (by lia) (by lia) (by rw[N2,<- A];exact m) (by simpa using o) ⟨rfl,c⟩) f
theorem jhI:IxR X jkS:=by
 intro value slice a s σ H x y v u Q I d e h f;obtain⟨z,i,c,rfl,rfl,p,g,q⟩:=h;obtain⟨t,rfl⟩:=d;obtain⟨r,rfl⟩:=e;obtain⟨j,b,k,w,l,m⟩:=Qz g;have n:z.cps.toList.length=z.length:=by simp[Str.length]
 rw[n] at b l m;have A:=K6;exact tail_any (typeIs_str s z t) slot_str_getitem.lookup (getItem_str (c:=c) (by
  have o:decide (i < -(2 ^ 63:Int))=false:=X5 (by lia);have e2:decide (i ≥ 2 ^ 63)=false:=X5 (by lia);rw[o,e2,Bool.or_false]) (by rw[b];simpa using k) ⟨.str ⟨#[c]⟩,H,I.tok _,⟨_,rfl⟩,q⟩) f
def rIx(K:PySem.W.Frag):R2:=λx y H Q=>jkL K x y H Q \/ jkO K x y H Q \/ jkS x y H Q
theorem jdC:IxR X (rIx X.K):=ix_list.or (ix_tup.or jhI)
theorem xT(its:List Value)(n j:Nat)(u:Value):Obj.mapSeq (·.setIfInBounds j u) { cls:=.type "list",data:=.seq its.toArray n }={ cls:=.type "list",data:=.seq (its.set j u).toArray n }:=by
 simp[Obj.mapSeq]
theorem Inv.lst(I:Inv X pins σ H s)(h:H p=some (.lst xs)) :
  ∃(its:List Value) (n:Nat),Vals xs its/\s.heap.get? p=some { cls:=.type "list",data:=.seq its.toArray n }/\xs.length<=sizeLine:=by
 obtain⟨z,its,n,r,e⟩:=I.hok p _ h;exact⟨its,n,r,e,z⟩
theorem Inv.lstUpd{pins:List (Addr×Obj)}{s:Shared}{xs ys:List V}{its its':List Value}{n a:Nat}{f:Obj->Obj}(I:Inv X pins σ H s)(h:H p=some (.lst xs))
  (d:s.heap.get? p=some { cls:=.type "list",data:=.seq its.toArray n }) (c:f { cls:=.type "list",data:=.seq its.toArray n }={ cls:=.type "list",data:=.seq its'.toArray a }) (r:Vals ys its') (g:ys.length<=sizeLine) (t:Nat) :
  Inv X pins σ (upd H p (.lst ys)) { s with heap:=s.heap.update p f,toks:=t }:=by
 have e:(s.heap.update p f).get? p=some { cls:=.type "list",data:=.seq its'.toArray a }:=by
  rw[Heap.get?_update_self f d (by rw[c]<;>rfl),c]
 refine I.write (x:=p) (e:=p) (by rw[h];trivial) (.inl rfl) (λb u i q=>(Heap.get?_update_other _ _ (Ne.symm i)).trans q) ⟨_,e⟩ ?_;exact⟨g,its',a,r,e⟩
def jeJ:V->V->V->Hp->(Hp->Prop)->Prop:=λo i v H Q=>∃ p xs k j,o=.ref p/\i=.int k/\H p=some (.lst xs)/\ixN xs.length k=some j/\Q (upd H p (.lst (xs.set j v)))
theorem jb1:jkP X jeJ:=by
 intro a s σ H o i v E F u Q I y z A h;obtain⟨p,B,k,j,rfl,rfl,g,C,q⟩:=h;cases y;obtain⟨t,rfl⟩:=z;obtain⟨b,n,r,d,D⟩:=I.lst g;obtain⟨c,G,l,m⟩:=zD C;have e:=r.length;have J:=K6;have w:Inv X a σ (upd H p (.lst (B.set j v))) { s with heap:=s.heap.update p (Obj.mapSeq (·.setIfInBounds j u)) } :=
  I.lstUpd g d (xT b n j u) (r.set A j) (by rw[List.length_set];exact D) s.toks
 by_cases x:0<=k
 ·have f:k.toNat=j:=by
   rw[seqIndex_of x m] at c;exact X7 c
  exact PySem.W.ki_setAt d x (by lia) (by rw[N2,<- e];exact m) (by rw[f];exact⟨_,w,q⟩)
 ·have f:(k+(b.toArray.size:Int)).toNat=j:=by
   rw[seqIndex_neg (by lia) l] at c;rw[N2,<- e];exact X7 c
  exact PySem.W.ki_setBack d (by lia) (by rw[N2,<- e];exact l) (by lia) (by rw[f];exact⟨_,w,q⟩)
theorem Kz(lo hi:Option Int)(n:Nat):(sliceBounds lo hi none n).1=((HT.sIx n 0 lo:Nat):Int)/\(sliceBounds lo hi none n).2.1=((HT.sIx n n hi:Nat):Int)/\(sliceBounds lo hi none n).2.2=1:=by
 refine⟨?_,?_,rfl⟩
 ·cases lo with
  | none=>simp[sliceBounds,HT.sIx]
  | some i =>
   simp only[sliceBounds,HT.sIx,Option.getD_none,show(1:Int) > 0 by decide,if_true];by_cases h:i < 0
   ·simp only[h,if_true]<;>lia
   ·simp only[h,if_false]<;>lia
 ·cases hi with
  | none=>simp[sliceBounds,HT.sIx]
  | some i =>
   simp only[sliceBounds,HT.sIx,Option.getD_none,show(1:Int) > 0 by decide,if_true];by_cases h:i < 0
   ·simp only[h,if_true]<;>lia
   ·simp only[h,if_false]<;>lia
theorem Kd(its:List Value)(lo hi:Option Int):slicePick its.toArray lo hi none=((its.drop (HT.sIx its.length 0 lo)).take (HT.sIx its.length its.length hi - HT.sIx its.length 0 lo)).toArray:=by
 obtain⟨a,b,c⟩:=Kz lo hi its.toArray.size;unfold slicePick;rw[a,b,c];simp only[sliceRange_one,pick_run,N2]<;>rfl
def jkR(K:PySem.W.Frag):V->Option Int->Option Int->Hp->VK->Prop:=λx lo hi H Q=>∃ a xs,x=.ref a/\SqL K H a xs/\∀ p,H p=none->Q (.ref p) (upd H p (.lst (jdz xs lo hi)))
theorem jec:SlR X (jkR X.K):=by
 intro e s σ H x v n p lo hi t Q I g i pl j h;obtain⟨a,c,rfl,k,q⟩:=h;cases g;obtain⟨l,r,f,m⟩:=I.list k;have d:=r.length;refine⟨"list",_,slot_list_getitem.lookup,f.isList.typeIs,?_⟩;refine wpAny_getItem_list_slice f.isList i pl j .none (by simp) ?_ (by rw[N2]<;>lia);rw[Kd,<- d];refine⟨.ref s.heap.objs.size,_,I.laid (t':=s.toks) (o:=.lst (jdz c lo hi)) (λb ob q=>L7 _ q) (M8 _) ?_,rfl,q _ (I.hok.fresh (M8 _))⟩;exact⟨N6 (Yv c lo hi) m,_,0,(r.drop (HT.sIx c.length 0 lo)).take (HT.sIx c.length c.length hi - HT.sIx c.length 0 lo),E1 _ rfl⟩
noncomputable def YG:V->Bool
 | .non=>true
 | .bl _=>true
 | .int _=>true
 | .str _=>true
 | _=>false
noncomputable def eqV:V->V->Bool
 | .non,.non=>true
 | .bl a,.bl b=>a==b
 | .bl a,.int b=>(if a then 1 else 0)==b
 | .int a,.bl b=>a==(if b then 1 else 0)
 | .int a,.int b=>a==b
 | .str a,.str b=>a==b
 | _,_=>false
theorem jgB(e:RelV y u)(c:RelV x v)(g:YG y=true)(f:YG x=true):SeqAt.EqAt A s u v (eqV y x):=by
 cases y with
 | non =>
  cases e;cases x with
  | non=>cases c;exact SeqAt.EqAt.same _
  | bl b=>cases c;exact SeqAt.EqAt.none_bool b
  | int b=>obtain⟨t,rfl⟩:=c;exact SeqAt.EqAt.none_int b t
  | str b=>obtain⟨t,rfl⟩:=c;exact SeqAt.EqAt.none_str b t
  | _=>exact absurd (show false=true from f) M3
 | bl a =>
  cases e;cases x with
  | non=>cases c;exact SeqAt.EqAt.bool_none a
  | bl b=>cases c;exact SeqAt.EqAt.bool_bool a b
  | int b=>obtain⟨t,rfl⟩:=c;exact SeqAt.EqAt.bool_int a b t
  | str b=>obtain⟨t,rfl⟩:=c;exact SeqAt.EqAt.bool_str a b t
  | _=>exact absurd (show false=true from f) M3
 | int a =>
  obtain⟨d,rfl⟩:=e;cases x with
  | non=>cases c;exact SeqAt.EqAt.int_none a d
  | bl b=>cases c;exact SeqAt.EqAt.int_bool a d b
  | int b=>obtain⟨t,rfl⟩:=c;exact SeqAt.EqAt.int_int a d b t
  | str b=>obtain⟨t,rfl⟩:=c;exact SeqAt.EqAt.int_str a d b t
  | _=>exact absurd (show false=true from f) M3
 | str a =>
  obtain⟨d,rfl⟩:=e;cases x with
  | non=>cases c;exact SeqAt.EqAt.str_none a d
  | bl b=>cases c;exact SeqAt.EqAt.str_bool a d b
  | int b=>obtain⟨t,rfl⟩:=c;exact SeqAt.EqAt.str_int a d b t
  | str b=>obtain⟨t,rfl⟩:=c;exact SeqAt.EqAt.str_str a d b t
  | _=>exact absurd (show false=true from f) M3
 | _=>exact absurd (show false=true from g) M3
def eqU(x:V)(u:Value):Bool:=match u with
 | .none=>eqV .non x
 | .bool b=>eqV (.bl b) x
 | .int i _=>eqV (.int i) x
 | .str z _=>eqV (.str z) x
 | _=>false
theorem jdu(r:RelV y u)(f:YG y=true):eqU x u=eqV y x:=by
 cases y with
 | non=>cases r;rfl
 | bl b=>cases r;rfl
 | int i=>obtain⟨t,rfl⟩:=r;rfl
 | str z=>obtain⟨t,rfl⟩:=r;rfl
 | _=>exact absurd (show false=true from f) M3
theorem YQ:∀{xs:List V}{us:List Value},Vals xs us->xs.all YG=true->us.any (eqU x)=xs.any λy=>eqV y x
 | _,_,.nil,_=>rfl
 | y::xs,u::us,.cons r t,f=>by
  rw[List.all_cons,L9] at f;rw[List.any_cons,List.any_cons,jdu r f.1,YQ t f.2]
theorem Ji(b:RelV x v)(c:YG x=true):∀{xs:List V}{us:List Value},Vals xs us->xs.all YG=true->∀ u∈us,SeqAt.EqAt A s u v (eqU x u)
 | _,_,.nil,_=>λu a=>by cases a
 | y::xs,u::us,.cons r t,f=>λd a=>by
  rw[List.all_cons,L9] at f;rcases M4.mp a with rfl | a
  ·rw[jdu r f.1];exact jgB r b f.1 c
  ·exact Ji b c t f.2 d a
def inV(x:V)(xs:List V):Bool:=xs.any λy=>eqV y x
def rIn(K:PySem.W.Frag)(neg:Bool):R2:=λx y H Q=>∃ p xs,y=.ref p/\(SqL K H p xs \/ SqT K H p xs)/\YG x=true/\xs.all YG=true/\Q (.bl (if neg then !inV x xs else inV x xs)) H
theorem uB:OpR X (compareOp .In) (rIn X.K false):=by
 intro d s σ H x y v u Q I e g h;obtain⟨p,j,rfl,b,f,fs,q⟩:=h;cases g;rcases b with b | b
 ·obtain⟨a,r,pl,i⟩:=I.list b;refine SeqAt.in_listAt (eqU x) pl.isList (λw c=>Ji e f r fs w (by simpa using c)) ⟨.bl _,H,I,rfl,?_⟩;rw[show a.toArray.any (eqU x)=a.any (eqU x) by simp,YQ r fs];exact q
 ·obtain⟨a,r,pl,i⟩:=I.tuple b;refine SeqAt.in_tupleAt (eqU x) pl (λw c=>Ji e f r fs w (by simpa using c)) ⟨.bl _,H,I,rfl,?_⟩;rw[show a.toArray.any (eqU x)=a.any (eqU x) by simp,YQ r fs];exact q
theorem Ku:OpR X (compareOp .NotIn) (rIn X.K true):=by
 intro d s σ H x y v u Q I e g h;obtain⟨p,j,rfl,b,f,fs,q⟩:=h;cases g;rcases b with b | b
 ·obtain⟨a,r,pl,i⟩:=I.list b;refine SeqAt.notIn_listAt (eqU x) pl.isList (λw c=>Ji e f r fs w (by simpa using c)) ⟨.bl _,H,I,rfl,?_⟩;rw[show a.toArray.any (eqU x)=a.any (eqU x) by simp,YQ r fs];exact q
 ·obtain⟨a,r,pl,i⟩:=I.tuple b;refine SeqAt.notIn_tupleAt (eqU x) pl (λw c=>Ji e f r fs w (by simpa using c)) ⟨.bl _,H,I,rfl,?_⟩;rw[show a.toArray.any (eqU x)=a.any (eqU x) by simp,YQ r fs];exact q
theorem Qm:Jt X (.type "list") (λxs H Q=>∃ p ys,xs=[.ref p]/\(SqL X.K H p ys \/ SqT X.K H p ys)/\∀ l,H l=none->Q (.ref l) (upd H l (.lst ys))):=by
 intro g s σ H xs z Q I r h;obtain⟨p,ys,rfl,i,q⟩:=h;obtain⟨u,rfl,y⟩:=jg0 r;cases y;have j:∀(a:List Value),Vals ys a->ys.length<=sizeLine->∀(c:Heap) (d:Nat),(∀ b x,s.heap.get? b=some x->c.get? b=some x) ->
   c.get? s.heap.objs.size=some { cls:=.type "list",dict:=none,data:=.seq a.toArray d,slots:=#[] }->EP X g σ Q (.ref s.heap.objs.size) { s with heap:=c }:=λa f k c d kp e =>
  ⟨.ref s.heap.objs.size,_,I.laid (t':=s.toks) kp (M8 _) (show ObjOk X.prog X.w _ c _ (.lst ys) from⟨k,a,d,f,e⟩),rfl,q _ (I.hok.fresh (M8 _))⟩
 rcases i with i | i
 ·obtain⟨a,f,pl,k⟩:=I.list i;have m:=f.length;obtain⟨o,t,v,n,hd⟩:=pl.isList;exact call_list_seq p (.inl rfl) t v hd (λc d kp e=>j a f k c d kp e) (by simp only[N2]<;>lia)
 ·obtain⟨a,f,pl,k⟩:=I.tuple i;have m:=f.length;obtain⟨o,t,v,n,hd⟩:=pl;exact call_list_seq p (.inr rfl) t v hd (λc d kp e=>j a f k c d kp e) (by simp only[N2]<;>lia)
def tyV(K:PySem.W.Frag)(T:String)(x:V)(H:Hp):Prop:=match x with
 | .str _=>T = "str"
 | .int _=>T = "int"
 | .ref p=>(T = "list"/\∃ xs,SqL K H p xs) \/ (T = "tuple"/\∃ o,K.lookup p=some o/\o.cls=.type "tuple"/\o.dict=none) \/
   (T = "dict"/\((∃ kvs,H p=some (.dK kvs)) \/ ∃ kvs,H p=some (.dT kvs))) \/ (T = "set"/\∃ S n,H p=some (.set S n))
 | _=>False
theorem jhv(I:Inv X pins σ H s)(r:RelV x v)(ty:tyV X.K T x H) :
  s.TypeIs v T/\∀ a,v=.ref a->∃ ob,s.heap.get? a=some ob/\ob.dict=none:=by
 cases x with
 | str z =>
  obtain⟨t,rfl⟩:=r;cases(show T = "str" from ty);exact⟨typeIs_str s z t,λ_ e=>nomatch e⟩
 | int i =>
  obtain⟨t,rfl⟩:=r;cases(show T = "int" from ty);exact⟨typeIs_int s i t,λ_ e=>nomatch e⟩
 | ref p =>
  cases r;rcases ty with⟨rfl,j,f⟩ | ⟨rfl,o,b,g,hd⟩ | ⟨rfl,b⟩ | ⟨rfl,S,n,b⟩
  ·obtain⟨h,_,pl,_⟩:=I.list f;refine⟨pl.isList.typeIs,λa e=>?_⟩;cases e;obtain⟨o,n,e,c,hd,_⟩:=pl;exact⟨o,e,hd⟩
  ·refine⟨⟨o,I.kIn p o b,g⟩,λa e=>?_⟩;cases e;exact⟨o,I.kIn _ o b,hd⟩
  ·have z:∃ o,s.heap.get? p=some o/\o.ExactDict:=by
    rcases b with⟨d,b⟩ | ⟨d,b⟩
    ·obtain⟨_,_,_,_,o,_,_,e,ex,_⟩:=I.hok p _ b;exact⟨o,e,ex⟩
    ·obtain⟨_,_,_,_,o,_,_,e,ex,_⟩:=I.hok p _ b;exact⟨o,e,ex⟩
   obtain⟨o,e,ex⟩:=z;refine⟨⟨o,e,ex.1⟩,λa e2=>?_⟩;cases e2;exact⟨o,e,ex.2.1⟩
  ·obtain⟨o,_,_,_,e,ex,_⟩:=I.hok p _ b;refine⟨⟨o,e,ex.1⟩,λa e2=>?_⟩;cases e2;exact⟨o,e,ex.2.1⟩
 | _=>exact False.elim ty
noncomputable def tBM(K:PySem.W.Frag)(T:String)(r:V->List V->Hp->VK->Prop)(to:TE)(t:TA):TE:=λσ H Q=>to σ H λx H1=>tyV K T x H1/\t σ H1 λxs H2=>r x xs H2 Q
variable {o e:Expr}{es:List Expr}{to:TE}{t:TA}{name:Str}{apos cpos:Pos}{T id:String}{r:V->List V->Hp->VK->Prop}
theorem jcy(pa:PlainAttrs T)(slot:Slot T name id)(g:typeOf (.builtin id)=pure (.type "method_descriptor"))(l:MtR X id r)(m:PE X o to)(n:PA X (e::es) t)
  (c:attributeBase o name X.env (eval o X.env)=eval o X.env:=by rfl)
  (f:((backTo cpos (starEach (e::es) X.env)).all (λx=>!x.1)&&(backToKw cpos (keywordEach [] X.env)).all (λx=>x.1.isSome)
   && decide ((e::es).length+([]:List Keyword).length+(if([]:List Keyword).isEmpty then 0 else 1) < 30))=true:=by rfl)
  (d:(apos.endLine==cpos.line)=true:=by rfl) (p:starEach (e::es) X.env=(false,eval e X.env)::starEach es X.env:=by rfl) (b:(backTo cpos (starEach es X.env)).any (·.1)=false:=by rfl) :
  PE X (.Call (.Attribute o name apos) (e::es) [] cpos) (tBM X.K T r to t):=by
 intro a s σ H Q I h;refine wpAny_Call_method_late c f d rfl (thn (m a s σ H _ I h) λv s1 q=>?_);obtain⟨x,u,i,j,ty,w⟩:=q;obtain⟨y,z⟩:=jhv i j ty;refine⟨T,id,pa,slot,g,y,z,?_⟩;have k:=n cpos a s1 σ u _ i w;rw[p] at k ⊢;refine Calls.callWith_builtin (by show(false||(backTo cpos (starEach es X.env)).any (·.1))=false;rw[b]<;>rfl) (Calls.evalArgs_plain ?_);exact thn k λA B ⟨C,D,E,F,G⟩=>l a B σ D x C v A Q E j F G
end
def MtM(X:Cx)(id:String)(r:V->List V->Hp->VK->Prop):Prop :=
 ∀(pins:List (Addr×Obj)) (s:Shared) (σ:St) (H:Hp) (x:V) (xs:List V) (v:Value) (us:List Value) (Q:VK),Inv X pins σ H s->RelV x v->Vals xs us->r x xs H Q ->
  wpAny (model X.prog X.w) X.A (call (.builtin id) (v::us)) (EP X pins σ Q) X.xe s
theorem Vals.one(h:Vals [x] us):∃ u,us=[u]/\RelV x u:=by
 cases h with
 | cons r t=>cases t;exact⟨_,rfl,r⟩
theorem Vals.two(h:Vals [x,y] us):∃ u v,us=[u,v]/\RelV x u/\RelV y v:=by
 cases h with
 | cons r t=>cases t with
  | cons q t=>cases t;exact⟨_,_,rfl,r,q⟩
section
variable {X:Cx}{pins:List (Addr×Obj)}{σ:St}{H:Hp}{s:Shared}{l b:Addr}{xs ys zs:List V}
theorem Inv.lset{its its':List Value}{n:Nat}{f:Array Value->Array Value}{t':Nat}(I:Inv X pins σ H s)(a:H l=some (.lst xs))
  (e:s.heap.get? l=some { cls:=.type "list",data:=.seq its.toArray n }) (b:f its.toArray=its'.toArray) (c:Vals ys its') (d:ys.length<=sizeLine) :
  Inv X pins σ (upd H l (.lst ys)) { s with heap:=s.heap.update l (Obj.mapSeq f),toks:=t' }:=by
 have q:=PySem.IsL.update e f;rw[b] at q;refine I.write (x:=l) (e:=l) (by rw[a];exact trivial) (.inl rfl) (λb' u g h=>(Heap.get?_update_other s.heap (Obj.mapSeq f) (Ne.symm g)).trans h) ⟨_,q⟩ ?_;exact⟨d,its',_,c,q⟩
theorem Inv.lnew(I:Inv X pins σ H s)(a:Vals ys its)(b:ys.length<=sizeLine) :
  Inv X pins σ (upd H s.heap.objs.size (.lst ys)) { s with heap:=s.heap.push { cls:=.type "list",data:=.seq its.toArray },toks:=t' } :=
 I.laid (λ_ _ q=>L7 _ q) (M8 _) ⟨b,its,0,a,E1 _ rfl⟩
theorem Inv.fresh(I:Inv X pins σ H s):H s.heap.objs.size=none:=I.hok.fresh (M8 _)
theorem Inv.lstM(I:Inv X pins σ H s)(a:H l=some (.lst xs)):xs.length<=sizeLine/\∃(its:List Value) (n:Nat),Vals xs its/\xs.length=its.length/\s.heap.get? l=some { cls:=.type "list",data:=.seq its.toArray n }:=by
 obtain⟨z,its,n,r,e⟩:=I.hok l _ a;exact⟨z,its,n,r,r.length,e⟩
end
section
variable {X:Cx}
def qQ:V->List V->Hp->VK->Prop:=λx vs H Q=>∃ l xs y,x=.ref l/\vs=[y]/\H l=some (.lst xs)/\xs.length < sizeLine/\Q .non (upd H l (.lst (xs++[y])))
theorem Je:MtM X "list.append" qQ:=by
 intro b s σ H x i v j Q I d f h;obtain⟨l,k,y,rfl,rfl,c,m,q⟩:=h;cases d;obtain⟨u,rfl,g⟩:=f.one;obtain⟨z,a,n,r,o,e⟩:=I.lstM c;refine call_meets F.slot_list_append ⟨_,e,rfl⟩ F.entry_list_append (F.args_list_append_2 _ _) (PySem.list_append l a.toArray n u (by rw[N2];lia)) ⟨e,?_⟩;refine⟨.non,_,I.lset (its':=a++[u]) c e (by simp) (r.append (.cons g .nil)) ?_,rfl,q⟩;rw[N3,List.length_singleton]
 lia
end
end L2
namespace Att
open PySem PySem.W PySem.Calls PyProof.Rows
theorem YN:∀(ns:List Int) (vs:List Value),WellAll P h vs (ns.map WData.int)->IntsAre vs ns:=by
 intro ns
 induction ns with
 | nil =>
  intro vs w;rw[List.map_nil] at w;cases w;exact .nil
 | cons n ns c =>
  intro vs w;rw[L4] at w;cases w with
  | cons a b =>
   cases a;exact .cons _ _ (c _ b)
theorem script_of{l:OpenLaw}{n:Nat}(p:l.most=some n)  {h:Heap}{b:List WData}{c:List Value}
  (e:l.row.toRowW.claim.pre b=true) (k:WellAll P h c b) :
  ∃ a vs ns,c=[Value.ref a]/\b=[WData.list (ns.map WData.int)]/\h.get? a=some { cls:=.type "list",data:=.seq vs.toArray }/\IntsAre vs ns/\ns.length<=n:=by
 have m:WShape.hasAll [] b [.list .int]=true:=(pre_splitW e).1;have o:l.pre.holds [] { args:=b }=true:=(pre_splitW e).2;obtain⟨d,r,rfl,s,t⟩:=hasAllW_cons m;obtain rfl:=hasAllW_nil t;obtain⟨z,rfl,u⟩:=hasW_list s;obtain⟨ns,rfl⟩:=items_int u;have f:ns.length<=n:=by
  unfold OpenLaw.pre at o;have i:(WTm.not (.lt (.lit (.int (n:Int))) (.len (.arg 0)))).holds [] { args:=[.list (ns.map .int)] }=true:=by
   have i:=(holds_andW o).1;rw[p] at i;exact i
  have j:=condW_of i (w_not (w_lt w_lit (w_len_list (w_arg rfl))));rw[L0] at j;refine Nat.le_of_not_lt λq=>?_;have v:(n:Int) < ((ns.length:Nat):Int):=by lia
  first
   | (rw[X4 v] at j;exact absurd j (by decide))
   | (simp at j;lia)
 cases k with
 | cons w x =>
  cases x;cases w with
  | list y g=>exact⟨_,_,ns,rfl,rfl,y,YN ns _ g,f⟩
theorem post_true(l:OpenLaw)(a:List WData):l.row.toRowW.claim.post a (.bool true) a=true :=
 postW_of (r:=l.row.toRowW) (X:=(true==true))
  (show WShape.has [] (.bool true) .bool=true by first | rfl | decide | simp[WShape.has,WShape.arms,WShape.armsAll])
  (show(WTm.eq .res (.lit (.bool true))).value [] { args:=a,res:=some (.bool true),after:=a }=some (.bool (true==true)) from w_eq_bool (w_res rfl) w_lit) rfl
end Att
namespace L2
open PySem PySem.Spec PyProof.Rows
theorem KY:∀{vs:List Value}{ns:List Int},IntsAre vs ns->Vals (ns.map V.int) vs
 | _,_,.nil=>.nil
 | _,_,.cons n t h=>.cons ⟨t,rfl⟩ (KY h)
def jjT(H:Hp):Prop:=∀ b,H b=none \/ ∃ o xs,H b=some (.frz o (.lst xs))
theorem jco{P:Program}{w:World}{K:PySem.W.Frag}{mg I:Str->Option Value}{CX:CXT}{k:Nat}{fa a:Addr}{fd:FuncData}{x:Str}{sp:Sp}{c:Shared}{vs:List Value}{ns:List Int}
  (Q:K.In c.heap) (p:c.heap.Ns mainGlobals mg) (g:c.heap.Ns builtinsNs I) (J:∀ x:Str,x≠"__name__"->I x=bootBuiltins x) (t:c.heap.NoLimit) (Y:c.gens = #[])
  (G:c.heap.get? a=some { cls:=.type "list",data:=.seq vs.toArray }) (hi:IntsAre vs ns) (R:ns.length<=sizeLine) (Z:Room k callerA)
  (F:∀ base:Heap,K.In base->base.Ns mainGlobals mg->FnOk P w K mg base CX k fa fd [x] sp) (l:∀(s:Shared) (u:Value),BindsTo s fd ⟨[u],[]⟩ [(x,u)])
  (L:∀ H:Hp,jjT H->SqL K H a (ns.map V.int)->sp [.ref a] H (λv _=>v=.bl true) λ_ _ _=>False)
  (M:∀ H e s',CX [] H c (λ_ _ _=>False) e s'->False) :
  codeAny (model P w) callerA (.call (.ref fa) ⟨[.ref a],[]⟩) (λr s'=>r=.ok (.ret (.bool true))/\OldK c.heap s'.heap/\s'.os=c.os/\AllBare s'.gens) c:=by
 have S:=KY hi;have y:=hi.length
 -- from an abstract heap in which nothing but the script may be tracked
 have j:∀ H:Hp,jjT H->SqL K H a (ns.map V.int)->HOk P w H c.heap->(∀ b,H b≠none->b=a)->(H a≠none->K.lookup a=none) ->
   codeAny (model P w) callerA (.call (.ref fa) ⟨[.ref a],[]⟩) (λr s'=>r=.ok (.ret (.bool true))/\OldK c.heap s'.heap/\s'.os=c.os/\AllBare s'.gens) c:=by
  intro H T hS hok U hK;have f:∀{b:Addr}{o:Obj},c.heap.get? b=some o->H b=none->(jbC c.heap H).get? b=some o:=λe n=>jdb e n;have N:∀{b:Addr}{o:Obj}{A:Array DictEntry}{B:Nat},c.heap.get? b=some o->o.data=.dict A B->H b=none:=λ{b o A B} e d=>by
   cases q:H b with
   | none=>rfl
   | some u =>
    have O:b=a:=U b (by rw[q];simp);subst O;rw[G] at e;cases e;have d':Data.seq vs.toArray _=Data.dict A B:=d;cases d'
  have i:∀{b:Addr}{m:Str->Option Value},c.heap.Ns b m->(jbC c.heap H).Ns b m:=λ{b m} ⟨o,A,B,e,d,r⟩=>⟨o,A,B,f e (N e d),d,r⟩;have C:K.In (jbC c.heap H):=λb o e=>f (Q b o e) (by
   cases q:H b with
   | none=>rfl
   | some u =>
    have O:b=a:=U b (by rw[q];simp);subst O;rw[hK (by rw[q];simp)] at e;cases e)
  have hM:Mod K mg (jbC c.heap H):=⟨C,i p,⟨I,i g,J⟩,let ⟨mc,h1,h2⟩:=t;⟨mc,i h1,h2⟩⟩;have e0:Env0 P w K mg (jbC c.heap H) callerA [] c H:=⟨rfl,hM,λb o e=>jfo e,Nat.le_of_eq (jaF _ _),trivial,λb g=>absurd (show b∈([]:List Addr) from g) (by simp),hok,.of_eq Y⟩;refine codeAny_mono ((F _ C (i p)).run callerA [] c H ⟨[.ref a],[]⟩ [.ref a] [.ref a] _ _ Z e0 (l c (.ref a)) (.cons rfl .nil) (L H T hS)) λr s' h=>?_;cases r with
  | error e=>exact(M H e s' h).elim
  | ok fl =>
   cases fl with
   | next=>exact False.elim h
   | brk=>exact False.elim h
   | cont=>exact False.elim h
   | ret u =>
    obtain⟨v,H',os,bare,un,D,r',q⟩:=h;have q':v=.bl true:=q;subst q';obtain rfl:u=Value.bool true:=r';refine⟨rfl,OldK.of_keep λb o e=>?_,os,bare⟩;cases q:H b with
    | none=>exact un.keep b o e q (by intro z;exact absurd (show b∈([]:List Addr) from z) (by simp)) (by simp)
    | some u =>
     rcases T b with z | ⟨ob,xs,z⟩
     ·rw[q] at z;cases z
     ·have z2:=un.frzs b ob _ z;obtain⟨X,_⟩:=hok b _ z;obtain⟨e2,_⟩:=D b _ z2;rw[e] at X;cases X;exact e2
 cases hk:K.lookup a with
 | some o =>
  -- the script is one of the module's own objects
  have e:=Q a o hk;rw[G] at e;cases e;refine j (λ_=>none) (λ_=>.inl rfl) (.inr ⟨_,vs.toArray,_,hk,rfl,rfl,rfl,by rw[N2,y];exact R,by simpa using S⟩) (λb u z=>by have E:(none:Option HO)=some u:=z;cases E) (λb z=>absurd rfl z) λz=>absurd rfl z
 | none =>
  refine j (λb=>if b=a then some (.frz { cls:=.type "list",data:=.seq vs.toArray } (.lst (ns.map V.int))) else none) (λb=>?_) (.inl (.inr ⟨{ cls:=.type "list",data:=.seq vs.toArray },if_pos rfl⟩)) (λb u z=>?_) (λb z=>?_) λ_=>hk
  ·by_cases g:b=a
   ·exact .inr ⟨_,_,if_pos g⟩
   ·exact .inl (if_neg g)
  ·by_cases g:b=a
   ·have E:=(if_pos g).symm.trans z;cases E;subst g;exact⟨G,by rw[L0];exact R,vs,_,S,G⟩
   ·have E:=(if_neg g).symm.trans z;cases E
  ·by_cases g:b=a
   ·exact g
   ·exact absurd (if_neg g) z
noncomputable def qD(s:Stmt)(j:Nat):Stmt:=match s with
 | .ClassDef _ _ _ body _ _ _ _ _ _ _=>body.getD j (.Pass ⟨0,0,0,0⟩)
 | _=>.Pass ⟨0,0,0,0⟩
noncomputable def kX(s:Stmt):Arguments:=match s with
 | .FunctionDef _ a _ _ _ _ _ _ _ _=>a
 | _=>{ posonlyargs:=[],args:=[],vararg:=none,kwonlyargs:=[],kw_defaults:=[],kwarg:=none,defaults:=[] }
noncomputable def vA(s:Stmt):List Stmt:=match s with
 | .FunctionDef _ _ b _ _ _ _ _ _ _=>b
 | _=>[]
noncomputable def jz(s:Stmt):Scope:=match s with
 | .FunctionDef _ _ _ _ _ _ sc _ _ _=>sc
 | _=>{ kind:=.function,names:=[],isGenerator:=false,isCoroutine:=false }
noncomputable abbrev CX0:CXT:=λ_ _ _ _ _ _=>False
noncomputable abbrev E0:XK:=λ_ _ _=>False
theorem jbS:Vk CX0 X E0:=λ_ _ _ _ _ _ _ h=>h.elim
structure Fun(K:PySem.W.Frag)(x qual:Str)(st:Stmt)(f:Addr)(fd:FuncData):Prop where
 ex:∃(oc:Value) (od:Option Addr) (kV doc pm:Value) (an:Option Addr) (cdv ct:Value) (osl:Array (Option Value)),
  fd=PySem.W.fnOf x qual (kX st) (vA st) (jz st) .none kV doc pm an cdv ct/\K.lookup f=some ⟨oc,od,.func fd,osl⟩/\PySem.W.codeIn K cdv qual=true
 kp:PySem.W.keepIn K (.ref f)=true
section
variable {P:Program}{w:World}{K:PySem.W.Frag}{mg:Str->Option Value}{base:Heap}
theorem Fun.ok{x qual:Str}{st:Stmt}{f:Addr}{fd:FuncData}{N ps:List Str}{k:Nat}{sp:Sp}(F:Fun K x qual st f fd)(S:FnScope N ps (jz st))(len:∀ vs H Q E,sp vs H Q E->vs.length=ps.length)
  (a:∀(cdv:Value) (A:Around) (outer:List Env) (s:Shared) (H:Hp) (vs:List V) (Q:VK) (E:XK),Room k (A.deeper (envOfC qual (jz st) s.heap.objs.size f cdv))->sp vs H Q E ->
   ∃ t,PSs (jdw CX0 P w K mg base N qual (jz st) f cdv A outer s H E).nox (vA st) t/\t { nx:=λ_ H'=>Q .non H',rt:=Q } (start N vs) H):FnOk P w K mg base CX0 (k+1) f fd ps sp:=by
 obtain⟨oc,od,kV,d,j,l,cdv,ct,e,rfl,g,b⟩:=F.ex;refine jkB g b S len λA outer s H vs Q E i c=>?_;obtain⟨t,h,q⟩:=a cdv A outer s H vs Q E i c;exact⟨t,h.nox,q⟩
theorem Fun.binds{x qual:Str}{st:Stmt}{f:Addr}{fd:FuncData}{ps:List Str}(F:Fun K x qual st f fd)
  (h:∀(kV doc pm:Value) (an:Option Addr) (cdv ct:Value) (us:List Value),us.length=ps.length->bindArgs (PySem.W.fnOf x qual (kX st) (vA st) (jz st) .none kV doc pm an cdv ct) ⟨us,[]⟩=pure (ps.zip us)):Binds K fd ps []:=by
 obtain⟨oc,od,kV,doc,pm,an,cdv,ct,a,rfl,c,b⟩:=F.ex;exact .all (h kV doc pm an cdv ct)
theorem xN{x qual:Str}{st:Stmt}{f:Addr}{oc:Value}{od an:Option Addr}{d:Array (Option Value)}{kV b pm a ct:Value}(l:K.lookup f=some ⟨oc,od,.func (PySem.W.fnOf x qual (kX st) (vA st) (jz st) .none kV b pm an a ct),d⟩)
  (c:PySem.W.codeIn K a qual=true) (k:PySem.W.keepIn K (.ref f)=true):Fun K x qual st f (PySem.W.fnOf x qual (kX st) (vA st) (jz st) .none kV b pm an a ct):=⟨⟨oc,od,kV,b,pm,an,a,ct,d,rfl,l,c⟩,k⟩
end
theorem K9(a:Room k A):A.units+1 < cLine:=E4 (Nat.add_le_add_left (by decide:1<=64) _) a.units
theorem uS(h:n<=1000):n < sizeLine:=E4 h (by decide)
theorem jgi{A B:Prop}(h:B):if false=true then A else B:=by
 rw[if_neg M3];exact h
theorem jgh{A B:Prop}(h:A):if true=true then A else B:=by
 rw[if_pos rfl];exact h
theorem KB(I:Nat->Shared->Prop)
  (turn:∀ n s,I n s->wpAny (model prog w) A (pyNext it) (λr s₁=>match r with
   | none=>R (.ok .next) s₁
   | some v=>wpAny (model prog w) A (letOwnedTupleGo target it v) (λ_ s₁'=>wpAny (model prog w) A (assign target env v) (λ_ s₂ =>
     wpAny (model prog w) A (forIn ifs true λc r=>if r=true then do let ok <- isTrue c env (eval c env);pure (ForInStep.yield ok) else pure (ForInStep.yield r)) (λok s₃ =>
      if ok=true then wpAny (model prog w) A (eval elt env) (λx s₄ =>
       wpAny (model prog w) A (call (.builtin "list.append") [acc,x]) (λ_ s₅=>∃ m,m < n/\I m s₅) (λ_ _=>False) s₄) (λ_ _=>False) s₃
      else ∃ m,m < n/\I m s₃) (λ_ _=>False) s₂) (λ_ _=>False) s₁') (λ_ _=>False) s₁) (λ_ _=>False) s)
  (n:Nat) (h:I n s) :
  codeAny (model prog w) A (.compLoop (.ListComp elt [⟨target,iter,ifs,0⟩] scope pos) 0 it acc env) R s:=by
 have a:∀{α:Type}{t:Sem α}{Q:α->Shared->Prop}{E:Value->Shared->Prop}{s:Shared},wpAny (model prog w) A t Q (λ_ _=>False) s->wpAny (model prog w) A t Q E s :=
  λh=>wpAny_mono h (λ_ _ x=>x) λ_ _ z=>z.elim
 refine codeAny_loop rfl I (λn s f=>?_) n h;show wpAny _ A ((compTurn (.ListComp elt [⟨target,iter,ifs,0⟩] scope pos) 0 it acc env).onRaise (λx=>do noteFrame x env;theTreesLotGoes x)) _ _ s;refine wpAny_noted ?_;rw[compTurn_list];refine L1 (wpAny_standAt (L1 (thn (a (turn n s f)) λr s₁ d=>?_)));cases r with
 | none=>exact M6 d
 | some v =>
  refine L1 (thn (a d) λ_ s₁' b=>L1 (thn (a b) λ_ s₂ g=>L1 (thn (a g) λok s₃ e=>?_)));cases ok with
  | false=>exact M6 ⟨rfl,e⟩
  | true =>
   exact L1 (L1 (thn (a e) λx s₄ i=>L1 (thn (a i) λ_ s₅ j=>M6 (M6 ⟨rfl,j⟩))))
noncomputable def wk(env:Env):List (Str×NameKind)->List (Str×Addr)->List (Str×Addr)
 | [],cs=>cs
 | (n,k)::r,cs=>wk env r (if k==NameKind.free then(match env.cells.lookup n with | some a=>(n,a)::cs | none=>cs) else cs)
def Qq(scope:Scope)(env:Env):List (Str×Addr):=wk env scope.names []
theorem je7:∀(l:List (Str×NameKind)) (cs:List (Str×Addr)),(∀ n k,(n,k)∈l->k=NameKind.free->∃ c,env.cells.lookup n=some c) ->
  (forIn (m:=Sem) l cs λx r=>match x with | (n,k)=>if k==NameKind.free then do let a <- cellOf env n;pure (ForInStep.yield ((n,a)::r)) else pure (ForInStep.yield r))=pure (wk env l cs)
 | [],cs,_=>rfl
 | (n,k)::r,cs,h=>by
  rw[List.forIn_cons];by_cases b:(k==NameKind.free)=true
  ·obtain⟨c,j⟩:=h n k L6 (by simpa using b);have o:cellOf env n=pure c:=by unfold cellOf;rw[j]
   have d:=je7 (env:=env) r ((n,c)::cs) λe f g i=>h e f (L5 _ g) i;simp only[b,if_true,o,pure_bind];rw[d]
   conv=>rhs;unfold wk
   simp only[b,if_true,j]
  ·have d:=je7 (env:=env) r cs λe f g i=>h e f (L5 _ g) i;simp only[b,if_false,pure_bind,Bool.false_eq_true];rw[d]
   conv=>rhs;unfold wk
   simp only[b,if_false,Bool.false_eq_true]
theorem wH(h:∀ n k,(n,k)∈scope.names->k=NameKind.free->∃ c,env.cells.lookup n=some c):closureFor scope env=pure (Qq scope env):=by
 have e:=je7 (env:=env) scope.names [] h;unfold closureFor Qq;show(forIn (m:=Sem) scope.names [] λx r=>match x with | (n,k)=>if k==NameKind.free then do let a <- cellOf env n;pure (ForInStep.yield ((n,a)::r)) else pure (ForInStep.yield r)) >>= (λb=>pure b)=_;rw[e,pure_bind]
theorem jdG:∀(l:List (Str×NameKind)) (cs:List (Str×Addr)),(x,c)∈wk env l cs->(x,c)∈cs \/ env.cells.lookup x=some c
 | [],_,h=>.inl h
 | (n,k)::r,cs,h=>by
  unfold wk at h;rcases jdG r _ h with z | z
  ·split at z
   ·split at z
    ·rename_i a b;rcases M4.mp z with e | e
     ·cases e;exact .inr b
     ·exact .inl e
    ·exact .inl z
   ·exact .inl z
  ·exact .inr z
theorem ja1:∀(l:List (Str×NameKind)) (cs:List (Str×Addr)),(x,c)∈cs->(x,c)∈wk env l cs
 | [],_,h=>h
 | (n,k)::r,cs,h=>by
  unfold wk;refine ja1 r _ ?_;split
  ·split
   ·exact L5 _ h
   ·exact h
  ·exact h
theorem jdh(a:env.cells.lookup x=some c):∀(l:List (Str×NameKind)) (cs:List (Str×Addr)),(x,NameKind.free)∈l->(x,c)∈wk env l cs
 | [],_,h=>nomatch h
 | (n,k)::r,cs,h=>by
  unfold wk;rcases M4.mp h with e | e
  ·cases e;refine ja1 r _ ?_;simp only[beq_self_eq_true,if_true,a];exact L6
  ·exact jdh a r _ e
theorem qY:∀{l:List (Str×β)}{c:β},(x,c)∈l->∃ d,l.lookup x=some d
 | (n,a)::r,c,h=>by
  rw[List.lookup_cons];cases e:x==n with
  | true=>exact⟨a,rfl⟩
  | false =>
   rcases M4.mp h with z | z
   ·cases z;simp at e
   ·exact qY z
theorem Yj(h:(Qq scope env).lookup x=some c):env.cells.lookup x=some c:=by
 rcases jdG scope.names [] (PySem.mem_of_lookup h) with z | z
 ·exact nomatch z
 ·exact z
theorem jaA(a:env.cells.lookup x=some c)(f:(x,NameKind.free)∈scope.names):(Qq scope env).lookup x=some c:=by
 obtain⟨d,e⟩:=qY (jdh a scope.names [] f);have b:(Qq scope env).lookup x=some d:=e;rw[b,<- Yj b,a]
theorem qO(h:(n,k)∈(relabel scope env).names):(n,k)∈scope.names \/ (k=.cell/\(n,NameKind.free)∈scope.names):=by
 unfold relabel at h;obtain⟨⟨a,b⟩,c,e⟩:=M5.mp h;dsimp only at e;split at e
 ·rename_i d;cases e;have:b=NameKind.free:=by
   simp only[L9,beq_iff_eq] at d;exact d.1.1
  subst this;exact .inr ⟨rfl,c⟩
 ·cases e;exact .inl c
def vT(scope:Scope)(env:Env)(C:Addr):List (Str×Addr):=cellsFrom (C+1) scope.names (Qq scope env)
theorem jah:∀{names:List (Str×NameKind)}{n:Nat}{acc:List (Str×Addr)},(∀ x y c,acc.lookup x=some c->acc.lookup y=some c->x=y)->(∀ x c,acc.lookup x=some c->c < n)->∀ x y c,(cellsFrom n names acc).lookup x=some c->(cellsFrom n names acc).lookup y=some c->x=y
 | [],n,acc,h,_=>h
 | (a,k)::r,n,acc,h,e=>by
  unfold cellsFrom;split
  ·refine jah (λx y c b d=>?_) (λx c b=>?_)
   ·rw[List.lookup_cons] at b d;cases e1:x==a with
    | true =>
     rw[e1] at b;cases b;cases e2:y==a with
     | true=>rw[eq_of_beq e1,eq_of_beq e2]
     | false=>rw[e2] at d;exact absurd (e y _ d) (Nat.lt_irrefl _)
    | false =>
     rw[e1] at b;cases e2:y==a with
     | true=>rw[e2] at d;cases d;exact absurd (e x _ b) (Nat.lt_irrefl _)
     | false=>rw[e2] at d;exact h x y c b d
   ·rw[List.lookup_cons] at b;cases e1:x==a with
    | true=>rw[e1] at b;cases b;exact Nat.lt_succ_self _
    | false=>rw[e1] at b;exact Nat.lt_succ_of_lt (e x c b)
  ·exact jah h e
theorem jgq(h:∀ x y c,(Qq scope env).lookup x=some c->(Qq scope env).lookup y=some c->x=y)(a:∀ x c,(Qq scope env).lookup x=some c->c < C+1)(x y:Str)(c:Addr)(h1:(vT scope env C).lookup x=some c)(h2:(vT scope env C).lookup y=some c):x=y:=jah h a x y c h1 h2
theorem zm:∀{names:List (Str×NameKind)}{n:Nat}{acc:List (Str×Addr)},(∃ c,acc.lookup x=some c)->∃ c,(cellsFrom n names acc).lookup x=some c
 | [],_,_,h=>h
 | (a,k)::r,n,acc,h=>by
  unfold cellsFrom;split
  ·refine zm ?_;rw[List.lookup_cons];cases x==a with
   | true=>exact⟨n,rfl⟩
   | false=>exact h
  ·exact zm h
theorem jaz:∀{names:List (Str×NameKind)}{n:Nat}{acc:List (Str×Addr)},(x,NameKind.cell)∈names->∃ c,(cellsFrom n names acc).lookup x=some c
 | [],_,_,h=>nomatch h
 | (a,k)::r,n,acc,h=>by
  unfold cellsFrom;rcases M4.mp h with e | e
  ·cases e;rw[if_pos (show(NameKind.cell==NameKind.cell)=true from rfl)];refine zm ⟨n,?_⟩;rw[List.lookup_cons,beq_self_eq_true]
  ·split
   ·exact jaz e
   ·exact jaz e
theorem jih(h:(x,NameKind.cell)∈scope.names):∃ c,(vT scope env C).lookup x=some c:=jaz h
theorem zJ:∀{names:List (Str×NameKind)}{n:Nat}{acc:List (Str×Addr)},(x,NameKind.cell)∉names->(cellsFrom n names acc).lookup x=acc.lookup x
 | [],_,_,_=>rfl
 | (a,k)::r,n,acc,h=>by
  unfold cellsFrom;split
  ·rename_i b;have b:=eq_of_beq b;subst b;rw[zJ λz=>h (L5 _ z),List.lookup_cons];have:(x==a)=false:=U1.mpr λz=>h (by rw[z];exact L6);rw[this]
  ·exact zJ λz=>h (L5 _ z)
theorem zG:∀(names:List (Str×NameKind)) (h:Heap) (acc:List (Str×Addr)) (x:Str) (c:Addr),(cellsFrom h.objs.size names acc).lookup x=some c->(h.objs.size<=c/\(pushCells h names).IsCell c none) \/ acc.lookup x=some c
 | [],_,_,_,_,e=>.inr e
 | (a,k)::r,h,acc,x,c,e=>by
  unfold cellsFrom at e;unfold pushCells;split at e
  ·rename_i b;rw[if_pos b];rcases zG r (h.push { cls:=.type "cell",data:=.cell none }) ((a,h.objs.size)::acc) x c (by rw[Heap.size_push];exact e) with q | q
   ·rw[Heap.size_push] at q;exact .inl ⟨Nat.le_of_succ_le q.1,q.2⟩
   ·rw[List.lookup_cons] at q;cases e1:x==a with
    | true =>
     rw[e1] at q;cases q;exact .inl ⟨M8 _,⟨_,pushCells_keeps r _ _ _ (E1 _ rfl),rfl⟩⟩
    | false=>rw[e1] at q;exact .inr q
  ·rename_i b;rw[if_neg b];exact zG r h acc x c e
theorem Vh:∀(l:List (Str×NameKind)) (cs:List (Str×Addr)),(x,c)∈wk env l cs->(x,c)∈cs \/ (x,NameKind.free)∈l
 | [],_,h=>.inl h
 | (n,k)::r,cs,h=>by
  unfold wk at h;rcases Vh r _ h with z | z
  ·split at z
   ·rename_i a;split at z
    ·rcases M4.mp z with e | e
     ·cases e;have a:=eq_of_beq a;subst a;exact .inr L6
     ·exact .inl e
    ·exact .inl z
   ·exact .inl z
  ·exact .inr (L5 _ z)
theorem uu(h:(Qq scope env).lookup x=some c):(x,NameKind.free)∈scope.names:=by
 rcases Vh scope.names [] (PySem.mem_of_lookup h) with z | z
 ·exact nomatch z
 ·exact z
theorem V5 
  (h:Q (newEnv scope s.heap.objs.size globals (cellsFrom (s.heap.objs.size+1) scope.names cl) qual none .none (some env) builtinsNs) { s with heap:=pushCells (s.heap.push { cls:=.type "dict",data:=.dict #[] }) scope.names }) :
  wpAny M A (newFunctionEnv scope globals cl [] qual none .none (some env)) Q E s:=by
 simp only[newFunctionEnv,if_true,Option.isSome_some];refine L1 (wpAny_alloc ?_);refine L1 (wpAny_layCells _ (λnm kd a=>by cases hq:kd==NameKind.cell<;>simp[hq]) _ _ _ _ ?_);rw[show({ s with heap:=s.heap.push { cls:=.type "dict",data:=.dict #[] } }:Shared).heap.objs.size=s.heap.objs.size+1 from Heap.size_push ..];rw[List.forIn_nil];exact L1 (M6 (M6 h))
def yp(X:Cx)(scope:Scope)(N':List Str)(C:Addr)(s₃:Shared)(H₃:Hp)(fp:List Addr):Cx :=
 { X with N:=N',s₀:=s₃,H₀:=H₃,env:=compEnvC scope (vT scope X.env C) C X.env,outer:=X.stack,stack:=X.stack,ex:=fp,fn:=λx=>scope.names.lookup x==some NameKind.cell,pn:=[],xe:=λ_ _=>False }
structure BlockOk(X:Cx)(scope:Scope)(N':List Str)(ix:List (Option Nat)):Prop where
 kind:scope.kind=.function
 names:∀ y∈scope.names,y.2=.local->scope.names.lookup y.1=some .local
 cells:∀ y∈scope.names,y.2=.cell->scope.names.lookup y.1=some .cell
 uniq:∀ y∈scope.names,y.2=.free->scope.names.lookup y.1=some .free
 outer:∀ y∈scope.names,y.2=.free->X.env.kindOf y.1=some .cell \/ X.env.kindOf y.1=some .free
 nd:N'.Nodup
 len:ix.length=N'.length
 at_:∀(i j:Nat) (x:Str),ix[i]?=some (some j)->N'[i]?=some x->X.N[j]?=some x/\(x,NameKind.free)∈scope.names
 func:X.env.scope.kind=.function
theorem BlockOk.free(B:BlockOk X scope N' ix)  (h:(x,NameKind.free)∈scope.names):(vT scope X.env C).lookup x=(Qq scope X.env).lookup x :=
 zJ λz=>by
  have a:=B.cells _ z rfl;rw[B.uniq _ h rfl] at a;cases a
noncomputable def yJ(ix:List (Option Nat))(σ:St):St:=ix.map λo=>o.bind λj=>(σ[j]?).join
abbrev BW:=Nat->Nat->St->Hp->Prop
def xE(tc:TT)(te:TE)(g:TG)(J:It)(p:Addr)(σ':St)(H1:Hp)(Q:Hp->Prop):Prop :=
 ∃ W:BW,(∃ m,W 0 m σ' H1)/\∀ i m σ2 H2,W i m σ2 H2->(J.stop i H2/\Q H2) \/
  (J.go i H2/\∀ x H3,J.yld i H2 x H3->g x σ2 H3 λσ4 H4=>tc σ4 H4 λb H5=>if b=true then
   te σ4 H5 λy H6=>∃ ys,H6 p=some (.lst ys)/\ys.length < sizeLine/\∃ m',m' < m/\W (i+1) m' σ4 (upd H6 p (.lst (ys++[y])))
   else ∃ m',m' < m/\W (i+1) m' σ4 H5)
def Qv(wi:TI)(g:TG)(tc:TT)(te:TE)(ix:List (Option Nat)):TE:=λσ H Q=>wi σ H λJ H1=>∀ p,H1 p=none->xE tc te g J p (yJ ix σ) (upd H1 p (.lst [])) λH2=>Q (.ref p) H2
def PIf(X:Cx)(ifs:List Expr)(tc:TT):Prop:=(ifs=[]/\tc=λ_ H Q=>Q true H) \/ ∃ c,ifs=[c]/\PT X c tc
theorem uz(B:BlockOk X scope N' ix)(I:Inv X pins σ H s)(w:∀ b∈fp,wt X pins H b)(A:∀ b∈fp,b < s.heap.objs.size)
  (L:h₁.Ns s.heap.objs.size (λ_=>none)) (K:∀ b o,s.heap.get? b=some o->h₁.get? b=some o)
  (h:∀ x c,(vT scope X.env s.heap.objs.size).lookup x=some c->(s.heap.objs.size+1<=c/\h₁.IsCell c none) \/ (Qq scope X.env).lookup x=some c) :
  Inv (yp X scope N' s.heap.objs.size s H fp) [] (yJ ix σ) H { s with heap:=h₁,toks:=t }:=by
 have fresh:H s.heap.objs.size=none:=I.hok.fresh (M8 _);have f:∀ x c,(Qq scope X.env).lookup x=some c->X.env.cells.lookup x=some c:=λx c e=>Yj e;have M:∀ x c,X.env.cells.lookup x=some c->c < s.heap.objs.size:=λx c e=>by
  obtain⟨v,o,C,_⟩:=I.cell x c e;exact N0 C
 refine⟨⟨I.ok.mod,B.kind,I.ok.glob,I.ok.blt,M8 _,jgq (λx y c D E=>I.ok.inj x y c (f x c D) (f y c E)) (λx c e=>Nat.lt_succ_of_lt (M x c (f x c e))),λx F=>?_,(λx c D E=>?_),I.ok.hd,I.ok.frames,.inl rfl,λb n=>⟨N5 (A b n),λx c e=>?_⟩,
  λb o e=>I.bs b o e,N6 I.ok.bsz I.sz,λb o e n=>?_,λb n z=>?_,I.stack,I.stkFree⟩,rfl,I.bare,Un.kept K,⟨_,L,λi x v D E Q=>?_⟩,λx c e=>?_,fresh,λx c e=>?_,(λp R=>nomatch (show p∈([]:List (Addr×Obj)) from R)),I.hok.kept K,?_⟩
 ·have N:(relabel scope X.env).names.lookup x=some .cell \/ (relabel scope X.env).names.lookup x=some .free:=F;have g:(x,NameKind.free)∈scope.names \/ (x,NameKind.cell)∈scope.names:=by
   rcases N with q | q
   ·rcases qO (PySem.mem_of_lookup q) with z | z
    ·exact .inr z
    ·exact .inl z.2
   ·rcases qO (PySem.mem_of_lookup q) with z | z
    ·exact .inl z
    ·exact absurd z.1 (by decide)
  rcases g with g | g
  ·obtain⟨c,O⟩:=I.ok.has x (B.outer _ g rfl);exact⟨c,by show(vT scope X.env s.heap.objs.size).lookup x=some c;rw[B.free g];exact jaA O g⟩
  ·exact jih g
 ·-- the block's own cells are new
  have F:(scope.names.lookup x==some NameKind.cell)=true:=D;have F:=eq_of_beq F;rcases h x c E with⟨q,_⟩ | q
  ·exact Nat.le_of_succ_le q
  ·exfalso;have w:=uu q;have G:=B.uniq _ w rfl;rw[F] at G;cases G
 ·rcases h x c e with⟨q,_⟩ | q
  ·exact Nat.ne_of_gt (U3 (A b n) (Nat.le_of_succ_le q))
  ·exact(w b n).2.2.2.2.1 x c (f x c q)
 ·rcases(w b n).2.2.2.1 with z | z
  ·exact I.ok.noex b o e z
  ·exact absurd (U3 (N0 e) (N6 I.ok.bsz z)) (Nat.lt_irrefl _)
 ·rcases M4.mp (I.stkSub b z) with q | q
  ·exact(w b n).2.1 q
  ·exact(w b n).2.2.1 q
 ·have a:(yJ ix σ)[i]?=some (some v):=E;unfold yJ at a;rw[List.getElem?_map] at a;cases e:ix[i]? with
  | none=>rw[e] at a;cases a
  | some o =>
   rw[e] at a;cases o with
   | none=>cases a
   | some j =>
    have d:(σ[j]?).join=some v:=X7 a;have S:σ[j]?=some (some v):=by
     cases q:σ[j]? with
     | none=>rw[q] at d;cases d
     | some u=>rw[q] at d;rw[show u=some v from d]
    obtain⟨T,g⟩:=B.at_ i j x e D;have J:=B.outer _ g rfl;obtain⟨m,V,U⟩:=I.loc;obtain⟨u,r,l⟩:=U j x v T S (J.elim (λz=>.inr (.inl z)) λz=>.inr (.inr z));refine⟨u,r,.inr ?_⟩;rcases l with⟨k,_⟩ | ⟨_,c,O,z⟩
    ·rcases J with y | y<;>rw[k] at y<;>cases y
    ·refine⟨?_,c,by show(vT scope X.env s.heap.objs.size).lookup x=some c;rw[B.free g];exact jaA O g,?_⟩
     ·rcases Q with y | y | y
      ·have:(x,NameKind.local)∈(relabel scope X.env).names:=PySem.mem_of_lookup y;rcases qO this with P | P
       ·have G:=B.names _ P rfl;rw[B.uniq _ g rfl] at G;cases G
       ·exact absurd P.1 (by decide)
      ·exact .inl y
      ·exact .inr y
     ·obtain⟨o,C,hd⟩:=z;exact⟨o,K c o C,hd⟩
 ·rcases h x c e with⟨_,q⟩ | q
  ·exact⟨none,q⟩
  ·obtain⟨v,o,C,hd⟩:=I.cell x c (f x c q);exact⟨v,o,K c o C,hd⟩
 ·rcases h x c e with⟨q,_⟩ | q
  ·exact I.hok.fresh (Nat.le_of_succ_le q)
  ·exact I.freeC x c (f x c q)
 ·show(yJ ix σ).length=N'.length;unfold yJ;rw[L0,B.len]
theorem Inv.other(I:Inv X pins σ H s)(f:wt X pins H C)(a:Heap.SameBut C s.heap h'):Inv X pins σ H { s with heap:=h' } :=
 I.turned (t':=s.toks) (λb o c e=>a.extBut b o c e) f.1 f.2.1 f.2.2.2.1 f.2.2.2.2.1 f.2.2.2.2.2
theorem Jl{X:Cx}{ifs:List Expr}{N':List Str}{ix:List (Option Nat)}{pins:List (Addr×Obj)}{s:Shared}{Q:Addr->Hp->Prop}{use:Option (Value->Sem Unit)}{QQ:Value->Shared->Prop}(B:BlockOk X scope N' ix)(hc:X.calm=true)(hi:PI X tg iter wi)
  (hg:∀ C s H fp,PG (yp X scope N' C s H fp) tg g) (hif:∀ C s H fp,PIf (yp X scope N' C s H fp) ifs tc) (he:∀ C s H fp,PE (yp X scope N' C s H fp) elt te)
  (hs:∀ x,foldedSetIterable iter X.env x=pure x) (I:Inv X pins σ H s)
  (h:wi σ H λJ H1=>∀ p,H1 p=none->xE tc te g J p (yJ ix σ) (upd H1 p (.lst [])) (Q p))
  (hend:∀ p C s' H',Q p H'->Inv X pins σ H' s'->wt X pins H' C->(∃ m,s'.heap.Ns C m)->compPost (model X.prog X.w) X.A X.xe use QQ (.ref p) C (.ok .next) s') :
  wpAny (model X.prog X.w) X.A (comprehension (.ListComp elt [⟨tg,iter,ifs,0⟩] scope pos) scope X.env pos' (newList []) false (eval iter X.env) use) QQ X.xe s:=by
 have Y:closureFor scope X.env=pure (Qq scope X.env):=wH λn k hm hk=>I.ok.has n (B.outer _ hm hk);refine wpAny_comprehension_free rfl hs Y B.kind B.names (thn (hi pins s σ H _ I h) λv s1 h1=>thn h1 λitv a h2=>?_);obtain⟨it,fp,tn,J,M,rfl,I2,T,Z,f2,h2⟩:=h2;refine wpAny_newObj_type (V5 ?_);dsimp only;have fr2:M a.heap.objs.size=none:=I2.fresh
 -- the new list
 have I3:Inv X pins σ (upd M a.heap.objs.size (.lst [])) { a with heap:=a.heap.push { cls:=.type "list",data:=.seq ([]:List Value).toArray } }:=I2.lnew (t':=a.toks) .nil (U4 _);generalize hs3:({ a with heap:=a.heap.push { cls:=.type "list",data:=.seq ([]:List Value).toArray } }:Shared)=s3 at I3;have e3:s3.heap=a.heap.push { cls:=.type "list",data:=.seq ([]:List Value).toArray }:=by rw[<- hs3]
 have hk3:∀ b o,a.heap.get? b=some o->s3.heap.get? b=some o:=λb o e=>by rw[e3];exact L7 _ e
 have lt3:∀ b∈fp,b < s3.heap.objs.size:=λb f=>by
  obtain⟨o,e,_⟩:=T.obj _ _ Z b f;exact N0 (hk3 b o e)
 have nep:∀ b∈fp,b≠a.heap.objs.size:=λb f z=>by
  obtain⟨o,e,_⟩:=T.obj _ _ Z b f;exact absurd (N0 e) (by rw[z];exact Nat.lt_irrefl _)
 have N:∀ b∈fp,wt X pins (upd M a.heap.objs.size (.lst [])) b:=λb f=>⟨by rw[jf (nep b f)];exact(f2 b f).1,(f2 b f).2⟩;have sz3:s3.heap.objs.size=(a.heap.push { cls:=.type "list",data:=.seq ([]:List Value).toArray }).objs.size:=by rw[e3]
 have hh₁:∃ O,O=pushCells (s3.heap.push { cls:=.type "dict",data:=.dict #[] }) scope.names:=⟨_,rfl⟩;obtain⟨O,P⟩:=hh₁;rw[<- e3,<- P];have hk4:∀ b o,s3.heap.get? b=some o->O.get? b=some o:=λb o e=>by
  rw[P];exact pushCells_keeps _ _ b o (L7 _ e)
 have hns4:O.Ns s3.heap.objs.size (λ_=>none):=by
  rw[P];exact(Heap.Ns.new s3.heap (.type "dict")).keeps (pushCells_keeps _ _)
 have R:∀ x c,(vT scope X.env s3.heap.objs.size).lookup x=some c->(s3.heap.objs.size+1<=c/\O.IsCell c none) \/ (Qq scope X.env).lookup x=some c:=λx c e=>by
  have q:=zG scope.names (s3.heap.push { cls:=.type "dict",data:=.dict #[] }) (Qq scope X.env) x c (by rw[Heap.size_push];exact e);rw[Heap.size_push,<- P] at q;exact q
 have I4:Inv (yp X scope N' s3.heap.objs.size s3 (upd M a.heap.objs.size (.lst [])) fp) [] (yJ ix σ) (upd M a.heap.objs.size (.lst [])) { s3 with heap:=O,toks:=a.toks }:=uz B I3 N lt3 hns4 hk4 R;have st4:tn 0 O:=T.keep _ _ _ Z λb f o e=>hk4 b o (hk3 b o e);obtain⟨W,⟨m0,w0⟩,turn⟩:=h2 _ fr2;have hg':=hg s3.heap.objs.size s3 (upd M a.heap.objs.size (.lst [])) fp;have S:=hif s3.heap.objs.size s3 (upd M a.heap.objs.size (.lst [])) fp;have he':=he s3.heap.objs.size s3 (upd M a.heap.objs.size (.lst [])) fp;generalize j:yp X scope N' s3.heap.objs.size s3 (upd M a.heap.objs.size (.lst [])) fp=X' at I4 hg' S he';have eP:X'.prog=X.prog:=by rw[<- j];rfl
 have eW:X'.w=X.w:=by rw[<- j];rfl
 have eK:X'.K=X.K:=by rw[<- j];rfl
 have eA:X'.A=X.A:=by rw[<- j];rfl
 have eC:X'.calm=true:=by rw[<- j];exact hc
 have eE:X'.env=compEnvC scope (vT scope X.env s3.heap.objs.size) s3.heap.objs.size X.env:=by rw[<- j];rfl
 have eX:X'.xe=λ_ _=>False:=by rw[<- j];rfl
 have F:∀{H':Hp},(∀ b∈fp,H' b=none)->∀ b∈fp,wt X' [] H' b:=λhn b f=>by
  refine⟨hn b f,?_,?_,?_,?_,?_⟩
  ·rw[eE];exact N5 (lt3 b f)
  ·rw[<- j];intro z;rcases M4.mp (I3.stkSub b z) with q | q
   ·exact(N b f).2.1 q
   ·exact(N b f).2.2.1 q
  ·rw[<- j];exact .inl f
  ·rw[eE];intro x c e;rcases R x c e with⟨q,_⟩ | q
   ·exact Nat.ne_of_gt (U3 (lt3 b f) (Nat.le_of_succ_le q))
   ·exact(N b f).2.2.2.2.1 x c (Yj q)
  ·rw[<- j];exact(λp hp=>nomatch (show p∈([]:List (Addr×Obj)) from hp))
 -- the end of the block
 have fin:∀{l:St}{H':Hp}{s':Shared},Inv X' [] l H' s'->Q a.heap.objs.size H'->compPost (model X.prog X.w) X.A X.xe use QQ (.ref a.heap.objs.size) s3.heap.objs.size (.ok .next) s':=λ{l H' s'} J q=>by
  have hL:X'.env.locals=s3.heap.objs.size:=by rw[eE];rfl
  have un:Un (frs X.stack) fp (upd M a.heap.objs.size (.lst [])) H' s3.heap s'.heap:=by
   have z:=J.base;rw[<- j] at z;exact z
  have hos:s'.os=s3.os:=by
   have z:=J.os;rw[<- j] at z;exact z
  have hok:HOk X.prog X.w H' s'.heap:=by
   have z:=J.hok;rw[eP,eW] at z;exact z
  have fc:H' s3.heap.objs.size=none:=by
   have z:=J.free;rw[hL] at z;exact z
  have I5:Inv X pins σ H' s':=by
   obtain⟨hh,gg,dd,tt,oo⟩:=s';obtain rfl:oo=s3.os:=hos;exact I3.call (h':=hh) (g':=gg) (d':=dd) (t':=tt) (ch:=fp) un hok J.bare λb f=>⟨(N b f).2.2.2.1,(N b f).2.1,(N b f).2.2.2.2.1,(N b f).2.2.2.2.2⟩
  obtain⟨m,hn,_⟩:=J.loc;rw[hL] at hn;exact hend _ _ s' H' q I5 (I3.fpOk (M8 _) fc) ⟨m,hn⟩
 have loop:∀ s',s'=({ s3 with heap:=O,toks:=a.toks }:Shared)->codeAny (model X.prog X.w) X.A (.compLoop (.ListComp elt [⟨tg,iter,ifs,0⟩] scope pos) 0 (.ref it) (.ref a.heap.objs.size) X'.env) (compPost (model X.prog X.w) X.A X.xe use QQ (.ref a.heap.objs.size) s3.heap.objs.size) s':=by
  rintro s' rfl;refine KB (λn s'=>∃ i l H',Inv X' [] l H' s'/\tn i s'.heap/\(∀ b∈fp,H' b=none)/\W i n l H') ?_ m0 ⟨0,_,_,I4,st4,λb f=>(N b f).1,w0⟩;rintro n s5 ⟨i,σ5,H5,I5,st5,fr5,w5⟩;have it5:=T.item X' eP eW eK eC i [] s5 σ5 H5 (λ_ _=>False) I5 (F fr5) st5;have dn5:=T.done X' eP eW eK eC i [] s5 σ5 H5 (λ_ _=>False) I5 (F fr5) st5;rw[eA] at it5 dn5;rcases turn i n σ5 H5 w5 with⟨stop,qn⟩ | ⟨go,step⟩
  ·refine thn (dn5 stop) λr s6 ⟨hr,I6⟩=>?_;subst hr;exact fin I6 qn
  ·refine thn (it5 go) λr s6 ⟨u,hr,h6⟩=>?_;subst hr;refine thn h6 λ_ s7 hh=>?_;obtain⟨x,H7,I7,r7,y7,st7,fr7⟩:=hh;have I7':=I7.pinned (F fr7) (T.obj _ _ st7);have a7:=hg' _ s7 σ5 H7 x u _ I7' r7 (step x H7 y7);rw[eP,eW,eA,eX] at a7;refine thn a7 λ_ s8 hh=>?_;obtain⟨G,H8,I8,q8⟩:=hh;have L:∀{t:Shared}{E:Hp},Inv X' ([]++Vw fp s7.heap) G E t->(∃ D,D < n/\W (i+1) D G E)->∃ m,m < n/\∃ i l H',Inv X' [] l H' t/\tn i t.heap/\(∀ b∈fp,H' b=none)/\W i m l H':=λ{t E} U ⟨D,hm,w9⟩=>by
    refine⟨D,hm,i+1,G,E,U.unpinned,T.keep _ _ _ st7 λb f o e=>(U.pin (b,o) (U2 _ (U2 _ (qv f e)))).1,λb f=>?_,w9⟩;obtain⟨o,e,d⟩:=T.obj _ _ st7 b f;exact(U.pin (b,o) (U2 _ (U2 _ (qv f e)))).2.1
   have rest:∀(b:Bool) (t:Shared) (E:Hp),Inv X' ([]++Vw fp s7.heap) G E t->(if b=true then te G E λy H6=>∃ ys,H6 a.heap.objs.size=some (.lst ys)/\ys.length < sizeLine/\∃ D,D < n/\W (i+1) D G (upd H6 a.heap.objs.size (.lst (ys++[y])))
     else ∃ D,D < n/\W (i+1) D G E) ->
     if b=true then wpAny (model X.prog X.w) X.A (eval elt X'.env) (λx s₄=>wpAny (model X.prog X.w) X.A (call (.builtin "list.append") [.ref a.heap.objs.size,x]) (λ_ s₅=>∃ m,m < n/\∃ i l H',Inv X' [] l H' s₅/\tn i s₅.heap/\(∀ b∈fp,H' b=none)/\W i m l H') (λ_ _=>False) s₄) (λ_ _=>False) t
     else ∃ m,m < n/\∃ i l H',Inv X' [] l H' t/\tn i t.heap/\(∀ b∈fp,H' b=none)/\W i m l H':=λb t E U q9=>by
    cases b with
    | false =>
     rw[if_neg M3] at q9 ⊢;exact L U q9
    | true =>
     rw[if_pos rfl] at q9 ⊢;have a9:=he' _ t G E _ U q9;rw[eP,eW,eA,eX] at a9;refine thn a9 λyv s10 hh=>?_;obtain⟨y,H10,I10,r10,ys,e10,l10,q10⟩:=hh;have a10:=Je _ s10 G H10 (.ref a.heap.objs.size) [y] (.ref a.heap.objs.size) [yv] (λ_ H'=>∃ D,D < n/\W (i+1) D G H') I10 rfl (.cons r10 .nil) ⟨_,ys,y,rfl,rfl,e10,l10,q10⟩;rw[eP,eW,eA,eX] at a10;exact thn a10 λ_ s11 ⟨_,H11,I11,_,q11⟩=>L I11 q11
   rcases S with⟨e1,e2⟩ | ⟨c,e1,e2⟩
   ·subst e1;rw[e2] at q8;exact wpAny_tests_nil (rest true s8 H8 I8 q8)
   ·subst e1;have a8:=e2 _ s8 G H8 _ I8 q8;rw[eP,eW,eA,eX] at a8;exact wpAny_tests_one (thn a8 λb t ⟨E,U,q9⟩=>rest b t E U q9)
 have V:codeAny (model X.prog X.w) X.A (.compStart (.ListComp elt [⟨tg,iter,ifs,0⟩] scope pos) 0 (.ref it) (.ref a.heap.objs.size) X'.env) (compPost (model X.prog X.w) X.A X.xe use QQ (.ref a.heap.objs.size) s3.heap.objs.size) { s3 with heap:=O,toks:=a.toks } :=
  codeAny_compStart_list (loop _ rfl) (T.self _ 0 _ _ _ st4 (loop _ rfl))
 rw[eE] at V;subst hs3;exact V
theorem jaH(B:BlockOk X scope N' ix)(d:X.calm=true)(hi:PI X tg iter wi)
  (e:∀ C s H fp,PG (yp X scope N' C s H fp) tg g) (a:∀ C s H fp,PIf (yp X scope N' C s H fp) ifs tc) (i:∀ C s H fp,PE (yp X scope N' C s H fp) elt te)
  (j:∀ x,foldedSetIterable iter X.env x=pure x:=by intro _;rfl):PE X (.ListComp elt [⟨tg,iter,ifs,0⟩] scope pos) (Qv wi g tc te ix):=by
 intro c s σ H Q I h;rw[eval_ListComp];exact Jl (use:=none) (Q:=λp b=>Q (.ref p) b) B d hi e a i j I h λp C o b q k f ⟨m,l⟩=>⟨m,l,λr n=>⟨.ref p,b,k.other f n,rfl,q⟩⟩
theorem wF(B:BlockOk X scope N' ix)(y:X.calm=true)(hi:PI X tg iter wi)
  (E:∀ C s H fp,PG (yp X scope N' C s H fp) tg g) (d:∀ C s H fp,PIf (yp X scope N' C s H fp) ifs tc) (F:∀ C s H fp,PE (yp X scope N' C s H fp) elt te)
  (G:X.N.Nodup) (j:X.N[i]?=some x) (J:Loc X.env.scope x)
  (hsw:swapsWith (.ListComp elt [⟨tg,iter,ifs,0⟩] scope pos) (some (.Name x pos')) spos.line X.env=pure true)
  (K:∀ x,foldedSetIterable iter X.env x=pure x:=by intro _;rfl)
  (L:X.fn x=true \/ X.env.scope.names.lookup x=some .local:=by first | exact .inl rfl | exact .inr rfl | assumption) :
  PS X (.Assign [.Name x pos'] (.ListComp elt [⟨tg,iter,ifs,0⟩] scope pos) spos) (jfN (Qv wi g tc te ix) (V7 i)):=by
 intro a s σ H D I h;rw[exec_Assign_Name_used _ _ _ _ hsw];refine L1 (wpAny_standAt (L1 ?_));show wpAny _ X.A (do let _ <- comprehension (.ListComp elt [⟨tg,iter,ifs,0⟩] scope pos) scope X.env _ (newList []) false (eval iter X.env) (some (assign (.Name x pos') X.env))) _ _ s;refine L1 (thn (Jl (use:=some (assign (.Name x pos') X.env)) (QQ:=λ_ b=>SP X a D .next b) (Q:=λp c=>D.nx (σ.set i (some (.ref p))) c) B y hi E d F K I h λp C b c q n f ⟨m,M⟩=>?_) λ_ b O=>M6 (M6 O));obtain⟨o,P,R,S,r⟩:=id M;have hd:∀ v,o.data≠.cell v:=λv z=>by
  obtain⟨k,_⟩:=r;rw[k] at z;cases z
 have T:Inv X (a++[(C,o)]) σ c b:=n.pins_of λt l=>by
  rcases N1.mp l with z | z
  ·exact n.pin t (U2 _ z)
  ·have e:t=(C,o):=by simpa using z
   subst e;exact⟨S,f.1,f.2.1,f.2.2.1,hd⟩
 refine wpAny_assign_Name (Ki T G j J (v:=.ref p) rfl (λV u=>?_) L);have w:=u.pin (C,o) (U2 _ (U2 _ (M7.mpr rfl)));refine⟨m,⟨o,P,R,w.1,r⟩,λW U=>⟨_,c,(u.unpinned).other ⟨w.2.1,f.2⟩ U,q⟩⟩
noncomputable def S(l:List Nat):Str:=⟨l.toArray⟩
theorem qA(l:List Nat):(S l).cps.toList=l:=by simp[S]
theorem Jz(l:List Nat):(S l).length=l.length:=by simp[S,Str.length]
theorem jhf(h:S a=S b):a=b:=by
 rw[<- qA a,<- qA b,h]
theorem jkC(a b:List Nat):(S a=S b)=(a=b):=propext ⟨jhf,λh=>by rw[h]⟩
theorem jeP(a b:List Nat):S a++S b=S (a++b):=by
 apply PyProof.Rows.ext_toList;rw[PySem.W.KT.app_list,qA,qA,qA]
theorem jd5(c:Nat):(⟨#[c]⟩:Str)=S [c]:=rfl
def yC{α:Type}(xs:List α)(lo hi:Option Int):List α:=(xs.drop (HT.sIx xs.length 0 lo)).take (HT.sIx xs.length xs.length hi - HT.sIx xs.length 0 lo)
theorem uZ(xs:List α)(k:Nat):yC xs (some (k:Int)) none=xs.drop k:=by
 unfold yC;rw[HT.sIx_none,HT.sIx_nat];by_cases h:k<=xs.length
 ·rw[Nat.min_eq_left h,List.take_of_length_le];rw[List.length_drop]
  lia
 ·have e:xs.drop k=[]:=List.drop_eq_nil_of_le (by lia);rw[e,Nat.min_eq_right (by lia)];simp
theorem ua(lo hi:Option Int)(n:Nat):Builtin.Str.strSliceIndices lo hi 1 n=(List.range (HT.sIx n n hi - HT.sIx n 0 lo)).map (HT.sIx n 0 lo+·):=by
 have a:∀(o:Option Int) (d:Nat),(match o with | none=>(d:Int) | some i=>(let i:=if i < 0 then i+(n:Int) else i;if(1:Int) > 0 then max 0 (min i n) else max (-1) (min i (n - 1))))=((HT.sIx n d o:Nat):Int):=by
  intro o d;cases o with
  | none=>rfl
  | some v =>
   show(if(1:Int) > 0 then max 0 (min (if v < 0 then v+(n:Int) else v) n) else _)=(((if v < 0 then(v+(n:Int)).toNat else min v.toNat n):Nat):Int);rw[if_pos (by decide)];by_cases b:v < 0
   ·rw[if_pos b,if_pos b];lia
   ·rw[if_neg b,if_neg b];lia
 rw[<- sliceRange_one,<- a lo 0,<- a hi n];rfl
theorem je1(l:List Nat)(lo hi:Option Int):Txt.slice (S l) lo hi=S (yC l lo hi):=by
 have i:HT.sIx l.length l.length hi<=l.length:=HT.sIx_le _ _ (M8 _) _;have j:HT.sIx l.length 0 lo<=l.length:=HT.sIx_le _ _ (U4 _) _;have e:(Builtin.Str.strSliceIndices lo hi 1 (S l).length).filterMap ((S l).cps[·]?)=yC l lo hi:=by
  rw[Jz,ua];have h:=StrLaws.picks l (HT.sIx l.length l.length hi - HT.sIx l.length 0 lo) (HT.sIx l.length 0 lo);by_cases c:HT.sIx l.length 0 lo<=HT.sIx l.length l.length hi
  ·have d:=h (by lia);unfold yC;rw[<- d];simp[S]
  ·have z:HT.sIx l.length l.length hi - HT.sIx l.length 0 lo=0:=by lia
   unfold yC;rw[z];simp
 unfold Txt.slice;split
 ·rename_i b;have f:(Builtin.Str.strSliceIndices lo hi 1 (S l).length).length=(S l).length:=by
   simp only[beq_self_eq_true,Bool.true_and] at b;exact beq_iff_eq.mp b
  rw[Jz,ua,L0,List.length_range] at f;unfold yC;by_cases a:l.length=0
  ·have:l=[]:=List.length_eq_zero_iff.mp a;subst this;simp
  ·have g:HT.sIx l.length 0 lo=0:=by lia
   rw[g,List.drop_zero,List.take_of_length_le (by lia)]
 ·rw[e];rfl
def jkV:V->Option Int->Option Int->Hp->VK->Prop:=λx lo hi H Q=>∃ l,x=.str (S l)/\l.length<=sizeLine/\Q (.str (S (yC l lo hi))) H
theorem jdf(p:IsPart v o):∃ q:Option (Int×Tok),v=partValue q/\q.map (·.1)=o:=by
 cases p with
 | none=>exact⟨none,rfl,rfl⟩
 | int i t=>exact⟨some (i,t),rfl,rfl⟩
theorem jg3:SlR X jkV:=by
 intro a s σ H x v p r lo hi w Q I f g pl i h;obtain⟨l,rfl,j,q⟩:=h;obtain⟨t,rfl⟩:=f;obtain⟨b,rfl,m⟩:=jdf pl;obtain⟨c,rfl,n⟩:=jdf i;refine⟨"str",_,F.slot_str_getitem.lookup,typeIs_str _ _ _,wpAny_getItem_str_slice (l:=b) (u:=c) (st:=none) g rfl ?_⟩;have o:Txt.slice (S l) lo hi=S (yC l lo hi):=je1 l lo hi;have e:∀ d k,EP X a σ Q (.str (Txt.slice (S l) lo hi) d) { s with toks:=k }:=λd k=>by
  rw[o];exact⟨.str (S (yC l lo hi)),H,I.tok k,⟨d,rfl⟩,q⟩
 have e2:sliceMade (S l) t b c none=(if((1:Int)==1&&(Builtin.Str.strSliceIndices lo hi 1 (S l).length).length==(S l).length)=true then Made.val (.str (S l) t) else Made.str ⟨((Builtin.Str.strSliceIndices lo hi 1 (S l).length).filterMap ((S l).cps[·]?)).toArray⟩):=by
  unfold sliceMade slicePicked;rw[m,n];rfl
 rw[e2];refine post_val_or_str ⟨?_,λd k=>e d k⟩;exact N6 (Txt.slice_le (S l) lo hi) (by rw[Jz];exact j)
def Its(l:List Nat):It:=⟨λi _=>i < l.length,λi H x H'=>H'=H/\∃ c,l[i]?=some c/\x=.str (S [c]),λi _=>l.length<=i⟩
theorem jbM{tg:Expr}{P:Program}{w:World}{K:PySem.W.Frag}(a:Addr)(l:List Nat)(t:Tok)(ty:String)(m:ty = "str_ascii_iterator" \/ ty = "str_iterator")
  (W:∀ A:Around,A.handled=none->Walks P w A a [a] [a] (S l).cps.size (SignAt (S l)) (λi h=>h.IsStrIter a ty (S l) t i)):Turn P w K tg (Its l) [a] a (λi h=>h.IsStrIter a ty (S l) t i) where
 mem:=by simp
 obj:=λi h f b g=>by
  have e:b=a:=by simpa using g
  subst e;obtain⟨o,e,c,d⟩:=f;exact⟨o,e,λv z=>by rw[d] at z;cases z⟩
 keep:=λi h n f k=>by
  obtain⟨o,e,r⟩:=f;exact⟨o,k a (by simp) o e,r⟩
 item:=by
  intro X G J L q i j s σ H E I x f M;subst G J L;obtain⟨y,B,U,C,D,F⟩:=x a (by simp);have V:=W X.A (I.ok.hd q);have N:(S l).cps.size=l.length:=by simp[S]
  refine V.item i s _ _ (by rw[N];exact M) f λv n R Y p Z=>?_;obtain⟨c,u,O,rfl⟩:=Y;have I1:Inv X j σ H { s with heap:=n,toks:=R }:=I.turned (λb o g e=>Z b o (by simpa using g) e) y B C D F;obtain⟨o,e,ct,d⟩:=id p;refine⟨_,rfl,jcd (s:={ s with heap:=n,toks:=R }) e ct d (by rcases m with z | z<;>subst z<;>decide) ⟨.str (S [c]),H,I1,⟨u,rfl⟩,⟨rfl,c,by simpa [S] using O,rfl⟩,p,λb g=>(x b g).1⟩⟩
 done:=by
  intro X G J L q i j s σ H E I x f M;subst G J L;obtain⟨y,B,U,C,D,F⟩:=x a (by simp);have T:(S l).cps[i]?=none:=by
   have:l.length<=i:=M;simp[S,this]
  rcases m with z | z
  ·subst z;exact wpAny_pyNext_ascii_end (I.ok.hd q) f T λn Q=>⟨rfl,I.turned (t':=s.toks) (λb o g e=>Q b o g e) y B C D F⟩
  ·subst z;exact wpAny_pyNext_wide_end (I.ok.hd q) f T λn Q=>⟨rfl,I.turned (t':=s.toks) (λb o g e=>Q b o g e) y B C D F⟩
 self:=λ_ _ _ _ _ f h=>by
  rcases m with z | z
  ·subst z;exact wpAny_pyIter_striter_ascii f h
  ·subst z;exact wpAny_pyIter_striter_wide f h
theorem jhX:OpR X (compareOp .In) (λx y H Q=>∃ c l,x=.str (S [c])/\y=.str (S l)/\Q (.bl (decide (c∈l))) H):=by
 intro a s σ H x y v u Q I b d h;obtain⟨c,l,rfl,rfl,q⟩:=h;refine jbg a s σ H _ _ v u Q I b d ⟨_,_,rfl,rfl,?_⟩;rw[<- jd5,StrLaws.found_one,qA];exact q
theorem uM:OpR X (compareOp .NotIn) (λx y H Q=>∃ c l,x=.str (S [c])/\y=.str (S l)/\Q (.bl (!decide (c∈l))) H):=by
 intro a s σ H x y v u Q I b d h;obtain⟨c,l,rfl,rfl,q⟩:=h;refine KF a s σ H _ _ v u Q I b d ⟨_,_,rfl,rfl,?_⟩;rw[<- jd5,StrLaws.found_one,qA];exact q
theorem jfa:OpR X (binaryOp .Add) (λx y H Q=>∃ a b,x=.str (S a)/\y=.str (S b)/\a.length+b.length<=sizeLine/\Q (.str (S (a++b))) H):=by
 intro c s σ H x y v u Q I d e h;obtain⟨a,b,rfl,rfl,f,q⟩:=h;refine xQ c s σ H _ _ v u Q I d e ⟨_,_,rfl,rfl,by rw[Jz,Jz];exact f,?_⟩;rw[jeP];exact q
theorem jeZ:OpR X (binaryOp .Mult) (rI (λi j=>Builtin.Int.intBits i<=2 ^ 20/\Builtin.Int.intBits j<=2 ^ 20) λi j=>.int (i*j)):=opI λ_ _ _ _ _ _ _ a q=>mul_int q (IntMulOk.of_bits a.1 a.2)
theorem wB(h:i.natAbs < 2 ^ m)(a:m<=2 ^ 20):Builtin.Int.intBits i<=2 ^ 20:=N6 (PySem.intBits_le_iff.mpr h) a
def SqX(K:PySem.W.Frag)(H:Hp)(a:Addr)(xs:List V):Prop :=
 Rd H a (.lst xs) \/ ∃(its:Array Value) (n:Nat),K.lookup a=some { cls:=.type "list",data:=.seq its n }/\its.size<=sizeLine/\Vals xs its.toList
theorem SqX.sq{K:PySem.W.Frag}{H:Hp}{a:Addr}{xs:List V}(h:SqX K H a xs):SqL K H a xs:=by
 rcases h with h | ⟨b,n,c,d,r⟩
 ·exact .inl h
 ·exact .inr ⟨_,b,n,c,rfl,rfl,rfl,d,r⟩
theorem SqX.of{K:PySem.W.Frag}{H:Hp}{a:Addr}{xs:List V}(h:H a=some (.lst xs)):SqX K H a xs:=.inl (.inl h)
theorem Inv.listX(I:Inv X pins σ H s)(h:SqX X.K H a xs):∃(its:List Value) (n:Nat),Vals xs its/\s.heap.get? a=some { cls:=.type "list",data:=.seq its.toArray n }/\xs.length<=sizeLine:=by
 rcases h with h | ⟨its,n,b,c,r⟩
 ·obtain⟨z,its,n,r,e⟩:=h.ok I.hok;exact⟨its,n,r,e,z⟩
 ·refine⟨its.toList,n,r,by simpa using I.kIn a _ b,?_⟩;have e:=r.length;simp only[Array.length_toList] at e
  lia
def jgR(K:PySem.W.Frag):R2:=λx y H Q=>∃ l b xs zs,x=.ref l/\y=.ref b/\SqX K H l xs/\SqX K H b zs/\xs.length+zs.length<=sizeLine/\∀ p,H p=none->Q (.ref p) (upd H p (.lst (xs++zs)))
theorem jfK:OpR X (binaryOp .Add) (jgR X.K):=by
 intro d s σ H x y v u Q I g i h;obtain⟨l,b,p,t,rfl,rfl,j,k,w,q⟩:=h;cases g;cases i;obtain⟨c,n,r,e,_⟩:=I.listX j;obtain⟨a,z,f,e2,_⟩:=I.listX k;have A:=r.length;have m:=f.length;refine PySem.P.add_list e e2 ?_ (by rw[N2,N2];lia);have o:c.toArray++a.toArray=(c++a).toArray:=by simp
 rw[o];exact⟨.ref _,_,I.lnew (t':=s.toks) (r.append f) (by rw[N3];lia),rfl,q _ I.fresh⟩
theorem zF{ns:List Int}(h:PySem.W.WData.layableAll [PySem.W.WData.list (ns.map PySem.W.WData.int)]=true):∀ x∈ns,Builtin.Int.intBits x<=2 ^ 20:=by
 intro x c;have f:(PySem.W.WData.list (ns.map PySem.W.WData.int)).layable=true:=(PySem.W.layW_cons h).1;have e:PySem.W.ofPy (.list (ns.map .int))=PySem.W.WData.list (ns.map PySem.W.WData.int):=by
  have g:∀ a:List Int,PySem.W.ofPys (a.map PyData.int)=a.map PySem.W.WData.int:=by
   intro a
   induction a with
   | nil=>rfl
   | cons m a i=>simp[PySem.W.ofPys,PySem.W.ofPy,i]
  simp[PySem.W.ofPy,g]
 have b:=PySem.W.lay0_ofPy (s:=.list .int) (d:=.list (ns.map .int)) rfl (by simp[Shape.has]) (by rw[e];exact f);have j:PyData.layable0 (.list (ns.map .int))=true:=by
  simp[PyData.layableAll0] at b;exact b
 exact PyData.bits_item_of_ints j c
theorem walk_ofB{l:PySem.W.OpenLaw}{n k:Nat}{j:List Str}{R:(Str->Option Value)->Heap->Prop}{M:World->Heap->Prop}{d:DefRec}{K:Params->PySem.W.Frag}{CX:World->CXT}{sp:World->Sp} 
  (S:l.most=some n) (A:n<=sizeLine) (B:d.params.defaults=[]) (U:Room k callerA)
  (X:∀(w:World) (h:Heap),M w h->(K w.params).In h)
  (F:∀(w:World) (mg:Str->Option Value) (fa:Addr) (h:Heap),(K w.params).In h->h.Ns mainGlobals mg->mg d.name=some (.ref fa) ->
   ∃ fd:FuncData,(∀(s:Shared) (u:Value),BindsTo s fd ⟨[u],[]⟩ [(x,u)]) /\
    ∀ base:Heap,(K w.params).In base->base.Ns mainGlobals mg->FnOk l.prog w (K w.params) mg base (CX w) k fa fd [x] (sp w))
  (C:∀(w:World) (H:Hp) (a:Addr) (ns:List Int),ns.length<=n->(∀ x∈ns,Builtin.Int.intBits x<=2 ^ 20)->jjT H->SqX (K w.params) H a (ns.map V.int)->sp w [.ref a] H (λv _=>v=.bl true) λ_ _ _=>False)
  (D:∀(w:World) (H:Hp) (s:Shared) (e:Value) (s':Shared),CX w [] H s (λ_ _ _=>False) e s'->False) :
  PySem.W.WalkO q j R M l.row.toRowW d [] (λf vs=>PySem.call f vs):=by
 intro w s₀ Z mg mb G Y fa o pm cd doc dV kV ho hd hcd N E hg O P as y z hrd I hlo;obtain rfl:dV=.none:=PySem.W.Dflts.none N B;obtain rfl:kV=.none:=PySem.W.Dflts.noKw N;obtain⟨a,vs,ns,rfl,rfl,c,p,i⟩:=Att.script_of S y I;have t:=zF z;have J:=X w _ Y;obtain⟨fd,hb,hF⟩:=F w mg fa _ J G.T.g E;refine PySem.W.enter_call (codeAny_mono (jco J G.T.g G.T.b G.T.builtins G.T.nolimit hg c p (N6 i A) U hF hb (λH hO hS=>C w H a ns i t hO ?_) λH e s'=>D w H Z e s') λr s' hq=>?_)
 ·rcases hS with h | ⟨o,its,m,Q,_,_,L,hz,r⟩
  ·exact .inl h
  ·have e:=J a o Q;rw[c] at e;cases e;cases L;exact .inr ⟨_,_,Q,hz,r⟩
 ·obtain⟨rfl,h2,h3,h4⟩:=hq;exact⟨.inl ⟨.bool true,.bool true,[],rfl,λ_=>rfl,.bool true,Att.post_true l _,λ_=>⟨List.Pairwise.nil,λ_ hm=>(nomatch hm)⟩⟩,h2,h3,h4⟩
noncomputable def Kc(sc:Scope)(N:List Str)(scope:Scope)(N':List Str)(ix:List (Option Nat)):Bool :=
 decide (scope.kind=.function)&&decide (sc.kind=.function)&&scope.names.all (λy=>!decide (y.2=.cell)||decide (scope.names.lookup y.1=some .cell))&&scope.names.all (λy=>!decide (y.2=.local)||decide (scope.names.lookup y.1=some .local)) &&
 scope.names.all (λy=>!decide (y.2=.free)||(decide (scope.names.lookup y.1=some .free)&&(decide (sc.names.lookup y.1=some .cell)||decide (sc.names.lookup y.1=some .free))))&&decide N'.Nodup&&decide (ix.length=N'.length) &&
 (List.range ix.length).all (λi=>match ix[i]? with | some (some j)=>(match N'[i]? with | some x=>decide (N[j]?=some x)&&decide ((x,NameKind.free)∈scope.names) | none=>true) | _=>true)
theorem jeq{X:Cx}{scope:Scope}{N':List Str}{ix:List (Option Nat)}(sc:Scope)(N:List Str)(h1:X.env.scope=sc)(h2:X.N=N)(h:Kc sc N scope N' ix=true):BlockOk X scope N' ix:=by
 subst h1;subst h2;unfold Kc at h;simp only[L9,decide_eq_true_eq,List.all_eq_true,Bool.or_eq_true,Bool.not_eq_true',decide_eq_false_iff_not] at h;obtain⟨⟨⟨⟨⟨⟨⟨c,d⟩,f⟩,g⟩,b⟩,k⟩,l⟩,m⟩:=h;refine⟨c,λy a e=>?_,λy a e=>?_,λy a e=>?_,λy a e=>?_,k,l,λi j x h1 h2=>?_,d⟩
 ·exact(g y a).elim (λz=>absurd e z) id
 ·exact(f y a).elim (λz=>absurd e z) id
 ·exact(b y a).elim (λz=>absurd e z) λz=>z.1
 ·exact(b y a).elim (λz=>absurd e z) λz=>z.2
 ·have hi:i < ix.length:=(L8.mp h1).1;have z:=m i (List.mem_range.mpr hi);rw[h1] at z;dsimp only at z;rw[h2] at z;dsimp only at z;simp only[L9,decide_eq_true_eq] at z;exact z
structure FnFact(K:PySem.W.Frag)(mg:Str->Option Value)(x qual:Str)(st:Stmt)(f:Addr)(fd:FuncData)(ps:List Str):Prop where
 fn:Fun K x qual st f fd
 mgf:mg x=some (.ref f)
 bd:Binds K fd ps []
section
variable {X:Cx}{k:Nat}{f:Addr}{fd:FuncData}{ps:List Str}{sp:Sp}{x qual:Str}{st:Stmt}{p pos:Pos}{e:Expr}{es:List Expr}{t:TA}
theorem jhK(F:FnFact X.K X.mg x qual st f fd ps)(G:FnOk X.prog X.w X.K X.mg X.base CX0 k f fd ps sp)(c:Room k X.A)(d:PA X (e::es) t)(g:Gl X x:=by rfl)(a:(x==("__debug__" : Str))=false:=by decide)
  (h:starEach (e::es) X.env=(false,eval e X.env)::starEach es X.env:=by rfl) (b:(backTo pos (starEach es X.env)).any (·.1)=false:=by rfl):PE X (.Call (.Name x p) (e::es) [] pos) (x6 sp [] E0 t) :=
 jfS G c g F.mgf F.fn.kp F.bd .nil jbS d a h b
end
theorem jet:OpR X (binaryOp .Mult) (λx y H Q=>∃(a:List Nat) (n:Int),x=.str (S a)/\y=.int n/\a.length<=1000/\0<=n/\n<=1000/\Q (.str (S (List.replicate n.toNat a).flatten)) H):=by
 intro f s σ H x y v u Q I g i h;obtain⟨a,n,rfl,rfl,j,B,l,q⟩:=h;obtain⟨k,rfl⟩:∃ k:Nat,n=(k:Int):=⟨n.toNat,by lia⟩;have m:k<=1000:=by lia
 rw[N7] at q;obtain⟨t,rfl⟩:=g;obtain⟨o,rfl⟩:=i;have p:a.length*k<=1000*1000:=Nat.mul_le_mul j m;have hok:MulOk (S a) (k:Int):=by
  refine⟨by simp;lia,λd c=>?_,λd c=>?_⟩
  ·rw[Jz];have r:(1:Int)<=k:=by lia
   have C:(1000:Int)<=(2 ^ 63 - 1) / (k:Int):=by
    rw[Int.le_ediv_iff_mul_le (by lia)];have:(1000:Int)*k<=1000*1000:=by lia
    lia
   lia
  ·rw[Jz,N7];unfold Builtin.Str.tooLong;have r:a.length*k<=sizeLine:=N6 p (by decide);exact X5 (by lia)
 have e:Txt.mul (S a) (k:Int)=S (List.replicate k a).flatten:=by
  have w:∀(n:Nat) (b:Array Nat),((List.replicate n a.toArray).foldl (·++·) b).toList=b.toList++(List.replicate n a).flatten:=by
   intro n
   induction n with
   | zero=>intro b;simp
   | succ n A=>intro b;rw[List.replicate_succ,U9,A];simp[List.replicate_succ]
  unfold Txt.mul;apply PyProof.Rows.ext_toList;rw[qA];by_cases d:(k:Int) < 1
  ·have:k=0:=by lia
   subst this;simp[Str.empty]
  ·rw[if_neg d];by_cases c:((k:Int)==1||(S a).length==0)=true
   ·rw[if_pos c,qA];rw[Jz] at c;simp at c;rcases c with z | z
    ·have:k=1:=by lia
     subst this;simp
    ·subst z;simp
   ·rw[if_neg c,N7];have z:=w k #[];simp only[List.nil_append] at z;exact z
 refine SB.mul hok λo D=>?_;rw[e];exact⟨.str _,H,I.tok _,⟨_,rfl⟩,q⟩
section
variable {X:Cx}{pins:List (Addr×Obj)}{σ:St}{H:Hp}{s:Shared}{h':Heap}
theorem Inv.turnedNew{t':Nat}{wr:List Addr}{T:Addr}{xs:List V}{its:Array Value}(I:Inv X pins σ H s)(k:∀ b o,b∉wr->s.heap.get? b=some o->h'.get? b=some o)(g:∀ b∈wr,wt X pins H b)
  (h:s.heap.objs.size<=T) (j:IsTupN h' T its) (l:Vals xs its.toList) (p:xs.length<=sizeLine):Inv X pins σ (upd H T (.tup xs)) { s with heap:=h',toks:=t' }:=by
 have t:=I.hok.fresh h;have i:∀ b u,H b=some u->b∉wr:=λb u e z=>by rw[(g b z).1] at e;cases e
 have d:∀ b u,H b=some u->b≠T:=λb u e z=>by rw[z,t] at e;cases e
 refine I.step (g':=s.gens) (d':=s.drawn) (ch:=wr) (λb f=>?_) (λb o _ _ a e _=>k b o a e) (λb o _ _ a e _=>⟨o.slots,k b o a e⟩) (λb o _ e n=>?_)
  (λb o a e=>⟨o,k b o a e⟩) (λb w e=>by rw[jf (d b _ e)];exact e) (λb o u e=>by rw[jf (d b _ e)];exact e) (λb G e=>⟨#[],by rw[jf (d b _ e),e];simp⟩) (λm x=>?_) (λb u e=>?_) I.bare
 ·obtain⟨_,y,_,A,B,C⟩:=g b f;exact⟨A,y,B,C⟩
 ·rw[jf (λz=>absurd (N0 e) (by rw[z];exact Nat.not_lt.mpr h))];exact n
 ·obtain⟨o,D,E,F,r⟩:=x;refine⟨o,D,E,k _ o (λz=>(g _ z).2.1 rfl) F,r⟩
 ·by_cases f:b=T
  ·subst f;rw[ju] at e;cases e;exact⟨p,its.toList,l,by simpa using j⟩
  ·rw[jf f] at e;refine(I.hok b u e).stay (λc v a q=>k c v ?_ q) (λc q=>by rw[jf (d c _ q)];exact q) λc w q=>by rw[jf (d c _ q)];exact q
   rcases a with z | z
   ·rw[z];exact i b u e
   ·exact i c _ z
theorem Inv.turnedL{t':Nat}{wr:List Addr}(I:Inv X pins σ H s)(k:∀ b o,b∉wr->s.heap.get? b=some o->h'.get? b=some o)(d:∀ b∈wr,wt X pins H b):Inv X pins σ H { s with heap:=h',toks:=t' }:=by
 have f:∀ b u,H b=some u->b∉wr:=λb u e z=>by rw[(d b z).1] at e;cases e
 refine I.step (g':=s.gens) (d':=s.drawn) (ch:=wr) (λb g=>?_) (λb o _ _ a e _=>k b o a e) (λb o _ _ a e _=>⟨o.slots,k b o a e⟩) (λb o _ e n=>n)
  (λb o a e=>⟨o,k b o a e⟩) (λb y e=>e) (λb o u e=>e) (λb A e=>⟨#[],by rw[e];simp⟩) (λm h=>?_) (λb u e=>?_) I.bare
 ·obtain⟨_,i,_,j,l,p⟩:=d b g;exact⟨j,i,l,p⟩
 ·obtain⟨o,t,w,x,r⟩:=h;refine⟨o,t,w,k _ o (λz=>(d _ z).2.1 rfl) x,r⟩
 ·refine(I.hok b u e).stay (λc v a q=>k c v ?_ q) (λ_ q=>q) λ_ _ q=>q;rcases a with z | z
  ·rw[z];exact f b u e
  ·exact f c _ z
end
def Ite(K:PySem.W.Frag)(l:Addr):It :=
 ⟨λi H=>∃ xs x,SqL K H l xs/\xs[i]?=some x,λi H x H'=>∃ p v,(∀ xs,SqL K H l xs->xs[i]?=some v)/\x=.ref p/\H p=none/\H'=upd H p (.tup [.int i,v]),λi H=>∃ xs,SqL K H l xs/\xs.length<=i⟩
theorem uE{P:Program}{w:World}{K:PySem.W.Frag}{t:List Expr}{n:Nat}{pos:Pos}(e a l:Addr)(y:e≠a)(hle:l≠e)(hli:l≠a) :
  Turn P w K (.Tuple t n pos) (Ite K l) [e,a] e (λi h=>(∃ old,IsEnum h e a i old)/\h.IsListIter a l i) where
 mem:=by simp
 obj:=λi h f b g=>by
  obtain⟨⟨old,j⟩,o,L,M,hd⟩:=f;rcases(by simpa using g:b=e \/ b=a) with z | z
  ·subst z;exact⟨_,j,λv q=>by cases q⟩
  ·subst z;exact⟨o,L,λv q=>by rw[hd] at q;cases q⟩
 keep:=λi h h' f k=>by
  obtain⟨⟨old,j⟩,c⟩:=f;exact⟨⟨old,k e (by simp) _ j⟩,c.at λo q=>k a (by simp) o q⟩
 item:=by
  intro X N O Q M i A s σ H E I F f R;subst N O Q;obtain⟨xs,x,G,S⟩:=R;obtain⟨B,U,p,hz⟩:=I.list G;obtain⟨u,hu,ru⟩:=U.get S;obtain⟨⟨old,j⟩,c⟩:=f;refine wpAny_pyNext_enum_item j c p.isList (x:=u) (by simpa using hu) y λV L C hT hsz hk=>?_;refine⟨_,rfl,wpAny_letOwnedTupleGo_enum (s:={ s with heap:=V,toks:=s.toks+1 }) L λJ Y d=>?_⟩;replace d:Heap.SameBut e V J:=d;have m:e < s.heap.objs.size:=N0 j;have D:J.get? s.heap.objs.size=_:=(d.2 _ (Nat.ne_of_gt m)).trans hT;have kk:∀ b o,b∉[e,a]->s.heap.get? b=some o->J.get? b=some o:=λb o g q=>by
   have r:b≠e/\b≠a:=by simpa using g
   exact(d.2 b r.1).trans (hk b o r.1 r.2 q)
  have I1:=I.turnedNew (h':=J) (t':=s.toks+1) (wr:=[e,a]) (T:=s.heap.objs.size) (xs:=[.int i,x]) (its:=#[.int i s.toks,u]) kk F (M8 _) ⟨⟨_,D,rfl,_,rfl⟩,_,D,rfl⟩ (.cons ⟨_,rfl⟩ (.cons ru .nil)) (by show 2<=sizeLine;decide);refine⟨.ref s.heap.objs.size,_,I1,rfl,⟨_,x,(λys hy=>by rw[I.list_inj hy G];exact S),rfl,I.hok.fresh (M8 _),rfl⟩,⟨⟨_,by simpa using Y⟩,C.at λo q=>(d.2 a y.symm).trans q⟩,λb g=>?_⟩;rw[jf]
  ·exact(F b g).1
  ·intro z;have:b < s.heap.objs.size:=by
    obtain⟨oi,Z,_⟩:=id c;rcases(by simpa using g:b=e \/ b=a) with q | q
    ·rw[q];exact m
    ·rw[q];exact N0 Z
   exact absurd this (by rw[z];exact Nat.lt_irrefl _)
 done:=by
  intro X N O Q M i A s σ H E I F f R;subst N O Q;obtain⟨xs,G,S⟩:=R;obtain⟨B,U,p,hz⟩:=I.list G;obtain⟨⟨old,j⟩,c⟩:=f;have hl:=U.length;exact wpAny_pyNext_enum_end (I.ok.hd M) j c p.isList (by simp;lia) λV eb=>⟨rfl,I.turnedL (t':=s.toks) (wr:=[e,a]) (λb o g q=>eb b o (by simp at g;exact g.2) q) F⟩
 self:=λ_ _ _ _ _ f h=>wpAny_pyIter_enum f.1.choose_spec h
def jeD(K:PySem.W.Frag)(tl:TA):TI:=λσ H R=>tl σ H λvs H1=>∃ a xs,vs=[.ref a]/\SqL K H1 a xs/\R (Ite K a) H1
section
variable {X:Cx}
theorem jfs{d:List Expr}{n:Nat}{tpos p pos:Pos}{a:Expr}{ta:TA}(t:Gl X "enumerate")(v:X.mg "enumerate" = none)(w:PA X [a] ta)(x:starEach [a] X.env=[(false,eval a X.env)]:=by rfl) :
  PI X (.Tuple d n tpos) (.Call (.Name "enumerate" p) [a] [] pos) (jeD X.K ta):=by
 intro c s σ H R I h;refine Call_ (YO I t v (show bootBuiltins "enumerate" = some (.type "enumerate") by decide +kernel) (PyProof.Rows.callWith_type1 (thn (w pos c s σ H _ I h) λL s1 ⟨M,k,i,y,A⟩=>?_) x rfl));obtain⟨l,N,rfl,B,q⟩:=A;obtain⟨u,rfl,C⟩:=y.one;cases C;obtain⟨D,O,pl,P⟩:=i.list B;have f:l < s1.heap.objs.size:=by
  obtain⟨o,_,e,_⟩:=pl;exact N0 e
 refine call_enumerate_list pl.isList λm r j E F=>?_;have G:Inv X c σ k { s1 with heap:=m }:=i.kept (t':=s1.toks) F;refine PySem.wpAny_pyIter_enum (s:={ s1 with heap:=m }) r ?_;refine⟨s1.heap.objs.size+1,[s1.heap.objs.size+1,s1.heap.objs.size],_,_,k,rfl,G,uE _ _ l (Nat.succ_ne_self _) (N5 (Nat.lt_succ_of_lt f)) (N5 f),⟨⟨_,r⟩,j⟩,λb J=>?_,q⟩;have g:s1.heap.objs.size<=b:=by
  rcases(by simpa using J:b=s1.heap.objs.size+1 \/ b=s1.heap.objs.size) with z | z
  ·rw[z];exact Nat.le_succ _
  ·rw[z];exact M8 _
 exact i.fpOk g (i.hok.fresh g)
end
section
variable {X:Cx}
theorem u6(f:X.calm=true):Jt X (.builtin "sum") (λxs H Q=>∃(p:Addr) (ns:List Int),xs=[.ref p]/\SqL X.K H p (ns.map V.int)/\Q (.int ns.sum) H):=by
 intro d s σ H xs m Q I r h;obtain⟨p,ns,rfl,g,q⟩:=h;obtain⟨u,rfl,i⟩:=r.one;cases i;obtain⟨a,j,pl,n⟩:=I.list g;have hi:IntsAre a ns:=wR j;obtain⟨b,e⟩:=hi.allInts.items;have c:s.heap.IsList p (intItems b):=e▸pl.isList;refine sum_intListG (I.ok.hd f) c λo t v k=>?_;have l:ns=b.toList.map (·.1):=by
  rw[<- nums_intItems,<- e];exact(show numsOf a.toArray.toList=ns from hi.numsOf).symm
 have e2:preSum (numAt b) b.size=ns.sum:=by
  rw[preSum_eq,List.take_of_length_le (by simp),l]
 rw[e2];exact⟨.int ns.sum,H,I.kept k,⟨_,rfl⟩,q⟩
inductive TyQ (K:PySem.W.Frag) (H:Hp):V->String->Prop where
 | non:TyQ K H .non "NoneType"
 | bl (x:Bool):TyQ K H (.bl x) "bool"
 | int (i:Int):TyQ K H (.int i) "int"
 | str (x:Str):TyQ K H (.str x) "str"
 | lst {a:Addr}{xs:List V}(e:SqL K H a xs):TyQ K H (.ref a) "list"
 | tup {a:Addr}{xs:List V}(e:SqT K H a xs):TyQ K H (.ref a) "tuple"
 | dK {a:Addr}{kvs:List (Key×V)}(e:H a=some (.dK kvs)):TyQ K H (.ref a) "dict"
theorem KS:Jt X (.builtin "isinstance") (λxs H Q=>∃ x T t b,xs=[x,.ty T]/\TyQ X.K H x t/\PySem.W.kitOne X.K (.type t) (.type T)=some b/\Q (.bl b) H):=by
 intro f s σ H xs C Q I r h;obtain⟨x,T,t,b,rfl,ty,e,q⟩:=h;obtain⟨u,v,rfl,d,B⟩:=r.two;cases B;have c:∀ l,EP X f σ Q (.bool b) { s with toks:=l }:=λl=>⟨.bl b,H,I.tok l,rfl,q⟩;cases ty with
 | non=>cases(show u=Value.none from d);exact PySem.W.kia_one PySem.W.kitx_none I.kIn True.intro e (λz=>nomatch z) c
 | bl y=>cases(show u=Value.bool y from d);exact PySem.W.kia_one PySem.W.kitx_bool I.kIn True.intro e (λz=>nomatch z) c
 | int i=>obtain⟨t,q⟩:=(show ∃ t,u=Value.int i t from d);cases q;exact PySem.W.kia_one PySem.W.kitx_int I.kIn True.intro e (λz=>nomatch z) c
 | str y=>obtain⟨t,q⟩:=(show ∃ t,u=Value.str y t from d);cases q;exact PySem.W.kia_one PySem.W.kitx_str I.kIn True.intro e (λz=>nomatch z) c
 | @lst a xs g =>
  cases(show u=Value.ref a from d);obtain⟨m,_,⟨o,n,j,k,_,_⟩,_⟩:=I.list g;exact PySem.W.kia_one PySem.W.kitx_list I.kIn ⟨o,j,k⟩ e (λz=>nomatch z) c
 | @tup a xs g =>
  cases(show u=Value.ref a from d);obtain⟨m,_,⟨o,j,k,_⟩,_⟩:=I.tuple g;exact PySem.W.kia_one PySem.W.kitx_tuple I.kIn ⟨o,j,k⟩ e (λz=>nomatch z) c
 | @dK a A g =>
  cases(show u=Value.ref a from d);obtain⟨_,_,D,_,p⟩:=(show ObjOk X.prog X.w H s.heap a (.dK A) from I.hok a _ g);obtain⟨o,E,F,j,k,_⟩:=p;exact PySem.W.kia_one PySem.W.kitx_dict I.kIn ⟨o,j,k.1⟩ e (λz=>nomatch z) c
end
section
variable {κ:Type} [DecidableEq κ]
noncomputable def Y6(kvs:List (κ×V))(k:κ):Option V:=(kvs.find? λkv=>decide (kv.1=k)).map (·.2)
noncomputable def vC(kvs:List (κ×V))(k:κ)(v:V):List (κ×V) :=
 if(kvs.any λkv=>decide (kv.1=k))=true then kvs.map (λkv=>if kv.1=k then(kv.1,v) else kv) else kvs++[(k,v)]
theorem qg{p:κ×V}{r:List (κ×V)}(e:p.1=k):Y6 (p::r) k=some p.2:=by simp[Y6,List.find?_cons,e]
theorem k8{p:κ×V}{r:List (κ×V)}(e:¬ p.1=k):Y6 (p::r) k=Y6 r k:=by simp[Y6,List.find?_cons,e]
theorem zP(k:κ):∀ kvs:List (κ×V),(kvs.any λkv=>decide (kv.1=k))=(Y6 kvs k).isSome
 | []=>rfl
 | p::r=>by
  rw[List.any_cons];by_cases e:p.1=k
  ·simp only[qg e,X4 e,Bool.true_or,Option.isSome_some]
  ·rw[k8 e,X5 e,Bool.false_or];exact zP k r
theorem qH(kvs:List (κ×V))(k:κ)(v:V):(vC kvs k v).length<=kvs.length+1:=by
 unfold vC;split
 ·rw[L0];lia
 ·rw[N3,M0,List.length_nil];lia
theorem RelO.isSome_eq(r:RelO o u):o.isSome=u.isSome:=by
 cases o with
 | none=>cases u with
  | none=>rfl
  | some _=>exact(show False from r).elim
 | some _=>cases u with
  | none=>exact(show False from r).elim
  | some _=>rfl
theorem RelO.getD(r:RelO o u)(rd:RelV d d'):RelV (o.getD d) (u.getD d'):=by
 cases o with
 | none=>cases u with
  | none=>exact rd
  | some _=>exact(show False from r).elim
 | some _=>cases u with
  | none=>exact(show False from r).elim
  | some _=>exact r
theorem KV.val(r:KV kvs vs)(k:κ):RelO (Y6 kvs k) (valueAt vs k):=by
 unfold KV at r
 induction r with
 | nil=>exact True.intro
 | @cons p q i a h t f =>
  obtain⟨d,g⟩:=h;by_cases e:p.1=k
  ·have c:q.1=k:=d.symm.trans e;have b:valueAt (q::a) k=some q.2:=by simp[valueAt,List.find?_cons,c]
   rw[qg e,b];exact g
  ·have c:¬ q.1=k:=λz=>e (d.trans z);have b:valueAt (q::a) k=valueAt a k:=by simp[valueAt,List.find?_cons,c]
   rw[k8 e,b];exact f
theorem KV.any(r:KV kvs vs)(k:κ):(kvs.any λkv=>decide (kv.1=k))=vs.any λkv=>decide (kv.1=k):=by
 unfold KV at r
 induction r with
 | nil=>rfl
 | cons h t a=>rw[List.any_cons,List.any_cons,a,h.1]
theorem KV.repl(r:KV kvs vs)(k:κ)  (b:RelV y u) :
  KV (kvs.map λkv=>if kv.1=k then(kv.1,y) else kv) (vs.map λkv=>if kv.1=k then(kv.1,u) else kv):=by
 unfold KV at r ⊢
 induction r with
 | nil=>exact .nil
 | @cons p q f g h t c =>
  rw[L4,L4];refine .cons ?_ c;obtain⟨a,d⟩:=h;by_cases e:p.1=k
  ·rw[if_pos e,if_pos (a.symm.trans e)];exact⟨a,b⟩
  ·rw[if_neg e,if_neg (λz=>e (a.trans z))];exact⟨a,d⟩
theorem KV.put(r:KV kvs vs)(k:κ)  (a:RelV y u):KV (vC kvs k y) (stored vs k u):=by
 unfold vC stored;rw[r.any k];by_cases e:(vs.any λb=>decide (b.1=k))=true
 ·rw[if_pos e,if_pos e];exact r.repl k a
 ·rw[if_neg e,if_neg e];exact Paired.snoc r ⟨rfl,a⟩
theorem KV.length(r:KV kvs vs):kvs.length=vs.length:=Paired.length r
end
theorem QU(r:RelV (kV k) u):(jB P w).is k u=true:=by
 cases k with
 | inl i=>obtain⟨t,e⟩:=(show ∃ t,u=Value.int i t from r);subst e;exact zk P w i t
 | inr x=>obtain⟨t,e⟩:=(show ∃ t,u=Value.str x t from r);subst e;exact ze P w x t
theorem Kr:∀{ks:List Key}{us:List Value},Vals (ks.map kV) us->ItemsAre (jB P w) ks us
 | [],_,r=>by rw[List.map_nil] at r;cases r;exact .nil
 | k::ks,_,r=>by
  rw[L4] at r;cases r with
  | cons h t=>exact .cons (QU h) (Kr t)
abbrev KT(H:Hp):List (List Key×V)->List (List Key×Addr×Value)->Prop:=Paired λp q=>p.1=q.1/\H q.2.1=some (.tup (p.1.map kV))/\RelV p.2 q.2.2
theorem KT.val(r:KT H kvs xs)(k:List Key):RelO (Y6 kvs k) ((atKey xs k).map (·.2)):=by
 induction r with
 | nil=>exact True.intro
 | @cons p q i a h t f =>
  obtain⟨d,_,g⟩:=h;by_cases e:p.1=k
  ·have c:q.1=k:=d.symm.trans e;have b:atKey (q::a) k=some q.2:=by simp[atKey,List.find?_cons,c]
   rw[qg e,b];exact g
  ·have c:¬ q.1=k:=λz=>e (d.trans z);have b:atKey (q::a) k=atKey a k:=by simp[atKey,List.find?_cons,c]
   rw[k8 e,b];exact f
theorem KT.repl(r:KT H kvs xs)(k:List Key)  (c:RelV y u) :
  KT H (kvs.map λkv=>if kv.1=k then(kv.1,y) else kv) (xs.map (putAt k u)):=by
 induction r with
 | nil=>exact .nil
 | @cons p q g i h t d =>
  rw[L4,L4];refine .cons ?_ d;obtain⟨a,b,f⟩:=h;unfold putAt;by_cases e:p.1=k
  ·rw[if_pos e,if_pos (a.symm.trans e)];exact⟨a,b,c⟩
  ·rw[if_neg e,if_neg (λz=>e (a.trans z))];exact⟨a,b,f⟩
theorem KT.put(r:KT H kvs xs)(k:List Key)  (c:H b=some (.tup (k.map kV))) (a:RelV y u) :
  KT H (vC kvs k y) (storedH xs k b u):=by
 have e:(kvs.any λd=>decide (d.1=k))=(atKey xs k).isSome:=by
  rw[zP,(r.val k).isSome_eq,Option.isSome_map]
 unfold vC storedH;rw[e];by_cases q:(atKey xs k).isSome=true
 ·rw[if_pos q,if_pos q];exact r.repl k a
 ·rw[if_neg q,if_neg q];exact Paired.snoc r ⟨rfl,c,a⟩
theorem KT.keeps(r:KT H kvs xs)(a:∀ b ys,H b=some (.tup ys)->H' b=some (.tup ys)):KT H' kvs xs :=
 Paired.mapP r λ_ _ z=>⟨z.1,a _ _ z.2.1,z.2.2⟩
theorem jhV(ok:HOk P w H h)(e:Rd H a u):ObjOk P w H h a u:=e.ok ok
theorem Q0(ok:HOk P w H h)(e:Rd H a (.dK kvs)):kvs.length<=sizeLine/\(a==sysModules)=false/\∃ vs,KV kvs vs/\h.DictOf (jB P w) a vs :=
 show ObjOk P w H h a (.dK kvs) from jhV ok e
theorem jil(ok:HOk P w H h)(e:H a=some (.dK kvs)):kvs.length<=sizeLine/\(a==sysModules)=false/\∃ vs,KV kvs vs/\h.DictOf (jB P w) a vs:=Q0 ok (.inl e)
theorem Vz(ok:HOk P w H h)(e:H a=some (.tup (ks.map kV))):(tupleKind (jB P w)).is h ks a:=by
 obtain⟨_,b,r,⟨o,c,d,n,f⟩,_⟩:=(show ObjOk P w H h a (.tup (ks.map kV)) from ok a _ e);exact⟨o,b.toArray,n,c,d,f,by simpa using Kr r⟩
theorem wd(ok:HOk P w H h)(e:Rd H a (.dT kvs)):kvs.length<=sizeLine/\(a==sysModules)=false /\
  ∃ xs,KT H kvs xs/\h.DictOfH (tupleKind (jB P w)) a xs:=by
 obtain⟨z,y,xs,r,o,d,f,g,i,j,k,n⟩:=(show ObjOk P w H h a (.dT kvs) from jhV ok e);refine⟨z,y,xs,r,o,d,f,g,i,j,k,λx b=>?_,n⟩;have all:∀{l:List (List Key×V)}{m:List (List Key×Addr×Value)},KT H l m->∀ x∈m,(tupleKind (jB P w)).is h x.1 x.2.1:=by
  intro l m q
  induction q with
  | nil=>intro x b;exact nomatch b
  | @cons p q u v c t s =>
   intro x b;rcases M4.mp b with e | b
   ·subst e;exact Vz ok (by rw[<- c.1];exact c.2.1)
   ·exact s x b
 exact all r x b
theorem jjz(ok:HOk P w H h)(e:H a=some (.dT kvs)):kvs.length<=sizeLine/\(a==sysModules)=false /\
  ∃ xs,KT H kvs xs/\h.DictOfH (tupleKind (jB P w)) a xs:=wd ok (.inl e)
def DGet(H:Hp)(a:Addr)(y:V)(r:Option V):Prop :=
 (∃ kvs k,Rd H a (.dK kvs)/\y=kV k/\r=Y6 kvs k) \/ ∃ kvs k b,Rd H a (.dT kvs)/\y=.ref b/\H b=some (.tup (k.map kV))/\r=Y6 kvs k
def DPut(H:Hp)(a:Addr)(y v:V)(H':Hp):Prop :=
 (∃ kvs k,H a=some (.dK kvs)/\y=kV k/\kvs.length < sizeLine/\H'=upd H a (.dK (vC kvs k v))) \/
 ∃ kvs k b,H a=some (.dT kvs)/\y=.ref b/\H b=some (.tup (k.map kV))/\kvs.length < sizeLine/\H'=upd H a (.dT (vC kvs k v))
theorem DGet.k{H:Hp}{a:Addr}{kvs:List (Key×V)}{k:Key}(e:H a=some (.dK kvs)):DGet H a (kV k) (Y6 kvs k):=.inl ⟨kvs,k,.inl e,rfl,rfl⟩
theorem DGet.t{kvs:List (List Key×V)}{k:List Key}(e:H a=some (.dT kvs))(c:H b=some (.tup (k.map kV))):DGet H a (.ref b) (Y6 kvs k):=.inr ⟨kvs,k,b,.inl e,rfl,c,rfl⟩
theorem DPut.k{H:Hp}{a:Addr}{kvs:List (Key×V)}{k:Key}{v:V}(e:H a=some (.dK kvs))(b:kvs.length < sizeLine):DPut H a (kV k) v (upd H a (.dK (vC kvs k v))):=.inl ⟨kvs,k,e,rfl,b,rfl⟩
theorem DPut.t{kvs:List (List Key×V)}{k:List Key}(e:H a=some (.dT kvs))(c:H b=some (.tup (k.map kV)))(d:kvs.length < sizeLine) :
  DPut H a (.ref b) v (upd H a (.dT (vC kvs k v))):=.inr ⟨kvs,k,b,e,rfl,c,d,rfl⟩
theorem Inv.big(I:Inv X pins σ H s):sysModules < s.heap.objs.size:=by
 have h:mainGlobals < s.heap.objs.size:=(I.mod.glob.keeps I.bk).lt;exact Nat.lt_trans (by decide) h
theorem K8(n:A.units+1 < cLine)(I:Inv X pins σ H s)(g:DGet H a y (some v))(m:RelV y u)(h:∀ w' s',Inv X pins σ H s'->RelV v w'->Q w' s') :
  wpAny (model X.prog X.w) A (getItem (.ref a) u) Q E s:=by
 rcases g with⟨d,k,e,f,l⟩ | ⟨d,k,b,e,f,q,l⟩
 ·subst f;obtain⟨z,hd,r,rel,dd⟩:=Q0 I.hok e;obtain⟨w',i,c⟩:=RelO.some_of (v:=v) (o:=valueAt r k) (by rw[l];exact rel.val k);exact wpAny_getItem_of (QU m) dd.mapOf i (h w' _ (I.tok _) c)
 ·subst f;cases(show u=Value.ref b from m);obtain⟨z,hd,t,rel,dd⟩:=wd I.hok e;obtain⟨w',i,c⟩:=RelO.some_of (v:=v) (o:=(atKey t k).map (·.2)) (by rw[l];exact rel.val k);obtain⟨p,x,j⟩:=Option.map_eq_some_iff.mp i;refine wpAny_getItem_heap (tupleKind_room_in1 n) (Vz I.hok q) dd x ?_;rw[j];exact h w' _ (I.tok _) c
theorem jd9(i:A.units+1 < cLine)(I:Inv X pins σ H s)(g:DGet H a y o)(f:RelV y u)(h:∀ s',Inv X pins σ H s'->Q (.bool (!o.isSome)) s') :
  wpAny (model X.prog X.w) A (compareOp .NotIn u (.ref a)) Q E s:=by
 rcases g with⟨c,k,e,d,l⟩ | ⟨c,k,b,e,d,j,l⟩
 ·subst d;obtain⟨z,hd,m,rel,dd⟩:=Q0 I.hok e;refine wpAny_notIn_of (QU f) hd dd.mapOf ?_;rw[<- (rel.val k).isSome_eq,<- l];exact h _ (I.tok _)
 ·subst d;cases(show u=Value.ref b from f);obtain⟨z,hd,n,rel,dd⟩:=wd I.hok e;refine wpAny_notIn_heap (tupleKind_room_in1 i) (Vz I.hok j) hd dd ?_;have q:=(rel.val k).isSome_eq;rw[Option.isSome_map] at q;rw[<- q,<- l];exact h _ (I.tok _)
theorem QN(I:Inv X pins σ H s)(c:Mut (H a))(d:Heap.SameBut a s.heap h')(f:∃ q,h'.get? a=some q)(new:ObjOk X.prog X.w (upd H a ob) h' a ob) :
  Inv X pins σ (upd H a ob) { s with heap:=h',toks:=t' } :=
 I.write (x:=a) (e:=a) c (.inl rfl) (λb q g z=>(d.2 b g).trans z) f new
theorem u8(z:kvs.length<=sizeLine)(hd:(a==sysModules)=false)(rel:KV kvs vs)(dd:h'.DictOf (jB P w) a vs) :
  ObjOk P w H' h' a (.dK kvs):=⟨z,hd,vs,rel,dd⟩
theorem Qf(F:A.units+1 < cLine)(I:Inv X pins σ H s)(g:DPut H a y v H')(t:RelV y u)(x:RelV v r)(h:∀ s',Inv X pins σ H' s'->Q () s') :
  wpAny (model X.prog X.w) A (setItem (.ref a) u r) Q E s:=by
 rcases g with⟨d,k,e,j,l,m⟩ | ⟨d,k,b,e,j,B,l,m⟩
 ·subst j m;obtain⟨z,hd,G,rel,dd⟩:=jil I.hok e;have n:G.length<=sizeLine:=by rw[<- rel.length];exact z
  have o:(vC d k v).length<=sizeLine:=by have:=qH d k v;lia
  refine wpAny_setItem_pairs (hsz:=n) (QU t) dd λC f p=>h _ ?_;have J:∃ q,C.get? a=some q:=let ⟨q,_,_,i,_⟩:=f;⟨q,i⟩
  exact QN I (by rw[e];exact True.intro) p J (u8 o hd (rel.put k x) f)
 ·subst j m;cases(show u=Value.ref b from t);obtain⟨z,hd,K,rel,dd⟩:=jjz I.hok e;have n:K.length<=sizeLine:=by rw[<- Paired.length rel];exact z
  have o:(vC d k v).length<=sizeLine:=by have:=qH d k v;lia
  refine wpAny_setItem_heap (hsz:=n) (tupleKind_room_in1 F) (Vz I.hok B) dd λC f p=>h _ ?_;obtain⟨q,L,M,i,N,O,P,_,R⟩:=f;refine QN I (by rw[e];exact True.intro) p ⟨q,i⟩ ⟨o,hd,_,(rel.put k B x).keeps λc S D=>?_,q,L,M,i,N,O,P,R⟩;rw[jf (jkn D e (λz=>nomatch z))];exact D
def jhD(i:Expr):Prop:=∀ ov iv,subscripted i false ov iv=operate [ov,iv] (getItem ov iv)
theorem jdS{prog:Program}{w:World}{A:Around}{E:Value->Shared->Prop}{s:Shared}{env:Env}{value slice:Expr}{pos:Pos}{T id:String}{Q:Value->Shared->Prop}
  (e:typeLookup (.type T) "__getitem__" = pure (some (.builtin id))) (f:jhD slice)
  (h:wpAny (model prog w) A (eval value env) (λo s₁=>wpAny (model prog w) A (eval slice env) (λi s₂=>s₂.TypeIs o T/\wpAny (model prog w) A (getItem o i) Q E s₂) E s₁) E s) :
  wpAny (model prog w) A (eval (.Subscript value slice pos) env) Q E s:=by
 refine Subscript_ (wpAny_mono h (λo s₁ g=>wpAny_mono g (λi s₂ b=>?_) λ_ _ x=>x) λ_ _ x=>x);obtain⟨c,b⟩:=b;unfold subscriptTail;refine L1 ?_;rw[getitemInPython_of_ne c.not_modules];refine L1 (wpAny_specialOf c e ?_);have a:wpAny (model prog w) A (subscripted slice false o i) (λr d=>wpAny (model prog w) A (letTemporaryGo value o r >>= λ_=>pure r) Q E d) E s₂:=by
  rw[f o i];exact wpAny_operating (wpAny_mono b (λr d j=>L1 (wpAny_letTemporaryGo (M6 j))) λ_ _ x=>x)
 first
  | exact M6 (L1 a)
  | exact L1 (M6 (L1 a))
  | exact L1 a
theorem QA(I:Inv X pins σ H s)(g:DGet H a y o):s.TypeIs (.ref a) "dict":=by
 rcases g with⟨c,k,e,_,_⟩ | ⟨c,k,b,e,_,_,_⟩
 ·obtain⟨_,_,d,_,dd⟩:=Q0 I.hok e;exact dd.typeIs
 ·obtain⟨_,_,f,_,dd⟩:=wd I.hok e;exact dd.typeIs
noncomputable def Q7(td ty:TE):TE:=λσ H Q=>td σ H λx H1=>ty σ H1 λy H2=>∃ a v,x=.ref a/\DGet H2 a y (some v)/\Q v H2
noncomputable def V3(ty td:TE):TE:=λσ H Q=>ty σ H λy H1=>td σ H1 λx H2=>∃ a o,x=.ref a/\DGet H2 a y o/\Q (.bl (!o.isSome)) H2
noncomputable def jac(td ty tv:TE):TS:=λD σ H=>tv σ H λv H1=>td σ H1 λx H2=>ty σ H2 λy H3=>∃ a H4,x=.ref a/\DPut H3 a y v H4/\D.nx σ H4
noncomputable def jbi(td ty tv:TE)(rd:V->V->Hp->VK->Prop):TS:=λD σ H=>td σ H λx H1=>ty σ H1 λy H2=>∃ a v,x=.ref a/\DGet H2 a y (some v) /\
 tv σ H2 λy2 H3=>rd v y2 H3 λz H4=>∃ H5,DPut H4 a y z H5/\D.nx σ H5
theorem jau(e:X.A.units+1 < cLine)(f:PE X o td)(hi:PE X i ty)(j:jhD i):PE X (.Subscript o i pos) (Q7 td ty):=by
 intro b s σ H Q I h;refine jdS PySem.F.slot_dict_getitem.lookup j (thn (f b s σ H _ I h) λu s1 ⟨x,k,l,m,n⟩=>thn (hi b s1 σ k _ l n) λz B p=>?_);obtain⟨y,q,d,r,a,v,ex,g,t⟩:=p;subst ex;obtain rfl:u=Value.ref a:=m;exact⟨QA d g,K8 e d g r λC D w c=>⟨v,q,w,c,t⟩⟩
theorem uv(c:X.A.units+1 < cLine)(hi:PE X i ty)(d:PE X o td):PC X .NotIn i o (V3 ty td):=by
 intro b s σ H Q I h;refine thn (hi b s σ H _ I h) λv s1 ⟨y,e,f,j,k⟩=>thn (d b s1 σ e _ f k) λu w l=>?_;obtain⟨x,m,n,p,a,q,ex,g,r⟩:=l;subst ex;obtain rfl:u=Value.ref a:=p;exact jd9 c n g j λz t=>⟨.bl (!q.isSome),m,t,rfl,r⟩
theorem jaC(c:X.A.units+1 < cLine)(d:PE X o td)(hi:PE X i ty)(e:PE X value tv)(f:swapsWith value (some (.Subscript o i pos')) pos.line X.env=pure false) :
  PS X (.Assign [.Subscript o i pos'] value pos) (jac td ty tv):=by
 intro b s σ H D I h;refine wpAny_Assign_Subscript (thn (e b s σ H _ I h) λr s1 ⟨v,j,k,l,m⟩=>thn (d b s1 σ j _ k m) λu n ⟨x,p,q,t,w⟩=>thn (hi b n σ p _ q w) λJ K z=>?_) f;obtain⟨y,L,B,C,a,E,ex,g,F⟩:=z;subst ex;obtain rfl:u=Value.ref a:=t;exact Qf c B g C l λM G=>⟨σ,E,G,F⟩
theorem jaJ(j:X.A.units+1 < cLine)(l:PE X o td)(hi:PE X i ty)(m:PE X value tv)(c:jjE X op rd)
  (n:∀ ov iv new,augStore i ov iv new=(do holding [new,ov,iv] (setItem ov iv new);release [new,ov,iv] [];pure .next)):PS X (.AugAssign (.Subscript o i tpos) op value pos) (jbi td ty tv rd):=by
 intro b s σ H D I h;refine wpAny_AugAssign_SubscriptAny (thn (l b s σ H _ I h) λu s1 ⟨x,p,q,r,t⟩=>thn (hi b s1 σ p _ q t) λiv U d=>?_) n;obtain⟨y,w,B,k,a,v,ex,g,C⟩:=d;subst ex;obtain rfl:u=Value.ref a:=r;refine K8 j B g k λE F G e=>thn (m b F σ w _ G C) λJ K ⟨y2,L,M,f,N⟩=>thn (c b K σ L v y2 E J _ M e f N) λV W d=>?_;obtain⟨z,Y,O,P,Q,R,S⟩:=d;exact Qf j O R k P λZ T=>⟨σ,Q,T,S⟩
theorem xx(h:Heap)(a:sysModules < h.objs.size):ObjOk P w H (h.push { cls:=.type "dict",data:=.dict #[] }) h.objs.size (.dK []) :=
 ⟨U4 _,U1.mpr (Ne.symm (N5 a)),[],.nil,Heap.DictOf.new h⟩
def wZ:TE:=λ_ H Q=>∀ p,H p=none->Q (.ref p) (upd H p (.dK []))
theorem jcJ:PE X (.Dict [] [] pos) wZ:=λb s σ H Q I h =>
 wpAny_Dict_empty ⟨.ref s.heap.objs.size,_,I.laid (a:=s.heap.objs.size) (o:=.dK []) (t':=s.toks) (λ_ _ q=>L7 _ q) (M8 _) (xx s.heap I.big),rfl,h _ (I.hok.fresh (M8 _))⟩
def Qn:List (TE×TE)->St->Hp->(List (V×V)->Hp->Prop)->Prop
 | [],_,H,Q=>Q [] H
 | (tk,tv)::r,σ,H,Q=>tk σ H λx H1=>tv σ H1 λy H2=>Qn r σ H2 λps H3=>Q ((x,y)::ps) H3
abbrev VV:List (V×V)->List (Value×Value)->Prop:=Paired λp q=>RelV p.1 q.1/\RelV p.2 q.2
def PPs(X:Cx)(pos:Pos)(keys:List (Option Expr))(values:List Expr)(trs:List (TE×TE)):Prop :=
 ∀(pins:List (Addr×Obj)) (s:Shared) (σ:St) (H:Hp) (Q:List (V×V)->Hp->Prop),Inv X pins σ H s->Qn trs σ H Q ->
  wpAny (model X.prog X.w) X.A (evalPairs (pairTrees keys values X.env pos)) (λvs s'=>∃ ps H',Inv X pins σ H' s'/\VV ps vs/\Q ps H') X.xe s
theorem pps_nil:PPs X pos [] [] []:=λa s σ H Q I h=>pairTrees_nil_walk ⟨[],H,I,.nil,h⟩
theorem pps_cons(b:PE X k tk)(c:PE X v tv)(d:PPs X pos ks vs trs) :
  PPs X pos (some k::ks) (v::vs) ((tk,tv)::trs):=λa s σ H Q I h =>
 pairTrees_cons_walk (thn (b a s σ H _ I h) λu s1 ⟨x,e,f,g,i⟩=>thn (c a s1 σ e _ f i) λw j ⟨y,l,m,n,o⟩ =>
  thn (d a j σ l _ m o) λz A ⟨p,q,r,rel,t⟩=>⟨(x,y)::p,q,r,.cons ⟨g,n⟩ rel,t⟩)
def Yr(kvs more:List (Key×V)):List (Key×V):=more.foldl (λacc kv=>vC acc kv.1 kv.2) kvs
theorem KV.merge:∀{more:List (Key×V)}{rs:List (Key×Value)}{kvs:List (Key×V)}{vs:List (Key×Value)},KV more rs->KV kvs vs->KV (Yr kvs more) (merged vs rs):=by
 intro more rs kvs vs r;unfold KV at r
 induction r generalizing kvs vs with
 | nil=>intro q;exact q
 | @cons p q c d h t a =>
  intro b;have e:KV (vC kvs p.1 p.2) (stored vs q.1 q.2):=by
   have:=b.put p.1 h.2;rw[<- h.1];exact this
  exact a e
theorem Ja:∀(more kvs:List (Key×V)),(Yr kvs more).length<=kvs.length+more.length
 | [],kvs=>by show kvs.length<=kvs.length+0;lia
 | p::r,kvs=>by
  have a:=Ja r (vC kvs p.1 p.2);have b:=qH kvs p.1 p.2;show(Yr (vC kvs p.1 p.2) r).length<=_;rw[M0];lia
theorem Vv:∀{kvs:List (Key×V)}{ws:List (Value×Value)},VV (kvs.map λkv=>(kV kv.1,kv.2)) ws->∃ rs,Carries (jB P w) ws rs/\KV kvs rs
 | [],_,r=>by rw[List.map_nil] at r;cases r;exact⟨[],True.intro,.nil⟩
 | p::kvs,_,r=>by
  rw[L4] at r;cases r with
  | @cons a b e bs h t =>
   obtain⟨rs,c,q⟩:=Vv (P:=P) (w:=w) t;obtain⟨f,d⟩:=b;exact⟨(p.1,d)::rs,⟨QU h.1,rfl,c⟩,.cons ⟨rfl,h.2⟩ q⟩
def jfV(trs:List (TE×TE)):TE:=λσ H Q=>∀ p,H p=none->Qn trs σ (upd H p (.dK [])) λps H2=>H2 p=some (.dK [])/\∃ kvs:List (Key×V),ps=kvs.map (λkv=>(kV kv.1,kv.2))/\kvs.length<=15/\Q (.ref p) (upd H2 p (.dK (Yr [] kvs)))
theorem je9(h:PPs X pos keys values trs)(b:keys.all (·.isSome)=true)(l:keys.length=values.length)(m:keys≠[])
  (i:keys.length<=15):PE X (.Dict keys values pos) (jfV trs):=by
 intro d s σ H Q I q;have n:=I.hok.fresh (M8 s.heap.objs.size);have p:=I.laid (a:=s.heap.objs.size) (o:=.dK []) (h':=s.heap.push { cls:=.type "dict",data:=.dict #[] }) (t':=s.toks) (λ_ _ q=>L7 _ q) (M8 _) (xx s.heap I.big);refine wpAny_Dict_walk (knd:=jB X.prog X.w) b l m i (thn (h d _ σ _ _ p (q _ n)) λF G r=>?_);obtain⟨J,K,k,rel,e,f,t,L,u⟩:=r;subst t;obtain⟨v,c,x⟩:=Vv (P:=X.prog) (w:=X.w) rel;obtain⟨z,hd,y,A,dd⟩:=jil k.hok e;cases A;refine⟨v,c,dd,λj g B=>⟨.ref s.heap.objs.size,_,?_,rfl,u⟩⟩;have C:(Yr [] f).length<=sizeLine:=by
  have D:=Ja f [];rw[List.length_nil] at D;rw[sizeLine_eq];lia
 have E:∃ q,j.get? s.heap.objs.size=some q:=let ⟨q,_,_,hq,_⟩:=g;⟨q,hq⟩
 exact QN k (by rw[e];exact True.intro) B E (u8 C hd (x.merge .nil) g)
structure M1(X:Cx)(o:Expr)(m:Str)(apos:Pos)(e:Expr)(cpos:Pos):Prop where
 base:attributeBase o m X.env (eval o X.env)=eval o X.env
 few:((backTo cpos (starEach [e] X.env)).all (λx=>!x.1)&&(backToKw cpos (keywordEach [] X.env)).all (λx=>x.1.isSome)
  && decide (([e]:List Expr).length+([]:List Keyword).length+(if([]:List Keyword).isEmpty then 0 else 1) < 30))=true
 line:(apos.endLine==cpos.line)=true
 trees:backTo cpos (starEach [e] X.env)=[(false,eval e X.env)]
structure M2(X:Cx)(o:Expr)(m:Str)(apos:Pos)(e f:Expr)(cpos:Pos):Prop where
 base:attributeBase o m X.env (eval o X.env)=eval o X.env
 few:((backTo cpos (starEach [e,f] X.env)).all (λx=>!x.1)&&(backToKw cpos (keywordEach [] X.env)).all (λx=>x.1.isSome)
  && decide (([e,f]:List Expr).length+([]:List Keyword).length+(if([]:List Keyword).isEmpty then 0 else 1) < 30))=true
 line:(apos.endLine==cpos.line)=true
 trees:backTo cpos (starEach [e,f] X.env)=[(false,eval e X.env),(false,eval f X.env)]
def IsD(H:Hp)(a:Addr):Prop:=(∃ kvs,Rd H a (.dK kvs)) \/ ∃ kvs,Rd H a (.dT kvs)
theorem jdv(I:Inv X pins σ H s)(d:IsD H a) :
  s.TypeIs (.ref a) "dict"/\(∀ b,Value.ref a=.ref b->∃ ob,s.heap.get? b=some ob/\ob.dict=none)/\(a==sysModules)=false:=by
 rcases d with⟨c,e⟩ | ⟨c,e⟩
 ·obtain⟨_,hd,h,_,dd⟩:=Q0 I.hok e;refine⟨dd.typeIs,λb q=>?_,hd⟩;cases q;obtain⟨ob,_,_,f,g,_⟩:=dd;exact⟨ob,f,g.2.1⟩
 ·obtain⟨_,hd,i,_,dd⟩:=wd I.hok e;refine⟨dd.typeIs,λb q=>?_,hd⟩;cases q;obtain⟨ob,_,_,f,g,_⟩:=dd;exact⟨ob,f,g.2.1⟩
theorem jg4(j:A.units+1 < cLine)(I:Inv X pins σ H s)(g:DGet H a y o)(i:RelV y u)(rd:RelV d r)(h:∀ w' s',Inv X pins σ H s'->RelV (o.getD d) w'->Q w' s') :
  wpAny (model X.prog X.w) A (call (.builtin "dict.get") [.ref a,u,r]) Q E s:=by
 rcases g with⟨c,k,e,f,l⟩ | ⟨c,k,b,e,f,m,l⟩
 ·subst f;obtain⟨z,hd,p,rel,dd⟩:=Q0 I.hok e;refine call_meetsIn PySem.F.slot_dict_get dd.typeIs PySem.F.entry_dict_get (PySem.F.args_dict_get_3 _ _ _) (meets_dict_get_default (jB X.prog X.w) a (QU i) hd r) ⟨_,dd.mapOf,h _ _ (I.tok _) ?_⟩;rw[l];exact(rel.val k).getD rd
 ·subst f;cases(show u=Value.ref b from i);obtain⟨z,hd,n,rel,dd⟩:=wd I.hok e;refine call_meetsIn PySem.F.slot_dict_get dd.typeIs PySem.F.entry_dict_get (PySem.F.args_dict_get_3 _ _ _) (meetsH_dict_get_default (tupleKind (jB X.prog X.w)) a b hd r) ⟨tupleKind_room_in1 j,k,n,Vz I.hok m,dd,h _ _ (I.tok _) ?_⟩;rw[l];exact(rel.val k).getD rd
noncomputable def uF(td ty tx:TE):TE:=λσ H Q=>td σ H λx H1=>∃ a,x=.ref a/\IsD H1 a/\ty σ H1 λy H2=>tx σ H2 λz H3=>∃ o,DGet H3 a y o/\Q (o.getD z) H3
theorem jcF(j:X.A.units+1 < cLine)(k:PE X o td)(l:PE X e ty)(n:PE X f tx)(m:M2 X o "get" apos e f cpos):PE X (.Call (.Attribute o "get" apos) [e,f] [] cpos) (uF td ty tx):=by
 intro b s σ H Q I h;refine wpAny_Call_method m.base m.few m.line PySem.F.plainAttrs_dict PySem.F.slot_dict_get PySem.F.type_dict_get (thn (k b s σ H _ I h) λu s1 p=>?_);obtain⟨x,q,i,r,a,ex,d,t⟩:=p;subst ex;obtain rfl:u=Value.ref a:=r;obtain⟨v,w,_⟩:=jdv i d;refine⟨v,w,?_⟩;rw[m.trees];refine Calls.callWith_builtin rfl (Calls.evalArgs_plain (Calls.spliced_cons (thn (l b s1 σ q _ i t) λO B ⟨y,C,D,E,G⟩ =>
  Calls.spliced_cons (thn (n b B σ C _ D G) λP R ⟨z,J,K,L,S,g,M⟩=>Calls.spliced_nil ?_))))
 exact jg4 j K g E L λT U N c=>⟨_,J,N,c,M⟩
end L2
namespace PySem
open Sem (wp)
namespace F
theorem lk_list_keys:typeLookup (.type "list") "keys" = pure none:=by rw[typeLookup_type,builtinLookup_eq_fast];kernel_rfl
theorem lk_list_getattr:typeLookup (.type "list") "__getattr__" = pure none:=by rw[typeLookup_type,builtinLookup_eq_fast];kernel_rfl
theorem plain_dict_loop:plainId "dict.update.loop" = true:=by decide +kernel
theorem entry_dict_loop:entryFor table "dict.update.loop" = some Builtin.«dict.update.loop»:=entryFor_of_fast (by kernel_rfl)
end F
section
variable {prog:Program}{w:World}{A:Around}{E:Value->Shared->Prop}{h:Heap}{g:Array GenState}{d:Drawn}{t:Nat}{os:OsState}{a:Addr}{o:Obj}
theorem F.sub_attrErr:isSubtype (.type "AttributeError") (.type "AttributeError")=pure true:=by rw[isSubtype_type];kernel_rfl
theorem jb6{x nm:Value}{e:Addr}{y:Value}{Q:Unit->Shared->Prop}(a:h.get? e=some { cls:=.type "AttributeError",data:=.fields #[y,.none,.none,.none,.bool false,.none,unsetMember,unsetMember] })
  (c:∀ h',(∀ b o,b≠e->h.get? b=some o->h'.get? b=some o)->(∃ ob,h'.get? e=some ob/\ob.cls=.type "AttributeError")->Q () ⟨h',g,d,t,os⟩) :
  wpAny (model prog w) A (noteAttr (.ref e) x nm) Q E ⟨h,g,d,t,os⟩:=by
 have j:(⟨h,g,d,t,os⟩:Shared).TypeIs (.ref e) "AttributeError":=⟨_,a,rfl⟩;have k:=F.sub_attrErr;unfold noteAttr
 repeat (any_goals (first | assumption | wp_step))
 refine c _ (λb o f i=>?_) ?_
 ·rw[Heap.get?_update_ne _ _ _ _ f];exact i
 ·exact⟨_,Heap.get?_update_self _ a rfl,rfl⟩
theorem xV{α:Type}{x:Value}{nm c:Str}{Q:α->Shared->Prop}(l:c.length<=sizeLine)(n:A.handled=none)
  (p:∀ h' e t',(∀ b o,h.get? b=some o->h'.get? b=some o)->h.get? e=none->(∃ ob,h'.get? e=some ob/\ob.cls=.type "AttributeError")->E (.ref e) ⟨h',g,d,t',os⟩) :
  wpAny (model prog w) A (raiseAttrError x nm c:Sem α) Q E ⟨h,g,d,t,os⟩:=by
 unfold raiseAttrError;refine L1 (wpAny_mkStr (L1 ?_) l);unfold newExc newTuple;refine L1 (wpAny_newObj_type ?_);refine L1 (m:=firstArgMember _ _) (wpAny_of_eq (a:=Value.none) (by simp only[firstArgMember];rfl) ?_);refine wpAny_newObj_type ?_;refine L1 (wpAny_mkText (L1 ?_));refine jb6 (y:=.ref h.objs.size) (E1 _ rfl) λh' q r=>?_;unfold raiseNew;refine L1 (wpAny_handled ?_);rw[n];have f:∀ i,E (.ref (h.push { cls:=.type "tuple",data:=.seq #[Value.str c t] }).objs.size) ⟨h',g,d,i,os⟩:=λi=>p h' _ _ (λb o j=>q b o (λz=>by
  have k:=N0 j;rw[z] at k;exact absurd k (Nat.not_lt.mpr (by simp))) (L7 _ (L7 _ j))) (Heap.get?_none_of_le (by simp)) r
 first
  | exact wpAny_throw (f _)
  | exact L1 (M6 (wpAny_throw (f _)))
theorem wD{its:Array Value}{n:Nat}{sl:Array (Option Value)}{tk:Tok}{Q:Fin->Shared->Prop}(c:A.handled=none)(f:h.get? a=some { cls:=.type "list",data:=.seq its n,slots:=sl })
  (i:∀ h' e t',(∀ b o,h.get? b=some o->h'.get? b=some o)->h.get? e=none->(∃ ob,h'.get? e=some ob/\ob.cls=.type "AttributeError")->E (.ref e) ⟨h',g,d,t',os⟩) :
  wpAny (model prog w) A (Builtin.«object.__getattribute__» ⟨[.ref a,.str "keys" tk],[]⟩) Q E ⟨h,g,d,t,os⟩:=by
 have j:(⟨h,g,d,t,os⟩:Shared).TypeIs (.ref a) "list":=⟨_,f,rfl⟩;have k:=F.lk_list_keys
 repeat (any_goals (first | assumption | wp_step))
 exact xV (by decide +kernel) c i
theorem uU{its:Array Value}{n:Nat}{sl:Array (Option Value)}{tk:Tok}{R:Result->Shared->Prop}(f:A.handled=none)(c:h.get? a=some { cls:=.type "list",data:=.seq its n,slots:=sl })
  (i:∀ h' e t',(∀ b o,h.get? b=some o->h'.get? b=some o)->h.get? e=none->(∃ ob,h'.get? e=some ob/\ob.cls=.type "AttributeError")->R (.error (.ref e)) ⟨h',g,d,t',os⟩) :
  codeAny (model prog w) A (.call (.builtin "list.__getattribute__") ⟨[.ref a,.str "keys" tk],[]⟩) R ⟨h,g,d,t,os⟩:=by
 refine codeAny_call_builtin F.slot_list_getattribute.plain F.entry_list_ga (F.slot_list_getattribute.check _ _ _ _ _ _ _ _ (show(⟨h,g,d,t,os⟩:Shared).TypeIs (.ref a) "list" from⟨_,c,rfl⟩) (F.args_list_getattribute_2 _ _) ?_);exact wD (show A.in1.handled=none from f) c i
theorem jff{its:Array Value}{n:Nat}{sl:Array (Option Value)}{tk:Tok}{Q:Value->Shared->Prop}(k:A.handled=none)(i:h.get? a=some { cls:=.type "list",data:=.seq its n,slots:=sl })
  (l:∀ h' e t',(∀ b o,h.get? b=some o->h'.get? b=some o)->h.get? e=none->(∃ ob,h'.get? e=some ob/\ob.cls=.type "AttributeError")->E (.ref e) ⟨h',g,d,t',os⟩) :
  wpAny (model prog w) A (getAttrBy (.ref a) (.str "keys" tk) false) Q E ⟨h,g,d,t,os⟩:=by
 have u:(⟨h,g,d,t,os⟩:Shared).TypeIs (.ref a) "list":=⟨_,i,rfl⟩;have v:=F.sub_attrErr;have x:=F.slot_list_getattribute.lookup;have y:=F.slot_list_getattribute.bind (.ref a);have z:=F.lk_list_getattr
 repeat (any_goals (first | assumption | wp_step))
 refine uU k i λh' e t' m p j=>?_;have c:=j;obtain⟨ob,f,q⟩:=j;have r:(⟨h',g,d,t',os⟩:Shared).TypeIs (.ref e) "AttributeError":=⟨_,f,q⟩;have s:=l h' e t' m p c;show wpAny (model prog w) A (getattributeRaised (Value.ref a) (Value.str (Str.ofString "keys") tk) (Value.type "list") (.ref e) none false false) Q E _;unfold getattributeRaised
 repeat (any_goals (first | assumption | wp_step))
theorem Kt{its:Array Value}{n:Nat}{sl:Array (Option Value)}{Q:Option Value->Shared->Prop}(f:A.handled=none)(i:h.get? a=some { cls:=.type "list",data:=.seq its n,slots:=sl })
  (j:∀ h' t',(∀ b o,h.get? b=some o->h'.get? b=some o)->Q none ⟨h',g,d,t',os⟩):wpAny (model prog w) A (getAttr? (.ref a) "keys") Q E ⟨h,g,d,t,os⟩:=by
 unfold getAttr? getAttrBy?
 refine L1 (wpAny_mkText (L1 ?_));refine wpAny_attempt ?_;refine jff f i λh' e t' k r l=>?_;obtain⟨ob,c,m⟩:=l;have p:(⟨h',g,d,t',os⟩:Shared).TypeIs (.ref e) "AttributeError":=⟨_,c,m⟩;have s:=F.sub_attrErr;have q:=j h' t' k
 repeat (any_goals (first | assumption | wp_step))
end
section
variable {prog:Program}{w:World}{K:Type} [DecidableEq K] {knd:KeyKind prog w K}{A:Around}{E:Value->Shared->Prop}{s:Shared}
theorem Vl(c:s.heap.get? p=some o)(b:o.cls=.type "tuple")(hd:o.data=.seq #[key,x] m)(e:Q [key,x] s):wpAny (model prog w) A (Builtin.Dict.pairItems (.ref p)) Q E s:=by
 obtain⟨oc,od,a,d⟩:=o;dsimp only at b hd;subst b;subst hd;have f:s.TypeIs (.ref p) "tuple":=⟨_,c,rfl⟩;unfold Builtin.Dict.pairItems
 repeat (any_goals (first | assumption | wp_step))
def uA(knd:KeyKind prog w K)(h:Heap)(v:Value)(kv:K×Value):Prop:=∃ p key m o,v=.ref p/\h.get? p=some o/\o.cls=.type "tuple"/\o.data=.seq #[key,kv.2] m/\knd.is kv.1 key=true
theorem jaf{R:Result->Shared->Prop}(hh:A.handled=none)  (q:ax≠I) (h:D≠I) (P:D≠ax) {items:Array Value}{ps:List (K×Value)}(r:items.size=ps.length):∀(k i:Nat) (s:Shared) (kvs:List (K×Value)),
  items.size - i=k->i<=items.size->(s.heap.IsListIter I ax i/\s.heap.IsList ax items)->s.heap.DictOf knd D kvs ->
  (∀(j:Nat) (v:Value),items[j]?=some v->∃ kv,ps[j]?=some kv/\uA knd s.heap v kv/\v≠.ref I/\v≠.ref D)->kvs.length+k<=100000 ->
  (∀ h' tk,h'.DictOf knd D ((ps.drop i).foldl (λa kv=>stored a kv.1 kv.2) kvs)->(∀ b o,b≠I->b≠D->s.heap.get? b=some o->h'.get? b=some o)->R (.ok (.ret .none)) { s with heap:=h',toks:=tk }) ->
  codeAny (model prog w) A (.builtin "dict.update.loop" ⟨[.ref D,.ref I,rawInt i,.none],[]⟩) R s:=by
 intro k
 induction k with
 | zero =>
  intro i s kvs hk hi l hd Q hz S;have T:i=items.size:=by lia
  subst T;have W:=Walks.list (prog:=prog) (w:=w) (A:=A.in1) (by exact hh) I ax q items;refine codeAny_builtin F.entry_dict_loop ?_;rw[Around.under_plainId F.plain_dict_loop _];show wpAny _ A.in1 (pyNext (.ref I) >>= _) _ _ s;refine L1 (W.done s _ _ l λh' tk c=>?_);have fin:=S h' tk (by rw[r,List.drop_length];exact hd.extBut (b:=I) (λb o d e=>c b o (by simpa using d) e) h) (λb o d _ e=>c b o (by simpa using d) e);unfold Builtin.Dict.addKeywords
  repeat (any_goals (first | assumption | wp_step))
 | succ k ih =>
  intro i s kvs hk hi l hd Q hz S;have t:i < items.size:=by lia
  have W:=Walks.list (prog:=prog) (w:=w) (A:=A.in1) (by exact hh) I ax q items;refine codeAny_builtin F.entry_dict_loop ?_;rw[Around.under_plainId F.plain_dict_loop _];show wpAny _ A.in1 (pyNext (.ref I) >>= _) _ _ s;refine L1 (W.item i s _ _ t l λv h' tk hP u c=>?_);obtain⟨kv,x,⟨p,y,m,po,rfl,U,V,X,B⟩,Y,hvD⟩:=Q i v hP;have C:h'.get? p=some po:=c p _ (by simpa using λz=>Y (by rw[z])) U;have Z:h'.DictOf knd D kvs:=hd.extBut (b:=I) (λb o d e=>c b o (by simpa using d) e) h;refine L1 (wpAny_holding ?_);refine L1 (wpAny_tryCatch (Vl C V X ?_));show wpAny _ _ (holding [y,kv.2] (dictSet D y kv.2)) _ _ _;have hsz:sizeLine=16777216:=by decide
  refine wpAny_holding (wpAny_dictSet_pairs B Z (λh'' E hs=>?_) (by lia));refine M6 ⟨plainId_quiet F.plain_dict_loop _,?_⟩;have hd2:ps.drop i=kv::ps.drop (i+1):=by
   have G:i < ps.length:=by lia
   rw[List.drop_eq_getElem_cons G];have:ps[i]=kv:=by
    rw[X8 G] at x;exact X7 x
   rw[this]
  refine ih (i+1) _ (stored kvs kv.1 kv.2) (by lia) t (W.frame (i+1) h' h'' u λb d o e=>(hs.2 b ?_).trans e) E (λj v hv=>?_) ?_ λh3 tk3 hd3 hk3=>?_
  ·rcases M4.mp d with rfl | d
   ·exact λz=>h z.symm
   ·rw[M7.mp d];exact λz=>P z.symm
  ·obtain⟨kv',H,⟨p',J,m',po',rfl,L,M,N,n⟩,f,g⟩:=Q j v hv;refine⟨kv',H,⟨p',J,m',po',rfl,?_,M,N,n⟩,f,g⟩;exact(hs.2 p' λz=>g (by rw[z])).trans (c p' _ (by simpa using λz=>f (by rw[z])) L)
  ·have:=stored_length_le kvs kv.1 kv.2
   lia
  ·refine S h3 tk3 ?_ λb o d O e=>hk3 b o d O ((hs.2 b O).trans (c b o (by simpa using d) e));rw[hd2,U9];exact hd3
end
section
variable {prog:Program}{w:World}{K:Type} [DecidableEq K] {knd:KeyKind prog w K}{A:Around}{E:Value->Shared->Prop}{s:Shared}
theorem Va{its:Array Value}{n:Nat}{sl:Array (Option Value)}{ps:List (K×Value)}{Q:Value->Shared->Prop}(N:A.handled=none)(u:s.heap.get? p=some { cls:=.type "list",data:=.seq its n,slots:=sl })(k:its.size=ps.length)
  (R:∀(j:Nat) (v:Value),its[j]?=some v->∃ kv,ps[j]?=some kv/\uA knd s.heap v kv) (W:ps.length<=100000)
  (h:∀ h' tk,h'.DictOf knd s.heap.objs.size (ps.foldl (λa kv=>stored a kv.1 kv.2) [])->(∀ b o,s.heap.get? b=some o->h'.get? b=some o)->Q (.ref s.heap.objs.size) { s with heap:=h',toks:=tk }) :
  wpAny (model prog w) A (call (.type "dict") [.ref p]) Q E s:=by
 refine callType_codes (Q₁:=λobj O=>obj=.ref s.heap.objs.size/\O={ s with heap:=s.heap.push { cls:=.type "dict",data:=.dict #[] } }) F.kt_called_dict (F.kt_typeCall_dict_1 _) F.entry_dict_init (kt_code_dict_new _ ⟨rfl,rfl⟩) ?_;rintro obj O ⟨rfl,rfl⟩;have c:(s.heap.push { cls:=.type "dict",data:=.dict #[] }).DictOf knd s.heap.objs.size []:=Heap.DictOf.new s.heap;refine⟨c.typeIs,F.args_dict_init_2 _ _,?_⟩;have f:(s.heap.push { cls:=.type "dict",data:=.dict #[] }).get? p=some { cls:=.type "list",data:=.seq its n,slots:=sl }:=L7 _ u;have P:s.heap.get? s.heap.objs.size=none:=Heap.get?_none_of_le (M8 _);unfold Builtin.«dict.__init__»;refine L1 ?_;unfold Builtin.Dict.selfAndRest;refine L1 (wpAny_notOrdered_dict c.typeIs ?_);show wpAny _ _ (pure (s.heap.objs.size,[Value.ref p])) _ _ _;refine M6 ?_;show wpAny _ _ (Builtin.Dict.updateFrom "dict.__init__" s.heap.objs.size (.ref p) [] .none) _ _ _;unfold Builtin.Dict.updateFrom;refine L1 (wpAny_typeOf (T:="list") ⟨_,f,rfl⟩ ?_);rw[if_pos (by decide)];refine L1 ?_;refine Kt (its:=its) (n:=n) ?_ f λl X d=>?_
 ·exact N
 ·rw[if_pos (show(Option.isNone (none:Option Value))=true from rfl)];refine L1 (wpAny_rule ?_);have g:=d p _ f;have x:l.IsList p its:=⟨_,g,rfl,n,rfl⟩;refine L1 (wpAny_pyIter_list x ?_);have y:=d s.heap.objs.size _ (E1 _ rfl);have B:p≠l.objs.size:=N5 (N0 g);have q:s.heap.objs.size≠l.objs.size:=N5 (N0 y);have C:s.heap.objs.size≠p:=λz=>by rw[<- z,P] at u;cases u
  refine M6 ⟨plainId_quiet F.plain_dict_loop _,?_⟩;refine jaf (A:=A.in1) (knd:=knd) (show A.in1.handled=none from N) B q C k its.size 0 _ [] (by lia) (U4 _) ⟨⟨_,E1 _ rfl,rfl,rfl⟩,?_⟩ ?_ (λS v U=>?_) (by simp;lia) λV D G H=>?_
  ·exact⟨_,L7 _ g,rfl,n,rfl⟩
  ·exact c.extBut (b:=l.objs.size) (λb o Y e=>L7 _ (d b o e)) q
  ·obtain⟨kv,I,t,J,m,po,rfl,i,L,M,r⟩:=R S v U;have e2:=d t _ (L7 _ i);refine⟨kv,I,⟨t,J,m,po,rfl,L7 _ e2,L,M,r⟩,λz=>?_,λz=>?_⟩
   ·have z:t=l.objs.size:=by injection z
    exact absurd z (N5 (N0 e2))
   ·have z:t=s.heap.objs.size:=by injection z
    rw[z,P] at i;cases i
  ·refine⟨rfl,h V D G λb o e=>?_⟩;have e2:=d b o (L7 _ e);exact H b o (N5 (N0 e2)) (N5 (N0 e)) (L7 _ e2)
end
end PySem
namespace L2
open PySem PySem.Spec PyProof.Rows
theorem xD(I:Inv X pins σ H s):∀{ys:List V}{its:List Value}{ps:List (Key×V)},Vals ys its->ys.length=ps.length ->
  (∀(j:Nat) (y:V),ys[j]?=some y->∃ kv t,ps[j]?=some kv/\y=.ref t/\SqT X.K H t [kV kv.1,kv.2]) ->
  ∃ qs:List (Key×Value),KV ps qs/\∀(j:Nat) (v:Value),its[j]?=some v->∃ kv,qs[j]?=some kv/\uA (jB X.prog X.w) s.heap v kv
 | [],its,ps,b,a,c=>by
  cases b;have:ps=[]:=List.length_eq_zero_iff.mp a.symm;subst this;exact⟨[],.nil,λj v e=>by simp at e⟩
 | y::ys,its,[],b,a,c=>by simp at a
 | y::ys,its,kv::ps,b,a,c=>by
  cases b with
  | cons i k =>
   rename_i u D;obtain⟨qs,r,q⟩:=xD I (ps:=ps) k (by simpa using a) λj y e=>c (j+1) y (by simpa using e);obtain⟨l,t,m,rfl,d⟩:=c 0 y rfl;cases m;cases(show u=Value.ref t from i);obtain⟨g,p,⟨o,e,x,n,hd⟩,_⟩:=I.tuple d;cases p with
   | cons z A =>
    cases A with
    | cons B C =>
     cases C;rename_i f val;refine⟨(kv.1,val)::qs,.cons ⟨rfl,B⟩ r,λj v h=>?_⟩;cases j with
     | zero =>
      cases h;exact⟨_,rfl,t,f,n,o,rfl,e,x,hd,QU z⟩
     | succ j=>exact q j v (by simpa using h)
theorem ja6:∀{ps:List (Key×V)}{qs:List (Key×Value)}{a:List (Key×V)}{b:List (Key×Value)},KV ps qs->KV a b->KV (ps.foldl (λa kv=>vC a kv.1 kv.2) a) (qs.foldl (λa kv=>stored a kv.1 kv.2) b)
 | [],_,_,_,.nil,h=>h
 | p::ps,q::qs,a,b,.cons c d,h=>by
  rw[U9,U9];refine ja6 d ?_;have:=h.put p.1 c.2;rw[c.1] at this ⊢;exact this
theorem jf1{ps:List (Key×V)}:∀{qs:List (Key×V)},(ps.foldl (λa kv=>vC a kv.1 kv.2) qs).length<=qs.length+ps.length:=by
 induction ps with
 | nil=>intro qs;simp
 | cons p ps b =>
  intro qs;rw[U9];have c:=b (qs:=vC qs p.1 p.2);have d:(vC qs p.1 p.2).length<=qs.length+1:=by unfold vC;split<;>simp
  rw[M0]
  lia
theorem wg{X:Cx}(C:X.calm=true):Jt X (.type "dict") (λxs H Q=>∃(p:Addr) (ys:List V) (ps:List (Key×V)),xs=[.ref p]/\SqL X.K H p ys/\ys.length=ps.length/\ps.length<=100000 /\
  (∀(j:Nat) (y:V),ys[j]?=some y->∃ kv t,ps[j]?=some kv/\y=.ref t/\SqT X.K H t [kV kv.1,kv.2])/\∀ D,H D=none->Q (.ref D) (upd H D (.dK (ps.foldl (λa kv=>vC a kv.1 kv.2) [])))):=by
 intro x s σ H xs R Q I r h;obtain⟨p,ys,ps,rfl,E,z,F,G,q⟩:=h;obtain⟨u,rfl,J⟩:=r.one;cases J;obtain⟨i,A,⟨o,n,e,b,c,d⟩,_⟩:=I.list E;obtain⟨oc,od,k,L⟩:=o;dsimp only at b c d;subst b c d;obtain⟨B,rel,l⟩:=xD I A z G;have f:i.toArray.size=B.length:=by rw[N2,<- A.length,z,rel.length]
 refine Va (knd:=jB X.prog X.w) (I.ok.hd C) e f (λj v M=>l j v (by simpa using M)) (by rw[<- rel.length];exact F) λS N hd O=>?_;have g:=ja6 rel (.nil:KV ([]:List (Key×V)) []);have m:=jf1 (ps:=ps) (qs:=[]);have P:sizeLine=16777216:=by decide
 exact⟨.ref s.heap.objs.size,_,I.laid (a:=s.heap.objs.size) (o:=.dK (ps.foldl (λa kv=>vC a kv.1 kv.2) [])) (t':=N) O (M8 _) (u8 (by simp at m;lia) (U1.mpr (Ne.symm (N5 I.big))) g hd),rfl,q _ (I.hok.fresh (M8 _))⟩
theorem Inv.layAll(I:Inv X pins σ H s)(k:∀ b u,s.heap.get? b=some u->h'.get? b=some u)(a:∀ b,H b≠none->H' b=H b)
  (new:∀ b o,H b=none->H' b=some o->s.heap.objs.size<=b/\ObjOk X.prog X.w H' h' b o):Inv X pins σ H' { s with heap:=h',toks:=t' }:=by
 refine I.un ⟨λb u q _ _ _=>k b u q,λb u q _ _ _=>⟨u.slots,k b u q⟩,λb u q n _=>?_,λb u q _=>⟨u,k b u q⟩,λb f q=>?_,λb o u q=>?_,λb g q=>⟨#[],?_⟩⟩ λb o e=>?_
 ·cases e:H' b with
  | none=>rfl
  | some o=>exact absurd (N0 q) (Nat.not_lt.mpr (new b o n e).1)
 ·rw[a b (by rw[q];exact λz=>nomatch z)];exact q
 ·rw[a b (by rw[q];exact λz=>nomatch z)];exact q
 ·rw[a b (by rw[q];exact λz=>nomatch z),q];simp
 ·by_cases n:H b=none
  ·exact(new b o n e).2
  ·have d:=e;rw[a b n] at d;exact(I.hok b o d).stay (λc u _ q=>k c u q) (λc q=>by rw[a c (by rw[q];exact λz=>nomatch z)];exact q) λc f q=>by rw[a c (by rw[q];exact λz=>nomatch z)];exact q
theorem jjW(h:(jB P w).is k u=true):RelV (kV k) u:=by
 rw[wx] at h;rcases jT h with⟨i,t,rfl,rfl⟩ | ⟨x,t,rfl,rfl⟩
 ·exact⟨t,rfl⟩
 ·exact⟨t,rfl⟩
def jV(H:Hp)(as:List Addr)(kvs:List (Key×V))(l:Addr):Hp:=λb=>if b=l then some (.lst (as.map V.ref)) else
 match (as.zip kvs).find? (λp=>p.1==b) with
 | some p=>some (.tup [kV p.2.1,p.2.2])
 | none=>H b
theorem V6{a:List Addr}{kvs:List (Key×V)}(d:a.Nodup){j:Nat}{p:Key×V}(h1:a[j]?=some b)(h2:kvs[j]?=some p):(a.zip kvs).find? (λq=>q.1==b)=some (b,p):=by
 induction a generalizing kvs j with
 | nil=>simp at h1
 | cons c a e =>
  cases kvs with
  | nil=>simp at h2
  | cons q kvs =>
   rw[U6,List.find?_cons];cases j with
   | zero =>
    simp at h1 h2;subst h1;subst h2;simp
   | succ j =>
    simp at h1 h2;have f:c≠b:=λz=>(List.nodup_cons.mp d).1 (z▸List.mem_of_getElem? h1);have:(c==b)=false:=U1.mpr f;simp only[this];exact e (List.nodup_cons.mp d).2 h1 h2
theorem kq{a:List Addr}{kvs:List (Key×V)}(h:b∉a):(a.zip kvs).find? (λq=>q.1==b)=none:=by
 rw[List.find?_eq_none];intro q c z;have:q.1=b:=by simpa using z
 exact h (this▸(List.of_mem_zip c).1)
theorem jhL:∀{A:List (Key×V)}{B:List (Key×Value)}{j:Nat},KV A B->B[j]?=some (kk,x)->∃ y,A[j]?=some (kk,y)/\RelV y x
 | [],_,j,.nil,e=>by simp at e
 | p0::A,c::B,0,.cons a b,e=>by
  simp at e;subst e;refine⟨p0.2,?_,a.2⟩;have:p0.1=kk:=a.1;simp[<- this]
 | p0::A,c::B,j+1,.cons a b,e=>by
  obtain⟨y,d,e2⟩:=jhL (j:=j) b (by simpa using e);exact⟨y,by simpa using d,e2⟩
def zf(td:TE):TE:=λσ H Q=>td σ H λx H1=>∃ a kvs,x=.ref a/\Rd H1 a (.dK kvs)/\∀(l:Addr) (as:List Addr),H1 l=none->as.length=kvs.length->(l::as).Nodup->(∀ b∈as,H1 b=none)->Q (.ref l) (jV H1 as kvs l)
theorem wW(hc:X.calm=true)(hg:Gl X "list")(hm:X.mg "list" = none)(hv:bootBuiltins "list" = some (.type "list"))(ho:PE X o td)
  (n:attributeBase o "items" X.env (eval o X.env)=eval o X.env:=by rfl) (r:(apos.endLine==cpos.line)=true:=by rfl)
  (he:starEach [.Call (.Attribute o "items" apos) [] [] cpos] X.env=(false,eval (.Call (.Attribute o "items" apos) [] [] cpos) X.env)::starEach [] X.env:=by rfl)
  (G:(backTo pos (starEach [] X.env)).any (·.1)=false:=by rfl)
  (J:backTo pos (starEach [.Call (.Attribute o "items" apos) [] [] cpos] X.env)=[(false,eval (.Call (.Attribute o "items" apos) [] [] cpos) X.env)]:=by rfl) :
  PE X (.Call (.Name "list" p) [.Call (.Attribute o "items" apos) [] [] cpos] [] pos) (zf td):=by
 intro C s σ H Q I h;refine wpAny_Call_Name_kw (YO I hg hm hv ?_ (by decide) (by decide));refine PyProof.Rows.callWith_type1 ?_ he G;rw[J];refine Calls.spliced_cons (wpAny_Call_method0_late n r (thn (ho C s σ H _ I h) λv s1 hh=>?_));obtain⟨x,H1,l,K,a,g,ex,S,T⟩:=hh;subst ex;obtain rfl:v=Value.ref a:=K;obtain⟨U,hd,L,M,dd⟩:=Q0 l.hok S;obtain⟨t1,t2,_⟩:=jdv l (.inl ⟨g,S⟩);refine⟨"dict","dict.items",PySem.F.plainAttrs_dict,PySem.F.slot_dict_items,PySem.F.type_dict_items,t1,t2,Calls.callWith_builtin rfl (PySem.evalArgs_none ?_)⟩;refine call_meetsIn PySem.F.slot_dict_items dd.typeIs PySem.F.entry_dict_items (PySem.F.args_dict_items_1 _) (meets_dict_items (jB X.prog X.w) a hd) ⟨⟨L,dd⟩,?_⟩;refine Calls.spliced_nil ?_;obtain⟨ob,es,N,d1,d2⟩:=dd;have O:(s1.heap.push { cls:=.type "dict_items",data:=.fields #[.ref a] }).DictAt (jB X.prog X.w) a L N:=⟨ob,es,L7 _ d1,d2⟩;refine PySem.W.kdx_call (s:={ s1 with heap:=s1.heap.push { cls:=.type "dict_items",data:=.fields #[.ref a] } }) (knd:=jB X.prog X.w) (kvs:=L) (ep:=N) (l.ok.hd hc) ⟨_,E1 _ rfl,rfl,rfl⟩ O (by rw[<- M.length];exact U) λh' tk acc c d hk V Y D m=>?_;have i:(s1.heap.push ({ cls:=.type "dict_items",data:=.fields #[.ref a] }:Obj)).objs.size=s1.heap.objs.size+1:=Heap.size_push _ _;have P:∀ b u,s1.heap.get? b=some u->h'.get? b=some u:=λb u e=>hk b u (L7 _ e);have nd:d.Nodup:=D.rise.imp λh=>N5 h;have t:d.length=g.length:=by rw[Y,M.length]
 have k:∀ b∈d,s1.heap.objs.size<=b:=λb f=>by have q:(s1.heap.push ({ cls:=.type "dict_items",data:=.fields #[.ref a] }:Obj)).objs.size < b:=D.above b f;rw[i] at q;lia
 have E:∀ b∈d,b≠(s1.heap.push ({ cls:=.type "dict_items",data:=.fields #[.ref a] }:Obj)).objs.size:=λb f=>Nat.ne_of_gt (D.above b f);refine⟨.ref _,jV H1 d g (s1.heap.push ({ cls:=.type "dict_items",data:=.fields #[.ref a] }:Obj)).objs.size,l.layAll P (λb f=>?_) (λb u f e=>?_),rfl,T _ d (l.hok.fresh (by rw[i];lia)) t (List.nodup_cons.mpr ⟨λz=>E _ z rfl,nd⟩) λb f=>l.hok.fresh (k b f)⟩
 ·unfold jV;rw[if_neg (λz=>f (by rw[z];exact l.hok.fresh (by rw[i];lia))),kq λz=>f (l.hok.fresh (k b z))]
 ·unfold jV at e;by_cases A:b=(s1.heap.push ({ cls:=.type "dict_items",data:=.fields #[.ref a] }:Obj)).objs.size
  ·rw[if_pos A] at e;cases e;subst A;refine⟨by rw[i];lia,by rw[L0,t];exact U,d.map Value.ref,c,?_,?_⟩
   ·clear V m D Y nd t k E T
    induction d with
    | nil=>exact .nil
    | cons x d ih=>exact .cons rfl ih
   ·rw[V,<- m]
  ·rw[if_neg A] at e;by_cases B:b∈d
   ·obtain⟨j,Z⟩:=List.mem_iff_getElem?.mp B;obtain⟨R,kk,x,e1,e2,e3⟩:=D.pairs j b Z;obtain⟨y,ey,K⟩:=jhL M e1;rw[V6 nd Z ey] at e;cases e;exact⟨k b B,show 2<=sizeLine by decide,[R,x],.cons (jjW e2) (.cons K .nil),⟨_,e3,rfl,0,rfl⟩,_,e3,rfl⟩
   ·rw[kq B] at e;exact absurd e (by rw[f];exact λz=>nomatch z)
structure KD(P:Program)(w:World)(K:PySem.W.Frag)(a:Addr)(kvs:List (Key×V)):Prop where
 nm:(a==sysModules)=false
 dd:∀ h:Heap,K.In h->∃ vs,KV kvs vs/\h.DictOf (jB P w) a vs
section
theorem jhz(ft:TypeCalled T nw it)
  (q:checkTypeCall T ⟨xs,kw⟩=pure ()) (d:checkBuiltinCall nw ⟨.type T::xs,kw⟩=pure ()) (f:entryFor table nw=some Bn) (i:entryFor table it=some Bi)
  (g:Meets (Bn ⟨.type T::xs,kw⟩) Sn) (h:Sn A.in1 (wants Q1 E) s)
  (nx:∀ obj s1,Q1 obj s1->s1.TypeIs obj T/\argsOk it ⟨obj::xs,kw⟩/\∃ Si,MeetsIn prog w (Bi ⟨obj::xs,kw⟩) Si/\Si A.in1 (wants (λr s2=>r=.none/\Q obj s2) E) s1) :
  wpAny (model prog w) A (call (.type T) xs kw) Q E s:=by
 obtain⟨c,t,u⟩:=ft.mro;have v:=ft.made;have x:=ft.sub;refine wpAny_call (codeAny_of_tree ?_);show wpAny _ _ (callAny (.type T) _) _ _ _;refine M6 ⟨Code.quiet_builtin _ (by decide +kernel),codeAny_builtin F.entry_type_call ?_⟩;rw[Around.under_plain (weight_type_call_type T xs kw) (units_type_call_type T xs kw)];have y:=ft.notType;have z:=ft.canCreate
 repeat (any_goals (first | assumption | wp_step))
 refine codeAny_mono (codeAny_call_builtin ft.plain f (wpAny_of_eq d (g prog w A.in1 _ s h))) λr s1 b=>?_;cases r with
 | error e=>exact b
 | ok j =>
  cases j with
  | ret obj =>
   obtain⟨k,l,Si,m,n⟩:=nx _ _ b;have B:=ft.init.lookup;have C:=ft.init.bind obj
   repeat (any_goals (first | assumption | wp_step))
   refine codeAny_mono (codeAny_call_builtin ft.init.plain i (ft.init.check _ _ _ _ _ _ _ _ k l (m A.in1 _ s1 n))) λo s2 a=>?_;cases o with
   | error e=>exact a
   | ok p =>
    cases p with
    | ret r =>
     obtain⟨rfl,D⟩:=a
     repeat (any_goals (first | assumption | wp_step))
    | _=>exact a.elim
  | _=>exact b.elim
theorem jgJ(c:typeLookup (.type T) "__init__" = pure (some (.builtin "object.__init__")))
  (d:Bind.madeBy (.type T)=pure (some nw)) (e:(some nw != some "object.__new__")=true) :
  Meets (Builtin.«object.__init__» ⟨self::x::xs,kw⟩) (λ_ R s=>s.TypeIs self T/\R (.ok (.ret .none)) s):=by
 refine Meets.of_wp λprog w A R s a=>?_;obtain⟨f,b⟩:=a
 repeat (any_goals (first | assumption | wp_step))
 exact⟨_,rfl,b⟩
theorem jjy(a b:Value):checkTypeCall "enumerate" ⟨[a],[("start",b)]⟩=pure ():=by kernel_rfl
theorem jjB(a b:Value):checkBuiltinCall "enumerate.__new__" ⟨[.type "enumerate",a],[("start",b)]⟩=pure ():=by kernel_rfl
theorem jku(a b c:Value):argsOk "object.__init__" ⟨[a,b],[("start",c)]⟩:=by
 unfold argsOk;rw[signature?_of (id:="object.__init__") (n:=['_','_','t','i','n','i','_','_']) (o:=['t','c','e','j','b','o']) (by kernel_rfl) F.owner_object];kernel_rfl
open AutoSeq1 (wpAny_loadPart') in
theorem jdP(l:Addr)(us:Array Value)(m:Nat)(dc:Option Addr)(sl:Array (Option Value))(n:Int)(t:Tok)(j:Builtin.SmallTypes.fitsIndex n=true) :
  Meets (Builtin.«enumerate.__new__» ⟨[.type "enumerate",.ref l],[("start",.int n t)]⟩) (λ_ R s=>s.heap.get? l=some { cls:=.type "list",dict:=dc,data:=.seq us m,slots:=sl } /\
   R (.ok (.ret (.ref (s.heap.push { cls:=.type "list_iterator",data:=.fields #[.ref l,.int 0 0] }).objs.size)))
    { s with heap:=(s.heap.push { cls:=.type "list_iterator",data:=.fields #[.ref l,.int 0 0] }).push { cls:=.type "enumerate",data:=.fields #[.none,.bool false,.ref s.heap.objs.size,rawInt n,.none,.none] } }) :=
 .of_wp λprog w A R s h=>by
  obtain⟨f,g,d,i,os⟩:=s;obtain⟨a,h⟩:=h;have e:=sub_enumerate;have b:Heap.IsList (Shared.heap ⟨f,g,d,i,os⟩) l us:=⟨_,a,rfl,m,rfl⟩
  wp_walk using wpAny_loadPart' a
  refine wpAny_stack_any λk=>M6 ?_;split
  ·rename_i c _ _ _ _ _;cases(c==Value.type "enumerate")
   ·wp_walk using wpAny_loadPart' a,wpAny_pyIter_list b
    exact⟨_,rfl,h⟩
   ·wp_walk using wpAny_loadPart' a,wpAny_pyIter_list b
    exact⟨_,rfl,h⟩
  ·wp_walk using wpAny_loadPart' a,wpAny_pyIter_list b
   exact⟨_,rfl,h⟩
theorem jdX(f:s.heap.IsList l us)(g:Builtin.SmallTypes.fitsIndex n=true)
  (go:∀ k,IsEnum k (s.heap.objs.size+1) s.heap.objs.size n .none->k.IsListIter s.heap.objs.size l 0->(∀ b o,s.heap.get? b=some o->k.get? b=some o)->C (.ref (s.heap.objs.size+1)) { s with heap:=k }) :
  wpAny (model prog w) A (call (.type "enumerate") [.ref l] [("start",.int n t)]) C E s:=by
 obtain⟨⟨c,h,i,j⟩,p,a,m,hd⟩:=f;replace a:c=.type "list":=a;replace hd:i=.seq us m:=hd;subst a hd;refine jhz (Q1:=λobj s1=>s1.TypeIs obj "enumerate"/\C obj s1) F.called_enumerate (jjy _ _) (jjB _ _) F.entry_enumerate_new F.entry_object_init (jdP l us m h j n t g) ⟨p,?_⟩
  λobj _ q=>⟨q.1,jku _ _ _,_,(jgJ F.called_enumerate.init.lookup F.called_enumerate.made (by decide)).inModel _ _,q.1,rfl,q.2⟩
 have d:(s.heap.push { cls:=.type "list_iterator",data:=.fields #[.ref l,.int 0 0] }).objs.size=s.heap.objs.size+1:=Heap.size_push ..;show _/\_;rw[d];have e:IsEnum ((s.heap.push { cls:=.type "list_iterator",data:=.fields #[.ref l,.int 0 0] }).push { cls:=.type "enumerate",data:=.fields #[.none,.bool false,.ref s.heap.objs.size,rawInt n,.none,.none] }) (s.heap.objs.size+1) s.heap.objs.size n .none:=by
  have q:=E1 (s.heap.push { cls:=.type "list_iterator",data:=.fields #[.ref l,.int 0 0] }) (o:={ cls:=.type "enumerate",data:=.fields #[.none,.bool false,.ref s.heap.objs.size,rawInt n,.none,.none] }) rfl;rw[d] at q;exact q
 exact⟨⟨_,e,rfl⟩,go _ e ⟨_,L7 _ (E1 _ rfl),rfl,rfl⟩ λb o x=>L7 _ (L7 _ x)⟩
theorem jgf{A:Around}{E:Value->Shared->Prop}{s:Shared}{i:Nat}{n:Int}{us:Array Value}{C:Value->Shared->Prop}
  (H:IsEnum s.heap e it n was) (hi:s.heap.IsListIter it l i) (Q:s.heap.IsList l us) (R:us[i]?=some x) (ne:e≠it)
  (go:∀ k,IsEnumOut k e it (n+1) x s.heap.objs.size->k.IsListIter it l (i+1)->k.get? s.heap.objs.size=some { cls:=.type "tuple",data:=.seq #[.int n s.toks,x] } ->
   (∀ b o,b≠e->b≠it->s.heap.get? b=some o->k.get? b=some o)->C (.ref s.heap.objs.size) { s with heap:=k,toks:=s.toks+1 }) :
  wpAny (model prog w) A (Builtin.«enumerate.__next__» ⟨[.ref e],[]⟩) (λfin s'=>∃ v,fin=.done (.ret v)/\C v s') E s:=by
 obtain⟨c,g,d,a,os⟩:=s;show wpAny _ _ (field (.ref e) 2 >>= _) _ _ _;refine L1 (U5 H rfl (x:=.ref it) rfl (L1 (wpAny_nextOf_list_item hi Q R λf P m=>?_)));replace m:Heap.SameBut it c f:=m;have B:IsEnum f e it n was:=(m.2 e ne).trans H;show wpAny _ _ (field (.ref e) 3 >>= _) _ _ ⟨f,g,d,a,os⟩;refine L1 (U5 B rfl (x:=rawInt n) rfl ?_);show wpAny _ _ (field (.ref e) 4 >>= _) _ _ ⟨f,g,d,a,os⟩;refine L1 (U5 B rfl (x:=.none) rfl ?_);show wpAny _ _ (mkInt n >>= _) _ _ ⟨f,g,d,a,os⟩;refine L1 (wpAny_mkInt ?_);show wpAny _ _ (setField (.ref e) 3 (rawInt (n+1)) >>= _) _ _ ⟨f,g,d,a+1,os⟩;refine L1 (wpAny_setField_rec B (by simp) λt e2 p=>?_);replace p:Heap.SameBut e f t:=p;replace e2:IsEnum t e it (n+1) was:=e2;show wpAny _ _ (setField (.ref e) 4 .none >>= _) _ _ ⟨t,g,d,a+1,os⟩;refine L1 (wpAny_setField_rec e2 (by simp) λh e3 q=>?_);replace q:Heap.SameBut e t h:=q;replace e3:IsEnum h e it (n+1) was:=e3;show wpAny _ _ (newTuple [.int n a,x] >>= _) _ _ ⟨h,g,d,a+1,os⟩;refine L1 (wpAny_newTuple ?_);have D:IsEnum (h.push { cls:=.type "tuple",data:=.seq #[.int n a,x] }) e it (n+1) was:=L7 _ e3;generalize F:h.push { cls:=.type "tuple",data:=.seq #[.int n a,x] }=k4 at D;have I:h.objs.size=c.objs.size:=by rw[q.1,p.1,m.1]
 have lt:e < c.objs.size:=N0 H;have S:k4.get? c.objs.size=some { cls:=.type "tuple",data:=.seq #[.int n a,x] }:=by rw[<- F,<- I];exact E1 _ rfl
 have kp:∀ b o,b≠e->b≠it->c.get? b=some o->k4.get? b=some o:=λb o j J K=>by
  rw[<- F];exact L7 _ (q.extBut b o j (p.extBut b o j (m.extBut b o J K)))
 have T:k4.IsListIter it l (i+1):=by
  rw[<- F];obtain⟨o,U,r⟩:=(P.extBut p.extBut ne.symm).extBut q.extBut ne.symm;exact⟨o,L7 _ U,r⟩
 show wpAny _ _ (Builtin.SmallTypes.ownedTupleIsFree (.ref e) >>= _) _ _ ⟨k4,g,d,a+1,os⟩;rw[I];clear F e3 q e2 p B m P I h t f;refine L1 ?_;delta Builtin.SmallTypes.ownedTupleIsFree;refine L1 (U5 D rfl (x:=.none) rfl (M6 ?_));simp only[if_true];refine L1 (wpAny_rule (L1 (U5 D rfl (x:=was) rfl (L1 (wpAny_setField_rec D (by simp) λG e5 u=>?_)))));replace u:Heap.SameBut e k4 G:=u;replace e5:IsEnum G e it (n+1) x:=e5;show wpAny _ _ (Builtin.SmallTypes.ownedTupleHandOut (.ref e) (.ref c.objs.size) >>= _) _ _ ⟨G,g,d,a+1,os⟩;refine L1 ?_;delta Builtin.SmallTypes.ownedTupleHandOut;refine L1 (wpAny_setField_rec e5 (by simp) λL M y=>?_);replace y:Heap.SameBut e G L:=y;replace M:IsEnumOut L e it (n+1) x c.objs.size:=M;refine wpAny_setField_rec M (by simp) λN O z=>?_;replace z:Heap.SameBut e L N:=z;replace O:IsEnumOut N e it (n+1) x c.objs.size:=O;refine L1 (wpAny_letGo (M6 ⟨_,rfl,go N O ?_ ?_ ?_⟩))
 ·exact((T.extBut u.extBut ne.symm).extBut y.extBut ne.symm).extBut z.extBut ne.symm
 ·exact z.extBut _ _ (Nat.ne_of_gt lt) (y.extBut _ _ (Nat.ne_of_gt lt) (u.extBut _ _ (Nat.ne_of_gt lt) S))
 ·exact λb o j J K=>z.extBut b o j (y.extBut b o j (u.extBut b o j (kp b o j J K)))
theorem jeV 
  (a:IsEnum s.heap e it n was) (hi:s.heap.IsListIter it l i) (c:s.heap.IsList l us) (d:us[i]?=some x) (ne:e≠it)
  (go:∀ k,IsEnumOut k e it (n+1) x s.heap.objs.size->k.IsListIter it l (i+1)->k.get? s.heap.objs.size=some { cls:=.type "tuple",data:=.seq #[.int n s.toks,x] } ->
   (∀ b o,b≠e->b≠it->s.heap.get? b=some o->k.get? b=some o)->C (some (.ref s.heap.objs.size)) { s with heap:=k,toks:=s.toks+1 }):wpAny (model prog w) A (pyNext (.ref e)) C E s:=by
 have ty:s.TypeIs (.ref e) "enumerate":=⟨_,a,rfl⟩;unfold pyNext;exact L1 (wpAny_attempt (wpAny_callSpecial?_slot (name:=Str.ofString "__next__") ty F.slot_enumerate_next
  (wpAny_call_entry F.slot_enumerate_next ty F.entry_enumerate_next (jgf a hi c d ne λk f g h j=>M6 (go k f g h j)) (F.args_enumerate_next_1 _))))
theorem jfm(d:A.handled=none)
  (c:IsEnum s.heap e it n was) (hi:s.heap.IsListIter it l i) (f:s.heap.IsList l us) (a:us[i]?=none)
  (go:∀ k,Heap.ExtBut it s.heap k->C none { s with heap:=k }):wpAny (model prog w) A (pyNext (.ref e)) C E s:=by
 have ty:s.TypeIs (.ref e) "enumerate":=⟨_,c,rfl⟩;unfold pyNext;refine L1 (wpAny_attempt (wpAny_callSpecial?_slot (name:=Str.ofString "__next__") ty F.slot_enumerate_next (wpAny_call_entry F.slot_enumerate_next ty F.entry_enumerate_next ?_ (F.args_enumerate_next_1 _))));show wpAny _ _ (field (.ref e) 2 >>= _) _ _ _;refine L1 (U5 c rfl (x:=.ref it) rfl (L1 (wpAny_nextOf_list_end d hi f a λk x b a=>?_)));obtain⟨o,g,h⟩:=a;exact L1 (wpAny_isInstance (T:="StopIteration") (b:=true) ⟨o,g,h⟩ isSubtype_stop (M6 (go _ b)))
end
def Itn(K:PySem.W.Frag)(l:Addr)(n:Int):It :=
 ⟨λi H=>∃ xs x,SqL K H l xs/\xs[i]?=some x,λi H x H'=>∃ p v,(∀ xs,SqL K H l xs->xs[i]?=some v)/\x=.ref p/\H p=none/\H'=upd H p (.tup [.int (n+i),v]),λi H=>∃ xs,SqL K H l xs/\xs.length<=i⟩
theorem jft{P:Program}{w:World}{K:PySem.W.Frag}{y:List Expr}{m:Nat}{pos:Pos}(e a l:Addr)(n:Int)(A:e≠a)(hle:l≠e)(hli:l≠a) :
  Turn P w K (.Tuple y m pos) (Itn K l n) [e,a] e (λi h=>(∃ old,IsEnum h e a (n+i) old)/\h.IsListIter a l i) where
 mem:=by simp
 obj:=λi h f b g=>by
  obtain⟨⟨old,j⟩,o,M,N,hd⟩:=f;rcases(by simpa using g:b=e \/ b=a) with z | z
  ·subst z;exact⟨_,j,λv q=>by cases q⟩
  ·subst z;exact⟨o,M,λv q=>by rw[hd] at q;cases q⟩
 keep:=λi h h' f k=>by
  obtain⟨⟨old,j⟩,c⟩:=f;exact⟨⟨old,k e (by simp) _ j⟩,c.at λo q=>k a (by simp) o q⟩
 item:=by
  intro X O Q R N i B s σ H E I J f S;subst O Q R;obtain⟨xs,x,L,U⟩:=S;obtain⟨C,V,p,hz⟩:=I.list L;obtain⟨u,hu,ru⟩:=V.get U;obtain⟨⟨old,j⟩,c⟩:=f;refine jeV j c p.isList (x:=u) (by simpa using hu) A λY M D hT hk=>?_;refine⟨_,rfl,wpAny_letOwnedTupleGo_enum (s:={ s with heap:=Y,toks:=s.toks+1 }) M λF Z d=>?_⟩;replace d:Heap.SameBut e Y F:=d;have r:e < s.heap.objs.size:=N0 j;have G:F.get? s.heap.objs.size=_:=(d.2 _ (Nat.ne_of_gt r)).trans hT;have kk:∀ b o,b∉[e,a]->s.heap.get? b=some o->F.get? b=some o:=λb o g q=>by
   have t:b≠e/\b≠a:=by simpa using g
   exact(d.2 b t.1).trans (hk b o t.1 t.2 q)
  have I1:=I.turnedNew (h':=F) (t':=s.toks+1) (wr:=[e,a]) (T:=s.heap.objs.size) (xs:=[.int (n+i),x]) (its:=#[.int (n+i) s.toks,u]) kk J (M8 _) ⟨⟨_,G,rfl,_,rfl⟩,_,G,rfl⟩ (.cons ⟨_,rfl⟩ (.cons ru .nil)) (by show 2<=sizeLine;decide);have he3:IsEnum F e a (n+((i+1:Nat):Int)) u:=by
   have q:=Z;rw[show n+((i+1:Nat):Int)=n+i+1 by lia];exact q
  refine⟨.ref s.heap.objs.size,_,I1,rfl,⟨_,x,(λys hy=>by rw[I.list_inj hy L];exact U),rfl,I.hok.fresh (M8 _),rfl⟩,⟨⟨_,he3⟩,D.at λo q=>(d.2 a A.symm).trans q⟩,λb g=>?_⟩;rw[jf]
  ·exact(J b g).1
  ·intro z;have:b < s.heap.objs.size:=by
    obtain⟨oi,hoi,_⟩:=id c;rcases(by simpa using g:b=e \/ b=a) with q | q
    ·rw[q];exact r
    ·rw[q];exact N0 hoi
   exact absurd this (by rw[z];exact Nat.lt_irrefl _)
 done:=by
  intro X O Q R N i B s σ H E I J f S;subst O Q R;obtain⟨xs,L,U⟩:=S;obtain⟨C,V,p,hz⟩:=I.list L;obtain⟨⟨old,j⟩,c⟩:=f;have hl:=V.length;exact jfm (I.ok.hd N) j c p.isList (by simp;lia) λY eb=>⟨rfl,I.turnedL (t':=s.toks) (wr:=[e,a]) (λb o g q=>eb b o (by simp at g;exact g.2) q) J⟩
 self:=λ_ _ _ _ _ f h=>wpAny_pyIter_enum f.1.choose_spec h
def jje(K:PySem.W.Frag)(tl:TA)(tb:TE):TI:=λσ H R=>tl σ H λvs H1=>tb σ H1 λv H2=>∃ a xs n,vs=[.ref a]/\v=.int n/\Builtin.SmallTypes.fitsIndex n=true/\SqL K H2 a xs/\R (Itn K a n) H2
theorem jkf{X:Cx}{f:List Expr}{m:Nat}{tpos p pos kpos:Pos}{a b:Expr}{ta:TA}{tb:TE}(L:Gl X "enumerate")(M:X.mg "enumerate" = none)(N:PA X [a] ta)(B:PE X b tb)(E:starEach [a] X.env=[(false,eval a X.env)]:=by rfl) :
  PI X (.Tuple f m tpos) (.Call (.Name "enumerate" p) [a] [⟨some "start",b,kpos⟩] pos) (jje X.K ta tb):=by
 intro c s σ H R I h;refine wpAny_Call_Name_kw (YO I L M (show bootBuiltins "enumerate" = some (.type "enumerate") by decide +kernel) ?_);unfold callWith;have C:((backTo pos (starEach [a] X.env)).any (·.1)||(backToKw pos (keywordEach [⟨some "start",b,kpos⟩] X.env)).any (·.1.isNone))=false:=by rw[E];rfl
 rw[C];refine L1 (wpAny_holding ?_);have F:=N pos c s σ H _ I h;rw[E] at F ⊢;refine wpAny_mono (evalArgs_kw (Q:=λx s1=>wpAny (model X.prog X.w) X.A (call (.type "enumerate") x.pos x.kw) (λv s1=>wpAny (model X.prog X.w) X.A (pyIter v) (PIE X c σ (.Tuple f m tpos) R) X.xe s1) X.xe s1) rfl (thn F λus s1 ⟨vs,O,P,S,T⟩=>?_)) (λx s1 j=>L1 (wpAny_standAt ?_)) λ_ _ x=>x
 ·refine wpAny_evalAll_cons ?_;show wpAny _ _ (eval b X.env >>= λv=>standAt pos >>= λ_=>pure v) _ _ _;refine L1 (thn (B c s1 σ O _ P T) λv d ⟨y,G,k,U,V⟩=>L1 (wpAny_standAt (M6 (wpAny_evalAll_nil ?_))));obtain⟨l,xs,n,rfl,rfl,W,Y,q⟩:=V;obtain⟨u,rfl,Z⟩:=S.one;cases Z;obtain⟨t,rfl⟩:=U;obtain⟨its,rv,pl,hz⟩:=k.list Y;have g:l < d.heap.objs.size:=by
   obtain⟨o,_,e,_⟩:=pl;exact N0 e
  refine jdX pl.isList W λj J D hk=>?_;have I3:Inv X c σ G { d with heap:=j }:=k.kept (t':=d.toks) hk;refine PySem.wpAny_pyIter_enum (s:={ d with heap:=j }) J ?_;refine⟨d.heap.objs.size+1,[d.heap.objs.size+1,d.heap.objs.size],_,_,G,rfl,I3,jft _ _ l n (Nat.succ_ne_self _) (N5 (Nat.lt_succ_of_lt g)) (N5 g),⟨⟨_,by simpa using J⟩,D⟩,λb B=>?_,q⟩;have i:d.heap.objs.size<=b:=by
   rcases(by simpa using B:b=d.heap.objs.size+1 \/ b=d.heap.objs.size) with z | z
   ·rw[z];exact Nat.le_succ _
   ·rw[z];exact M8 _
  exact k.fpOk i (k.hok.fresh i)
 ·refine L1 (M6 ?_);exact L1 (wpAny_mono j (λr d hr=>L1 (wpAny_holding (wpAny_point (M6 hr)))) λ_ _ x=>x)
end L2
namespace PySem
open Sem (wp)
namespace F
end F
end PySem
namespace L2
open PySem PySem.Spec PyProof.Rows
end L2
namespace PySem
open Sem (wp)
section
variable {prog:Program}{w:World}{K:Type} [DecidableEq K] {knd:KeyKind prog w K}{A:Around}{E:Value->Shared->Prop}{s:Shared}
theorem qc(x:IsTupleKey knd h k a)(c:∀ o,h.get? a=some o->h'.get? a=some o):IsTupleKey knd h' k a:=by
 obtain⟨o,b,n,d,e,f,g⟩:=x;exact⟨o,b,n,c o d,e,f,g⟩
theorem YY{h h':Heap}{xs:List (List K×Addr×Value)}(d:h.DictOfH (tupleKind knd) D xs)(b:∀ o,h.get? D=some o->h'.get? D=some o)(c:∀ x∈xs,∀ o,h.get? x.2.1=some o->h'.get? x.2.1=some o):h'.DictOfH (tupleKind knd) D xs:=by
 obtain⟨o,e,f,g,i,j,k,l,m⟩:=d;exact⟨o,e,f,b o g,i,j,k,λx a=>qc (l x a) (c x a),m⟩
def zi(knd:KeyKind prog w K)(h:Heap)(v:Value)(kv:List K×Addr×Value):Prop:=∃ p m o,v=.ref p/\h.get? p=some o/\o.cls=.type "tuple"/\o.data=.seq #[.ref kv.2.1,kv.2.2] m/\IsTupleKey knd h kv.1 kv.2.1
theorem zr{xs:List (List K×Addr×Value)}{k:List K}{x:List K×Addr×Value}(h:x∈storedH xs k a v):x.2.1=a \/ ∃ y∈xs,x.2.1=y.2.1:=by
 unfold storedH at h;split at h
 ·obtain⟨y,b,rfl⟩:=M5.mp h;refine .inr ⟨y,b,?_⟩;unfold putAt;split<;>rfl
 ·rcases N1.mp h with h | h
  ·exact .inr ⟨x,h,rfl⟩
  ·rw[M7.mp h];exact .inl rfl
theorem QM(xs:List (List K×Addr×Value))(k:List K)(a:Addr)(v:Value):(storedH xs k a v).length<=xs.length+1:=by
 unfold storedH;split<;>simp
theorem wO{R:Result->Shared->Prop}(hh:A.handled=none)(hu:A.units+1 < cLine)  (B:ax≠I) (q:D≠I) (Y:D≠ax) {items:Array Value}{ps:List (List K×Addr×Value)}(C:items.size=ps.length):∀(k i:Nat) (s:Shared) (xs:List (List K×Addr×Value)),
  items.size - i=k->i<=items.size->(s.heap.IsListIter I ax i/\s.heap.IsList ax items)->s.heap.DictOfH (tupleKind knd) D xs->(∀ x∈xs,x.2.1≠I) ->
  (∀(j:Nat) (v:Value),items[j]?=some v->∃ kv,ps[j]?=some kv/\zi knd s.heap v kv/\v≠.ref I/\v≠.ref D/\kv.2.1≠I/\kv.2.1≠D)->xs.length+k<=100000 ->
  (∀ h' tk,h'.DictOfH (tupleKind knd) D ((ps.drop i).foldl (λa kv=>storedH a kv.1 kv.2.1 kv.2.2) xs)->(∀ b o,b≠I->b≠D->s.heap.get? b=some o->h'.get? b=some o)->R (.ok (.ret .none)) { s with heap:=h',toks:=tk }) ->
  codeAny (model prog w) A (.builtin "dict.update.loop" ⟨[.ref D,.ref I,rawInt i,.none],[]⟩) R s:=by
 intro k
 induction k with
 | zero =>
  intro i s xs hk hi r hd d Z hz hR;have hin:i=items.size:=by lia
  subst hin;have W:=Walks.list (prog:=prog) (w:=w) (A:=A.in1) (by exact hh) I ax B items;refine codeAny_builtin F.entry_dict_loop ?_;rw[Around.under_plainId F.plain_dict_loop _];show wpAny _ A.in1 (pyNext (.ref I) >>= _) _ _ s;refine L1 (W.done s _ _ r λh' tk c=>?_);have fin:=hR h' tk (by rw[C,List.drop_length];exact YY hd (λo e=>c D o (by simpa using q) e) (λx E o e=>c _ o (by simpa using d x E) e)) (λb o f _ e=>c b o (by simpa using f) e);unfold Builtin.Dict.addKeywords
  repeat (any_goals (first | assumption | wp_step))
 | succ k ih =>
  intro i s xs hk hi r hd d Z hz hR;have G:i < items.size:=by lia
  have W:=Walks.list (prog:=prog) (w:=w) (A:=A.in1) (by exact hh) I ax B items;refine codeAny_builtin F.entry_dict_loop ?_;rw[Around.under_plainId F.plain_dict_loop _];show wpAny _ A.in1 (pyNext (.ref I) >>= _) _ _ s;refine L1 (W.item i s _ _ G r λv h' tk hP H c=>?_);obtain⟨kv,J,⟨p,m,po,rfl,hpo,hpc,hpd,L⟩,hvI,hvD,M,haD⟩:=Z i v hP;have N:h'.get? p=some po:=c p _ (by simpa using λz=>hvI (by rw[z])) hpo;have t:IsTupleKey knd h' kv.1 kv.2.1:=qc L λo e=>c _ o (by simpa using M) e;have hd':h'.DictOfH (tupleKind knd) D xs:=YY hd (λo e=>c D o (by simpa using q) e) (λx E o e=>c _ o (by simpa using d x E) e);refine L1 (wpAny_holding ?_);refine L1 (wpAny_tryCatch (Vl N hpc hpd ?_));show wpAny _ _ (holding [.ref kv.2.1,kv.2.2] (dictSet D (.ref kv.2.1) kv.2.2)) _ _ _;have hsz:sizeLine=16777216:=by decide
  refine wpAny_holding (wpAny_dictSet_heap (hsz:=by lia) (knd:=tupleKind knd) (tupleKind_room_in1 hu) t hd' λh'' O X=>?_);refine M6 ⟨plainId_quiet F.plain_dict_loop _,?_⟩;have hd2:ps.drop i=kv::ps.drop (i+1):=by
   have P:i < ps.length:=by lia
   rw[List.drop_eq_getElem_cons P];have:ps[i]=kv:=by
    rw[X8 P] at J;exact X7 J
   rw[this]
  refine ih (i+1) _ (storedH xs kv.1 kv.2.1 kv.2.2) (by lia) G (W.frame (i+1) h' h'' H λb f o e=>(X.2 b ?_).trans e) O (λx E=>?_) (λj v hv=>?_) ?_ λh3 tk3 hd3 hk3=>?_
  ·rcases M4.mp f with rfl | f
   ·exact λz=>q z.symm
   ·rw[M7.mp f];exact λz=>Y z.symm
  ·rcases zr E with e | ⟨y,hy,e⟩
   ·rw[e];exact M
   ·rw[e];exact d y hy
  ·obtain⟨kv',Q,⟨p',m',po',rfl,S,T,U,u⟩,g,h,l,n⟩:=Z j v hv;refine⟨kv',Q,⟨p',m',po',rfl,?_,T,U,qc u λo e=>?_⟩,g,h,l,n⟩
   ·exact(X.2 p' λz=>h (by rw[z])).trans (c p' _ (by simpa using λz=>g (by rw[z])) S)
   ·exact(X.2 _ n).trans (c _ o (by simpa using l) e)
  ·have:=QM xs kv.1 kv.2.1 kv.2.2
   lia
  ·refine hR h3 tk3 ?_ λb o f V e=>hk3 b o f V ((X.2 b V).trans (c b o (by simpa using f) e));rw[hd2,U9];exact hd3
theorem YK{its:Array Value}{n:Nat}{sl:Array (Option Value)}{ps:List (List K×Addr×Value)}{Q:Value->Shared->Prop}(P:A.handled=none)(Z:A.units+10 < cLine)(g:s.heap.get? p=some { cls:=.type "list",data:=.seq its n,slots:=sl })(r:its.size=ps.length)
  (U:∀(j:Nat) (v:Value),its[j]?=some v->∃ kv,ps[j]?=some kv/\zi knd s.heap v kv) (hz:ps.length<=100000)
  (h:∀ h' tk,h'.DictOfH (tupleKind knd) s.heap.objs.size (ps.foldl (λa kv=>storedH a kv.1 kv.2.1 kv.2.2) [])->(∀ b o,s.heap.get? b=some o->h'.get? b=some o)->Q (.ref s.heap.objs.size) { s with heap:=h',toks:=tk }) :
  wpAny (model prog w) A (call (.type "dict") [.ref p]) Q E s:=by
 refine callType_codes (Q₁:=λobj R=>obj=.ref s.heap.objs.size/\R={ s with heap:=s.heap.push { cls:=.type "dict",data:=.dict #[] } }) F.kt_called_dict (F.kt_typeCall_dict_1 _) F.entry_dict_init (kt_code_dict_new _ ⟨rfl,rfl⟩) ?_;rintro obj R ⟨rfl,rfl⟩;have d:(s.heap.push { cls:=.type "dict",data:=.dict #[] }).DictOfH (tupleKind knd) s.heap.objs.size []:=Heap.DictOfH.new s.heap;refine⟨d.typeIs,F.args_dict_init_2 _ _,?_⟩;have i:(s.heap.push { cls:=.type "dict",data:=.dict #[] }).get? p=some { cls:=.type "list",data:=.seq its n,slots:=sl }:=L7 _ g;have y:s.heap.get? s.heap.objs.size=none:=Heap.get?_none_of_le (M8 _);unfold Builtin.«dict.__init__»;refine L1 ?_;unfold Builtin.Dict.selfAndRest;refine L1 (wpAny_notOrdered_dict d.typeIs ?_);show wpAny _ _ (pure (s.heap.objs.size,[Value.ref p])) _ _ _;refine M6 ?_;show wpAny _ _ (Builtin.Dict.updateFrom "dict.__init__" s.heap.objs.size (.ref p) [] .none) _ _ _;unfold Builtin.Dict.updateFrom;refine L1 (wpAny_typeOf (T:="list") ⟨_,i,rfl⟩ ?_);rw[if_pos (by decide)];refine L1 ?_;refine Kt (its:=its) (n:=n) ?_ i λt t2 c=>?_
 ·exact P
 ·rw[if_pos (show(Option.isNone (none:Option Value))=true from rfl)];refine L1 (wpAny_rule ?_);have k:=c p _ i;have B:t.IsList p its:=⟨_,k,rfl,n,rfl⟩;refine L1 (wpAny_pyIter_list B ?_);have C:=c s.heap.objs.size _ (E1 _ rfl);have D:p≠t.objs.size:=N5 (N0 k);have G:s.heap.objs.size≠t.objs.size:=N5 (N0 C);have H:s.heap.objs.size≠p:=λz=>by rw[<- z,y] at g;cases g
  refine M6 ⟨plainId_quiet F.plain_dict_loop _,?_⟩;refine wO (A:=A.in1) (knd:=knd) (show A.in1.handled=none from P) (show A.units+1+1 < cLine by lia) D G H r its.size 0 _ [] (by lia) (U4 _) ⟨⟨_,E1 _ rfl,rfl,rfl⟩,?_⟩ ?_ (λx g=>(nomatch g)) (λV v W=>?_) (by simp;lia) λX I J L=>?_
  ·exact⟨_,L7 _ k,rfl,n,rfl⟩
  ·exact YY d (λo e=>L7 _ (c _ o e)) (λx g=>(nomatch g))
  ·obtain⟨kv,M,u,m,po,rfl,l,N,O,f⟩:=U V v W;have e2:=c u _ (L7 _ l);obtain⟨ko,S,kn,q,_⟩:=id f;have Y:=c _ _ (L7 _ q);refine⟨kv,M,⟨u,m,po,rfl,L7 _ e2,N,O,qc f λo e=>L7 _ (c _ _ (L7 _ e))⟩,λz=>?_,λz=>?_,N5 (N0 Y),λz=>?_⟩
   ·have z:u=t.objs.size:=by injection z
    exact absurd z (N5 (N0 e2))
   ·have z:u=s.heap.objs.size:=by injection z
    rw[z,y] at l;cases l
   ·rw[z,y] at q;cases q
  ·refine⟨rfl,h X I J λb o e=>?_⟩;have e2:=c b o (L7 _ e);exact L b o (N5 (N0 e2)) (N5 (N0 e)) (L7 _ e2)
end
end PySem
namespace L2
open PySem PySem.Spec PyProof.Rows
theorem KZ(I:Inv X pins σ H s):∀{ys:List V}{its:List Value}{ps:List (List Key×Addr×V)},Vals ys its->ys.length=ps.length ->
  (∀(j:Nat) (y:V),ys[j]?=some y->∃ kv t,ps[j]?=some kv/\y=.ref t/\SqT X.K H t [.ref kv.2.1,kv.2.2]/\H kv.2.1=some (.tup (kv.1.map kV))) ->
  ∃ qs:List (List Key×Addr×Value),Paired (λ(p:List Key×Addr×V) (q:List Key×Addr×Value)=>p.1=q.1/\p.2.1=q.2.1/\RelV p.2.2 q.2.2) ps qs/\∀(j:Nat) (v:Value),its[j]?=some v->∃ kv,qs[j]?=some kv/\zi (jB X.prog X.w) s.heap v kv
 | [],its,ps,b,a,c=>by
  cases b;have:ps=[]:=List.length_eq_zero_iff.mp a.symm;subst this;exact⟨[],.nil,λj v e=>by simp at e⟩
 | y::ys,its,[],b,a,c=>by simp at a
 | y::ys,its,kv::ps,b,a,c=>by
  cases b with
  | cons i k =>
   rename_i u F;obtain⟨qs,r,q⟩:=KZ I (ps:=ps) k (by simpa using a) λj y e=>c (j+1) y (by simpa using e);obtain⟨l,t,m,rfl,d,x⟩:=c 0 y rfl;cases m;cases(show u=Value.ref t from i);obtain⟨g,z,⟨o,e,A,n,hd⟩,_⟩:=I.tuple d;cases z with
   | cons B C =>
    cases C with
    | cons D E =>
     cases E;rename_i f val;cases(show f=Value.ref kv.2.1 from B);refine⟨(kv.1,kv.2.1,val)::qs,.cons ⟨rfl,rfl,D⟩ r,λj v h=>?_⟩;cases j with
     | zero =>
      cases h;exact⟨_,rfl,t,n,o,rfl,e,A,hd,Vz I.hok x⟩
     | succ j=>exact q j v (by simpa using h)
theorem uc:∀{ps:List (List Key×Addr×V)}{qs:List (List Key×Addr×Value)}{a:List (List Key×V)}{b:List (List Key×Addr×Value)},Paired (λ(p:List Key×Addr×V) (q:List Key×Addr×Value)=>p.1=q.1/\p.2.1=q.2.1/\RelV p.2.2 q.2.2) ps qs->(∀ p∈ps,H p.2.1=some (.tup (p.1.map kV)))->KT H a b ->
  KT H (ps.foldl (λa kv=>vC a kv.1 kv.2.2) a) (qs.foldl (λa kv=>storedH a kv.1 kv.2.1 kv.2.2) b)
 | [],_,_,_,.nil,_,h=>h
 | p::ps,q::qs,a,b,.cons c e,d,h=>by
  rw[U9,U9];refine uc e (λx f=>d x (by simp[f])) ?_;have:=h.put p.1 (b:=p.2.1) (d p (by simp)) c.2.2;rw[c.1,c.2.1] at this;rw[c.1];exact this
theorem jcZ{ps:List (List Key×Addr×V)}:∀{qs:List (List Key×V)},(ps.foldl (λa kv=>vC a kv.1 kv.2.2) qs).length<=qs.length+ps.length:=by
 induction ps with
 | nil=>intro qs;simp
 | cons p ps b =>
  intro qs;rw[U9];have c:=b (qs:=vC qs p.1 p.2.2);have d:(vC qs p.1 p.2.2).length<=qs.length+1:=by unfold vC;split<;>simp
  rw[M0]
  lia
theorem Q2{X:Cx}(Z:X.calm=true)(hu:X.A.units+10 < cLine):Jt X (.type "dict") (λxs H Q=>∃(p:Addr) (ys:List V) (ps:List (List Key×Addr×V)),xs=[.ref p]/\SqL X.K H p ys/\ys.length=ps.length/\ps.length<=100000 /\
  (∀(j:Nat) (y:V),ys[j]?=some y->∃ kv t,ps[j]?=some kv/\y=.ref t/\SqT X.K H t [.ref kv.2.1,kv.2.2]/\H kv.2.1=some (.tup (kv.1.map kV)))/\∀ D,H D=none->Q (.ref D) (upd H D (.dT (ps.foldl (λa kv=>vC a kv.1 kv.2.2) [])))):=by
 intro R s σ H xs us Q I r h;obtain⟨p,ys,ps,rfl,hq,m,hz,S,q⟩:=h;obtain⟨u,rfl,ru⟩:=r.one;cases ru;obtain⟨B,T,⟨o,n,e,d,f,g⟩,_⟩:=I.list hq;obtain⟨oc,od,C,osl⟩:=o;dsimp only at d f g;subst d f g;obtain⟨U,rel,E⟩:=KZ I T m S;have i:B.toArray.size=U.length:=by rw[N2,<- T.length,m,rel.length]
 have hk:∀ x∈ps,H x.2.1=some (.tup (x.1.map kV)):=λx hx=>by
  obtain⟨j,W⟩:=List.mem_iff_getElem?.mp hx;have F:j < ys.length:=by rw[m];exact(L8.mp W).1
  obtain⟨kv,t,Y,_,_,e2⟩:=S j ys[j] (X8 F);rw[W] at Y;cases Y;exact e2
 refine YK (knd:=jB X.prog X.w) (I.ok.hd Z) hu e i (λj v hv=>E j v (by simpa using hv)) (by rw[<- rel.length];exact hz) λh' tk hd b=>?_;have k:=uc (H:=H) rel hk (.nil:KT H ([]:List (List Key×V)) []);have G:=jcZ (ps:=ps) (qs:=[]);have hsz:sizeLine=16777216:=by decide
 have l:=I.hok.fresh (M8 s.heap.objs.size);obtain⟨qo,es,ep,J,L,M,N,_,O⟩:=hd;refine⟨.ref s.heap.objs.size,_,I.laid (a:=s.heap.objs.size) (o:=.dT (ps.foldl (λa kv=>vC a kv.1 kv.2.2) [])) (t':=tk) b (M8 _) ⟨by simp at G;lia,U1.mpr (Ne.symm (N5 I.big)),_,k.keeps λc zs P=>?_,qo,es,ep,J,L,M,N,O⟩,rfl,q _ l⟩;rw[jf (λz=>by rw[z,l] at P;cases P)];exact P
end L2
namespace PySem
open PySem.W PyProof.Rows PySem.Calls
noncomputable def kEv{α:Type}(lt:Nat->Nat->Bool):KasT α->α
 | .ret a=>a
 | .ask i j k=>kEv lt (k (lt i j))
def kOk{α:Type}(lt:Nat->Nat->Bool)(n:Nat):KasT α->Prop
 | .ret _=>True
 | .ask i j k=>i < n/\j < n/\kOk lt n (k (lt i j))
theorem qf:∀ t:KasT α,kEv lt (t.bind f)=kEv lt (f (kEv lt t))
 | .ret a=>rfl
 | .ask i j k=>qf (k (lt i j))
theorem qh:∀ t:KasT α,kOk lt n t->kOk lt n (f (kEv lt t))->kOk lt n (t.bind f)
 | .ret a,_,h=>h
 | .ask i j k,b,c=>⟨b.1,b.2.1,qh (k (lt i j)) b.2.2 c⟩
theorem jdm(c:∀ i j C,i < n->j < n->C (lt i j) s->cmp i j C s):∀ t:KasT α,kOk lt n t->Q (kEv lt t) s->t.kasWp cmp Q s
 | .ret a,_,h=>h
 | .ask i j k,b,h=>c i j _ b.1 b.2.1 (jdm c (k (lt i j)) b.2.2 h)
def Pm(n:Nat)(p:Array Nat):Prop:=p.toList.Perm (List.range n)
theorem Pm.lt(h:Pm n p)(a:0 < n)(i:Nat):p.getD i 0 < n:=by
 by_cases hi:i < p.size
 ·have e:p.getD i 0=p[i]:=by simp[Array.getD,hi]
  rw[e];have b:p[i]∈p.toList:=by simp
  exact List.mem_range.mp (h.mem_iff.mp b)
 ·have e:p.getD i 0=0:=by simp[Array.getD,hi]
  rw[e];exact a
theorem Pm.swap(h:Pm n p)(i j:Nat):Pm n (p.swapIfInBounds i j):=by
 unfold Pm at *;refine List.Perm.trans ?_ h;rw[Array.swapIfInBounds_def];split
 ·split
  ·exact(Array.perm_iff_toList_perm.mp (Array.swap_perm _ _))
  ·exact List.Perm.refl _
 ·exact List.Perm.refl _
theorem Pm.swaps(u v:Nat->Nat):∀(l:List Nat) {p:Array Nat},Pm n p->Pm n (l.foldl (λa k=>a.swapIfInBounds (u k) (v k)) p)
 | [],_,h=>h
 | k::l,p,h=>Pm.swaps u v l (h.swap _ _)
theorem Pm.rev(h:Pm n p)(i j:Nat):Pm n (kas_rev p i j):=Pm.swaps _ _ _ h
theorem Pm.bub(h:Pm n p)(k m:Nat):Pm n (bubble p k m):=Pm.swaps _ _ _ h
section
variable {lt:Nat->Nat->Bool}{n:Nat}
theorem ja3(a:0 < n)  (h:Pm n p):∀ f m,kOk lt n (kas_asc p f m)
 | 0,_=>trivial
 | f+1,m=>by
  refine⟨h.lt a _,h.lt a _,?_⟩;dsimp only;split
  ·trivial
  ·exact ja3 a h f (m+1)
theorem VJ(d:0 < n):∀(f:Nat) {p:Array Nat}(m q:Nat),Pm n p->kOk lt n (kas_desc f p m q)/\Pm n (kEv lt (kas_desc f p m q)).1
 | 0,_,_,_,h=>⟨trivial,h⟩
 | f+1,p,m,q,h=>by
  have a:=h.lt d;cases hc:lt (p.getD m 0) (p.getD (m - 1) 0) with
  | true =>
   by_cases e:q > 0
   ·have c:=VJ d f (p:=kas_rev p (m - (q+1)) m) (m+1) 0 (h.rev _ _);have b:0 < q:=e;simp only[kas_desc,kOk,kEv,hc,if_true,gt_iff_lt,b,a,true_and];exact c
   ·have c:=VJ d f (p:=p) (m+1) 0 h;have b:¬ 0 < q:=e;simp only[kas_desc,kOk,kEv,hc,if_true,gt_iff_lt,b,if_false,a,true_and];exact c
  | false =>
   cases hd:lt (p.getD (m - 1) 0) (p.getD m 0) with
   | true =>
    simp only[kas_desc,kOk,kEv,hc,hd,if_true,Bool.false_eq_true,if_false,a,true_and];exact h
   | false =>
    have c:=VJ d f (p:=p) (m+1) (q+1) h;simp only[kas_desc,kOk,kEv,hc,hd,Bool.false_eq_true,if_false,a,true_and];exact c
theorem JZ(a:0 < n)  (h:Pm n p) (m k:Nat):kOk lt n (kas_tail3 m k p)/\Pm n (kEv lt (kas_tail3 m k p)).2:=by
 unfold kas_tail3;exact⟨qh _ (ja3 a (h.rev _ _) _ _) trivial,by rw[qf];exact h.rev _ _⟩
theorem kz(a:0 < n)  (h:Pm n p) (m k:Nat):kOk lt n (kas_descPart m k p)/\Pm n (kEv lt (kas_descPart m k p)).2:=by
 unfold kas_descPart;have hd:=VJ (lt:=lt) a (k - (m+1)) (p:=p) (m+1) 0 h;refine⟨qh _ hd.1 ?_,?_⟩
 ·split
  ·exact(JZ a (hd.2.rev _ _) _ _).1
  ·exact(JZ a hd.2 _ _).1
 ·rw[qf];split
  ·exact(JZ a (hd.2.rev _ _) _ _).2
  ·exact(JZ a hd.2 _ _).2
theorem jbQ(a:0 < n)  (h:Pm n p) (k:Nat):kOk lt n (kas_count k p)/\Pm n (kEv lt (kas_count k p)).2:=by
 unfold kas_count;have b:=ja3 (lt:=lt) a h (k - 1) 1;refine⟨qh _ b ?_,?_⟩
 ·generalize kEv lt (kas_asc p (k - 1) 1)=m;split
  ·trivial
  ·split
   ·refine⟨h.lt a _,h.lt a _,?_⟩;dsimp only;split
    ·trivial
    ·exact(kz a (h.rev _ _) _ _).1
   ·exact(kz a h _ _).1
 ·rw[qf];generalize kEv lt (kas_asc p (k - 1) 1)=m;split
  ·exact h
  ·split
   ·dsimp only[kEv];split
    ·exact h
    ·exact(kz a (h.rev _ _) _ _).2
   ·exact(kz a h _ _).2
theorem Kh(a:0 < n)  (h:Pm n p) (k:Nat):∀ f l r,kOk lt n (kas_place p k f l r)
 | 0,_,_=>trivial
 | f+1,l,r=>by
  unfold kas_place;split
  ·trivial
  ·refine⟨h.lt a _,h.lt a _,?_⟩;dsimp only;split
   ·exact Kh a h k f _ _
   ·exact Kh a h k f _ _
theorem jag(a:0 < n):∀(f:Nat) {p:Array Nat}(k:Nat),Pm n p->kOk lt n (kas_bin f p k)/\Pm n (kEv lt (kas_bin f p k))
 | 0,_,_,h=>⟨trivial,h⟩
 | f+1,p,k,h=>by
  unfold kas_bin;have c:=Kh (lt:=lt) a h k k 0 k;have b:=jag a f (p:=bubble p k (k - kEv lt (kas_place p k k 0 k))) (k+1) (h.bub _ _);exact⟨qh _ c b.1,by rw[qf];exact b.2⟩
theorem zl(b:0 < n):kOk lt n (kas_sort n)/\Pm n (kEv lt (kas_sort n)):=by
 unfold kas_sort;have c:Pm n (List.toArray (List.range n)):=List.Perm.refl _;have a:=jbQ (lt:=lt) b c n;refine⟨qh _ a.1 ?_,?_⟩
 ·split
  ·exact(jag b _ _ a.2).1
  ·trivial
 ·rw[qf];split
  ·exact(jag b _ _ a.2).2
  ·exact a.2
end
end PySem
set_option maxHeartbeats 4000000
namespace PySem
open PySem.W PyProof.Rows PySem.Calls
def Y0{α:Type}(lt:Nat->Nat->Bool)(vs:List α)(d:α):List α:=if vs.length < 2 then vs else(kEv lt (kas_sort vs.length)).toList.map λi=>vs.getD i d
theorem z6(lt:Nat->Nat->Bool)(vs:List α)(d:α):(Y0 lt vs d).length=vs.length:=by
 unfold Y0;split
 ·rfl
 ·rename_i h;rw[L0];have:=((zl (lt:=lt) (n:=vs.length) (by lia)).2).length_eq;rw[this,List.length_range]
theorem Qo(m:s.heap.get? a=some (seqObj "list" vs.toArray n))(r:vs.length < 64)
  (I:2<=vs.length->∀ s':Shared,(∀ b o,b≠a->s.heap.get? b=some o->s'.heap.get? b=some o)->∀{Q:SortKind->Shared->Prop},Q κ s'->wpAny (model prog w) A (keyKind' vs.toArray) Q (λ_ _=>False) s')
  (t:∀ s':Shared,(∀ b o,b≠a->s.heap.get? b=some o->s'.heap.get? b=some o)->∀ i j,i < vs.length->j < vs.length->∀{C:Bool->Shared->Prop},C (lt i j) s'->wpAny (model prog w) A (keyLt' κ (vs.getD i Value.none) (vs.getD j Value.none)) C (λ_ _=>False) s')
  (h:P (.done (.ret .none)) { s with heap:=sortedHeap s.heap a vs (Y0 lt vs Value.none).toArray }) :
  wpAny (model prog w) A (Builtin.«list.sort» ⟨[.ref a],[]⟩) P E s:=by
 rw[list_sort_plain];have F:a < s.heap.objs.size:=N0 m;refine L1 (listItems_at m rfl ?_);refine L1 (listUpdate_at m rfl ?_);obtain⟨u,g⟩:∃ u,(s.heap.update a (Obj.mapSeq λ_=>#[])).get? a=some (seqObj "list" #[] u):=⟨_,get?_update_seq m (λ_=>#[])⟩;refine L1 (seqEpoch_at g rfl ?_);refine L1 (wpAny_newTuple ?_);refine L1 (wpAny_newList ?_);refine wpAny_holding ?_;have d:(((s.heap.update a (Obj.mapSeq λ_=>#[])).push (seqObj "tuple" vs.toArray 0)).push (seqObj "list" #[] 0)).get? a=some (seqObj "list" #[] u):=by
  rw[Heap.get?_push_ne _ _ _ (by rw[size_push',Heap.size_update];exact N5 (Nat.lt_succ_of_lt F)),Heap.get?_push_ne _ _ _ (by rw[Heap.size_update];exact N5 F)];exact g
 have keep:∀ b o,b≠a->s.heap.get? b=some o->(((s.heap.update a (Obj.mapSeq λ_=>#[])).push (seqObj "tuple" vs.toArray 0)).push (seqObj "list" #[] 0)).get? b=some o:=λb o J e =>
  L7 _ (L7 _ (by rw[Heap.get?_update_ne _ _ _ _ J];exact e))
 show wpAny (model prog w) A _ P E { s with heap:=((s.heap.update a (Obj.mapSeq λ_=>#[])).push (seqObj "tuple" vs.toArray 0)).push (seqObj "list" #[] 0) };dsimp only;have v:vs.toArray.size=vs.length:=by simp
 by_cases q:vs.toArray.size < 2
 ·have c:Y0 lt vs Value.none=vs:=by unfold Y0;rw[if_pos (by lia)]
  rw[c] at h;rw[if_pos q,if_pos q];refine L1 (M6 ?_);rw[StateT.run_pure];refine L1 (M6 ?_);dsimp only;have K:(arrOf (SortSt.mk' general' (vs.toArray.zip vs.toArray) #[] 7 none)).map (·.2)=vs.toArray:=by
   show(vs.toArray.zip vs.toArray).map (·.2)=vs.toArray;apply Array.toList_inj.mp;simp;exact List.map_snd_zip (M8 _)
  rw[K];refine L1 (seqEpoch_at d rfl ?_);refine L1 (listUpdate_at d rfl ?_ (hsz2:=by show vs.toArray.size<=_;rw[v,sizeLine_eq];lia));simp only[bne_self_eq_false,Bool.false_eq_true,if_false];exact M6 h
 ·have k:2<=vs.length:=by lia
  have c:Y0 lt vs Value.none=(kEv lt (kas_sort vs.length)).toList.map λi=>vs.getD i Value.none:=by unfold Y0;rw[if_neg (by lia)]
  rw[if_neg q,if_neg q];refine L1 (wpAny_mono (I k { s with heap:=((s.heap.update a (Obj.mapSeq λ_=>#[])).push (seqObj "tuple" vs.toArray 0)).push (seqObj "list" #[] 0) } keep (Q:=λy s0=>y=κ/\s0={ s with heap:=((s.heap.update a (Obj.mapSeq λ_=>#[])).push (seqObj "tuple" vs.toArray 0)).push (seqObj "list" #[] 0) }) ⟨rfl,rfl⟩) ?_ λ_ _ x=>x.elim);rintro y s0 ⟨rfl,rfl⟩;have z:=zl (lt:=lt) (n:=vs.length) (by lia);have l:=kat_run (prog:=prog) (w:=w) (A:=A) (E:=E) (κ:=y) (ks:=vs) (vs:=vs) (s:={ s with heap:=((s.heap.update a (Obj.mapSeq λ_=>#[])).push (seqObj "tuple" vs.toArray 0)).push (seqObj "list" #[] 0) })
   (Q:=λf s'=>s'={ s with heap:=((s.heap.update a (Obj.mapSeq λ_=>#[])).push (seqObj "tuple" vs.toArray 0)).push (seqObj "list" #[] 0) }/\arrOf f=(kEv lt (kas_sort vs.length)).map (kas_item (vs.toArray.zip vs.toArray))/\failedOf f=none)
   (G:=λp s'=>p=kEv lt (kas_sort vs.length)/\s'={ s with heap:=((s.heap.update a (Obj.mapSeq λ_=>#[])).push (seqObj "tuple" vs.toArray 0)).push (seqObj "list" #[] 0) })
   rfl k r (λp f s' S L M H=>⟨H.2,by rw[<- H.1];exact L,M⟩)
   (jdm (n:=vs.length) (λi j C hi N O=>t { s with heap:=((s.heap.update a (Obj.mapSeq λ_=>#[])).push (seqObj "tuple" vs.toArray 0)).push (seqObj "list" #[] 0) } keep i j hi N O) _ z.1 ⟨rfl,rfl⟩)
  refine L1 (wpAny_mono l ?_ λ_ _ e=>e);rintro⟨⟨⟩,f⟩ s' ⟨rfl,B,R⟩;dsimp only;have D:=kat_snds (vs:=vs) (ks:=vs) rfl B;rw[D,<- c];refine L1 (seqEpoch_at d rfl ?_);refine L1 (listUpdate_at d rfl ?_ (hsz2:=by show(Y0 lt vs Value.none).toArray.size<=_;rw[N2,z6,sizeLine_eq];lia));rw[R];simp only[bne_self_eq_false,Bool.false_eq_true,if_false];exact M6 h
theorem Vb(u:s.heap.IsList l vs.toArray)(n:vs.length < 64)
  (v:2<=vs.length->∀(A':Around) (s':Shared),(∀ b o,s.heap.get? b=some o->s'.heap.get? b=some o)->∀{Q:SortKind->Shared->Prop},Q κ s'->wpAny (model prog w) A' (keyKind' vs.toArray) Q (λ_ _=>False) s')
  (a:∀(A':Around) (s':Shared),(∀ b o,s.heap.get? b=some o->s'.heap.get? b=some o)->∀ i j,i < vs.length->j < vs.length->∀{C:Bool->Shared->Prop},C (lt i j) s'->wpAny (model prog w) A' (keyLt' κ (vs.getD i Value.none) (vs.getD j Value.none)) C (λ_ _=>False) s')
  (h:∀ h' c,(∀ b o,s.heap.get? b=some o->h'.get? b=some o)->h'.get? (s.heap.objs.size+1)=some (seqObj "list" (Y0 lt vs Value.none).toArray c)->Q (.ref (s.heap.objs.size+1)) { s with heap:=h' }) :
  wpAny (model prog w) A (call (.builtin "sorted") [.ref l]) Q E s:=by
 refine Calls.call_function_entry kind_sorted plain_sorted entry_sorted (args_sorted1 _) ?_;unfold Builtin.«sorted»;refine L1 (m:=checkCount "sorted" 1 1 _) (M6 ?_);refine L1 (collect_list u ?_ (by rw[sizeLine_eq];lia));refine L1 (wpAny_newList ?_ (by rw[sizeLine_eq];lia));have e:((s.heap.push (seqObj "list" #[] 0)).update s.heap.objs.size (Obj.mapSeq (·++vs.toArray))).objs.size=s.heap.objs.size+1:=by
  rw[Heap.size_update,size_push']
 have f:(((s.heap.push (seqObj "list" #[] 0)).update s.heap.objs.size (Obj.mapSeq (·++vs.toArray))).push (seqObj "list" vs.toArray 0)).get? (s.heap.objs.size+1)=some (seqObj "list" vs.toArray 0):=by
  rw[<- e];exact E1 _ rfl
 have keep:∀ b o,s.heap.get? b=some o->(((s.heap.push (seqObj "list" #[] 0)).update s.heap.objs.size (Obj.mapSeq (·++vs.toArray))).push (seqObj "list" vs.toArray 0)).get? b=some o:=λb o q=>by
  have a:b < s.heap.objs.size:=N0 q;rw[Heap.get?_push_ne _ _ _ (by rw[e];exact N5 (Nat.lt_succ_of_lt a)),Heap.get?_update_ne _ _ _ _ (N5 a),Heap.get?_push_ne _ _ _ (N5 a)];exact q
 show wpAny _ _ _ _ _ { s with heap:=((s.heap.push (seqObj "list" #[] 0)).update s.heap.objs.size (Obj.mapSeq (·++vs.toArray))).push (seqObj "list" vs.toArray 0) };rw[e];have d:∀{s':Shared},(∀ b o,b≠s.heap.objs.size+1->(((s.heap.push (seqObj "list" #[] 0)).update s.heap.objs.size (Obj.mapSeq (·++vs.toArray))).push (seqObj "list" vs.toArray 0)).get? b=some o->s'.heap.get? b=some o)->∀ b o,s.heap.get? b=some o->s'.heap.get? b=some o:=λk b o q =>
  k b o (N5 (Nat.lt_succ_of_lt (N0 q))) (keep b o q)
 refine L1 (wpAny_holding (wpAny_call_entry slot_list_sort ⟨_,f,rfl⟩ entry_list_sort ?body (args_list_sort _)))
 case body =>
  refine Qo (lt:=lt) (κ:=κ) (s:={ s with heap:=((s.heap.push (seqObj "list" #[] 0)).update s.heap.objs.size (Obj.mapSeq (·++vs.toArray))).push (seqObj "list" vs.toArray 0) }) f n (λx s' k=>v x _ s' (d k)) (λs' k=>a _ s' (d k)) ?_;have g:∃ c,(sortedHeap (((s.heap.push (seqObj "list" #[] 0)).update s.heap.objs.size (Obj.mapSeq (·++vs.toArray))).push (seqObj "list" vs.toArray 0)) (s.heap.objs.size+1) vs (Y0 lt vs Value.none).toArray).get? (s.heap.objs.size+1)=some (seqObj "list" (Y0 lt vs Value.none).toArray c):=by
   obtain⟨r,p⟩:∃ r,((((s.heap.push (seqObj "list" #[] 0)).update s.heap.objs.size (Obj.mapSeq (·++vs.toArray))).push (seqObj "list" vs.toArray 0)).update (s.heap.objs.size+1) (Obj.mapSeq λ_=>#[])).get? (s.heap.objs.size+1)=some (seqObj "list" #[] r):=⟨_,get?_update_seq f (λ_=>#[])⟩;exact⟨_,get?_update_seq (L7 _ (L7 _ p)) λ_=>(Y0 lt vs Value.none).toArray⟩
  obtain⟨c,y⟩:=g;refine⟨_,rfl,M6 ⟨_,rfl,h _ c (λb o q=>?_) y⟩⟩;have t:b≠s.heap.objs.size+1:=N5 (Nat.lt_succ_of_lt (N0 q));show(Heap.update _ _ _).get? b=some o;rw[Heap.get?_update_ne _ _ _ _ t];exact L7 _ (L7 _ (by rw[Heap.get?_update_ne _ _ _ _ t];exact keep b o q))
noncomputable abbrev ut:=Str×Str×Int
noncomputable def KM(x y:ut):Bool:=if x.1=y.1 then(if x.2.1=y.2.1 then decide (x.2.2 < y.2.2) else decide (x.2.1.cps.toList < y.2.1.cps.toList)) else decide (x.1.cps.toList < y.1.cps.toList)
def wI(h:Heap)(v:Value)(r:ut):Prop:=∃(a:Addr) (o:Obj) (m:Nat) (t1 t2 t3:Tok),v=.ref a/\h.get? a=some o/\o.cls=.type "tuple"/\o.data=.seq #[.str r.1 t1,.str r.2.1 t2,.int r.2.2 t3] m
theorem jiS(d:wI s.heap v x)(e:wI s.heap u y)  (h:C (KM x y) s):wpAny (model prog w) A (keyLt' (tuples' true) v u) C E s:=by
 obtain⟨a,o,m,f,g,i,rfl,j,t,k⟩:=d;obtain⟨b,z,B,l,n,p,rfl,q,D,r⟩:=e;refine kat_lt j k q r ?_;show KatLex prog w A true _ C [(.str x.1 f,.str y.1 l),(.str x.2.1 g,.str y.2.1 n),(.int x.2.2 i,.int y.2.2 p)] 0 s;unfold KM at h;refine kat_cons (wpAny_eqBool_str ?_);by_cases c:x.1=y.1
 ·rw[if_pos c] at h;rw[X4 c];refine kat_yes (kat_cons (wpAny_eqBool_str ?_));by_cases e2:x.2.1=y.2.1
  ·rw[if_pos e2] at h;rw[X4 e2];refine kat_yes (kat_cons (wpAny_eqBool_int ?_));by_cases e3:x.2.2=y.2.2
   ·rw[show(x.2.2==y.2.2)=true by simp[e3]];refine kat_yes (kat_nil ?_);have:decide (x.2.2 < y.2.2)=decide (3 < 3):=by rw[e3];simp
    rw[this] at h;exact h
   ·rw[show(x.2.2==y.2.2)=false by simp[e3]];exact kat_no (kat_one _ _ (wpAny_lt_int h))
  ·rw[if_neg e2] at h;rw[X5 e2];exact kat_no (kat_one _ _ (lt_str h))
 ·rw[if_neg c] at h;rw[X5 c];exact kat_no (oneLt_str h)
theorem jaN{A:Around}{E:Value->Shared->Prop}{s:Shared}{vs:List Value}{rs:List ut}(c:vs.length=rs.length)(b:∀(j:Nat) (v:Value),vs[j]?=some v->∃ r,rs[j]?=some r/\wI s.heap v r)(y:0 < vs.length){Q:SortKind->Shared->Prop}(h:Q (tuples' true) s):wpAny (model prog w) A (keyKind' vs.toArray) Q E s:=by
 have d:∀(vs:List Value) (rs:List ut),vs.length=rs.length->(∀(j:Nat) (v:Value),vs[j]?=some v->∃ r,rs[j]?=some r/\wI s.heap v r)->∃ fs:List Value,KatTups s.heap vs fs/\fs.length=vs.length/\∀ v∈fs,∃ x t,v=Value.str x t:=by
  intro vs
  induction vs with
  | nil=>intro rs _ _;exact⟨[],KatTups.nil,rfl,λv b=>(nomatch b)⟩
  | cons v vs g =>
   intro rs c b;cases rs with
   | nil=>simp at c
   | cons r rs =>
    obtain⟨fs,k,l,f⟩:=g rs (by simpa using c) λj v e=>b (j+1) v (by simpa using e);obtain⟨i,e,a,o,m,n,z,B,rfl,p,q,u⟩:=b 0 v rfl;refine⟨.str i.1 n::fs,KatTups.cons p q u rfl k,by simp[l],λv b=>?_⟩;rcases M4.mp b with rfl | b
    ·exact⟨_,_,rfl⟩
    ·exact f v b
 obtain⟨fs,k,l,f⟩:=d vs rs c b;refine kat_kind (T:=.type "str") k (by lia) (λv b=>?_) (by rfl) h;obtain⟨x,t,rfl⟩:=f v b;exact Looks.of_pure rfl
theorem JW{A:Around}{E:Value->Shared->Prop}{s:Shared}{vs:List Value}{rs:List ut}{Q:Value->Shared->Prop}(x:s.heap.IsList l vs.toArray)(n:vs.length < 64)(g:vs.length=rs.length)(y:∀(j:Nat) (v:Value),vs[j]?=some v->∃ r,rs[j]?=some r/\wI s.heap v r)
  (h:∀ h' c,(∀ b o,s.heap.get? b=some o->h'.get? b=some o)->h'.get? (s.heap.objs.size+1)=some (seqObj "list" (Y0 (λi j=>KM (rs.getD i ("","",0)) (rs.getD j ("","",0))) vs Value.none).toArray c)->Q (.ref (s.heap.objs.size+1)) { s with heap:=h' }) :
  wpAny (model prog w) A (call (.builtin "sorted") [.ref l]) Q E s:=by
 have p:∀(d:Shared),(∀ b o,s.heap.get? b=some o->d.heap.get? b=some o)->∀(j:Nat) (v:Value),vs[j]?=some v->∃ r,rs[j]?=some r/\wI d.heap v r:=λd f j v k=>by
  obtain⟨r,e,a,o,m,z,B,D,q,F,t,G⟩:=y j v k;exact⟨r,e,a,o,m,z,B,D,q,f a o F,t,G⟩
 refine Vb (κ:=tuples' true) x n (λt H d f Q I=>jaN g (p d f) (by lia) I) (λH d f i j hi k C u=>?_) h;obtain⟨J,q,K⟩:=p d f i _ (X8 hi);obtain⟨L,e2,M⟩:=p d f j _ (X8 k);have N:vs.getD i Value.none=vs[i]:=by simp[hi]
 have O:vs.getD j Value.none=vs[j]:=by simp[k]
 rw[N,O];refine jiS K M ?_;have P:rs.getD i ("","",0)=J:=by rw[List.getD_eq_getElem?_getD,q];rfl
 have R:rs.getD j ("","",0)=L:=by rw[List.getD_eq_getElem?_getD,e2];rfl
 rw[P,R] at u;exact u
end PySem
namespace PySem
open Sem (wp)
end PySem
namespace L2
open PySem PySem.Spec PyProof.Rows
end L2
set_option maxHeartbeats 1000000
namespace PySem
namespace F
end F
end PySem
namespace L2
open PySem PySem.Spec PyProof.Rows
structure Z3(z TI TO j1 j2 j3 t l m:Addr):Prop where
 TIz:TI≠z
 TOz:TO≠z
 j1z:j1≠z
 j2z:j2≠z
 j3z:j3≠z
 TITO:TI≠TO
 TIj1:TI≠j1
 TIj2:TI≠j2
 TIj3:TI≠j3
 TOj1:TO≠j1
 TOj2:TO≠j2
 TOj3:TO≠j3
 j12:j1≠j2
 j13:j1≠j3
 j23:j2≠j3
 out:∀ x,x=t \/ x=l \/ x=m->x≠z/\x≠TO/\x≠j1/\x≠j2/\x≠j3
end L2
namespace PySem
namespace F
end F
end PySem
namespace L2
open PySem PySem.Spec PyProof.Rows
end L2
namespace PySem
open Sem (wp)
namespace F
end F
end PySem
namespace L2
open PySem PySem.Spec PyProof.Rows
end L2
namespace PySem
open L2 PyProof.Rows
end PySem
namespace L2
open PySem PySem.Spec PyProof.Rows
end L2
namespace QD
open PySem L2
inductive KA where
 | int (i:Int) | str (s:List Nat)
 deriving DecidableEq
inductive D where
 | non | bl (b:Bool) | int (i:Int) | str (s:List Nat)
 | tup (l:List D) | lst (o:Bool) (l:List D)
 | dK (o:Bool) (ks:List KA) (l:List D)
 | dT (o:Bool) (ks:List (List KA)) (l:List D)
 | ins (o:Bool) (c:Nat) (ns:List Str) (l:List D)
 | dead
  | tok (a:Addr)
  | exc (c:Nat) (p:Int)
def xo(C a dx:Addr):Heap->Prop:=λh=>∃ o vs,h.get? a=some o/\o.cls=.ref C/\o.dict=some dx/\o.data=.fields vs
mutual
noncomputable def fz:D->D
 | .tup l=>.tup (fzs l)
 | .lst _ l=>.lst false (fzs l)
 | .dK _ ks l=>.dK false ks (fzs l)
 | .dT _ ks l=>.dT false ks (fzs l)
 | .ins _ c ns l=>.ins false c ns (fzs l)
 | .non=>.non | .bl b=>.bl b | .int i=>.int i | .str s=>.str s | .dead=>.dead | .tok a=>.tok a | .exc c p=>.exc c p
noncomputable def fzs:List D->List D
 | []=>[]
 | d::l=>fz d::fzs l
end
mutual
noncomputable def frz:D->Bool
 | .tup l=>frzs l
 | .lst o l=>!o&&frzs l
 | .dK o _ l=>!o&&frzs l
 | .dT o _ l=>!o&&frzs l
 | .ins o _ _ l=>!o&&frzs l
 | .non=>true | .bl _=>true | .int _=>true | .str _=>true | .dead=>true | .tok _=>true | .exc _ _=>true
noncomputable def frzs:List D->Bool
 | []=>true
 | d::l=>frz d&&frzs l
end
mutual
theorem vv:∀ d:D,frz d=true->fz d=d
 | .tup l,h=>by rw[frz] at h;rw[fz,k9 l h]
 | .lst o l,h=>by rw[frz,L9] at h;rw[fz,k9 l h.2];cases o<;>simp_all
 | .dK o ks l,h=>by rw[frz,L9] at h;rw[fz,k9 l h.2];cases o<;>simp_all
 | .dT o ks l,h=>by rw[frz,L9] at h;rw[fz,k9 l h.2];cases o<;>simp_all
 | .ins o c ns l,h=>by rw[frz,L9] at h;rw[fz,k9 l h.2];cases o<;>simp_all
 | .non,_=>rfl | .bl _,_=>rfl | .int _,_=>rfl | .str _,_=>rfl | .dead,_=>rfl | .tok _,_=>rfl | .exc _ _,_=>rfl
theorem k9:∀ l:List D,frzs l=true->fzs l=l
 | [],_=>rfl
 | d::l,h=>by rw[frzs,L9] at h;rw[fzs,vv d h.1,k9 l h.2]
end
mutual
theorem uj:∀ d:D,frz (fz d)=true
 | .tup l=>by rw[fz,frz];exact qe l
 | .lst o l=>by rw[fz,frz,qe l];rfl
 | .dK o ks l=>by rw[fz,frz,qe l];rfl
 | .dT o ks l=>by rw[fz,frz,qe l];rfl
 | .ins o c ns l=>by rw[fz,frz,qe l];rfl
 | .non=>rfl | .bl _=>rfl | .int _=>rfl | .str _=>rfl | .dead=>rfl | .tok _=>rfl | .exc _ _=>rfl
theorem qe:∀ l:List D,frzs (fzs l)=true
 | []=>rfl
 | d::l=>by rw[fzs,frzs,uj d,qe l];rfl
end
theorem qP:∀ l:List D,fzs l=l.map fz
 | []=>rfl
 | d::l=>by rw[fzs,qP l];rfl
theorem JX:∀ l:List D,frzs l=l.all frz
 | []=>rfl
 | d::l=>by rw[frzs,JX l];rfl
structure RC where
 K:PySem.W.Frag
 cls:Nat->Addr
def kaV:KA->Key
 | .int i=>.inl i
 | .str s=>.inr (S s)
noncomputable abbrev Zn:=Addr->Prop
def FT(R:RC)(Z:Zn)(H:Hp)(a:Addr)(vs:List V):Prop :=
 (Z a/\Rd H a (.tup vs)) \/ ∃(o:Obj) (its:Array Value) (n:Nat),R.K.lookup a=some o/\o.cls=.type "tuple"/\o.data=.seq its n/\its.size<=sizeLine/\Vals vs its.toList/\o.dict=none
def FL(R:RC)(Z:Zn)(H:Hp)(a:Addr)(vs:List V):Prop :=
 (Z a/\Rd H a (.lst vs)) \/ ∃(its:Array Value) (n:Nat),R.K.lookup a=some { cls:=.type "list",data:=.seq its n }/\its.size<=sizeLine/\Vals vs its.toList
def DkA(o:Bool)(H:Hp)(a:Addr)(kvs:List (Key×V)):Prop:=bif o then H a=some (.dK kvs) else Rd H a (.dK kvs)
inductive RpC (rs:List V->List Addr->Prop) (C:Addr->List V->List Addr->Prop) (v:V):Prop
 | mk:∀(a:Addr) (vs:List V) (O':List Addr),v=.ref a->rs vs O'->C a vs O'->RpC rs C v
inductive RpS (rd:V->List Addr->Prop) (rs:List V->List Addr->Prop) (vs:List V) (O:List Addr):Prop
 | mk:∀(v:V) (vs':List V) (O1 O2:List Addr),vs=v::vs'->O=O1++O2->rd v O1->rs vs' O2->RpS rd rs vs O
mutual
def Rep(R:RC)(Z:Zn)(H:Hp):D->V->List Addr->Prop
 | .non,v,O=>v=.non/\O=[]
 | .bl b,v,O=>v=.bl b/\O=[]
 | .int i,v,O=>v=.int i/\O=[]
 | .str s,v,O=>v=.str (S s)/\O=[]
 | .dead,_,O=>O=[]
 | .tok a,v,O=>v=.ref a/\O=[]
 | .exc c p,v,O=>∃ a dx,v=.ref a/\Z a/\Z dx/\H a=some (.ext (xo (R.cls c) a dx))/\H dx=some (.xd [("place",.int p)])/\O=[]
 | .tup l,v,O=>∃ a vs,v=.ref a/\FT R Z H a vs/\Reps R Z H l vs O
 | .lst o l,v,O=>RpC (λvs O'=>Reps R Z H l vs O') (λa vs O'=>bif o then H a=some (.lst vs)/\O=a::O' else FL R Z H a vs/\O'=[]/\O=[]) v
 | .dK o ks l,v,O=>RpC (λvs O'=>Reps R Z H l vs O') (λa vs O'=>ks.length=l.length/\DkA o H a ((ks.map kaV).zip vs)/\bif o then O=a::O' else Z a/\O'=[]/\O=[]) v
 | .dT o ks l,v,O=>RpC (λvs O'=>Reps R Z H l vs O') (λa vs O'=>ks.length=l.length/\H a=some (.dT ((ks.map (List.map kaV)).zip vs))/\bif o then O=a::O' else Z a/\O'=[]/\O=[]) v
 | .ins o c ns l,v,O=>∃ a dx vs O',v=.ref a/\Reps R Z H l vs O'/\ns.length=l.length/\H a=some (.ins (R.cls c) dx (ns.zip vs))/\bif o then O=a::O' else Z a/\O'=[]/\O=[]
def Reps(R:RC)(Z:Zn)(H:Hp):List D->List V->List Addr->Prop
 | [],vs,O=>vs=[]/\O=[]
 | d::ds,vs,O=>RpS (λv O1=>Rep R Z H d v O1) (λvs' O2=>Reps R Z H ds vs' O2) vs O
end
section
variable {R:RC}{Z Z':Zn}{H H':Hp}
theorem FT.sq{a:Addr}{vs:List V}(h:FT R Z H a vs):SqT R.K H a vs:=by
 rcases h with⟨_,h⟩ | ⟨o,b,n,c,d,e,f,g,_⟩
 ·exact .inl h
 ·exact .inr ⟨o,b,n,c,d,e,f,g⟩
theorem FL.sqx{a:Addr}{vs:List V}(h:FL R Z H a vs):SqX R.K H a vs:=by
 rcases h with⟨_,h⟩ | h
 ·exact .inl h
 ·exact .inr h
theorem FL.sq{a:Addr}{vs:List V}(h:FL R Z H a vs):SqL R.K H a vs:=h.sqx.sq
theorem Rd.agree{a:Addr}{u:HO}(e:H' a=H a)(h:Rd H a u):Rd H' a u:=by
 unfold Rd at h ⊢;rw[e];exact h
theorem FT.frame{a:Addr}{vs:List V}(b:∀ a,Z a->Z' a)(c:∀ a,Z a->H' a=H a)(h:FT R Z H a vs):FT R Z' H' a vs:=by
 rcases h with⟨z,h⟩ | h
 ·exact .inl ⟨b a z,Rd.agree (c a z) h⟩
 ·exact .inr h
theorem FL.frame{a:Addr}{vs:List V}(b:∀ a,Z a->Z' a)(c:∀ a,Z a->H' a=H a)(h:FL R Z H a vs):FL R Z' H' a vs:=by
 rcases h with⟨z,h⟩ | h
 ·exact .inl ⟨b a z,Rd.agree (c a z) h⟩
 ·exact .inr h
mutual
theorem Rep.frame(hz:∀ a,Z a->Z' a)(hH:∀ a,Z a->H' a=H a):∀{d:D}{v:V}{O:List Addr},Rep R Z H d v O->(∀ a∈O,H' a=H a)->Rep R Z' H' d v O
 | .non,_,_,h,_=>by rw[Rep] at h ⊢;exact h
 | .bl _,_,_,h,_=>by rw[Rep] at h ⊢;exact h
 | .int _,_,_,h,_=>by rw[Rep] at h ⊢;exact h
 | .str _,_,_,h,_=>by rw[Rep] at h ⊢;exact h
 | .dead,_,_,h,_=>by rw[Rep] at h ⊢;exact h
 | .tok _,_,_,h,_=>by rw[Rep] at h ⊢;exact h
 | .exc _ _,_,_,h,_=>by
  rw[Rep] at h ⊢;obtain⟨a,dx,e,z1,z2,h1,h2,h3⟩:=h;exact⟨a,dx,e,hz a z1,hz dx z2,(hH a z1).trans h1,(hH dx z2).trans h2,h3⟩
 | .tup l,_,_,h,hO=>by
  rw[Rep] at h ⊢;obtain⟨a,vs,e,t,r⟩:=h;exact⟨a,vs,e,t.frame hz hH,Reps.frame hz hH r hO⟩
 | .lst o l,_,_,h,hO=>by
  rw[Rep] at h ⊢;obtain⟨a,vs,O',e,r,h⟩:=h;cases o with
  | true =>
   obtain⟨h1,rfl⟩:=h;exact⟨a,vs,O',e,Reps.frame hz hH r λb hb=>hO b (L5 _ hb),by rw[cond_true,hO a L6];exact⟨h1,rfl⟩⟩
  | false =>
   obtain⟨h1,rfl,rfl⟩:=h;exact⟨a,vs,[],e,Reps.frame hz hH r (λb hb=>nomatch hb),h1.frame hz hH,rfl,rfl⟩
 | .dK o ks l,_,_,h,hO=>by
  rw[Rep] at h ⊢;obtain⟨a,vs,O',e,r,hl,hd,h⟩:=h;cases o with
  | true =>
   have h:=(show _=_ from h);subst h;exact⟨a,vs,O',e,Reps.frame hz hH r λb hb=>hO b (L5 _ hb),hl,by show H' a=some _;rw[hO a L6];exact hd,rfl⟩
  | false =>
   obtain⟨h1,rfl,rfl⟩:=h;exact⟨a,vs,[],e,Reps.frame hz hH r (λb hb=>nomatch hb),hl,Rd.agree (hH a h1) hd,hz a h1,rfl,rfl⟩
 | .dT o ks l,_,_,h,hO=>by
  rw[Rep] at h ⊢;obtain⟨a,vs,O',e,r,hl,hd,h⟩:=h;cases o with
  | true =>
   have h:=(show _=_ from h);subst h;exact⟨a,vs,O',e,Reps.frame hz hH r λb hb=>hO b (L5 _ hb),hl,by rw[hO a L6];exact hd,rfl⟩
  | false =>
   obtain⟨h1,rfl,rfl⟩:=h;exact⟨a,vs,[],e,Reps.frame hz hH r (λb hb=>nomatch hb),hl,by rw[hH a h1];exact hd,hz a h1,rfl,rfl⟩
 | .ins o c ns l,_,_,h,hO=>by
  rw[Rep] at h ⊢;obtain⟨a,dx,vs,O',e,r,hl,hd,h⟩:=h;cases o with
  | true =>
   have h:=(show _=_ from h);subst h;exact⟨a,dx,vs,O',e,Reps.frame hz hH r λb hb=>hO b (L5 _ hb),hl,by rw[hO a L6];exact hd,rfl⟩
  | false =>
   obtain⟨h1,rfl,rfl⟩:=h;exact⟨a,dx,vs,[],e,Reps.frame hz hH r (λb hb=>nomatch hb),hl,by rw[hH a h1];exact hd,hz a h1,rfl,rfl⟩
theorem Reps.frame(hz:∀ a,Z a->Z' a)(hH:∀ a,Z a->H' a=H a):∀{l:List D}{vs:List V}{O:List Addr},Reps R Z H l vs O->(∀ a∈O,H' a=H a)->Reps R Z' H' l vs O
 | [],_,_,h,_=>by rw[Reps] at h ⊢;exact h
 | d::l,_,_,h,hO=>by
  rw[Reps] at h ⊢;obtain⟨v,vs,O1,O2,e,rfl,r1,r2⟩:=h;exact⟨v,vs,O1,O2,e,rfl,Rep.frame hz hH r1 λa ha=>hO a (List.mem_append_left _ ha),Reps.frame hz hH r2 λa ha=>hO a (U2 _ ha)⟩
end
mutual
theorem Rep.nil:∀{d:D}{v:V}{O:List Addr},Rep R Z H d v O->frz d=true->O=[]
 | .non,_,_,h,_=>by rw[Rep] at h;exact h.2
 | .bl _,_,_,h,_=>by rw[Rep] at h;exact h.2
 | .int _,_,_,h,_=>by rw[Rep] at h;exact h.2
 | .str _,_,_,h,_=>by rw[Rep] at h;exact h.2
 | .dead,_,_,h,_=>by rw[Rep] at h;exact h
 | .tok _,_,_,h,_=>by rw[Rep] at h;exact h.2
 | .exc _ _,_,_,h,_=>by rw[Rep] at h;obtain⟨_,_,_,_,_,_,_,h⟩:=h;exact h
 | .tup l,_,_,h,f=>by
  rw[Rep] at h;rw[frz] at f;obtain⟨a,vs,e,t,r⟩:=h;exact Reps.nil r f
 | .lst o l,_,_,h,f=>by
  rw[Rep] at h;rw[frz] at f;obtain⟨a,vs,O',e,r,h⟩:=h;cases o with
  | true=>exact absurd f (by simp)
  | false=>exact h.2.2
 | .dK o ks l,_,_,h,f=>by
  rw[Rep] at h;rw[frz] at f;obtain⟨a,vs,O',e,r,hl,hd,h⟩:=h;cases o with
  | true=>exact absurd f (by simp)
  | false=>exact h.2.2
 | .dT o ks l,_,_,h,f=>by
  rw[Rep] at h;rw[frz] at f;obtain⟨a,vs,O',e,r,hl,hd,h⟩:=h;cases o with
  | true=>exact absurd f (by simp)
  | false=>exact h.2.2
 | .ins o c ns l,_,_,h,f=>by
  rw[Rep] at h;rw[frz] at f;obtain⟨a,dx,vs,O',e,r,hl,hd,h⟩:=h;cases o with
  | true=>exact absurd f (by simp)
  | false=>exact h.2.2
theorem Reps.nil:∀{l:List D}{vs:List V}{O:List Addr},Reps R Z H l vs O->frzs l=true->O=[]
 | [],_,_,h,_=>by rw[Reps] at h;exact h.2
 | d::l,_,_,h,f=>by
  rw[Reps] at h;rw[frzs,L9] at f;obtain⟨v,vs,O1,O2,e,rfl,r1,r2⟩:=h;rw[Rep.nil r1 f.1,Reps.nil r2 f.2];rfl
end
mutual
theorem Rep.freeze:∀{d:D}{v:V}{O:List Addr},Rep R Z H d v O->(∀ a,Z a->Z' a)->(∀ a∈O,Z' a)->Rep R Z' H (fz d) v []
 | .non,_,_,h,_,_=>by rw[Rep] at h;rw[fz,Rep];exact⟨h.1,rfl⟩
 | .bl _,_,_,h,_,_=>by rw[Rep] at h;rw[fz,Rep];exact⟨h.1,rfl⟩
 | .int _,_,_,h,_,_=>by rw[Rep] at h;rw[fz,Rep];exact⟨h.1,rfl⟩
 | .str _,_,_,h,_,_=>by rw[Rep] at h;rw[fz,Rep];exact⟨h.1,rfl⟩
 | .dead,_,_,h,_,_=>by rw[fz,Rep]
 | .tok _,_,_,h,_,_=>by rw[Rep] at h;rw[fz,Rep];exact⟨h.1,rfl⟩
 | .exc _ _,_,_,h,hz,_=>by
  rw[Rep] at h;rw[fz,Rep];obtain⟨a,dx,e,z1,z2,h1,h2,_⟩:=h;exact⟨a,dx,e,hz a z1,hz dx z2,h1,h2,rfl⟩
 | .tup l,_,_,h,hz,hO=>by
  rw[Rep] at h;rw[fz,Rep];obtain⟨a,vs,e,t,r⟩:=h;exact⟨a,vs,e,t.frame hz λ_ _=>rfl,Reps.freeze r hz hO⟩
 | .lst o l,_,_,h,hz,hO=>by
  rw[Rep] at h;rw[fz,Rep];obtain⟨a,vs,O',e,r,h⟩:=h;cases o with
  | true =>
   obtain⟨h1,rfl⟩:=h;exact⟨a,vs,[],e,Reps.freeze r hz λb hb=>hO b (L5 _ hb),.inl ⟨hO a L6,.inl h1⟩,rfl,rfl⟩
  | false =>
   obtain⟨h1,rfl,rfl⟩:=h;exact⟨a,vs,[],e,Reps.freeze r hz (λb hb=>nomatch hb),h1.frame hz (λ_ _=>rfl),rfl,rfl⟩
 | .dK o ks l,_,_,h,hz,hO=>by
  rw[Rep] at h;rw[fz,Rep];obtain⟨a,vs,O',e,r,hl,hd,h⟩:=h;have hl':ks.length=(fzs l).length:=by rw[qP,L0];exact hl
  cases o with
  | true =>
   have h:=(show _=_ from h);subst h;exact⟨a,vs,[],e,Reps.freeze r hz λb hb=>hO b (L5 _ hb),hl',.inl hd,hO a L6,rfl,rfl⟩
  | false =>
   obtain⟨h1,rfl,rfl⟩:=h;exact⟨a,vs,[],e,Reps.freeze r hz (λb hb=>nomatch hb),hl',hd,hz a h1,rfl,rfl⟩
 | .dT o ks l,_,_,h,hz,hO=>by
  rw[Rep] at h;rw[fz,Rep];obtain⟨a,vs,O',e,r,hl,hd,h⟩:=h;have hl':ks.length=(fzs l).length:=by rw[qP,L0];exact hl
  cases o with
  | true =>
   have h:=(show _=_ from h);subst h;exact⟨a,vs,[],e,Reps.freeze r hz λb hb=>hO b (L5 _ hb),hl',hd,hO a L6,rfl,rfl⟩
  | false =>
   obtain⟨h1,rfl,rfl⟩:=h;exact⟨a,vs,[],e,Reps.freeze r hz (λb hb=>nomatch hb),hl',hd,hz a h1,rfl,rfl⟩
 | .ins o c ns l,_,_,h,hz,hO=>by
  rw[Rep] at h;rw[fz,Rep];obtain⟨a,dx,vs,O',e,r,hl,hd,h⟩:=h;have hl':ns.length=(fzs l).length:=by rw[qP,L0];exact hl
  cases o with
  | true =>
   have h:=(show _=_ from h);subst h;exact⟨a,dx,vs,[],e,Reps.freeze r hz λb hb=>hO b (L5 _ hb),hl',hd,hO a L6,rfl,rfl⟩
  | false =>
   obtain⟨h1,rfl,rfl⟩:=h;exact⟨a,dx,vs,[],e,Reps.freeze r hz (λb hb=>nomatch hb),hl',hd,hz a h1,rfl,rfl⟩
theorem Reps.freeze:∀{l:List D}{vs:List V}{O:List Addr},Reps R Z H l vs O->(∀ a,Z a->Z' a)->(∀ a∈O,Z' a)->Reps R Z' H (fzs l) vs []
 | [],_,_,h,_,_=>by rw[Reps] at h;rw[fzs,Reps];exact⟨h.1,rfl⟩
 | d::l,_,_,h,hz,hO=>by
  rw[Reps] at h;rw[fzs,Reps];obtain⟨v,vs,O1,O2,e,rfl,r1,r2⟩:=h;exact⟨v,vs,[],[],e,rfl,Rep.freeze r1 hz λa ha=>hO a (List.mem_append_left _ ha),Reps.freeze r2 hz λa ha=>hO a (U2 _ ha)⟩
end
theorem Reps.length:∀{l:List D}{vs:List V}{O:List Addr},Reps R Z H l vs O->vs.length=l.length
 | [],_,_,h=>by rw[Reps] at h;rw[h.1];rfl
 | d::l,_,_,h=>by
  rw[Reps] at h;obtain⟨v,vs,b,c,rfl,rfl,e,a⟩:=h;rw[M0,M0,Reps.length a]
theorem Reps.append:∀{l m:List D}{vs ws:List V}{O P:List Addr},Reps R Z H l vs O->Reps R Z H m ws P->Reps R Z H (l++m) (vs++ws) (O++P)
 | [],m,_,_,_,_,h,k=>by rw[Reps] at h;obtain⟨rfl,rfl⟩:=h;exact k
 | d::l,m,_,_,_,_,h,k=>by
  rw[Reps] at h;obtain⟨v,vs,a,e,rfl,rfl,b,c⟩:=h;rw[List.cons_append,Reps];exact⟨v,_,a,_,rfl,List.append_assoc ..,b,Reps.append c k⟩
theorem Reps.one{d:D}{v:V}{O:List Addr}(h:Rep R Z H d v O):Reps R Z H [d] [v] O:=by
 rw[Reps];exact⟨v,[],O,[],rfl,(M9 O).symm,h,by rw[Reps];exact⟨rfl,rfl⟩⟩
theorem Reps.cons{d:D}{v:V}{O P:List Addr}{l:List D}{vs:List V}(h:Rep R Z H d v O)(k:Reps R Z H l vs P):Reps R Z H (d::l) (v::vs) (O++P):=by
 rw[Reps];exact⟨v,vs,O,P,rfl,rfl,h,k⟩
theorem Reps.empty:Reps R Z H [] [] []:=by rw[Reps];exact⟨rfl,rfl⟩
theorem Reps.at:∀{l:List D}{vs:List V}{O:List Addr}{i:Nat}{d:D},Reps R Z H l vs O->l[i]?=some d ->
  ∃ v A P B,vs[i]?=some v/\O=A++P++B/\Rep R Z H d v P/\∀{Z':Zn}{H':Hp}{d':D}{v':V}{P':List Addr},Rep R Z' H' d' v' P'->(∀ a,Z a->Z' a)->(∀ a,Z a->H' a=H a)->(∀ a∈A,H' a=H a)->(∀ a∈B,H' a=H a)->Reps R Z' H' (l.set i d') (vs.set i v') (A++P'++B)
 | [],_,_,_,_,_,e=>by simp at e
 | c::l,_,_,0,d,h,e=>by
  rw[Reps] at h;obtain⟨v,vs,b,j,rfl,rfl,m,n⟩:=h;have e:c=d:=by simpa using e
  subst e;refine⟨v,[],b,j,rfl,rfl,m,λr f g o p=>?_⟩;rw[List.set_cons_zero,List.set_cons_zero,Reps];exact⟨_,vs,_,j,rfl,rfl,r,Reps.frame f g n p⟩
 | c::l,_,_,i+1,d,h,e=>by
  rw[Reps] at h;obtain⟨v,vs,b,j,rfl,rfl,m,n⟩:=h;obtain⟨w,A,P,B,s,rfl,t,k⟩:=Reps.at (i:=i) (d:=d) n (by simpa using e);refine⟨w,b++A,P,B,by simpa using s,by simp,t,λ{Z' H' d' v' P'} r f g o p=>?_⟩;rw[List.set_cons_succ,List.set_cons_succ,Reps];exact⟨v,_,b,A++P'++B,rfl,by simp,Rep.frame f g m λa q=>o a (List.mem_append_left _ q),k r f g (λa q=>o a (U2 _ q)) p⟩
theorem Reps.item{l:List D}{vs:List V}{i:Nat}{d:D}(h:Reps R Z H l vs [])(e:l[i]?=some d):∃ v,vs[i]?=some v/\Rep R Z H d v []:=by
 obtain⟨v,A,P,B,a,e2,r,_⟩:=h.at e;have:P=[]:=by
  have:=congrArg List.length e2;simp at this;exact List.eq_nil_of_length_eq_zero (by omega)
 subst this;exact⟨v,a,r⟩
theorem Reps.take:∀{l:List D}{vs:List V}(n:Nat),Reps R Z H l vs []->Reps R Z H (l.take n) (vs.take n) []
 | _,_,0,_=>by simp;exact .empty
 | [],_,n+1,h=>by rw[Reps] at h;rw[h.1];exact .empty
 | d::l,_,n+1,h=>by
  rw[Reps] at h;obtain⟨v,vs,c,f,rfl,e,a,b⟩:=h;obtain⟨rfl,rfl⟩:=List.append_eq_nil_iff.mp e.symm;rw[List.take_succ_cons,List.take_succ_cons];exact .cons a (Reps.take n b)
theorem Reps.drop:∀{l:List D}{vs:List V}(n:Nat),Reps R Z H l vs []->Reps R Z H (l.drop n) (vs.drop n) []
 | _,_,0,h=>h
 | [],_,n+1,h=>by rw[Reps] at h;rw[h.1];exact .empty
 | d::l,_,n+1,h=>by
  rw[Reps] at h;obtain⟨v,vs,b,c,rfl,e,f,a⟩:=h;obtain⟨rfl,rfl⟩:=List.append_eq_nil_iff.mp e.symm;rw[List.drop_succ_cons,List.drop_succ_cons];exact Reps.drop n a
structure WF(Z:Zn)(H:Hp)(O:List Addr):Prop where
 nd:O.Nodup
 nz:∀ a∈O,¬ Z a
 od:∀ a∈O,H a≠none
 zd:∀ a,Z a->H a≠none
structure Go(Z:Zn)(H:Hp)(O:List Addr)(Z':Zn)(H':Hp)(O':List Addr):Prop where
 wf:WF Z' H' O'
 zz:∀ a,Z a->Z' a
 fr:∀ a,H a≠none->a∉O->H' a=H a
 zn:∀ a,Z' a->Z a \/ a∈O \/ H a=none
 sub:∀ a∈O',a∈O \/ H a=none
 dm:∀ a,H a≠none->H' a≠none
variable {O O' O'' A B:List Addr}{Z'':Zn}{H'':Hp}
theorem Go.refl(w:WF Z H O):Go Z H O Z H O:=⟨w,λ_ z=>z,λ_ _ _=>rfl,λ_ z=>.inl z,λ_ h=>.inl h,λ_ h=>h⟩
theorem Go.trans(g:Go Z H O Z' H' O')(k:Go Z' H' O' Z'' H'' O''):Go Z H O Z'' H'' O'':=by
 refine⟨k.wf,λa z=>k.zz a (g.zz a z),λa h n=>?_,λa z=>?_,λa h=>?_,λa h=>k.dm a (g.dm a h)⟩
 ·rw[k.fr a (g.dm a h) λb=>(g.sub a b).elim n λe=>h e,g.fr a h n]
 ·rcases k.zn a z with z | z | z
  ·exact g.zn a z
  ·rcases g.sub a z with q | q
   ·exact .inr (.inl q)
   ·exact .inr (.inr q)
  ·by_cases h:H a=none
   ·exact .inr (.inr h)
   ·exact absurd z (g.dm a h)
 ·rcases k.sub a h with q | q
  ·exact g.sub a q
  ·by_cases h:H a=none
   ·exact .inr h
   ·exact absurd q (g.dm a h)
theorem Go.zH(w:WF Z H O)(g:Go Z H O Z' H' O'):∀ a,Z a->H' a=H a:=λa z=>g.fr a (w.zd a z) λh=>w.nz a h z
theorem WF.sub(w:WF Z H O)(h:∀ a∈O',a∈O)(n:O'.Nodup):WF Z H O':=⟨n,λa z=>w.nz a (h a z),λa z=>w.od a (h a z),w.zd⟩
theorem WF.mid(w:WF Z H (A++O++B)):WF Z H O:=w.sub (λa h=>by simp[h]) (by have:=w.nd;simp[U8] at this;exact this.2.1.1)
theorem WF.left(w:WF Z H (A++B)):WF Z H A:=w.sub (λa h=>by simp[h]) (U8.mp w.nd).1
theorem WF.right(w:WF Z H (A++B)):WF Z H B:=w.sub (λa h=>by simp[h]) (U8.mp w.nd).2.1
theorem Go.frame(w:WF Z H (A++O++B))(g:Go Z H O Z' H' O'):Go Z H (A++O++B) Z' H' (A++O'++B):=by
 have nd:=w.nd;simp only[U8,N1] at nd;have new:∀ a∈O',a∉A/\a∉B:=λa h=>by
  rcases g.sub a h with q | q
  ·exact⟨λz=>nd.1.2.2 a z a q rfl,λz=>nd.2.2 a (.inr q) a z rfl⟩
  ·exact⟨λz=>w.od a (by simp[z]) q,λz=>w.od a (by simp[z]) q⟩
 have keep:∀ a,a∈A \/ a∈B->a∉O:=λa h z=>by
  rcases h with h | h
  ·exact nd.1.2.2 a h a z rfl
  ·exact nd.2.2 a (.inr z) a h rfl
 refine⟨⟨?_,λa h z=>?_,λa h=>?_,g.wf.zd⟩,g.zz,λa h n=>?_,λa z=>?_,λa h=>?_,g.dm⟩
 ·simp only[U8,N1];exact⟨⟨nd.1.1,g.wf.nd,λa h b k e=>(new b k).1 (e▸h)⟩,nd.2.1,λa h b k e=>by
   rcases h with h | h
   ·exact nd.2.2 a (.inl h) b k e
   ·exact(new a h).2 (e▸k)⟩
 ·simp only[N1] at h;rcases h with(h | h) | h
  ·rcases g.zn a z with q | q | q
   ·exact w.nz a (by simp[h]) q
   ·exact keep a (.inl h) q
   ·exact w.od a (by simp[h]) q
  ·exact g.wf.nz a h z
  ·rcases g.zn a z with q | q | q
   ·exact w.nz a (by simp[h]) q
   ·exact keep a (.inr h) q
   ·exact w.od a (by simp[h]) q
 ·simp only[N1] at h;rcases h with(h | h) | h
  ·exact g.dm a (w.od a (by simp[h]))
  ·exact g.wf.od a h
  ·exact g.dm a (w.od a (by simp[h]))
 ·simp only[N1,not_or] at n;exact g.fr a h n.1.2
 ·rcases g.zn a z with q | q | q
  ·exact .inl q
  ·exact .inr (.inl (by simp[q]))
  ·exact .inr (.inr q)
 ·simp only[N1] at h ⊢;rcases h with(h | h) | h
  ·exact .inl (.inl (.inl h))
  ·rcases g.sub a h with q | q
   ·exact .inl (.inl (.inr q))
   ·exact .inr q
  ·exact .inl (.inr h)
theorem Go.keepA(w:WF Z H (A++O++B))(g:Go Z H O Z' H' O'):(∀ a∈A,H' a=H a)/\∀ a∈B,H' a=H a:=by
 have nd:=w.nd;simp only[U8,N1] at nd;exact⟨λa h=>g.fr a (w.od a (by simp[h])) λz=>nd.1.2.2 a h a z rfl,λa h=>g.fr a (w.od a (by simp[h])) λz=>nd.2.2 a (.inr z) a h rfl⟩
theorem Go.drop(g:Go Z H O Z' H' O')(h:∀ a∈O'',a∈O')(n:O''.Nodup):Go Z H O Z' H' O'':=⟨g.wf.sub h n,g.zz,g.fr,g.zn,λa q=>g.sub a (h a q),g.dm⟩
theorem Go.dropL(g:Go Z H O Z' H' (A++B)):Go Z H O Z' H' B:=g.drop (λa h=>by simp[h]) (U8.mp g.wf.nd).2.1
theorem Go.dropR(g:Go Z H O Z' H' (A++B)):Go Z H O Z' H' A:=g.drop (λa h=>by simp[h]) (U8.mp g.wf.nd).1
theorem Go.freeze(w:WF Z H O):Go Z H O (λa=>Z a \/ a∈O) H [] :=
 ⟨⟨List.nodup_nil,λa h=>(nomatch h),λa h=>(nomatch h),λa h=>h.elim (w.zd a) (w.od a)⟩,λa z=>.inl z,λ_ _ _=>rfl,λa z=>z.elim .inl λq=>.inr (.inl q),λa h=>(nomatch h),λ_ h=>h⟩
theorem Go.newF{p:Addr}{o:HO}(w:WF Z H O)(b:H p=none):Go Z H O (λa=>Z a \/ a=p) (upd H p o) O:=by
 have ne:∀ a,H a≠none->a≠p:=λa h e=>h (e▸b);refine⟨⟨w.nd,λa h z=>z.elim (w.nz a h) (ne a (w.od a h)),λa h=>?_,λa z=>?_⟩,λa z=>.inl z,λa h _=>jf (ne a h),λa z=>z.elim .inl λe=>.inr (.inr (e▸b)),λa h=>.inl h,λa h=>?_⟩
 ·rw[jf (ne a (w.od a h))];exact w.od a h
 ·by_cases e:a=p
  ·rw[e,ju];exact λh=>nomatch h
  ·rw[jf e];exact w.zd a (z.resolve_right e)
 ·rw[jf (ne a h)];exact h
theorem Go.newO{p:Addr}{o:HO}(w:WF Z H O)(b:H p=none):Go Z H O Z (upd H p o) (p::O):=by
 have ne:∀ a,H a≠none->a≠p:=λa h e=>h (e▸b);refine⟨⟨List.nodup_cons.mpr ⟨λh=>w.od p h b,w.nd⟩,λa h z=>?_,λa h=>?_,λa z=>?_⟩,λa z=>z,λa h _=>jf (ne a h),λa z=>.inl z,λa h=>?_,λa h=>?_⟩
 ·rcases M4.mp h with e | e
  ·exact w.zd a z (e▸b)
  ·exact w.nz a e z
 ·rcases M4.mp h with e | e
  ·rw[e,ju];exact λh=>nomatch h
  ·rw[jf (ne a (w.od a e))];exact w.od a e
 ·rw[jf (ne a (w.zd a z))];exact w.zd a z
 ·rcases M4.mp h with e | e
  ·exact .inr (e▸b)
  ·exact .inl e
 ·rw[jf (ne a h)];exact h
theorem Go.put{p:Addr}{o:HO}(w:WF Z H O)(c:p∈O):Go Z H O Z (upd H p o) O:=by
 have b:∀ a,upd H p o a=none->a≠p/\H a=none:=λa h=>by
  by_cases e:a=p
  ·rw[e,ju] at h;cases h
  ·rw[jf e] at h;exact⟨e,h⟩
 exact⟨⟨w.nd,w.nz,λa h z=>w.od a h (b a z).2,λa z e=>w.zd a z (b a e).2⟩,λa z=>z,λa h n=>jf λe=>n (e▸c),λa z=>.inl z,λa h=>.inl h,λa h z=>h (b a z).2⟩
end
noncomputable def jed:D->Option Bool
 | .bl b=>some b
 | _=>none
@[simp] theorem blOf_bl(b:Bool):jed (.bl b)=some b:=rfl
theorem zI{d:D}{b:Bool}(h:jed d=some b):d=.bl b:=by cases d<;>cases h<;>rfl
noncomputable def y4:D->Option Int
 | .int i=>some i
 | _=>none
@[simp] theorem intOf_int(i:Int):y4 (.int i)=some i:=rfl
theorem ym{d:D}{n:Int}(h:y4 d=some n):d=.int n:=by cases d<;>cases h<;>rfl
noncomputable def VM:D->Option (List D)
 | .lst true l=>some l
 | _=>none
@[simp] theorem kg(l:List D):VM (.lst true l)=some l:=rfl
theorem J4{d:D}{l:List D}(h:VM d=some l):d=.lst true l:=by
 cases d with
 | lst o _=>cases o<;>cases h;rfl
 | _=>cases h
noncomputable def je3:D->Option (List D)
 | .tup l=>some l
 | _=>none
@[simp] theorem tupOf_tup(l:List D):je3 (.tup l)=some l:=rfl
noncomputable def jbv:D->Option (List KA×List D)
 | .dK true ks l=>some (ks,l)
 | _=>none
@[simp] theorem dkOf_dK(ks:List KA)(l:List D):jbv (.dK true ks l)=some (ks,l):=rfl
theorem VU{d:D}{p:List KA×List D}(h:jbv d=some p):d=.dK true p.1 p.2:=by
 cases d with
 | dK o _ _=>cases o<;>cases h;rfl
 | _=>cases h
noncomputable def jeO:D->Option (List KA×List D)
 | .dK _ ks l=>some (ks,l)
 | _=>none
@[simp] theorem dkAny_e(o:Bool)(ks:List KA)(l:List D):jeO (.dK o ks l)=some (ks,l):=rfl
theorem jbz{d:D}{p:List KA×List D}(h:jeO d=some p):∃ o,d=.dK o p.1 p.2:=by
 cases d with
 | dK o _ _=>cases h;exact⟨o,rfl⟩
 | _=>cases h
noncomputable def jgm:D->Option (List (List KA)×List D)
 | .dT true ks l=>some (ks,l)
 | _=>none
@[simp] theorem dtOf_dT(ks:List (List KA))(l:List D):jgm (.dT true ks l)=some (ks,l):=rfl
theorem uP{d:D}{p:List (List KA)×List D}(h:jgm d=some p):d=.dT true p.1 p.2:=by
 cases d with
 | dT o _ _=>cases o<;>cases h;rfl
 | _=>cases h
noncomputable def K3:D->Option (Nat×List Str×List D)
 | .ins true c ns l=>some (c,ns,l)
 | _=>none
@[simp] theorem insOf_ins(c:Nat)(ns:List Str)(l:List D):K3 (.ins true c ns l)=some (c,ns,l):=rfl
theorem qZ{d:D}{c:Nat}{ns:List Str}{l:List D}(h:K3 d=some (c,ns,l)):d=.ins true c ns l:=by
 cases d with
 | ins o _ _ _=>cases o<;>cases h;rfl
 | _=>cases h
noncomputable def jjZ:D->Option (Nat×List Str×List D)
 | .ins _ c ns l=>some (c,ns,l)
 | _=>none
@[simp] theorem inOf_ins(o:Bool)(c:Nat)(ns:List Str)(l:List D):jjZ (.ins o c ns l)=some (c,ns,l):=rfl
theorem jek{d:D}{c:Nat}{ns:List Str}{l:List D}(h:jjZ d=some (c,ns,l)):∃ o,d=.ins o c ns l:=by
 cases d with
 | ins o _ _ _=>cases h;exact⟨o,rfl⟩
 | _=>cases h
noncomputable def jgx:D->Option (List D)
 | .lst _ l=>some l
 | _=>none
@[simp] theorem lsOf_lst(o:Bool)(l:List D):jgx (.lst o l)=some l:=rfl
theorem zA{d:D}{l:List D}(h:jgx d=some l):∃ o,d=.lst o l:=by
 cases d with
 | lst o _=>cases h;exact⟨o,rfl⟩
 | _=>cases h
theorem jbF{d:D}{l:List D}(h:je3 d=some l):d=.tup l:=by cases d<;>cases h<;>rfl
noncomputable def jfO:List D->Option D
 | [x]=>some x
 | _=>none
theorem JG{l:List D}{x:D}(h:jfO l=some x):l=[x]:=by
 match l with
 | [_]=>cases h;rfl
noncomputable def two1:List D->Option (D×D)
 | [x,y]=>some (x,y)
 | _=>none
theorem two1_of{l:List D}{p:D×D}(h:two1 l=some p):l=[p.1,p.2]:=by
 match l with
 | [_,_]=>cases h;rfl
theorem ob{α β:Type}{C:Prop}{o:Option α}{f:α->Option β}{b:β}(e:o.bind f=some b)(k:∀ a,o=some a->f a=some b->C):C:=by
 cases o with
 | none=>cases e
 | some a=>exact k a rfl e
theorem oc{β:Type}{C:Prop}{c:Bool}{x:Option β}{b:β}(e:(bif c then x else none)=some b)(k:c=true->x=some b->C):C:=by
 cases c with
 | false=>cases e
 | true=>exact k rfl e
noncomputable abbrev Rh:=List (Option D)
def Slots(R:RC)(Z:Zn)(H:Hp):Rh->St->List Addr->Prop
 | [],σ,O=>σ=[]/\O=[]
 | none::ρ,σ,O=>∃ s σ',σ=s::σ'/\Slots R Z H ρ σ' O
 | some d::ρ,σ,O=>∃ v σ' O1 O2,σ=some v::σ'/\O=O1++O2/\Rep R Z H d v O1/\Slots R Z H ρ σ' O2
theorem Slots.frame(c:∀ a,Z a->Z' a)(f:∀ a,Z a->H' a=H a):∀{ρ:Rh}{σ:St}{O:List Addr},Slots R Z H ρ σ O->(∀ a∈O,H' a=H a)->Slots R Z' H' ρ σ O
 | [],_,_,h,_=>h
 | none::ρ,_,_,h,b=>by
  obtain⟨s,g,e,r⟩:=h;exact⟨s,g,e,Slots.frame c f r b⟩
 | some d::ρ,_,_,h,b=>by
  obtain⟨v,g,j,k,e,rfl,l,m⟩:=h;exact⟨v,g,j,k,e,rfl,l.frame c f λa i=>b a (List.mem_append_left _ i),Slots.frame c f m λa i=>b a (U2 _ i)⟩
theorem Slots.length:∀{ρ:Rh}{σ:St}{O:List Addr},Slots R Z H ρ σ O->σ.length=ρ.length
 | [],_,_,h=>by rw[h.1];rfl
 | none::ρ,_,_,h=>by obtain⟨s,a,rfl,r⟩:=h;rw[M0,M0,Slots.length r]
 | some d::ρ,_,_,h=>by obtain⟨v,a,c,e,rfl,rfl,f,b⟩:=h;rw[M0,M0,Slots.length b]
inductive SPut (R:RC) (Z:Zn) (H:Hp) (ρ:Rh) (σ:St) (O:List Addr) (i:Nat):Prop
 | mk:∀(A P B:List Addr),O=A++P++B->(∀ d,ρ[i]?=some (some d)->∃ v,σ[i]?=some (some v)/\Rep R Z H d v P) ->
  (∀{Z':Zn}{H':Hp}{d':D}{v':V}{P':List Addr},Rep R Z' H' d' v' P'->(∀ a,Z a->Z' a)->(∀ a,Z a->H' a=H a)->(∀ a∈A,H' a=H a)->(∀ a∈B,H' a=H a)->Slots R Z' H' (ρ.set i (some d')) (σ.set i (some v')) (A++P'++B)) ->
  Slots R Z H (ρ.set i none) σ (A++B)->SPut R Z H ρ σ O i
theorem Slots.put:∀{ρ:Rh}{σ:St}{O:List Addr}{i:Nat},Slots R Z H ρ σ O->i < ρ.length->SPut R Z H ρ σ O i
 | [],_,_,_,_,hi=>absurd hi (Nat.not_lt_zero _)
 | none::ρ,_,_,0,h,hi=>by
  obtain⟨s,b,rfl,r⟩:=h;refine⟨[],[],_,rfl,λd e=>by simp at e,λq f g k j=>?_,?_⟩
  ·exact⟨_,b,_,_,rfl,rfl,q,Slots.frame f g r j⟩
  ·exact⟨s,b,rfl,r⟩
 | some c::ρ,_,_,0,h,hi=>by
  obtain⟨v,b,l,w,rfl,rfl,m,n⟩:=h;refine⟨[],l,w,rfl,λd e=>?_,λq f g k j=>?_,?_⟩
  ·have e:c=d:=by simpa using e
   subst e;exact⟨v,rfl,m⟩
  ·exact⟨_,b,_,_,rfl,rfl,q,Slots.frame f g n j⟩
  ·exact⟨_,b,rfl,n⟩
 | none::ρ,_,_,i+1,h,hi=>by
  obtain⟨s,b,rfl,r⟩:=h;obtain⟨A,P,B,rfl,o,p,t⟩:=Slots.put (i:=i) r (by simpa using hi);refine⟨A,P,B,rfl,λd e=>o d (by simpa using e),λq f g k j=>?_,?_⟩
  ·exact⟨s,_,rfl,p q f g k j⟩
  ·exact⟨s,b,rfl,t⟩
 | some c::ρ,_,_,i+1,h,hi=>by
  obtain⟨v,b,l,w,rfl,rfl,m,n⟩:=h;obtain⟨A,P,B,rfl,o,p,t⟩:=Slots.put (i:=i) n (by simpa using hi);refine⟨l++A,P,B,by simp,λd e=>o d (by simpa using e),λ{y z C D x} q f g k j=>?_,?_⟩
  ·exact⟨v,_,l,A++x++B,rfl,by simp,m.frame f g λa u=>k a (List.mem_append_left _ u),p q f g (λa u=>k a (U2 _ u)) j⟩
  ·exact⟨v,b,l,A++B,rfl,by simp,m,t⟩
theorem vc:∀{l:List α}{i:Nat}{x:α},l[i]?=some x->l.set i x=l
 | [],_,_,h=>by simp at h
 | y::l,0,x,h=>by simp at h;subst h;rfl
 | y::l,i+1,x,h=>by rw[List.set_cons_succ,vc (by simpa using h)]
abbrev FE:=Rh->Option (D×Rh)
abbrev FT':=Rh->Option (Bool×Rh)
abbrev FA:=Rh->Option (List D×Rh)
def DE(R:RC)(te:TE)(f:FE):Prop:=∀{σ:St}{ρ ρ':Rh}{Z:Zn}{H:Hp}{O:List Addr}{d:D},WF Z H O->Slots R Z H ρ σ O->f ρ=some (d,ρ') ->
 ∀{Q:VK},(∀{v:V}{Z':Zn}{H':Hp}{P O':List Addr},Go Z H O Z' H' (P++O')->Rep R Z' H' d v P->Slots R Z' H' ρ' σ O'->Q v H')->te σ H Q
def DT(R:RC)(tt:TT)(f:FT'):Prop:=∀{σ:St}{ρ ρ':Rh}{Z:Zn}{H:Hp}{O:List Addr}{b:Bool},WF Z H O->Slots R Z H ρ σ O->f ρ=some (b,ρ') ->
 ∀{Q:Bool->Hp->Prop},(∀{Z':Zn}{H':Hp}{O':List Addr},Go Z H O Z' H' O'->Slots R Z' H' ρ' σ O'->Q b H')->tt σ H Q
def DA(R:RC)(ta:TA)(f:FA):Prop:=∀{σ:St}{ρ ρ':Rh}{Z:Zn}{H:Hp}{O:List Addr}{ds:List D},WF Z H O->Slots R Z H ρ σ O->f ρ=some (ds,ρ') ->
 ∀{Q:List V->Hp->Prop},(∀{vs:List V}{Z':Zn}{H':Hp}{P O':List Addr},Go Z H O Z' H' (P++O')->Reps R Z' H' ds vs P->Slots R Z' H' ρ' σ O'->Q vs H')->ta σ H Q
def DC(R:RC)(r:List V->Hp->VK->Prop)(g:List D->Option D):Prop:=∀{Z:Zn}{H:Hp}{xs:List D}{d:D}{vs:List V}{O:List Addr},WF Z H O->Reps R Z H xs vs O->g xs=some d ->
 ∀{Q:VK},(∀{w:V}{Z':Zn}{H':Hp}{P:List Addr},Go Z H O Z' H' P->Rep R Z' H' d w P->Q w H')->r vs H Q
inductive Out where
 | nx (ρ:Rh) | rt (d:D) (ρ:Rh) | bk (ρ:Rh) | ct (ρ:Rh)
abbrev FS:=Rh->Option Out
noncomputable def Out.thn:Out->FS->Option Out
 | .nx ρ,g=>g ρ
 | .rt d ρ,_=>some (.rt d ρ)
 | .bk ρ,_=>some (.bk ρ)
 | .ct ρ,_=>some (.ct ρ)
@[simp] theorem thn_nx(ρ:Rh)(g:FS):(Out.nx ρ).thn g=g ρ:=rfl
@[simp] theorem thn_rt(d:D)(ρ:Rh)(g:FS):(Out.rt d ρ).thn g=some (.rt d ρ):=rfl
@[simp] theorem thn_bk(ρ:Rh)(g:FS):(Out.bk ρ).thn g=some (.bk ρ):=rfl
@[simp] theorem thn_ct(ρ:Rh)(g:FS):(Out.ct ρ).thn g=some (.ct ρ):=rfl
noncomputable def Out.val:Out->Option D
 | .rt d _=>some d
 | .nx _=>some .non
 | _=>none
@[simp] theorem val_rt(d:D)(ρ:Rh):(Out.rt d ρ).val=some d:=rfl
@[simp] theorem val_nx(ρ:Rh):(Out.nx ρ).val=some .non:=rfl
noncomputable def Out.loop:Out->FS->Option Out
 | .nx ρ,g=>g ρ
 | .ct ρ,g=>g ρ
 | .bk ρ,_=>some (.nx ρ)
 | .rt d ρ,_=>some (.rt d ρ)
@[simp] theorem loop_nx(ρ:Rh)(g:FS):(Out.nx ρ).loop g=g ρ:=rfl
@[simp] theorem loop_ct(ρ:Rh)(g:FS):(Out.ct ρ).loop g=g ρ:=rfl
@[simp] theorem loop_bk(ρ:Rh)(g:FS):(Out.bk ρ).loop g=some (.nx ρ):=rfl
@[simp] theorem loop_rt(d:D)(ρ:Rh)(g:FS):(Out.rt d ρ).loop g=some (.rt d ρ):=rfl
abbrev PF:=Rh->Option D
noncomputable def pV(i:Nat):PF:=λρ=>match ρ[i]? with
 | some (some d)=>some d
 | _=>none
theorem Jw(h:pV i ρ=some d):ρ[i]?=some (some d):=by
 unfold pV at h;split at h
 ·rename_i x a;rw[a];rw[X7 h]
 ·cases h
def Keep(pm:List Nat)(σ σ':St):Prop:=∀ i∈pm,σ'[i]?=σ[i]?
def OutOk(R:RC)(pm:List Nat)(Z:Zn)(H:Hp)(O:List Addr)(σ:St)(D':Ends):Out->Prop
 | .nx ρ'=>∀{σ':St}{Z':Zn}{H':Hp}{O':List Addr},Go Z H O Z' H' O'->Slots R Z' H' ρ' σ' O'->Keep pm σ σ'->D'.nx σ' H'
 | .bk ρ'=>∀{σ':St}{Z':Zn}{H':Hp}{O':List Addr},Go Z H O Z' H' O'->Slots R Z' H' ρ' σ' O'->Keep pm σ σ'->D'.bk σ' H'
 | .ct ρ'=>∀{σ':St}{Z':Zn}{H':Hp}{O':List Addr},Go Z H O Z' H' O'->Slots R Z' H' ρ' σ' O'->Keep pm σ σ'->D'.ct σ' H'
 | .rt d ρ'=>∀{v:V}{σ':St}{Z':Zn}{H':Hp}{P O':List Addr},Go Z H O Z' H' (P++O')->Rep R Z' H' d v P->Slots R Z' H' ρ' σ' O'->Keep pm σ σ'->D'.rt v H'
def DS(R:RC)(pm:List Nat)(ts:TS)(f:FS):Prop:=∀{σ:St}{ρ:Rh}{Z:Zn}{H:Hp}{O:List Addr}{o:Out},WF Z H O->Slots R Z H ρ σ O->f ρ=some o->∀{D':Ends},OutOk R pm Z H O σ D' o->ts D' σ H
def DG(R:RC)(pm:List Nat)(tg:TG)(f:D->Rh->Option Rh):Prop:=∀{σ:St}{ρ ρ':Rh}{Z:Zn}{H:Hp}{O P:List Addr}{d:D}{v:V},WF Z H (P++O)->Rep R Z H d v P->Slots R Z H ρ σ O->f d ρ=some ρ' ->
 ∀{Q:St->Hp->Prop},(∀{σ':St}{Z':Zn}{H':Hp}{O':List Addr},Go Z H (P++O) Z' H' O'->Slots R Z' H' ρ' σ' O'->Keep pm σ σ'->Q σ' H')->tg v σ H Q
theorem Keep.refl(pm:List Nat)(σ:St):Keep pm σ σ:=λ_ _=>rfl
theorem Keep.trans(h:Keep pm σ σ')(k:Keep pm σ' σ''):Keep pm σ σ'':=λi hi=>(k i hi).trans (h i hi)
theorem Keep.set(h:i∉pm):Keep pm σ (σ.set i x):=λj a=>by
 have ne:i≠j:=λe=>h (by rw[e];exact a);rw[List.getElem?_set,if_neg ne]
@[simp] def dMv(i:Nat)(ρ:Rh):Option (D×Rh):=(pV i ρ).bind λd=>some (d,ρ.set i none)
theorem jjI:DE R (kD i) (dMv i):=by
 intro σ ρ o Z H O d w h e Q k;refine ob e λc f e=>?_;have f:=Jw f;obtain⟨A,P,B,rfl,l,p,m⟩:=h.put (L8.mp f).1;obtain⟨v,n,r⟩:=l c f;cases e;refine⟨v,n,k (P:=P) ((Go.refl w).drop (λa q=>?_) ?_) r m⟩
 ·simp at q ⊢;rcases q with q | q | q<;>simp[q]
 ·have nd:=w.nd;simp only[U8,N1] at nd ⊢;exact⟨nd.1.2.1,⟨nd.1.1,nd.2.1,λa g b j=>nd.2.2 a (.inl g) b j⟩,λa g b j e=>j.elim (λq=>nd.1.2.2 b q a g e.symm) λq=>nd.2.2 a (.inr g) b q e⟩
theorem jel(c:Go Z H O Z' H' (P1++O1))(b:Go Z' H' O1 Z'' H'' (P2++O2)):Go Z H O Z'' H'' (P1++(P2++O2))/\(∀ a,Z' a->Z'' a)/\(∀ a,Z' a->H'' a=H' a)/\∀ a∈P1,H'' a=H' a:=by
 have w:WF Z' H' (P1++O1++[]):=by simpa using c.wf
 have f:=b.frame w;refine⟨c.trans (by simpa using f),b.zz,λa z=>b.zH c.wf.right a z,(Go.keepA w b).1⟩
@[simp] def dOp(g:D->D->Option D)(fa:FE)(fb:FE)(ρ:Rh):Option (D×Rh):=(fa ρ).bind λr=>(fb r.2).bind λt=>(g r.1 t.1).bind λz=>some (z,t.2)
@[simp] def jgo(ρ:Rh):Option (List D×Rh):=some ([],ρ)
@[simp] def vj(fa:FE)(fr:FA)(ρ:Rh):Option (List D×Rh):=(fa ρ).bind λx=>(fr x.2).bind λy=>some (x.1::y.1,y.2)
theorem jio:DA R Y7 jgo:=by
 intro σ ρ a Z H O d w h e Q k;cases e;exact k (P:=[]) (Go.refl w) Reps.empty h
theorem jez(b:DE R ta fa)(c:DA R tr fr):DA R (yc ta tr) (vj fa fr):=by
 intro σ ρ r Z H O d w h e Q k;refine ob e λp f e=>?_;obtain⟨x,s⟩:=p;dsimp only at e;refine ob e λp e2 e=>?_;obtain⟨t,u⟩:=p;cases e;refine b w h f λ{v y z g A} a i s1=>?_;refine c a.wf.right s1 e2 λ{B C D j E} l m n=>?_;obtain⟨g3,zz,o,q⟩:=jel a l;exact k (P:=g++j) (by simpa using g3) (.cons (i.frame zz o q) m) n
noncomputable def dCB(g:List D->Option D)(fa:FA):FE:=λρ=>(fa ρ).bind λp5=>(g p5.1).bind λz=>some (z,p5.2)
theorem jg8(f:DC R r g)(i:DA R ta fa):DE R (tCB r ta) (dCB g fa):=by
 intro σ ρ y Z H O d w h e Q k;refine ob e λp j e=>?_;obtain⟨x,A⟩:=p;dsimp only at e;refine ob e λz e3 e=>?_;cases e;refine i w h j λ{v l m n o} b q s1=>?_;refine f b.wf.left q e3 λ{B Z3 C s} g4 t=>?_;have c:WF l m ([]++n++o):=by simpa using b.wf
 have u:=g4.frame c;refine k (P:=s) (b.trans (by simpa using u)) t (s1.frame g4.zz (λa z=>g4.zH b.wf.left a z) (Go.keepA c g4).2)
def jgn(fa:FA):FE:=dCB (λxs=>bif decide (xs.length<=1000) then some (.tup xs) else none) fa
def jiZ(fa:FA):FE:=dCB (λxs=>bif decide (xs.length<=1000) then some (.lst true xs) else none) fa
theorem jdj(h:n<=1000):n<=sizeLine:=Nat.le_of_lt (uS h)
theorem Rep.tupNew(w:WF Z H O)(b:H p=none)(r:Reps R Z H l vs O):Rep R (λa=>Z a \/ a=p) (upd H p (.tup vs)) (.tup l) (.ref p) O:=by
 have ne:∀ a,H a≠none->a≠p:=λa h e=>h (e▸b);rw[Rep];exact⟨p,vs,rfl,.inl ⟨.inr rfl,.inl ju⟩,r.frame (λa z=>.inl z) (λa z=>jf (ne a (w.zd a z))) λa h=>jf (ne a (w.od a h))⟩
theorem Rep.lstNew(w:WF Z H O)(b:H p=none)(r:Reps R Z H l vs O):Rep R Z (upd H p (.lst vs)) (.lst true l) (.ref p) (p::O):=by
 have ne:∀ a,H a≠none->a≠p:=λa h e=>h (e▸b);rw[Rep];exact⟨p,vs,O,rfl,r.frame (λa z=>z) (λa z=>jf (ne a (w.zd a z))) λa h=>jf (ne a (w.od a h)),ju,rfl⟩
theorem jiJ(g:DA R ta fa):DE R (zM ta) (jgn fa):=by
 refine jg8 (r:=λa c Q=>a.length<=sizeLine/\∀ p,c p=none->Q (.ref p) (upd c p (.tup a))) ?_ g;intro Z H a d h O w r e Q k;dsimp only at e;by_cases b:a.length<=1000
 ·rw[X4 b,cond_true] at e;cases e;exact⟨by rw[r.length];exact jdj b,λp f=>k (Go.newF w f) (Rep.tupNew w f r)⟩
 ·rw[X5 b,cond_false] at e;cases e
theorem jgT(g:DA R ta fa):DE R (jiG ta) (jiZ fa):=by
 refine jg8 (r:=λa c Q=>a.length<=sizeLine/\∀ p,c p=none->Q (.ref p) (upd c p (.lst a))) ?_ g;intro Z H a d h O w r e Q k;dsimp only at e;by_cases b:a.length<=1000
 ·rw[X4 b,cond_true] at e;cases e;exact⟨by rw[r.length];exact jdj b,λp f=>k (Go.newO w f) (Rep.lstNew w f r)⟩
 ·rw[X5 b,cond_false] at e;cases e
theorem Rep.bl_of(r:Rep R Z H (.bl b) v O):v=.bl b/\O=[]:=by rw[Rep] at r;exact r
theorem Rep.bl_mk:Rep R Z H (.bl b) (.bl b) []:=by rw[Rep];exact⟨rfl,rfl⟩
theorem OutOk.pre(g:Go Z H O Z1 H1 O1)(kp:Keep pm σ σ1)(k:OutOk R pm Z H O σ D' o):OutOk R pm Z1 H1 O1 σ1 D' o:=by
 cases o with
 | nx ρ=>exact λa b c=>k (g.trans a) b (kp.trans c)
 | bk ρ=>exact λa b c=>k (g.trans a) b (kp.trans c)
 | ct ρ=>exact λa b c=>k (g.trans a) b (kp.trans c)
 | rt d ρ=>exact λa e b c=>k (g.trans a) e b (kp.trans c)
@[simp] def jF(ρ:Rh):Option Out:=some (.nx ρ)
noncomputable def jg(f g:FS):FS:=λρ=>match f ρ with
 | some (.nx ρ1)=>g ρ1
 | o=>o
@[simp] theorem jdp:jg f g ρ=(f ρ).bind λo=>o.thn g:=by
 unfold jg;cases h:f ρ with
 | none=>rfl
 | some o=>cases o<;>rfl
theorem jeT:DS R pm jeL jF:=by
 intro σ ρ Z H O o w h e a k;cases e;exact k (Go.refl w) h (Keep.refl _ _)
theorem jgY(i:DS R pm t f)(j:DS R pm u g):DS R pm (jjh t u) (jg f g):=by
 intro σ ρ Z H O o w h e a k;rw[jdp] at e;refine ob e λl m e=>i w h m (D':={ a with nx:=u a }) ?_;cases l with
 | nx b=>exact λ{p q r s} c s1 n=>j c.wf s1 e (k.pre c n)
 | bk b=>cases e;exact k
 | ct b=>cases e;exact k
 | rt d b=>cases e;exact k
@[simp] def sBreak(ρ:Rh):Option Out:=some (.bk ρ)
@[simp] def sCont(ρ:Rh):Option Out:=some (.ct ρ)
@[simp] def JR(fe:FE)(ρ:Rh):Option Out:=(fe ρ).bind λx=>some (.nx x.2)
theorem je2(a:DE R ta fa):DS R pm (V1 ta) (JR fa):=by
 intro σ ρ Z H O o w h e d k;refine ob e λp b e=>?_;obtain⟨x,f⟩:=p;cases e;exact a w h b λc g s1=>k c.dropL s1 (Keep.refl _ _)
@[simp] def yL(fe:FE)(ρ:Rh):Option Out:=(fe ρ).bind λx=>some (.rt x.1 x.2)
theorem jiq(a:DE R ta fa):DS R pm (jjN ta) (yL fa):=by
 intro σ ρ Z H O o w h e f k;refine ob e λp b e=>?_;obtain⟨x,g⟩:=p;cases e;exact a w h b λc d s1=>k c d s1 (Keep.refl _ _)
@[simp] def sRetN(ρ:Rh):Option Out:=some (.rt .non ρ)
@[simp] def sIf(ft:FT')(f:FS)(g:FS)(ρ:Rh):Option Out:=(ft ρ).bind λx=>bif x.1 then f x.2 else g x.2
theorem jja(b:DT R tt ft)(d:DS R pm t f)(i:DS R pm u g):DS R pm (jjq tt t u) (sIf ft f g):=by
 intro σ ρ Z H O o w h e l k;refine ob e λp j e=>?_;obtain⟨c,m⟩:=p;dsimp only at e;refine b w h j λ{n q r} a s1=>?_;cases c with
 | true=>exact jgh (d a.wf s1 e (k.pre a (Keep.refl _ _)))
 | false=>exact jgi (i a.wf s1 e (k.pre a (Keep.refl _ _)))
@[simp] def v8(ρ:Rh):Option Out:=none
theorem jb5:DS R pm jaa v8:=by
 intro σ ρ Z H O o w h e a k;cases e
@[simp] def jd(pm:List Nat)(i:Nat)(d:D)(ρ:Rh):Option Rh:=bif decide (i < ρ.length)&&!decide (i∈pm) then some (ρ.set i (some d)) else none
theorem Q6:DG R pm (V7 i) (jd pm i):=by
 intro σ ρ l Z H O P d v w r h e Q k;unfold jd at e;by_cases hi:i < ρ.length
 ·by_cases f:i∈pm
  ·rw[X4 f] at e;simp at e
  ·rw[X4 hi,X5 f] at e;cases e;obtain⟨A,m,B,rfl,n,j,o⟩:=h.put hi;refine k (O':=A++P++B) ((Go.refl w).drop (λa q=>?_) ?_) (j r (λ_ z=>z) (λ_ _=>rfl) (λ_ _=>rfl) (λ_ _=>rfl)) (Keep.set f)
   ·simp at q ⊢;rcases q with q | q | q<;>simp[q]
   ·have nd:=w.nd;simp only[U8,N1] at nd ⊢;exact⟨⟨nd.2.1.1.1,nd.1,λa g b c e=>nd.2.2 b c a (.inl (.inl g)) e.symm⟩,nd.2.1.2.1,λa g b c e=>g.elim (λq=>nd.2.1.2.2 a (.inl q) b c e) λq=>nd.2.2 a q b (.inr c) e⟩
 ·rw[X5 hi] at e;simp at e
@[simp] def jC(fe:FE)(G:D->Rh->Option Rh)(ρ:Rh):Option Out:=(fe ρ).bind λx=>(G x.1 x.2).bind λr=>some (.nx r)
theorem uC(b:DE R ta fa)(c:DG R pm tg g):DS R pm (jfN ta tg) (jC fa g):=by
 intro σ ρ Z H O o w h e m k;refine ob e λp d e=>?_;obtain⟨x,n⟩:=p;dsimp only at e;refine ob e λq e2 e=>?_;cases e;exact b w h d λa f s1=>c a.wf f s1 e2 λi j l=>k (Go.trans a i) j l
def DGs(R:RC)(pm:List Nat)(tg:TGs)(f:List D->Rh->Option Rh):Prop:=∀{σ:St}{ρ ρ':Rh}{Z:Zn}{H:Hp}{O P:List Addr}{ds:List D}{vs:List V},WF Z H (P++O)->Reps R Z H ds vs P->Slots R Z H ρ σ O->f ds ρ=some ρ' ->
 ∀{Q:St->Hp->Prop},(∀{σ':St}{Z':Zn}{H':Hp}{O':List Addr},Go Z H (P++O) Z' H' O'->Slots R Z' H' ρ' σ' O'->Keep pm σ σ'->Q σ' H')->tg vs σ H Q
noncomputable def gN:List D->Rh->Option Rh:=λds ρ=>match ds with
 | []=>some ρ
 | _=>none
noncomputable def gC(g:D->Rh->Option Rh)(gs:List D->Rh->Option Rh):List D->Rh->Option Rh:=λds ρ=>match ds with
 | []=>none
 | d::r=>(g d ρ).bind λρ1=>gs r ρ1
noncomputable def gT(n:Nat)(gs:List D->Rh->Option Rh):D->Rh->Option Rh:=λd ρ=>match d with
 | .tup l=>bif decide (l.length=n) then gs l ρ else none
 | _=>none
abbrev PTf:=Rh->Option Bool
abbrev PAf:=Rh->Option (List D)
section
variable {R:RC}{Z Z':Zn}{H H':Hp}
mutual
theorem Rep.dom:∀{d:D}{v:V}{O:List Addr},Rep R Z H d v O->∀ a∈O,H a≠none
 | .non,_,_,h,a,ha=>by rw[Rep] at h;rw[h.2] at ha;cases ha
 | .bl _,_,_,h,a,ha=>by rw[Rep] at h;rw[h.2] at ha;cases ha
 | .int _,_,_,h,a,ha=>by rw[Rep] at h;rw[h.2] at ha;cases ha
 | .str _,_,_,h,a,ha=>by rw[Rep] at h;rw[h.2] at ha;cases ha
 | .dead,_,_,h,a,ha=>by rw[Rep] at h;rw[h] at ha;cases ha
 | .tok _,_,_,h,a,ha=>by rw[Rep] at h;rw[h.2] at ha;cases ha
 | .exc _ _,_,_,h,a,ha=>by rw[Rep] at h;obtain⟨_,_,_,_,_,_,_,h⟩:=h;rw[h] at ha;cases ha
 | .tup l,_,_,h,a,ha=>by
  rw[Rep] at h;obtain⟨b,vs,e,t,r⟩:=h;exact Reps.dom r a ha
 | .lst o l,_,_,h,a,ha=>by
  rw[Rep] at h;obtain⟨b,vs,O',e,r,h⟩:=h;cases o with
  | true =>
   obtain⟨h1,rfl⟩:=h;rcases M4.mp ha with e | e
   ·rw[e,h1];exact λz=>(nomatch z)
   ·exact Reps.dom r a e
  | false=>rw[h.2.2] at ha;cases ha
 | .dK o ks l,_,_,h,a,ha=>by
  rw[Rep] at h;obtain⟨b,vs,O',e,r,hl,hd,h⟩:=h;cases o with
  | true =>
   have h:=(show _=_ from h);subst h;rcases M4.mp ha with e | e
   ·rw[e,hd];exact λz=>(nomatch z)
   ·exact Reps.dom r a e
  | false=>rw[h.2.2] at ha;cases ha
 | .dT o ks l,_,_,h,a,ha=>by
  rw[Rep] at h;obtain⟨b,vs,O',e,r,hl,hd,h⟩:=h;cases o with
  | true =>
   have h:=(show _=_ from h);subst h;rcases M4.mp ha with e | e
   ·rw[e,hd];exact λz=>(nomatch z)
   ·exact Reps.dom r a e
  | false=>rw[h.2.2] at ha;cases ha
 | .ins o c ns l,_,_,h,a,ha=>by
  rw[Rep] at h;obtain⟨b,dx,vs,O',e,r,hl,hd,h⟩:=h;cases o with
  | true =>
   have h:=(show _=_ from h);subst h;rcases M4.mp ha with e | e
   ·rw[e,hd];exact λz=>(nomatch z)
   ·exact Reps.dom r a e
  | false=>rw[h.2.2] at ha;cases ha
theorem Reps.dom:∀{l:List D}{vs:List V}{O:List Addr},Reps R Z H l vs O->∀ a∈O,H a≠none
 | [],_,_,h,a,ha=>by rw[Reps] at h;rw[h.2] at ha;cases ha
 | d::l,_,_,h,a,ha=>by
  rw[Reps] at h;obtain⟨v,vs,O1,O2,e,rfl,r1,r2⟩:=h;rcases N1.mp ha with q | q
  ·exact Rep.dom r1 a q
  ·exact Reps.dom r2 a q
end
theorem Slots.dom:∀{ρ:Rh}{σ:St}{O:List Addr},Slots R Z H ρ σ O->∀ a∈O,H a≠none
 | [],_,_,h,a,b=>by rw[h.2] at b;cases b
 | none::ρ,_,_,h,a,b=>by obtain⟨s,c,rfl,r⟩:=h;exact Slots.dom r a b
 | some d::ρ,_,_,h,a,b=>by
  obtain⟨v,c,g,i,rfl,rfl,e,f⟩:=h;rcases N1.mp b with q | q
  ·exact e.dom a q
  ·exact Slots.dom f a q
abbrev Zd(Z:Zn)(H:Hp):Prop:=∀ a,Z a->H a≠none
theorem wf0(z:Zd Z H):WF Z H []:=⟨List.nodup_nil,λa h=>(nomatch h),λa h=>(nomatch h),z⟩
theorem Go.id(z:Zd Z H):Go Z H [] Z H []:=Go.refl (wf0 z)
theorem Go.same{P:List Addr}(g:Go Z H [] Z' H' P):∀ a,H a≠none->H' a=H a:=λa h=>g.fr a h (λz=>(nomatch z))
theorem Go.rep{P O:List Addr}{d:D}{v:V}(z:Zd Z H)(g:Go Z H [] Z' H' P)(r:Rep R Z H d v O):Rep R Z' H' d v O:=r.frame g.zz (λa h=>g.same a (z a h)) λa h=>g.same a (r.dom a h)
theorem Go.reps{P O:List Addr}{l:List D}{vs:List V}(z:Zd Z H)(g:Go Z H [] Z' H' P)(r:Reps R Z H l vs O):Reps R Z' H' l vs O:=r.frame g.zz (λa h=>g.same a (z a h)) λa h=>g.same a (r.dom a h)
theorem Go.slots{P O:List Addr}{ρ:Rh}{σ:St}(z:Zd Z H)(g:Go Z H [] Z' H' P)(r:Slots R Z H ρ σ O):Slots R Z' H' ρ σ O:=r.frame g.zz (λa h=>g.same a (z a h)) λa h=>g.same a (r.dom a h)
theorem Go.pair{P a:List Addr}{Z'':Zn}{H'':Hp}(g:Go Z H [] Z' H' P)(k:Go Z' H' [] Z'' H'' a):Go Z H [] Z'' H'' (P++a):=by
 have w:WF Z' H' (P++[]++[]):=by simpa using g.wf
 have f:=k.frame w;exact g.trans (by simpa using f)
theorem Go.to0{O P:List Addr}(g:Go Z H O Z' H' P):Go Z H O Z' H' []:=g.drop (λa h=>(nomatch h)) List.nodup_nil
theorem Go.widen{P O:List Addr}(w:WF Z H O)(g:Go Z H [] Z' H' P):Go Z H O Z' H' (P++O):=by
 have f:=g.frame (A:=[]) (B:=O) (by simpa using w);simpa using f
def PP(R:RC)(te:TE)(p:PF):Prop:=∀{σ:St}{ρ:Rh}{Z:Zn}{H:Hp}{O:List Addr}{d:D},Zd Z H->Slots R Z H ρ σ O->p ρ=some d ->
 ∀{Q:VK},(∀{v:V}{Z':Zn}{H':Hp}{P:List Addr},Go Z H [] Z' H' P->Rep R Z' H' d v P->Q v H')->te σ H Q
def PB(R:RC)(te:TE)(p:PF):Prop:=∀{σ:St}{ρ:Rh}{Z:Zn}{H:Hp}{O:List Addr}{d:D},Zd Z H->Slots R Z H ρ σ O->p ρ=some d ->
 ∀{Q:VK},(∀{v:V}{Z':Zn}{H':Hp}{P:List Addr},Go Z H [] Z' H' []->Rep R Z' H' d v P->Q v H')->te σ H Q
def PPs(R:RC)(ta:TA)(p:PAf):Prop:=∀{σ:St}{ρ:Rh}{Z:Zn}{H:Hp}{O:List Addr}{ds:List D},Zd Z H->Slots R Z H ρ σ O->p ρ=some ds ->
 ∀{Q:List V->Hp->Prop},(∀{vs:List V}{Z':Zn}{H':Hp}{P:List Addr},Go Z H [] Z' H' P->Reps R Z' H' ds vs P->Q vs H')->ta σ H Q
def PBs(R:RC)(ta:TA)(p:PAf):Prop:=∀{σ:St}{ρ:Rh}{Z:Zn}{H:Hp}{O:List Addr}{ds:List D},Zd Z H->Slots R Z H ρ σ O->p ρ=some ds ->
 ∀{Q:List V->Hp->Prop},(∀{vs:List V}{Z':Zn}{H':Hp}{P:List Addr},Go Z H [] Z' H' []->Reps R Z' H' ds vs P->Q vs H')->ta σ H Q
def PTt(R:RC)(tt:TT)(p:PTf):Prop:=∀{σ:St}{ρ:Rh}{Z:Zn}{H:Hp}{O:List Addr}{b:Bool},Zd Z H->Slots R Z H ρ σ O->p ρ=some b ->
 ∀{Q:Bool->Hp->Prop},(∀{Z':Zn}{H':Hp},Go Z H [] Z' H' []->Q b H')->tt σ H Q
theorem PP.b{te:TE}{p:PF}(h:PP R te p):PB R te p:=λz s e _ k=>h z s e λg r=>k g.to0 r
theorem PPs.b{te:TA}{p:PAf}(h:PPs R te p):PBs R te p:=λz s e _ k=>h z s e λg r=>k g.to0 r
@[simp] def pF(pa:PF)(ρ:Rh):Option D:=(pa ρ).bind λd=>bif frz d then some d else none
theorem PB.f{te:TE}{p:PF}(h:PB R te p):PP R te (pF p):=by
 intro σ ρ Z H O d z s e Q k;refine ob e λc a e=>oc e λb e=>?_;cases e;exact h z s a λg r=>by
  cases r.nil b;exact k g r
@[simp] def dP(pa:PF)(ρ:Rh):Option (D×Rh):=(pa ρ).bind λd=>some (d,ρ)
@[simp] def dPT(q:PTf)(ρ:Rh):Option (Bool×Rh):=(q ρ).bind λd=>some (d,ρ)
theorem PP.d{te:TE}{p:PF}(h:PP R te p):DE R te (dP p):=by
 intro σ ρ b Z H O d w s e Q k;refine ob e λc a e=>?_;cases e;exact h w.zd s a λg r=>k (g.widen w) r (g.slots w.zd s)
theorem PTt.d{te:TT}{p:PTf}(h:PTt R te p):DT R te (dPT p):=by
 intro σ ρ b Z H O d w s e Q k;refine ob e λc a e=>?_;cases e;exact h w.zd s a λg=>k (by simpa using g.widen w) (g.slots w.zd s)
@[simp] def pC(d:D)(ρ:Rh):Option D:=some d
theorem jhS{i:Nat}:PB R (kD i) (pV i):=by
 intro σ ρ Z H O d z s e Q k;unfold pV at e;split at e
 ·rename_i c a;cases e;obtain⟨A,P,B,rfl,b,_⟩:=s.put (L8.mp a).1;obtain⟨v,f,r⟩:=b d a;exact⟨v,f,k (Go.id z) r⟩
 ·cases e
theorem ji2{d:D}{v:V}(a:∀(Z:Zn) (H:Hp),Rep R Z H d v []):PP R (tC v) (pC d):=by
 intro σ ρ Z H O b z s e Q k;cases e;exact k (Go.id z) (a Z H)
theorem Rep.int_mk{i:Int}:Rep R Z H (.int i) (.int i) []:=by rw[Rep];exact⟨rfl,rfl⟩
theorem Rep.str_mk{s:List Nat}:Rep R Z H (.str s) (.str (S s)) []:=by rw[Rep];exact⟨rfl,rfl⟩
theorem Rep.non_mk:Rep R Z H .non .non []:=by rw[Rep];exact⟨rfl,rfl⟩
theorem Rep.int_of{i:Int}{v:V}{O:List Addr}(r:Rep R Z H (.int i) v O):v=.int i/\O=[]:=by rw[Rep] at r;exact r
theorem Rep.str_of{s:List Nat}{v:V}{O:List Addr}(r:Rep R Z H (.str s) v O):v=.str (S s)/\O=[]:=by rw[Rep] at r;exact r
theorem Rep.non_of{v:V}{O:List Addr}(r:Rep R Z H .non v O):v=.non/\O=[]:=by rw[Rep] at r;exact r
def BO(R:RC)(r:R2)(g:D->D->Option D):Prop:=∀{Z:Zn}{H:Hp}{x y d:D}{v u:V}{O1 O2:List Addr},Zd Z H->Rep R Z H x v O1->Rep R Z H y u O2->g x y=some d ->
 ∀{Q:VK},(∀{w:V}{Z':Zn}{H':Hp}{P:List Addr},Go Z H [] Z' H' P->Rep R Z' H' d w P->Q w H')->r v u H Q
def BO'(R:RC)(r:R2)(g:D->D->Option D):Prop:=∀{Z:Zn}{H:Hp}{x y d:D}{v u:V}{O1 O2:List Addr},Zd Z H->Rep R Z H x v O1->Rep R Z H y u O2->g x y=some d ->
 ∀{Q:VK},(∀{w:V}{P:List Addr},Rep R Z H d w P->Q w H)->r v u H Q
def BU(R:RC)(r:V->Hp->VK->Prop)(g:D->Option D):Prop:=∀{Z:Zn}{H:Hp}{x d:D}{v:V}{O:List Addr},Zd Z H->Rep R Z H x v O->g x=some d ->
 ∀{Q:VK},(∀{w:V}{Z':Zn}{H':Hp}{P:List Addr},Go Z H [] Z' H' P->Rep R Z' H' d w P->Q w H')->r v H Q
def BC(R:RC)(r:List V->Hp->VK->Prop)(g:List D->Option D):Prop:=∀{Z:Zn}{H:Hp}{xs:List D}{d:D}{vs:List V}{O:List Addr},Zd Z H->Reps R Z H xs vs O->g xs=some d ->
 ∀{Q:VK},(∀{w:V}{Z':Zn}{H':Hp}{P:List Addr},Go Z H [] Z' H' P->Rep R Z' H' d w P->Q w H')->r vs H Q
@[simp] def p2(G:D->D->Option D)(pa:PF)(pb:PF)(ρ:Rh):Option D:=(pa ρ).bind λx=>(pb ρ).bind λy=>G x y
@[simp] def p1(G:D->Option D)(pa:PF)(ρ:Rh):Option D:=(pa ρ).bind G
theorem KU{r:R2}{g:D->D->Option D}{ta tb:TE}{pa pb:PF}(c:BO R r g)(f:PB R ta pa)(h:PB R tb pb):PP R (tOp r ta tb) (p2 g pa pb):=by
 intro σ ρ Z H O d z s e Q k;refine ob e λx i e=>ob e λy e2 e=>?_;refine f z s i λ{v n o p} a j=>?_;refine h a.wf.zd (a.slots z s) e2 λ{u q t w} b l=>?_;exact c b.wf.zd (b.rep a.wf.zd j) l e λg3 m=>k ((a.pair b).pair g3) m
theorem jkp{r:R2}{g:D->D->Option D}{ta tb:TE}{pa pb:PF}(c:BO' R r g)(f:PB R ta pa)(h:PB R tb pb):PB R (tOp r ta tb) (p2 g pa pb):=by
 intro σ ρ Z H O d z s e Q k;refine ob e λx i e=>ob e λy e2 e=>?_;refine f z s i λ{v n o p} a j=>?_;refine h a.wf.zd (a.slots z s) e2 λ{u q t w} b l=>?_;exact c b.wf.zd (b.rep a.wf.zd j) l e λm=>k (a.pair b) m
theorem ji8{r:V->Hp->VK->Prop}{g:D->Option D}{ta:TE}{pa:PF}(b:BU R r g)(c:PB R ta pa):PP R (tUn r ta) (p1 g pa):=by
 intro σ ρ Z H O d z s e Q k;refine ob e λx f e=>?_;exact c z s f λ{v j l m} a h=>b a.wf.zd h e λg3 i=>k (by simpa using a.pair g3) i
@[simp] def pN(ρ:Rh):Option (List D):=some []
@[simp] def ja(pa:PF)(p:PAf)(ρ:Rh):Option (List D):=(pa ρ).bind λx=>(p ρ).bind λxs=>some (x::xs)
theorem pps_nil:PPs R Y7 pN:=by
 intro σ ρ Z H O d z s e Q k;cases e;exact k (Go.id z) Reps.empty
theorem pps_cons{ta:TE}{pa:PF}{tr:TA}{pr:PAf}(c:PP R ta pa)(f:PPs R tr pr):PPs R (yc ta tr) (ja pa pr):=by
 intro σ ρ Z H O d z s e Q k;refine ob e λx g e=>ob e λj e2 e=>?_;cases e;refine c z s g λ{v l m n} a h=>?_;refine f a.wf.zd (a.slots z s) e2 λ{u o p q} b i=>?_;exact k (a.pair b) (.cons (b.rep a.wf.zd h) i)
theorem jfW:PBs R Y7 pN:=pps_nil.b
theorem jcg{ta:TE}{pa:PF}{tr:TA}{pr:PAf}(c:PB R ta pa)(f:PBs R tr pr):PBs R (yc ta tr) (ja pa pr):=by
 intro σ ρ Z H O d z s e Q k;refine ob e λx g e=>ob e λj e2 e=>?_;cases e;refine c z s g λ{v l m n} a h=>?_;refine f a.wf.zd (a.slots z s) e2 λ{u o p q} b i=>?_;exact k (a.pair b) (.cons (b.rep a.wf.zd h) i)
@[simp] def pCB(G:List D->Option D)(p:PAf)(ρ:Rh):Option D:=(p ρ).bind G
theorem jha{r:List V->Hp->VK->Prop}{g:List D->Option D}{ta:TA}{pa:PAf}(b:BC R r g)(c:PBs R ta pa):PP R (tCB r ta) (pCB g pa):=by
 intro σ ρ Z H O d z s e Q k;refine ob e λx f e=>?_;exact c z s f λ{v j l m} a h=>b a.wf.zd h e λg3 i=>k (by simpa using a.pair g3) i
noncomputable def lim(n:Nat):Bool:=decide (n<=100000)
theorem q5{n:Nat}(h:lim n=true):n<=sizeLine:=N6 (X6 h) (by decide)
theorem Kp{n:Nat}(h:lim n=true):n < sizeLine:=E4 (X6 h) (by decide)
@[simp] def yU(p:PAf)(ρ:Rh):Option D:=(p ρ).bind λxs=>bif lim xs.length then some (.tup xs) else none
@[simp] def vY(p:PAf)(ρ:Rh):Option D:=(p ρ).bind λxs=>bif lim xs.length then some (.lst true xs) else none
theorem jiy{ta:TA}{pa:PAf}(f:PPs R ta pa):PP R (zM ta) (yU pa):=by
 intro σ ρ Z H O d z s e Q k;refine ob e λi g e=>oc e λh e=>?_;cases e;exact f z s g λ{v j l m} a b=>⟨by rw[b.length];exact q5 h,λp c=>k (a.trans (Go.newF a.wf c)) (Rep.tupNew a.wf c b)⟩
theorem jgz{ta:TA}{pa:PAf}(f:PPs R ta pa):PP R (jiG ta) (vY pa):=by
 intro σ ρ Z H O d z s e Q k;refine ob e λi g e=>oc e λh e=>?_;cases e;exact f z s g λ{v j l m} a b=>⟨by rw[b.length];exact q5 h,λp c=>k (a.trans (Go.newO a.wf c)) (Rep.lstNew a.wf c b)⟩
@[simp] def jh(pa:PF)(ρ:Rh):Option Bool:=(pa ρ).bind jed
@[simp] def QY(q:PTf)(q':PTf)(ρ:Rh):Option Bool:=(q ρ).bind λb=>bif b then q' ρ else some false
@[simp] def qOr(q:PTf)(q':PTf)(ρ:Rh):Option Bool:=(q ρ).bind λb=>bif b then some true else q' ρ
@[simp] def jfU(q:PTf)(ρ:Rh):Option Bool:=(q ρ).bind λb=>some (!b)
theorem jal{ta:TE}{pa:PF}(a:PB R ta pa):PTt R (jeo ta) (jh pa):=by
 intro σ ρ Z H O b z s e Q k;refine ob e λx c e=>?_;cases zI e;refine a z s c λ{v g h i} d f=>?_;obtain⟨rfl,rfl⟩:=f.bl_of;exact⟨b,rfl,k d⟩
theorem jhp{ta tb:TT}{pa pb:PTf}(d:PTt R ta pa)(f:PTt R tb pb):PTt R (jjR ta tb) (QY pa pb):=by
 intro σ ρ Z H O b z s e Q k;refine ob e λc g e=>?_;refine d z s g λ{i j} a=>?_;cases c with
 | true=>exact jgh (f a.wf.zd (a.slots z s) e λh=>k (a.pair h))
 | false=>cases e;exact jgi (k a)
theorem jdI{ta:TT}{pa:PTf}(a:PTt R ta pa):PTt R (jkz ta) (jfU pa):=by
 intro σ ρ Z H O b z s e Q k;refine ob e λc d e=>?_;cases e;exact a z s d λ{g h} f=>k f
@[simp] def jdF(pa:PF)(pb:PF)(ρ:Rh):Option D:=(pa ρ).bind λd=>(jed d).bind λb=>bif b then pb ρ else some (.bl false)
@[simp] def pOr(pa:PF)(pb:PF)(ρ:Rh):Option D:=(pa ρ).bind λd=>(jed d).bind λb=>bif b then some (.bl true) else pb ρ
@[simp] def jj5(pa:PF)(ρ:Rh):Option D:=(pa ρ).bind λd=>(jed d).bind λb=>some (.bl (!b))
theorem jho{ta tb:TE}{pa pb:PF}(b:PB R ta pa)(f:PP R tb pb):PP R (jdV ta tb) (jdF pa pb):=by
 intro σ ρ Z H O d z s e Q k;refine ob e λx g e=>ob e λc e2 e=>?_;cases zI e2;refine b z s g λ{v l m n} a h=>?_;obtain⟨rfl,rfl⟩:=h.bl_of;refine⟨c,rfl,?_⟩;cases c with
 | true=>exact jgh (f a.wf.zd (a.slots z s) e λi j=>k (by simpa using a.pair i) j)
 | false=>cases e;exact jgi (k a .bl_mk)
theorem jgE{ta:TE}{pa:PF}(a:PB R ta pa):PP R (jes ta) (jj5 pa):=by
 intro σ ρ Z H O d z s e Q k;refine ob e λx b e=>ob e λc e2 e=>?_;cases zI e2;cases e;refine a z s b λ{v h i j} f g=>?_;obtain⟨rfl,rfl⟩:=g.bl_of;exact⟨c,rfl,k f .bl_mk⟩
@[simp] def pIf(q:PTf)(pa:PF)(pb:PF)(ρ:Rh):Option D:=(q ρ).bind λb=>bif b then pa ρ else pb ρ
theorem jkg{g:TT}{ta tb:TE}{pt:PTf}{pa pb:PF}(h:PTt R g pt)(i:PP R ta pa)(j:PP R tb pb):PP R (tIf g ta tb) (pIf pt pa pb):=by
 intro σ ρ Z H O d z s e Q k;refine ob e λc l e=>?_;refine h z s l λ{m n} a=>?_;cases c with
 | true=>exact jgh (i a.wf.zd (a.slots z s) e λb f=>k (by simpa using a.pair b) f)
 | false=>exact jgi (j a.wf.zd (a.slots z s) e λb f=>k (by simpa using a.pair b) f)
@[simp] def pChain(G:D->D->Option D)(G':D->D->Option D)(pa:PF)(pb:PF)(pc:PF)(ρ:Rh):Option D:=(pa ρ).bind λx=>(pb ρ).bind λy=>(G x y).bind λd=>(jed d).bind λb=>bif b then((pc ρ).bind λw=>G' y w) else some (.bl false)
end
section
variable {R:RC}{Z Z':Zn}{H H':Hp}{pm:List Nat}
def jgg(R:RC)(J:It)(Z:Zn)(H:Hp)(xs:List D):Prop:=∀{Z1:Zn}{H1:Hp},(∀ a,Z a->Z1 a)->(∀ a,Z a->H1 a=H a)->Zd Z1 H1->∀ i:Nat,
 (xs.length<=i->J.stop i H1)/\∀ x,xs[i]?=some x->J.go i H1/\∀ u H2,J.yld i H1 u H2->∃ Z2,Go Z1 H1 [] Z2 H2 []/\Rep R Z2 H2 x u []
def PIt(R:RC)(wi:TI)(p:PAf):Prop:=∀{σ:St}{ρ:Rh}{Z:Zn}{H:Hp}{O:List Addr}{xs:List D},Zd Z H->Slots R Z H ρ σ O->p ρ=some xs ->
 ∀{Q:It->Hp->Prop},(∀{J:It}{Z':Zn}{H':Hp},Go Z H [] Z' H' []->jgg R J Z' H' xs->Q J H')->wi σ H Q
def jcL(K:PySem.W.Frag)(tl:TE):TI:=λσ H Q=>tl σ H λx H1 =>
 (∃ a,x=.ref a/\(∃ xs,SqL K H1 a xs)/\Q (Itl K a) H1) \/ (∃ a,x=.ref a/\(∃ xs,SqT K H1 a xs)/\Q (Itt K a) H1) \/ ∃ l,x=.str (S l)/\Q (Its l) H1
theorem zQ{X:Cx}{tg l:Expr}{tl:TE}(B:PE X l tl):PI X tg l (jcL X.K tl):=by
 intro c s σ H Q I h;have n:∀ v s1,EP X c σ (λx f=>(∃ a,x=.ref a/\(∃ g,SqL X.K f a g)/\Q (Itl X.K a) f) \/ (∃ a,x=.ref a/\(∃ g,SqT X.K f a g)/\Q (Itt X.K a) f) \/ ∃ l,x=.str (S l)/\Q (Its l) f) v s1->wpAny (model X.prog X.w) X.A (pyIter v) (PIE X c σ tg Q) X.xe s1:=by
  rintro v s1 ⟨x,f,d,r,C⟩
  -- each by the layer's own rule,at a name that holds the value
  rcases C with⟨a,rfl,⟨g,u⟩,q⟩ | ⟨a,rfl,⟨g,u⟩,q⟩ | ⟨l,rfl,q⟩
  ·cases r;obtain⟨j,D,p,E⟩:=d.list u;refine wpAny_pyIter_list p.isList ?_;refine⟨s1.heap.objs.size,[s1.heap.objs.size],_,_,f,rfl,d.kept (t':=s1.toks) λb o e=>L7 _ e,jae a _,⟨_,E1 _ rfl,rfl,rfl⟩,λb k=>?_,q⟩;have e:b=s1.heap.objs.size:=by simpa using k
   subst e;exact d.fpOk (M8 _) (d.hok.fresh (M8 _))
  ·cases r;obtain⟨j,D,p,E⟩:=d.tuple u;refine wpAny_pyIter_tuple (show s1.heap.IsTuple a j.toArray from p) ?_;refine⟨s1.heap.objs.size,[s1.heap.objs.size],_,_,f,rfl,d.kept (t':=s1.toks) λb o e=>L7 _ e,xW a _,⟨_,E1 _ rfl,rfl,rfl⟩,λb k=>?_,q⟩;have e:b=s1.heap.objs.size:=by simpa using k
   subst e;exact d.fpOk (M8 _) (d.hok.fresh (M8 _))
  ·obtain⟨t,rfl⟩:=r;have m:∀(ty:String),(ty = "str_ascii_iterator" \/ ty = "str_iterator")->(∀ A:Around,A.handled=none->Walks X.prog X.w A s1.heap.objs.size [s1.heap.objs.size] [s1.heap.objs.size] (S l).cps.size (SignAt (S l)) (λi h=>h.IsStrIter s1.heap.objs.size ty (S l) t i)) ->
     PIE X c σ tg Q (.ref s1.heap.objs.size) { s1 with heap:=s1.heap.push { cls:=.type ty,data:=.fields #[.str (S l) t,.int 0 0] } }:=λty y W=>by
    refine⟨s1.heap.objs.size,[s1.heap.objs.size],_,_,f,rfl,d.kept (t':=s1.toks) λb o e=>L7 _ e,jbM _ l t ty y W,⟨_,E1 _ rfl,rfl,rfl⟩,λb k=>?_,q⟩;have e:b=s1.heap.objs.size:=by simpa using k
    subst e;exact d.fpOk (M8 _) (d.hok.fresh (M8 _))
   cases ha:(S l).cps.all (· < 128)
   ·exact wpAny_pyIter_wide ha (m _ (.inr rfl) λF z=>Walks.strWide z _ (S l) t)
   ·exact wpAny_pyIter_ascii ha (m _ (.inl rfl) λF z=>Walks.strAscii z _ (S l) t)
 exact thn (B c s σ H _ I h) n
def VW:D->Option (List D)
 | .lst _ l=>some (fzs l)
 | .tup l=>some (fzs l)
 | .str s=>some (s.map λc=>.str [c])
 | _=>none
@[simp] def pIt(pa:PF)(ρ:Rh):Option (List D):=(pa ρ).bind VW
theorem jiF{a:Addr}{vs:List V}{l:List D}(h:FL R Z H a vs)(r:Reps R Z H l vs []):jgg R (Itl R.K a) Z H l:=by
 intro d k f g zd i;have b:=(h.frame f g).sq;have m:Reps R d k l vs []:=r.frame f g λa n=>(nomatch n);refine⟨λhi=>⟨vs,b,by rw[r.length];exact hi⟩,λx o=>?_⟩;obtain⟨v,j,p⟩:=m.item o;refine⟨⟨vs,v,b,j⟩,λu q c=>?_⟩;obtain⟨rfl,c⟩:=c;have e:=c vs b;rw[j] at e;cases e;exact⟨d,Go.id zd,p⟩
theorem jhn{a:Addr}{vs:List V}{l:List D}(h:FT R Z H a vs)(r:Reps R Z H l vs []):jgg R (Itt R.K a) Z H l:=by
 intro d k f g zd i;have b:=(h.frame f g).sq;have m:Reps R d k l vs []:=r.frame f g λa n=>(nomatch n);refine⟨λhi=>⟨vs,b,by rw[r.length];exact hi⟩,λx o=>?_⟩;obtain⟨v,j,p⟩:=m.item o;refine⟨⟨vs,v,b,j⟩,λu q c=>?_⟩;obtain⟨rfl,c⟩:=c;have e:=c vs b;rw[j] at e;cases e;exact⟨d,Go.id zd,p⟩
theorem jdt{s:List Nat}:jgg R (Its s) Z H (s.map λc=>.str [c]):=by
 intro d g h j zd i;refine⟨λhi=>by show s.length<=i;simpa using hi,λx a=>?_⟩;rw[List.getElem?_map] at a;cases e:s[i]? with
 | none=>rw[e] at a;cases a
 | some c =>
  rw[e] at a;cases a;refine⟨(L8.mp e).1,λu k f=>?_⟩;obtain⟨rfl,l,b,rfl⟩:=f;rw[e] at b;cases b;exact⟨d,Go.id zd,.str_mk⟩
theorem Go.fz{P:List Addr}(g:Go Z H [] Z' H' P):Go Z H [] (λa=>Z' a \/ a∈P) H' []:=g.trans (Go.freeze g.wf)
theorem jjA{te:TE}{p:PF}(h:PP R te p):PIt R (jcL R.K te) (pIt p):=by
 intro σ ρ Z H O r z s e Q k;refine ob e λd m e=>?_;refine h z s m λ{v n u q} f j=>?_;have c:=j.freeze (Z':=λa=>n a \/ a∈q) (λa z=>.inl z) λa z=>.inr z;cases d with
 | lst o l =>
  cases e;rw[fz,Rep] at c;obtain⟨a,g,w,rfl,i,b,rfl,_⟩:=c;exact .inl ⟨a,rfl,⟨g,FL.sq b⟩,k f.fz (jiF b i)⟩
 | tup l =>
  cases e;rw[fz,Rep] at c;obtain⟨a,g,rfl,b,i⟩:=c;exact .inr (.inl ⟨a,rfl,⟨g,FT.sq b⟩,k f.fz (jhn b i)⟩)
 | str t =>
  cases e;obtain⟨rfl,rfl⟩:=j.str_of;exact .inr (.inr ⟨t,rfl,k f jdt⟩)
 | _=>cases e
noncomputable def kE(lo:Int)(n:Nat):List D:=(List.range n).map λ(i:Nat)=>D.int (lo+(i:Int))
theorem jgv{lo:Int}{n:Nat}:jgg R (Itr lo n) Z H (kE lo n):=by
 intro b d e f zd i;refine⟨λhi=>by show n<=i;simpa [kE] using hi,λx a=>?_⟩;unfold kE at a;rw[List.getElem?_map] at a;by_cases hi:i < n
 ·rw[List.getElem?_range hi] at a;cases a;refine⟨hi,λu g c=>?_⟩;obtain⟨rfl,rfl⟩:=c;exact⟨b,Go.id zd,.int_mk⟩
 ·rw[List.getElem?_eq_none (by simpa using hi)] at a;cases a
noncomputable def Vp(i:Int):Bool:=Nat.ble i.natAbs 4611686018427387903
theorem Yn{i:Int}(h:Vp i=true):-(2 ^ 62)<=i/\i < 2 ^ 62:=by
 have h:=Nat.le_of_ble_eq_true h;constructor<;>omega
def Yw(l:List D):Option (List D):=(jfO l).bind λx=>(y4 x).bind λj=>bif Vp j then some (kE 0 j.toNat) else none
@[simp] def Jg(p:PAf)(ρ:Rh):Option (List D):=(p ρ).bind Yw
theorem Reps.one_of{d:D}{vs:List V}{O:List Addr}(r:Reps R Z H [d] vs O):∃ v,vs=[v]/\Rep R Z H d v O:=by
 rw[Reps] at r;obtain⟨v,b,e,f,rfl,rfl,c,a⟩:=r;rw[Reps] at a;obtain⟨rfl,rfl⟩:=a;exact⟨v,rfl,by simpa using c⟩
theorem Reps.two_of{d e:D}{vs:List V}{O:List Addr}(r:Reps R Z H [d,e] vs O):∃ v u O1 O2,vs=[v,u]/\O=O1++O2/\Rep R Z H d v O1/\Rep R Z H e u O2:=by
 rw[Reps] at r;obtain⟨v,a,O1,O2,rfl,rfl,b,c⟩:=r;obtain⟨u,rfl,f⟩:=c.one_of;exact⟨v,u,O1,O2,rfl,rfl,b,f⟩
theorem jfQ{ta:TA}{p:PAf}(h:PBs R ta p):PIt R (jeF ta) (Jg p):=by
 intro σ ρ Z H O g z s e Q k;refine ob e λl b e=>ob e λx e2 e=>ob e λj e3 e=>oc e λa e=>?_;cases e;cases JG e2;cases ym e3;refine h z s b λ{v i m n} c d=>?_;obtain⟨u,rfl,f⟩:=d.one_of;obtain⟨rfl,_⟩:=f.int_of;exact⟨j,rfl,(Yn a).1,(Yn a).2,k c jgv⟩
def PGt(R:RC)(pm:List Nat)(tg:TG)(f:D->Rh->Option Rh):Prop:=∀{σ:St}{ρ ρ':Rh}{Z:Zn}{H:Hp}{O:List Addr}{d:D}{v:V},Rep R Z H d v []->Slots R Z H ρ σ O->f d ρ=some ρ' ->
 ∀{Q:St->Hp->Prop},(∀{σ':St}{O':List Addr},(∀ a∈O',a∈O)->(O.Nodup->O'.Nodup)->Slots R Z H ρ' σ' O'->Keep pm σ σ'->Q σ' H)->tg v σ H Q
def jic(R:RC)(pm:List Nat)(tg:TGs)(f:List D->Rh->Option Rh):Prop:=∀{σ:St}{ρ ρ':Rh}{Z:Zn}{H:Hp}{O:List Addr}{ds:List D}{vs:List V},Reps R Z H ds vs []->Slots R Z H ρ σ O->f ds ρ=some ρ' ->
 ∀{Q:St->Hp->Prop},(∀{σ':St}{O':List Addr},(∀ a∈O',a∈O)->(O.Nodup->O'.Nodup)->Slots R Z H ρ' σ' O'->Keep pm σ σ'->Q σ' H)->tg vs σ H Q
theorem jcY{i:Nat}:PGt R pm (V7 i) (jd pm i):=by
 intro σ ρ l Z H O d v r h e Q k;unfold jd at e;by_cases hi:i < ρ.length
 ·by_cases c:i∈pm
  ·rw[X4 c] at e;simp at e
  ·rw[X4 hi,X5 c] at e;cases e;obtain⟨A,m,B,rfl,n,f,o⟩:=h.put hi;refine k (O':=A++[]++B) (λa q=>?_) (λnd=>?_) (f r (λ_ z=>z) (λ_ _=>rfl) (λ_ _=>rfl) (λ_ _=>rfl)) (Keep.set c)
   ·simp at q ⊢;rcases q with q | q<;>simp[q]
   ·simp only[U8,N1] at nd;simp only[M9,U8];exact⟨nd.1.1,nd.2.1,λa g b j e=>nd.2.2 a (.inl g) b j e⟩
 ·rw[X5 hi] at e;simp at e
theorem jde:jic R pm jjL gN:=by
 intro σ ρ c Z H O b d r h e Q k;unfold gN at e;cases b with
 | cons _ _=>cases e
 | nil =>
  cases e;rw[Reps] at r;obtain⟨rfl,_⟩:=r;exact⟨rfl,k (λa h=>h) (λh=>h) h (Keep.refl _ _)⟩
theorem jaW{t:TG}{u:TGs}{g:D->Rh->Option Rh}{c:List D->Rh->Option Rh}(i:PGt R pm t g)(j:jic R pm u c):jic R pm (jfv t u) (gC g c):=by
 intro σ ρ A Z H O f B r h e Q k;unfold gC at e;cases f with
 | nil=>cases e
 | cons d f =>
  dsimp only at e;refine ob e λC l e=>?_;rw[Reps] at r;obtain⟨v,b,E,F,rfl,e3,m,n⟩:=r;obtain⟨rfl,rfl⟩:=List.append_eq_nil_iff.mp e3.symm;exact⟨v,b,rfl,i m h l λs1 o p s=>j n p e λw x y z=>k (λa q=>s1 a (w a q)) (λq=>x (o q)) y (s.trans z)⟩
theorem jgd{n:Nat}{u:TGs}{c:List D->Rh->Option Rh}(g:jic R pm u c):PGt R pm (ji3 R.K n u) (gT n c):=by
 intro σ ρ m Z H O d v r h e Q k;cases d with
 | tup l =>
  unfold gT at e;dsimp only at e;by_cases b:l.length=n
  ·rw[X4 b,cond_true] at e;rw[Rep] at r;obtain⟨a,i,rfl,j,f⟩:=r;exact⟨a,i,rfl,j.sq,by rw[f.length];exact b,g f h e k⟩
  ·rw[X5 b,cond_false] at e;cases e
 | _=>cases e
noncomputable def jY(g:D->Rh->Option Rh)(f:FS):List D->FS
 | [],ρ=>some (.nx ρ)
 | x::xs,ρ=>(g x ρ).bind λr=>(f r).bind λo=>o.loop (jY g f xs)
@[simp] def J6(p:PAf)(G:D->Rh->Option Rh)(f:FS)(ρ:Rh):Option Out:=(p ρ).bind λxs=>jY G f xs ρ
theorem vx{α:Type}{l:List α}{i:Nat}{x:α}(h:l[i]?=some x):l.drop i=x::l.drop (i+1):=by
 obtain⟨hi,rfl⟩:=L8.mp h;exact List.drop_eq_getElem_cons hi
inductive LpF (R:RC) (pm:List Nat) (g:D->Rh->Option Rh) (f:FS) (σ:L2.St) (Z0:Zn) (H0:Hp) (O:List Addr) (xs:List D) (o:Out) (i m:Nat) (σ':L2.St) (H':Hp):Prop
 | mk:m=xs.length - i->i<=xs.length->∀(ρ':Rh) (Z':Zn) (O':List Addr),Go Z0 H0 O Z' H' O'->Slots R Z' H' ρ' σ' O'->Keep pm σ σ'->jY g f (xs.drop i) ρ'=some o->LpF R pm g f σ Z0 H0 O xs o i m σ' H'
theorem jiM{wi:TI}{tg:TG}{tb:TS}{p:PAf}{g:D->Rh->Option Rh}{f:FS}(hi:PIt R wi p)(U:PGt R pm tg g)(V:DS R pm tb f):DS R pm (jey wi tg tb) (J6 p g f):=by
 intro σ ρ Z H O o w s e D' k;refine ob e λh W e=>?_;refine hi w.zd s W λ{J t C} M X=>?_;have b:Go Z H O t C O:=by simpa using M.widen w
 refine⟨LpF R pm g f σ t C O h o,
  ⟨h.length,rfl,U4 _,ρ,t,O,Go.refl b.wf,M.slots w.zd s,Keep.refl _ _,e⟩,?_⟩
 rintro i m σ' N ⟨rfl,Y,ρ',P,Q,j,s1,kp,e2⟩;have v:=X (Z1:=P) (H1:=N) j.zz (λa z=>j.zH b.wf a z) j.wf.zd i;by_cases x:i < h.length
 ·right
  have S:h[i]?=some h[i]:=by simp[x]
  obtain⟨go,yl⟩:=v.2 _ S;rw[vx S] at e2;refine ob e2 λρ1 e3 e2=>ob e2 λo1 e4 e2=>?_;refine⟨go,λG l=>∃ c n E,Go t C O n l E/\Slots R n l c G E/\Keep pm σ G/\jY g f (h.drop (i+1)) c=some o,λG l ⟨c,n,E,a1,a2,a3,a4⟩=>⟨h.length - (i+1),by omega,rfl,x,c,n,E,a1,a2,a3,a4⟩,λu l hy=>?_⟩;obtain⟨n,T,r2⟩:=yl u l hy;have y:Go P N Q n l Q:=by simpa using T.widen j.wf
  refine U r2 (T.slots j.wf.zd s1) e3 λ{σ3 O3} sub nd s3 F=>?_;have g3:Go t C O n l O3:=(j.trans y).drop sub (nd y.wf.nd);refine V g3.wf s3 e4 ?_;cases o1 with
  | nx c=>exact λ{I A K B} g4 q r=>⟨c,A,B,g3.trans g4,q,kp.trans (F.trans r),e2⟩
  | ct c=>exact λ{I A K B} g4 q r=>⟨c,A,B,g3.trans g4,q,kp.trans (F.trans r),e2⟩
  | bk c=>cases e2;exact λ{I A K B} g4 q r=>k (b.trans (g3.trans g4)) q (kp.trans (F.trans r))
  | rt d c=>cases e2;exact λ{v4 I A K P4 B} g4 r4 q r=>k (b.trans (g3.trans g4)) r4 q (kp.trans (F.trans r))
 ·left
  have L:i=h.length:=by omega
  refine⟨v.1 (by omega),?_⟩;rw[L,List.drop_length] at e2;cases e2;exact k (b.trans j) s1 kp
noncomputable def jL(ix:List (Option Nat))(ρ:Rh):Rh:=ix.map λo=>o.bind λj=>(ρ[j]?).join
theorem qE{ρ:Rh}{σ:St}{O:List Addr}(s:Slots R Z H ρ σ O):∀ ix:List (Option Nat),∃ O',Slots R Z H (jL ix ρ) (yJ ix σ) O'
 | []=>⟨[],rfl,rfl⟩
 | o::ix=>by
  obtain⟨O',b⟩:=qE s ix;show ∃ O',Slots R Z H ((o.bind λj=>(ρ[j]?).join)::jL ix ρ) ((o.bind λj=>(σ[j]?).join)::yJ ix σ) O';cases e:o.bind λj=>(ρ[j]?).join with
  | none=>exact⟨O',_,_,rfl,b⟩
  | some d =>
   cases o with
   | none=>cases e
   | some j =>
    have a:(ρ[j]?).join=some d:=e;have e2:ρ[j]?=some (some d):=by
     cases q:ρ[j]? with
     | none=>rw[q] at a;cases a
     | some u=>rw[q] at a;rw[show u=some d from a]
    obtain⟨A,P,B,_,c,_⟩:=s.put (L8.mp e2).1;obtain⟨v,f,r⟩:=c d e2;refine⟨P++O',v,_,P,O',?_,rfl,r,b⟩;show((σ[j]?).join::yJ ix σ)=some v::yJ ix σ;rw[f];rfl
@[simp] def qT(ρ:Rh):Option Bool:=some true
theorem jd1:PTt R (λ_ H Q=>Q true H) qT:=by
 intro σ ρ Z H O b z s e Q k;cases e;exact k (Go.id z)
noncomputable def yO(g:D->Rh->Option Rh)(q:PTf)(p:PF):List D->Rh->Option (List D)
 | [],_=>some []
 | x::xs,ρ=>(g x ρ).bind λρ1=>(q ρ1).bind λb=>bif b then((p ρ1).bind λy=>(yO g q p xs ρ1).bind λys=>some (y::ys)) else yO g q p xs ρ1
@[simp] def vm(pi:PAf)(G:D->Rh->Option Rh)(q:PTf)(pa:PF)(ix:List (Option Nat))(ρ:Rh):Option D:=(pi ρ).bind λxs=>bif lim xs.length then((yO G q pa xs (jL ix ρ)).bind λys=>some (.lst true ys)) else none
def spP(R:RC)(m:List D->Option D)(n:Nat):Sp:=λvs H Q _=>∃ Z ds d,Zd Z H/\ds.length=n/\Reps R Z H ds vs []/\m ds=some d/\∀{v:V}{Z':Zn}{H':Hp}{P:List Addr},Go Z H [] Z' H' P->Rep R Z' H' d v P->Q v H'
def fnP(n:Nat)(f:FS)(ds:List D):Option D:=(f (ds.map some++List.replicate (n - ds.length) none)).bind Out.val
theorem Js:∀ n:Nat,Slots R Z H (List.replicate n none) (List.replicate n none) []
 | 0=>⟨rfl,rfl⟩
 | n+1=>⟨none,_,rfl,Js n⟩
theorem Jn:∀{ds:List D}{vs:List V}{O:List Addr}{ρ:Rh}{σ:St}{P:List Addr},Reps R Z H ds vs O->Slots R Z H ρ σ P->Slots R Z H (ds.map some++ρ) (vs.map some++σ) (O++P)
 | [],_,_,_,_,_,r,s=>by rw[Reps] at r;obtain⟨rfl,rfl⟩:=r;exact s
 | d::ds,_,_,_,_,_,r,s=>by
  rw[Reps] at r;obtain⟨v,a,b,f,rfl,rfl,c,e⟩:=r;exact⟨v,_,b,_,rfl,List.append_assoc ..,c,Jn e s⟩
theorem jeB{N:List Str}{ts:TS}{f:FS}{vs:List V}{Q:VK}{E:XK}{n:Nat}(b:DS R [] ts f)(h:spP R (fnP N.length f) n vs H Q E):ts { nx:=λ_ H'=>Q .non H',rt:=Q } (L2.start N vs) H:=by
 obtain⟨Z,a,d,z,l,r,e,k⟩:=h;unfold fnP at e;have s:Slots R Z H (a.map some++List.replicate (N.length - a.length) none) (L2.start N vs) []:=by
  have q:=Jn r (Js (R:=R) (Z:=Z) (H:=H) (N.length - a.length));unfold L2.start;rw[r.length];exact q
 refine ob e λo c e=>?_;cases o with
 | rt m i=>cases e;exact b (wf0 z) s c λg j _ _=>k g.dropR j
 | nx i=>cases e;exact b (wf0 z) s c λg _ _=>k (P:=[]) g.to0 .non_mk
 | _=>cases e
theorem jeg{m:List D->Option D}{n:Nat}{vs:List V}{Q:VK}{E:XK}(h:spP R m n vs H Q E):vs.length=n:=by
 obtain⟨Z,b,d,z,a,r,_⟩:=h;rw[r.length,a]
mutual
noncomputable def yB:D->Bool
 | .tup l=>jN l
 | .lst o l=>o&&jN l
 | .dK o _ l=>o&&jN l
 | .dT o _ l=>o&&jN l
 | .ins o _ _ l=>o&&jN l
 | .non=>true | .bl _=>true | .int _=>true | .str _=>true | .dead=>true | .tok _=>true | .exc _ _=>false
noncomputable def jN:List D->Bool
 | []=>true
 | d::l=>yB d&&jN l
end
mutual
theorem Rep.thaw(ht:∀ a vs,Z a->Rd H a (.tup vs)->Z' a):∀{d:D}{v:V}{O:List Addr},Rep R Z H d v O->yB d=true->Rep R Z' H d v O
 | .non,_,_,h,_=>by rw[Rep] at h ⊢;exact h
 | .bl _,_,_,h,_=>by rw[Rep] at h ⊢;exact h
 | .int _,_,_,h,_=>by rw[Rep] at h ⊢;exact h
 | .str _,_,_,h,_=>by rw[Rep] at h ⊢;exact h
 | .dead,_,_,h,_=>by rw[Rep] at h ⊢;exact h
 | .tok _,_,_,h,_=>by rw[Rep] at h ⊢;exact h
 | .exc _ _,_,_,_,f=>by rw[yB] at f;cases f
 | .tup l,_,_,h,f=>by
  rw[Rep] at h ⊢;rw[yB] at f;obtain⟨a,vs,e,t,r⟩:=h;refine⟨a,vs,e,?_,Reps.thaw ht r f⟩;rcases t with⟨z,q⟩ | q
  ·exact .inl ⟨ht a vs z q,q⟩
  ·exact .inr q
 | .lst o l,_,_,h,f=>by
  rw[Rep] at h ⊢;rw[yB,L9] at f;obtain⟨a,vs,O',e,r,h⟩:=h;cases f.1;exact⟨a,vs,O',e,Reps.thaw ht r f.2,h⟩
 | .dK o ks l,_,_,h,f=>by
  rw[Rep] at h ⊢;rw[yB,L9] at f;obtain⟨a,vs,O',e,r,h⟩:=h;cases f.1;exact⟨a,vs,O',e,Reps.thaw ht r f.2,h⟩
 | .dT o ks l,_,_,h,f=>by
  rw[Rep] at h ⊢;rw[yB,L9] at f;obtain⟨a,vs,O',e,r,h⟩:=h;cases f.1;exact⟨a,vs,O',e,Reps.thaw ht r f.2,h⟩
 | .ins o c ns l,_,_,h,f=>by
  rw[Rep] at h ⊢;rw[yB,L9] at f;obtain⟨a,dx,vs,O',e,r,h⟩:=h;cases f.1;exact⟨a,dx,vs,O',e,Reps.thaw ht r f.2,h⟩
theorem Reps.thaw(ht:∀ a vs,Z a->Rd H a (.tup vs)->Z' a):∀{l:List D}{vs:List V}{O:List Addr},Reps R Z H l vs O->jN l=true->Reps R Z' H l vs O
 | [],_,_,h,_=>by rw[Reps] at h ⊢;exact h
 | d::l,_,_,h,f=>by
  rw[Reps] at h ⊢;rw[jN,L9] at f;obtain⟨v,vs,O1,O2,e,rfl,r1,r2⟩:=h;exact⟨v,vs,O1,O2,e,rfl,Rep.thaw ht r1 f.1,Reps.thaw ht r2 f.2⟩
end
mutual
theorem Rep.notTup:∀{d:D}{v:V}{O:List Addr},Rep R Z H d v O->∀ a∈O,∀ vs,¬ Rd H a (.tup vs)
 | .non,_,_,h,a,ha=>by rw[Rep] at h;rw[h.2] at ha;cases ha
 | .bl _,_,_,h,a,ha=>by rw[Rep] at h;rw[h.2] at ha;cases ha
 | .int _,_,_,h,a,ha=>by rw[Rep] at h;rw[h.2] at ha;cases ha
 | .str _,_,_,h,a,ha=>by rw[Rep] at h;rw[h.2] at ha;cases ha
 | .dead,_,_,h,a,ha=>by rw[Rep] at h;rw[h] at ha;cases ha
 | .tok _,_,_,h,a,ha=>by rw[Rep] at h;rw[h.2] at ha;cases ha
 | .exc _ _,_,_,h,a,ha=>by rw[Rep] at h;obtain⟨_,_,_,_,_,_,_,h⟩:=h;rw[h] at ha;cases ha
 | .tup l,_,_,h,a,ha=>by
  rw[Rep] at h;obtain⟨b,vs,e,t,r⟩:=h;exact Reps.notTup r a ha
 | .lst o l,_,_,h,a,ha=>by
  rw[Rep] at h;obtain⟨b,vs,O',e,r,h⟩:=h;cases o with
  | true =>
   obtain⟨h1,rfl⟩:=h;rcases M4.mp ha with e | e
   ·subst e;rintro ws (q | ⟨_,q⟩)<;>rw[h1] at q<;>cases q
   ·exact Reps.notTup r a e
  | false=>rw[h.2.2] at ha;cases ha
 | .dK o ks l,_,_,h,a,ha=>by
  rw[Rep] at h;obtain⟨b,vs,O',e,r,hl,hd,h⟩:=h;cases o with
  | true =>
   have h:=(show _=_ from h);subst h;rcases M4.mp ha with e | e
   ·subst e;rintro ws (q | ⟨_,q⟩)<;>rw[hd] at q<;>cases q
   ·exact Reps.notTup r a e
  | false=>rw[h.2.2] at ha;cases ha
 | .dT o ks l,_,_,h,a,ha=>by
  rw[Rep] at h;obtain⟨b,vs,O',e,r,hl,hd,h⟩:=h;cases o with
  | true =>
   have h:=(show _=_ from h);subst h;rcases M4.mp ha with e | e
   ·subst e;rintro ws (q | ⟨_,q⟩)<;>rw[hd] at q<;>cases q
   ·exact Reps.notTup r a e
  | false=>rw[h.2.2] at ha;cases ha
 | .ins o c ns l,_,_,h,a,ha=>by
  rw[Rep] at h;obtain⟨b,dx,vs,O',e,r,hl,hd,h⟩:=h;cases o with
  | true =>
   have h:=(show _=_ from h);subst h;rcases M4.mp ha with e | e
   ·subst e;rintro ws (q | ⟨_,q⟩)<;>rw[hd] at q<;>cases q
   ·exact Reps.notTup r a e
  | false=>rw[h.2.2] at ha;cases ha
theorem Reps.notTup:∀{l:List D}{vs:List V}{O:List Addr},Reps R Z H l vs O->∀ a∈O,∀ vs,¬ Rd H a (.tup vs)
 | [],_,_,h,a,ha=>by rw[Reps] at h;rw[h.2] at ha;cases ha
 | d::l,_,_,h,a,ha=>by
  rw[Reps] at h;obtain⟨v,vs,O1,O2,e,rfl,r1,r2⟩:=h;rcases N1.mp ha with q | q
  ·exact Rep.notTup r1 a q
  ·exact Reps.notTup r2 a q
end
@[simp] def jH(m:List D->Option D)(p:PAf)(ρ:Rh):Option D:=(p ρ).bind λds=>(m (fzs ds)).bind λd=>bif frzs ds||yB d then some d else none
theorem jfx(l:List D):(fzs l).length=l.length:=by rw[qP,L0]
theorem w8{m:List D->Option D}{ds:List D}{d:D}{vs:List V}{f:List Addr}{n:Nat}{E:XK}{Q:VK}(j:Zd Z H)(e:Reps R Z H ds vs f)(l:ds.length=n)(e2:m (fzs ds)=some d)(c:(frzs ds||yB d)=true)
  (k:∀{v:V}{Z':Zn}{H':Hp}{P:List Addr},Go Z H [] Z' H' P->Rep R Z' H' d v P->Q v H'):spP R m n (vs++[]) H Q E:=by
 refine⟨λa=>Z a \/ a∈f,fzs ds,d,λa h=>h.elim (j a) (e.dom a),by rw[jfx];exact l,by rw[M9];exact e.freeze (λa z=>.inl z) λa z=>.inr z,e2,λ{v Z' H' P} b i=>?_⟩;rw[Bool.or_eq_true] at c;rcases c with c | c
 ·cases e.nil c;exact k ⟨b.wf,λa z=>b.zz a (.inl z),b.fr,λa z=>(b.zn a z).imp (λq=>q.resolve_right (λq=>(nomatch q))) id,b.sub,b.dm⟩ i
 ·refine k (Z':=λa=>Z' a/\(a∉f \/ Z a)) ⟨⟨b.wf.nd,λa h q=>b.wf.nz a h q.1,b.wf.od,λa q=>b.wf.zd a q.1⟩,λa z=>⟨b.zz a (.inl z),.inr z⟩,b.fr,λa z=>?_,b.sub,b.dm⟩ (i.thaw (λa o p r=>⟨p,?_⟩) c)
  ·rcases b.zn a z.1 with(q | q) | q
   ·exact .inl q
   ·exact .inl (z.2.resolve_left λn=>n q)
   ·exact .inr q
  ·by_cases g:a∈f
   ·exact absurd (Rd.agree (b.same a (e.dom a g)).symm r) (e.notTup a g o)
   ·exact .inl g
theorem jfn{m:List D->Option D}{ta:TA}{p:PAf}{n:Nat}(f:PBs R ta p)(g:∀ ρ ds,p ρ=some ds->ds.length=n):PP R (x6 (spP R m n) [] E0 ta) (jH m p):=by
 intro σ ρ Z H O d z s e Q k;refine ob e λds a e=>ob e λc e2 e=>oc e λh e=>?_;cases e;exact f z s a λb i=>w8 b.wf.zd i (g ρ ds a) e2 h λj l=>k (by simpa using b.pair j) l
@[simp] def sFz(i:Nat)(f:FS)(ρ:Rh):Option Out:=match pV i ρ with | some d=>f (ρ.set i (some (fz d))) | none=>f ρ
theorem jjF{i:Nat}{t:TS}{f:FS}(h:DS R pm t f):DS R pm t (sFz i f):=by
 intro σ ρ Z H O o w s e m k;unfold sFz at e;split at e
 ·rename_i d hd;have hd:=Jw hd;obtain⟨A,P,B,rfl,c,j,_⟩:=s.put (L8.mp hd).1;obtain⟨v,l,r⟩:=c d hd;have g:Go Z H (A++P++B) (λa=>Z a \/ a∈P) H (A++[]++B):=(Go.freeze w.mid).frame w;have b:=j (r.freeze (Z':=λa=>Z a \/ a∈P) (λa z=>.inl z) λa z=>.inr z) (λa z=>.inl z) (λ_ _=>rfl) (λ_ _=>rfl) (λ_ _=>rfl);rw[vc l] at b;exact h g.wf b e (k.pre g (Keep.refl _ _))
 ·exact h w s e k
theorem qW{l m:List Addr}(h:∀ c,l.count c<=m.count c)(n:m.Nodup):l.Nodup:=List.nodup_iff_count.mpr λc=>N6 (h c) (List.nodup_iff_count.mp n c)
theorem Yk{l m:List Addr}(h:∀ c,l.count c<=m.count c):∀ c∈l,c∈m:=λc a=>List.count_pos_iff.mp (U3 (List.count_pos_iff.mpr a) (h c))
theorem Go.at{O P:List Addr}{a:Addr}{o:HO}(g:Go Z H O Z' H' P)(b:a∉O)(h:H a=some o):H' a=some o:=(g.fr a (by rw[h];exact λz=>nomatch z) b).trans h
theorem Go.at0{P:List Addr}{a:Addr}{o:HO}(g:Go Z H [] Z' H' P)(h:H a=some o):H' a=some o:=g.at (λz=>nomatch z) h
noncomputable abbrev Ln:=D->Option (D×(D->D))
inductive LnR (R:RC) (Z:Zn) (H:Hp) (ρ:Rh) (σ:L2.St) (O:List Addr) (tb:TE) (i:Nat) (x:D) (k:D->D):Prop
 | mk:∀(v:V) (A P B:List Addr),O=A++P++B->Rep R Z H x v P->(∀{Q:VK},Q v H->tb σ H Q) ->
  (∀{Z':Zn}{H':Hp}{x':D}{P':List Addr},Rep R Z' H' x' v P'->(∀ a,Z a->Z' a)->(∀ a,Z a->H' a=H a)->(∀ a∈A,H' a=H a)->(∀ a∈B,H' a=H a)->Slots R Z' H' (ρ.set i (some (k x'))) σ (A++P'++B))->LnR R Z H ρ σ O tb i x k
def Qr(R:RC)(tb:TE)(i:Nat)(L:Ln):Prop:=∀{σ:L2.St}{ρ:Rh}{Z:Zn}{H:Hp}{O:List Addr}{d x:D}{k:D->D},Slots R Z H ρ σ O->ρ[i]?=some (some d)->L d=some (x,k)->LnR R Z H ρ σ O tb i x k
noncomputable def jK:Ln:=λd=>some (d,λx=>x)
theorem Vy{i:Nat}:Qr R (kD i) i jK:=by
 intro σ ρ Z H O d x k s h e;cases e;obtain⟨A,P,B,rfl,b,c,_⟩:=s.put (L8.mp h).1;obtain⟨v,a,r⟩:=b _ h;refine⟨v,A,P,B,rfl,r,λq=>⟨v,a,q⟩,λf g j l m=>?_⟩;have q:=c f g j l m;rw[vc a] at q;exact q
inductive OwR (R:RC) (Z:Zn) (H:Hp) (l:List D) (sh:Addr->List V->HO) (sd:Prop) (v:V) (O:List Addr):Prop
 | mk:∀(a dx:Addr) (vs:List V) (O':List Addr),v=.ref a->Reps R Z H l vs O'->sd->H a=some (sh dx vs)->O=a::O'->OwR R Z H l sh sd v O
def Own(R:RC)(T:D)(l:List D)(sh:Addr->List V->HO)(sd:Prop):Prop:=∀{Z:Zn}{H:Hp}{v:V}{O:List Addr},Rep R Z H T v O↔OwR R Z H l sh sd v O
theorem ow_lst{l:List D}:Own R (.lst true l) l (λ_ vs=>.lst vs) True:=by
 intro Z H v O;rw[Rep];exact⟨λh=>by obtain⟨a,vs,b,e,c,d,f⟩:=h;exact⟨a,0,vs,b,e,c,trivial,d,f⟩,λh=>by obtain⟨a,_,vs,b,e,c,_,d,f⟩:=h;exact⟨a,vs,b,e,c,d,f⟩⟩
theorem ow_dK{ks:List KA}{l:List D}:Own R (.dK true ks l) l (λ_ vs=>.dK ((ks.map kaV).zip vs)) (ks.length=l.length):=by
 intro Z H v O;rw[Rep];exact⟨λh=>by obtain⟨a,vs,b,e,c,h,d,f⟩:=h;exact⟨a,0,vs,b,e,c,h,d,f⟩,λh=>by obtain⟨a,_,vs,b,e,c,h,d,f⟩:=h;exact⟨a,vs,b,e,c,h,d,f⟩⟩
theorem jbU{ks:List (List KA)}{l:List D}:Own R (.dT true ks l) l (λ_ vs=>.dT ((ks.map (List.map kaV)).zip vs)) (ks.length=l.length):=by
 intro Z H v O;rw[Rep];exact⟨λh=>by obtain⟨a,vs,b,e,c,h,d,f⟩:=h;exact⟨a,0,vs,b,e,c,h,d,f⟩,λh=>by obtain⟨a,_,vs,b,e,c,h,d,f⟩:=h;exact⟨a,vs,b,e,c,h,d,f⟩⟩
theorem ow_ins{c:Nat}{ns:List Str}{l:List D}:Own R (.ins true c ns l) l (λdx vs=>.ins (R.cls c) dx (ns.zip vs)) (ns.length=l.length):=by
 intro Z H v O;rw[Rep];exact⟨λh=>by obtain⟨a,dx,vs,b,e,d,h,f,g⟩:=h;exact⟨a,dx,vs,b,e,d,h,f,g⟩,λh=>by obtain⟨a,dx,vs,b,e,d,h,f,g⟩:=h;exact⟨a,dx,vs,b,e,d,h,f,g⟩⟩
theorem JJ{C:Prop}{σ:L2.St}{ρ:Rh}{O P0:List Addr}{i:Nat}{tb:TE}{L:Ln}{t y:D}{p:D->D}{l:List D}{u:Addr->List V->HO}{E:Prop}(I:Qr R tb i L)(w:WF Z H (P0++O))(s:Slots R Z H ρ σ O)(hi:pV i ρ=some t)(e:L t=some (y,p))(J:Own R y l u E)
  (k:∀ a dx vs O',Reps R Z H l vs O'->E->H a=some (u dx vs)->(∀{Q:VK},Q (.ref a) H->tb σ H Q)->(∀{O2 P1:List Addr}{Z2:Zn}{H2:Hp}{x':D}{l':List D}{vs':List V}{sh':Addr->List V->HO}{sd':Prop},Own R x' l' sh' sd'->sd'->Go Z H [] Z2 H2 P1->Reps R Z2 H2 l' vs' O2->(∀ q,O2.count q<=O'.count q+P0.count q+P1.count q) ->
   ∃ O3,Go Z H (P0++O) Z2 (upd H2 a (sh' dx vs')) O3/\Slots R Z2 (upd H2 a (sh' dx vs')) (ρ.set i (some (p x'))) σ O3)->C):C:=by
 obtain⟨v,A,P,B,rfl,r,K,M⟩:=I s (Jw hi) e;obtain⟨a,dx,vs,O',rfl,N,hd,S,rfl⟩:=J.mp r;refine k a dx vs O' N hd S K λ{O2 P1 Z2 H2 x' l' vs' sh' sd'} n o g T d=>?_;have j:=g.widen w;have nd:=j.wf.nd;have ct:=List.nodup_iff_count.mp nd a;simp only[U7,List.count_cons,beq_self_eq_true,if_true] at ct;have pos:∀{m:List Addr},a∈m->0 < m.count a:=λh=>List.count_pos_iff.mpr h;generalize U:sh' dx vs'=ob;have f:∀ b,Z2 b->upd H2 a ob b=H2 b:=λb c=>jf λz=>j.wf.nz a (by simp) (z▸c);have oth:∀ m:List Addr,(∀ b∈m,b∈A++(a::O')++B)->m.count a=0->∀ b∈m,upd H2 a ob b=H b:=λm W Y b c=>(jf λz=>by subst z;have:=pos c;omega).trans (g.same b (w.od b (U2 _ (W b c))));have X:=M (n.mpr ⟨a,dx,vs',O2,rfl,T.frame (λ_ z=>z) f λb c=>jf λz=>by subst z;have:=pos c;have:=d b;omega,o,by rw[U];exact ju,rfl⟩) g.zz (λx F=>(f x (g.zz x F)).trans (g.same x (w.zd x F))) (oth A (λb c=>by simp[c]) (by omega)) (oth B (λb c=>by simp[c]) (by omega));have G:∀ q,(A++(a::O2)++B).count q<=(P1++(P0++(A++(a::O')++B))).count q:=λq=>by
  have:=d q;simp only[U7,List.count_cons];omega
 exact⟨_,(j.trans (Go.put j.wf (by simp))).drop (Yk G) (qW G nd),X⟩
@[simp] def jQ(i:Nat)(L:Ln)(pv:PF)(ρ:Rh):Option Out:=(pv ρ).bind λd=>(pV i ρ).bind λt=>(L t).bind λy=>(VM y.1).bind λl=>bif lim l.length then some (.nx (ρ.set i (some (y.2 (.lst true (l++[d])))))) else none
theorem uT{i:Nat}{tb te:TE}{L:Ln}{p:PF}(m:Qr R tb i L)(h:PP R te p):DS R pm (V1 (tBM R.K "list" qQ tb (yc te Y7))) (jQ i L p):=by
 intro σ ρ Z H O o w s e A k;refine ob e λd n e=>ob e λt hi e=>ob e λ⟨y,k0⟩ e3 e=>ob e λl r e=>oc e λb e=>?_;cases e;cases J4 r;refine JJ (P0:=[]) m w s hi e3 ow_lst λa _ f B g _ j v put=>v ⟨.inl ⟨rfl,f,SqL.of j⟩,h w.zd s n λ{u C D E} c x=>?_⟩;obtain⟨F,g3,z⟩:=put ow_lst trivial c ((c.reps w.zd g).append (.one x)) λq=>by simp
 exact⟨a,f,u,rfl,rfl,c.at0 j,by rw[g.length];exact Kp b,k g3 z (Keep.refl _ _)⟩
@[simp] def VQ(i:Nat)(pa:PF)(ρ:Rh):Option Out:=(pa ρ).bind λd=>(pV i ρ).bind λx=>(VM x).bind λl=>bif lim l.length then some (.nx (ρ.set i (some (.lst true (l++[d]))))) else none
theorem jh1{i:Nat}{te:TE}{p:PF}(h:PP R te p):DS R pm (V1 (tBM R.K "list" qQ (kD i) (yc te Y7))) (VQ i p):=uT Vy h
end
section
variable {X:Cx}{R:RC}{Z Z':Zn}{H H':Hp}
theorem JN{f:Value->Value->Sem Value}{r b:R2}(h:OpR X f r)(h':OpR X f b):OpR X f (λx y H Q=>r x y H Q \/ b x y H Q):=by
 intro a s σ H x y v u Q I c d q;rcases q with q | q
 ·exact h a s σ H x y v u Q I c d q
 ·exact h' a s σ H x y v u Q I c d q
theorem Rep.lst_of{o:Bool}{l:List D}{v:V}{O:List Addr}(r:Rep R Z H (.lst o l) v O):∃ a vs O',v=.ref a/\SqX R.K H a vs/\Reps R Z H l vs O':=by
 rw[Rep] at r;obtain⟨a,vs,O',rfl,b,h⟩:=r;cases o with
 | true=>exact⟨a,vs,O',rfl,SqX.of h.1,b⟩
 | false=>exact⟨a,vs,O',rfl,FL.sqx h.1,b⟩
theorem Rep.tup_of{l:List D}{v:V}{O:List Addr}(r:Rep R Z H (.tup l) v O):∃ a vs,v=.ref a/\SqT R.K H a vs/\Reps R Z H l vs O:=by
 rw[Rep] at r;obtain⟨a,vs,rfl,h,b⟩:=r;exact⟨a,vs,rfl,h.sq,b⟩
theorem Reps.frozen{l:List D}{vs:List V}{O:List Addr}(r:Reps R Z H l vs O)(f:frzs l=true):Reps R Z H l vs []:=by
 cases r.nil f;exact r
noncomputable def jg1(i:Int):Bool:=decide (Builtin.Int.intBits i<=2 ^ 20)
theorem ja4{i:Int}(h:i.natAbs < 2 ^ 1000):jg1 i=true:=X4 (wB h (by decide))
def jr(x y:D):Option D:=match x with
 | .int i=>(match y with
  | .int j=>some (.int (i+j))
  | _=>none)
 | .str a=>(match y with
  | .str b=>bif lim (a.length+b.length) then some (.str (a++b)) else none
  | _=>none)
 | .lst _ a=>(match y with
  | .lst _ b=>bif lim (a.length+b.length)&&(frzs a&&frzs b) then some (.lst true (a++b)) else none
  | _=>none)
 | .tup a=>(match y with
  | .tup b=>bif lim (a.length+b.length)&&(frzs a&&frzs b)&&!a.isEmpty then some (.tup (a++b)) else none
  | _=>none)
 | _=>none
def jj4:R2:=λx y H Q=>∃ a b,x=.str (S a)/\y=.str (S b)/\a.length+b.length<=sizeLine/\Q (.str (S (a++b))) H
def jbP(K:PySem.W.Frag):R2:=λx y H Q=>rI0 (λi j=>.int (i+j)) x y H Q \/ jj4 x y H Q \/ jgR K x y H Q \/ jgU K x y H Q
theorem jeu:OpR X (binaryOp .Add) (jbP X.K):=JN jik (JN jfa (JN jfK jfL))
theorem jiX:BO R (jbP R.K) jr:=by
 intro Z H x y d v u F G z g l e Q k;cases x with
 | int i =>
  cases y with
  | int j =>
   cases e;obtain⟨rfl,_⟩:=g.int_of;obtain⟨rfl,_⟩:=l.int_of;exact .inl ⟨i,j,rfl,rfl,k (Go.id z) .int_mk⟩
  | _=>cases e
 | str a =>
  cases y with
  | str b =>
   simp only[jr] at e;refine oc e λc e=>?_;cases e;obtain⟨rfl,_⟩:=g.str_of;obtain⟨rfl,_⟩:=l.str_of;exact .inr (.inl ⟨a,b,rfl,rfl,q5 c,k (Go.id z) .str_mk⟩)
  | _=>cases e
 | lst o a =>
  cases y with
  | lst I b =>
   simp only[jr] at e;refine oc e λc e=>?_;cases e;simp only[L9] at c;obtain⟨p,m,J,rfl,n,f⟩:=g.lst_of;obtain⟨q,r,B,rfl,s,rt⟩:=l.lst_of;have t:=(f.frozen c.2.1).append (rt.frozen c.2.2);exact .inr (.inr (.inl ⟨p,q,m,r,rfl,rfl,n,s,by rw[f.length,rt.length];exact q5 c.1,λb h=>k (Go.newO (wf0 z) h) (Rep.lstNew (wf0 z) h t)⟩))
  | _=>cases e
 | tup a =>
  cases y with
  | tup b =>
   simp only[jr] at e;refine oc e λc e=>?_;cases e;simp only[L9] at c;obtain⟨p,m,rfl,n,f⟩:=g.tup_of;obtain⟨q,r,rfl,s,rt⟩:=l.tup_of;have t:=(f.frozen c.1.2.1).append (rt.frozen c.1.2.2);have w:m≠[]:=by
    intro C;have:=f.length;rw[C] at this;have A:a=[]:=List.eq_nil_of_length_eq_zero this.symm;rw[A] at c;simp at c
   refine .inr (.inr (.inr ⟨p,q,m,r,rfl,rfl,n,s,w,by rw[f.length,rt.length];exact q5 c.1.1,(λA=>?_),λ_ b h=>k (Go.newF (wf0 z) h) (Rep.tupNew (wf0 z) h t)⟩));have D:b=[]:=List.eq_nil_of_length_eq_zero (by rw[<- rt.length,A];rfl);subst D;rw[M9] at k;have E:=f.nil c.1.2.1;subst E;exact k (Go.id z) g
  | _=>cases e
 | _=>cases e
def two(f:Int->Int->Option D)(x y:D):Option D:=(y4 x).bind λi=>(y4 y).bind λj=>f i j
theorem two_of{f:Int->Int->Option D}{x y d:D}(e:two f x y=some d):∃ i j,x=.int i/\y=.int j/\f i j=some d:=ob e λi a e=>ob e λj e2 e=>⟨i,j,ym a,ym e2,e⟩
def vS:D->D->Option D:=two λi j=>some (.int (i - j))
theorem jiR:BO R (rI0 λi j=>.int (i - j)) vS:=by
 intro Z H x y d v u c f z a b e Q k;replace e:=two_of e;obtain⟨i,j,rfl,rfl,e⟩:=e;cases e;obtain⟨rfl,_⟩:=a.int_of;obtain⟨rfl,_⟩:=b.int_of;exact⟨i,j,rfl,rfl,k (Go.id z) .int_mk⟩
def j9(x y:D):Option D:=match y with
 | .int n=>(match x with
  | .int i=>bif jg1 i&&jg1 n then some (.int (i*n)) else none
  | .str a=>bif decide (a.length<=1000)&&(decide (0<=n)&&decide (n<=1000)) then some (.str (List.replicate n.toNat a).flatten) else none
  | _=>none)
 | _=>none
def jfA:R2:=λx y H Q=>rI (λi j=>Builtin.Int.intBits i<=2 ^ 20/\Builtin.Int.intBits j<=2 ^ 20) (λi j=>.int (i*j)) x y H Q \/
 ∃(a:List Nat) (n:Int),x=.str (S a)/\y=.int n/\a.length<=1000/\0<=n/\n<=1000/\Q (.str (S (List.replicate n.toNat a).flatten)) H
theorem jd6:OpR X (binaryOp .Mult) jfA:=JN jeZ jet
theorem jie:BO R jfA j9:=by
 intro Z H x y d v u g h z c f e Q k;cases y with
 | int n =>
  cases x with
  | int i =>
   simp only[j9] at e;refine oc e λb e=>?_;cases e;rw[L9] at b;obtain⟨rfl,_⟩:=c.int_of;obtain⟨rfl,_⟩:=f.int_of;exact .inl ⟨i,n,rfl,rfl,⟨X6 b.1,X6 b.2⟩,k (Go.id z) .int_mk⟩
  | str a =>
   simp only[j9] at e;refine oc e λb e=>?_;cases e;simp only[L9,decide_eq_true_eq] at b;obtain⟨rfl,_⟩:=c.str_of;obtain⟨rfl,_⟩:=f.int_of;exact .inr ⟨a,n,rfl,rfl,b.1,b.2.1,b.2.2,k (Go.id z) .str_mk⟩
  | _=>cases e
 | _=>cases e
noncomputable def xY(j:Int):Bool:=decide (0 < j)&&decide (j < 2 ^ 300)
theorem ui{j:Int}(h:xY j=true):0 < j/\j.natAbs.log2 < 9000:=by
 unfold xY at h;simp only[L9,decide_eq_true_eq] at h;refine⟨h.1,?_⟩;have a:j.natAbs < 2 ^ 300:=by omega
 have b:j.natAbs≠0:=by omega
 have:=(Nat.log2_lt b (k:=300)).mpr a;omega
theorem jbZ:OpR X (binaryOp .FloorDiv) (rI (λ_ j=>xY j=true) λi j=>.int (i / j)):=opI λi j t u s Q E a q=>by
 obtain⟨b,c⟩:=ui a;have e:i / j=i.fdiv j:=(Int.fdiv_eq_ediv_of_nonneg i (Int.le_of_lt b)).symm;rw[e] at q;exact PyProof.Rows.floordiv_int (by omega) q (.inl (PyProof.noPylong_of_log2 c))
def jA:D->D->Option D:=two λi j=>bif xY j then some (.int (i / j)) else none
def jn:D->D->Option D:=two λi j=>bif decide (0 < j) then some (.int (i % j)) else none
def YM:D->D->Option D:=two λi j=>bif decide (0<=j)&&decide (j<=100)&&decide (i.natAbs < 2 ^ 64) then some (.int (i ^ j.toNat)) else none
theorem jhT:BO R (rI (λ_ j=>xY j=true) λi j=>.int (i / j)) jA:=by
 intro Z H x y d v u f g z a b e Q k;replace e:=two_of e;obtain⟨i,j,rfl,rfl,e⟩:=e;refine oc e λc e=>?_;cases e;obtain⟨rfl,_⟩:=a.int_of;obtain⟨rfl,_⟩:=b.int_of;exact⟨i,j,rfl,rfl,c,k (Go.id z) .int_mk⟩
theorem jia:BO R (rI (λ_ j=>0 < j) λi j=>.int (i % j)) jn:=by
 intro Z H x y d v u f g z b c e Q k;replace e:=two_of e;obtain⟨i,j,rfl,rfl,e⟩:=e;by_cases a:0 < j
 ·rw[X4 a] at e;cases e;obtain⟨rfl,_⟩:=b.int_of;obtain⟨rfl,_⟩:=c.int_of;exact⟨i,j,rfl,rfl,a,k (Go.id z) .int_mk⟩
 ·rw[X5 a] at e;cases e
theorem jiv:BO R (rI jkt λi j=>.int (i ^ j.toNat)) YM:=by
 intro Z H x y d v u f g z b c e Q k;replace e:=two_of e;obtain⟨i,j,rfl,rfl,e⟩:=e;refine oc e λa e=>?_;cases e;simp only[L9,decide_eq_true_eq] at a;obtain⟨rfl,_⟩:=b.int_of;obtain⟨rfl,_⟩:=c.int_of;exact⟨i,j,rfl,rfl,⟨a.1.1,by omega,a.2⟩,k (Go.id z) .int_mk⟩
noncomputable def zw:D->Option D
 | .int i=>some (.int (-i))
 | _=>none
theorem jhQ:BU R (rU λi=>.int (-i)) zw:=by
 intro Z H x d v O z a e Q k;cases x with
 | int i =>
  cases e;obtain⟨rfl,_⟩:=a.int_of;exact⟨i,rfl,k (Go.id z) .int_mk⟩
 | _=>cases e
def opB(g:Int->Int->Bool):D->D->Option D:=two λi j=>some (.bl (g i j))
theorem jkH{g:Int->Int->Bool}:BO R (rI0 λi j=>.bl (g i j)) (opB g):=by
 intro Z H x y d v u c f z a b e Q k;replace e:=two_of e;obtain⟨i,j,rfl,rfl,e⟩:=e;cases e;obtain⟨rfl,_⟩:=a.int_of;obtain⟨rfl,_⟩:=b.int_of;exact⟨i,j,rfl,rfl,k (Go.id z) .bl_mk⟩
abbrev jf5:D->D->Option D:=opB λi j=>decide (i < j)
abbrev Qs:D->D->Option D:=opB λi j=>decide (j < i)
noncomputable def jbV:D->Bool
 | .non=>true
 | _=>false
noncomputable def jiV:D->Bool
 | .dead=>true
 | _=>false
def wU(x y:D):Option D:=bif jbV y&&!jiV x then some (.bl (jbV x)) else none
theorem jbG{y:D}(h:jbV y=true):y=.non:=by
 cases y with
 | non=>rfl
 | _=>cases h
theorem jaj{x:D}{v:V}{O:List Addr}(r:Rep R Z H x v O)(hd:∀(h:x=.dead),False):decide (v=V.non)=jbV x:=by
 cases x with
 | non=>obtain⟨rfl,_⟩:=r.non_of;rfl
 | bl b=>obtain⟨rfl,_⟩:=r.bl_of;rfl
 | int i=>obtain⟨rfl,_⟩:=r.int_of;rfl
 | str s=>obtain⟨rfl,_⟩:=r.str_of;rfl
 | tup l=>rw[Rep] at r;obtain⟨a,d,rfl,_⟩:=r;rfl
 | lst o l=>rw[Rep] at r;obtain⟨a,d,e,rfl,_⟩:=r;rfl
 | dK o f l=>rw[Rep] at r;obtain⟨a,d,e,rfl,_⟩:=r;rfl
 | dT o f l=>rw[Rep] at r;obtain⟨a,d,e,rfl,_⟩:=r;rfl
 | ins o c ns l=>rw[Rep] at r;obtain⟨a,g,d,e,rfl,_⟩:=r;rfl
 | tok a=>rw[Rep] at r;obtain⟨rfl,_⟩:=r;rfl
 | exc c p=>rw[Rep] at r;obtain⟨a,g,rfl,_⟩:=r;rfl
 | dead=>exact(hd rfl).elim
theorem jkq:BO R (λx y H Q=>y=.non/\Q (.bl (decide (x=.non))) H) wU:=by
 intro Z H x y d v u f g z b c e Q k;unfold wU at e;refine oc e λa e=>?_;cases e;rw[L9] at a;have hd:∀(h:x=.dead),False:=λh=>by rw[h] at a;exact absurd a.2 (by decide)
 cases jbG a.1;obtain⟨rfl,_⟩:=c.non_of;refine⟨rfl,?_⟩;rw[jaj b hd];exact k (Go.id z) .bl_mk
noncomputable def qz:D->Bool
 | .non=>true | .bl _=>true | .int _=>true | .str _=>true
 | _=>false
noncomputable def eqF:D->D->Bool
 | .non,.non=>true
 | .bl a,.bl b=>a==b
 | .int a,.int b=>a==b
 | .str a,.str b=>a==b
 | _,_=>false
noncomputable def VN:D->D->Bool
 | .bl _,.int _=>false
 | .int _,.bl _=>false
 | _,_=>true
theorem uD{x y:D}{v u:V}{e O2:List Addr}(d:Rep R Z H x v e)(c:Rep R Z H y u O2)(h:(qz x&&qz y&&VN x y)=true):jjU v u=true/\decide (v=u)=eqF x y:=by
 cases x with
 | non =>
  obtain⟨rfl,_⟩:=d.non_of;cases y with
  | non=>obtain⟨rfl,_⟩:=c.non_of;exact⟨rfl,rfl⟩
  | bl b=>obtain⟨rfl,_⟩:=c.bl_of;exact⟨rfl,rfl⟩
  | int b=>obtain⟨rfl,_⟩:=c.int_of;exact⟨rfl,rfl⟩
  | str b=>obtain⟨rfl,_⟩:=c.str_of;exact⟨rfl,rfl⟩
  | _=>cases h
 | bl a =>
  obtain⟨rfl,_⟩:=d.bl_of;cases y with
  | non=>obtain⟨rfl,_⟩:=c.non_of;exact⟨rfl,rfl⟩
  | bl b=>obtain⟨rfl,_⟩:=c.bl_of;exact⟨rfl,by rw[jbr];rfl⟩
  | str b=>obtain⟨rfl,_⟩:=c.str_of;exact⟨rfl,rfl⟩
  | _=>cases h
 | int a =>
  obtain⟨rfl,_⟩:=d.int_of;cases y with
  | non=>obtain⟨rfl,_⟩:=c.non_of;exact⟨rfl,rfl⟩
  | int b=>obtain⟨rfl,_⟩:=c.int_of;exact⟨rfl,by rw[Qu];rfl⟩
  | str b=>obtain⟨rfl,_⟩:=c.str_of;exact⟨rfl,rfl⟩
  | _=>cases h
 | str a =>
  obtain⟨rfl,_⟩:=d.str_of;cases y with
  | non=>obtain⟨rfl,_⟩:=c.non_of;exact⟨rfl,rfl⟩
  | bl b=>obtain⟨rfl,_⟩:=c.bl_of;exact⟨rfl,rfl⟩
  | int b=>obtain⟨rfl,_⟩:=c.int_of;exact⟨rfl,rfl⟩
  | str b =>
   obtain⟨rfl,_⟩:=c.str_of;refine⟨rfl,?_⟩;rw[Bool.eq_iff_iff];simp[eqF,jkC]
  | _=>cases h
 | _=>cases h
def inL(x:D)(l:List D):Bool:=l.any λy=>eqF y x
def jbJ(x:D)(l:List D):Bool:=qz x&&l.all λy=>qz y&&VN y x
def zE(neg:Bool)(x y:D):Option D:=match y with
 | .str s=>(match x with
  | .str [c]=>some (.bl (neg != decide (c∈s)))
  | _=>none)
 | .lst _ l=>bif jbJ x l then some (.bl (neg != inL x l)) else none
 | .tup l=>bif jbJ x l then some (.bl (neg != inL x l)) else none
 | _=>none
theorem Reps.flat{x:D}{v:V}{P:List Addr}(c:Rep R Z H x v P)(d:qz x=true):∀{l:List D}{vs:List V}{O:List Addr},Reps R Z H l vs O->(l.all λy=>qz y&&VN y x)=true->YG v=true/\vs.all YG=true/\inV v vs=inL x l
 | [],_,_,h,_=>by
  rw[Reps] at h;obtain⟨rfl,_⟩:=h;refine⟨?_,rfl,rfl⟩;cases x with
  | non=>obtain⟨rfl,_⟩:=c.non_of;rfl
  | bl b=>obtain⟨rfl,_⟩:=c.bl_of;rfl
  | int b=>obtain⟨rfl,_⟩:=c.int_of;rfl
  | str b=>obtain⟨rfl,_⟩:=c.str_of;rfl
  | _=>cases d
 | y::l,_,_,h,f=>by
  rw[Reps] at h;obtain⟨u,vs,n,o,rfl,rfl,g,i⟩:=h;rw[List.all_cons,L9] at f;obtain⟨j,k,m⟩:=Reps.flat c d i f.2;have e:YG u=true/\eqV u v=eqF y x:=by
   cases y with
   | non =>
    obtain⟨rfl,_⟩:=g.non_of;cases x with
    | non=>obtain⟨rfl,_⟩:=c.non_of;exact⟨rfl,rfl⟩
    | bl b=>obtain⟨rfl,_⟩:=c.bl_of;exact⟨rfl,rfl⟩
    | int b=>obtain⟨rfl,_⟩:=c.int_of;exact⟨rfl,rfl⟩
    | str b=>obtain⟨rfl,_⟩:=c.str_of;exact⟨rfl,rfl⟩
    | _=>cases d
   | bl a =>
    obtain⟨rfl,_⟩:=g.bl_of;cases x with
    | non=>obtain⟨rfl,_⟩:=c.non_of;exact⟨rfl,rfl⟩
    | bl b=>obtain⟨rfl,_⟩:=c.bl_of;exact⟨rfl,rfl⟩
    | str b=>obtain⟨rfl,_⟩:=c.str_of;exact⟨rfl,rfl⟩
    | int b=>exact absurd f.1 (by simp[VN])
    | _=>cases d
   | int a =>
    obtain⟨rfl,_⟩:=g.int_of;cases x with
    | non=>obtain⟨rfl,_⟩:=c.non_of;exact⟨rfl,rfl⟩
    | int b=>obtain⟨rfl,_⟩:=c.int_of;exact⟨rfl,rfl⟩
    | str b=>obtain⟨rfl,_⟩:=c.str_of;exact⟨rfl,rfl⟩
    | bl b=>exact absurd f.1 (by simp[VN])
    | _=>cases d
   | str a =>
    obtain⟨rfl,_⟩:=g.str_of;cases x with
    | non=>obtain⟨rfl,_⟩:=c.non_of;exact⟨rfl,rfl⟩
    | bl b=>obtain⟨rfl,_⟩:=c.bl_of;exact⟨rfl,rfl⟩
    | int b=>obtain⟨rfl,_⟩:=c.int_of;exact⟨rfl,rfl⟩
    | str b =>
     obtain⟨rfl,_⟩:=c.str_of;refine⟨rfl,?_⟩;rw[Bool.eq_iff_iff];simp[eqF,eqV,jkC]
    | _=>cases d
   | _=>exact absurd f.1 (by simp[qz])
  refine⟨j,by rw[List.all_cons,e.1,k];rfl,?_⟩;show(eqV u v||inV v vs)=(eqF y x||inL x l);rw[e.2,m]
def jk5(neg:Bool):R2:=λx y H Q=>∃ c l,x=.str (S [c])/\y=.str (S l)/\Q (.bl (if neg then !decide (c∈l) else decide (c∈l))) H
def jgj(K:PySem.W.Frag)(neg:Bool):R2:=λx y H Q=>jk5 neg x y H Q \/ rIn K neg x y H Q
theorem jh7:OpR X (compareOp .In) (jgj X.K false):=JN jhX uB
theorem wY:OpR X (compareOp .NotIn) (jgj X.K true):=JN uM Ku
theorem zq(neg b:Bool):(if neg=true then !b else b)=(neg != b):=by cases neg<;>cases b<;>rfl
theorem jgC{neg:Bool}:BO R (jgj R.K neg) (zE neg):=by
 intro Z H x y d v u r w z b g e Q k;cases y with
 | str s =>
  cases x with
  | str t =>
   match t,e,b with
   | [c],e,b =>
    cases e;obtain⟨rfl,_⟩:=b.str_of;obtain⟨rfl,_⟩:=g.str_of;refine .inl ⟨c,s,rfl,rfl,?_⟩;rw[zq];exact k (Go.id z) .bl_mk
   | [],e,b=>cases e
   | _::_::_,e,b=>cases e
  | _=>cases e
 | lst o l =>
  have f:(bif jbJ x l then some (D.bl (neg != inL x l)) else none)=some d:=e;refine oc f λa f=>?_;cases f;unfold jbJ at a;rw[L9] at a;obtain⟨p,h,A,rfl,i,j⟩:=g.lst_of;obtain⟨m,n,q⟩:=j.flat b a.1 a.2;refine .inr ⟨p,h,rfl,.inl i.sq,m,n,?_⟩;rw[q,zq];exact k (Go.id z) .bl_mk
 | tup l =>
  have f:(bif jbJ x l then some (D.bl (neg != inL x l)) else none)=some d:=e;refine oc f λa f=>?_;cases f;unfold jbJ at a;rw[L9] at a;obtain⟨p,h,rfl,i,j⟩:=g.tup_of;obtain⟨m,n,q⟩:=j.flat b a.1 a.2;refine .inr ⟨p,h,rfl,.inr i,m,n,?_⟩;rw[q,zq];exact k (Go.id z) .bl_mk
 | _=>cases e
def jc(x y:D):Option D:=match y with
 | .int i=>(match x with
  | .lst _ l=>atI l i
  | .tup l=>atI l i
  | .str s=>bif lim s.length then(atI s i).bind λc=>some (.str [c]) else none
  | _=>none)
 | _=>none
theorem Reps.atI{l:List D}{vs:List V}{O:List Addr}{i:Int}{d:D}(r:Reps R Z H l vs O)(e:L2.atI l i=some d):∃ v P,L2.atI vs i=some v/\Rep R Z H d v P:=by
 unfold L2.atI at e ⊢;rw[r.length];cases h:ixN l.length i with
 | none=>rw[h] at e;cases e
 | some j =>
  rw[h] at e;obtain⟨v,A,P,B,a,_,b,_⟩:=r.at (show l[j]?=some d from e);exact⟨v,P,a,b⟩
theorem jj2:BO' R (rIx R.K) jc:=by
 intro Z H x y d v u r t z a n e Q k;cases y with
 | int i =>
  obtain⟨rfl,_⟩:=n.int_of;cases x with
  | lst o l =>
   obtain⟨p,b,A,rfl,f,g⟩:=a.lst_of;obtain⟨w,P,j,m⟩:=g.atI e;exact .inl ⟨p,b,i,w,rfl,rfl,f.sq,j,k m⟩
  | tup l =>
   obtain⟨p,b,rfl,f,g⟩:=a.tup_of;obtain⟨w,P,j,m⟩:=g.atI e;exact .inr (.inl ⟨p,b,i,w,rfl,rfl,f,j,k m⟩)
  | str s =>
   obtain⟨rfl,_⟩:=a.str_of;simp only[jc] at e;refine oc e λq e=>ob e λc h e=>?_;cases e;refine .inr (.inr ⟨S s,i,c,rfl,rfl,by rw[Jz];exact q5 q,by rw[qA];exact h,?_⟩);rw[jd5];exact k .str_mk
  | _=>cases e
 | _=>cases e
abbrev OF:=Rh->Option (Option Int)
def PO'(R:RC)(t:TO)(p:OF):Prop:=∀{σ:St}{ρ:Rh}{Z:Zn}{H:Hp}{O:List Addr}{i:Option Int},Zd Z H->Slots R Z H ρ σ O->p ρ=some i ->
 ∀{Q:Option Int->Hp->Prop},(∀{Z':Zn}{H':Hp},Go Z H [] Z' H' []->Q i H')->t σ H Q
@[simp] def oN(ρ:Rh):Option (Option Int):=some none
@[simp] def oS(pa:PF)(ρ:Rh):Option (Option Int):=(pa ρ).bind λd=>(y4 d).bind λi=>some (some i)
theorem jlf:PO' R zu oN:=by
 intro σ ρ Z H O i z s e Q k;cases e;exact k (Go.id z)
theorem jll{te:TE}{p:PF}(h:PB R te p):PO' R (jf9 te) (oS p):=by
 intro σ ρ Z H O i z s e Q k;refine ob e λx a e=>ob e λj e2 e=>?_;cases e;cases ym e2;refine h z s a λ{v d f g} b c=>?_;obtain⟨rfl,_⟩:=c.int_of;exact⟨j,rfl,k b⟩
def jdA(lo hi:Option Int):D->Option D
 | .str s=>bif lim s.length then some (.str (yC s lo hi)) else none
 | .lst _ l=>bif frzs l then some (.lst true (yC l lo hi)) else none
 | .tup l=>bif frzs l&&decide ((yC l lo hi).length < l.length) then some (.tup (yC l lo hi)) else none
 | _=>none
def jjO(K:PySem.W.Frag):V->Option Int->Option Int->Hp->VK->Prop:=λx lo hi H Q=>jkV x lo hi H Q \/ jkR K x lo hi H Q \/ jkN K x lo hi H Q
theorem jli:SlR X (jjO X.K):=SlR.or jg3 (SlR.or jec jhx)
@[simp] def pSl(pa:PF)(pl:OF)(ph:OF)(ρ:Rh):Option D:=(pa ρ).bind λx=>(pl ρ).bind λlo=>(ph ρ).bind λhi=>jdA lo hi x
theorem Reps.cut{l:List D}{vs:List V}(r:Reps R Z H l vs [])(lo hi:Option Int):Reps R Z H (yC l lo hi) (jdz vs lo hi) []:=by
 unfold yC jdz;rw[r.length];exact(r.drop _).take _
theorem ji9{te:TE}{tl th:TO}{pa:PF}{pl w:OF}(B:PB R te pa)(C:PO' R tl pl)(D:PO' R th w):PP R (tSl (jjO R.K) te tl th) (pSl pa pl w):=by
 intro σ ρ Z H O d z s e Q k;refine ob e λx E e=>ob e λlo e2 e=>ob e λhi e3 e=>?_;refine B z s E λ{v I J L} i F=>?_;refine C i.wf.zd (i.slots z s) e2 λ{M N} m=>?_;have f:=i.pair m;refine D m.wf.zd (f.slots z s) e3 λ{Z3 G} g3=>?_;have a:Go Z H [] Z3 G []:=f.pair g3;have n:=(m.pair g3).rep i.wf.zd F;cases x with
 | str t =>
  simp only[jdA] at e;refine oc e λc e=>?_;cases e;obtain⟨rfl,_⟩:=n.str_of;exact .inl ⟨t,rfl,q5 c,k a .str_mk⟩
 | lst o l =>
  simp only[jdA] at e;refine oc e λc e=>?_;cases e;obtain⟨p,q,P,rfl,r,j⟩:=n.lst_of;have g:=g3.wf.zd;exact .inr (.inl ⟨p,q,rfl,r.sq,λb h=>k (by simpa using a.pair (Go.newO (wf0 g) h)) (Rep.lstNew (wf0 g) h ((j.frozen c).cut lo hi))⟩)
 | tup l =>
  simp only[jdA] at e;refine oc e λc e=>?_;cases e;simp only[L9,decide_eq_true_eq] at c;obtain⟨p,q,rfl,r,j⟩:=n.tup_of;have g:=g3.wf.zd;refine .inr (.inr ⟨p,q,rfl,r,?_,λb h=>k (by simpa using a.pair (Go.newF (wf0 g) h)) (Rep.tupNew (wf0 g) h ((j.frozen c.1).cut lo hi))⟩);rintro⟨y,A⟩;have u:=c.2;unfold yC at u;rw[j.length] at y A;rw[y,A,List.drop_zero,Nat.sub_zero,List.take_length] at u;exact absurd u (Nat.lt_irrefl _)
 | _=>cases e
def jk4:D->Option D
 | .lst _ l=>some (.int l.length)
 | .tup l=>some (.int l.length)
 | .str s=>bif lim s.length then some (.int s.length) else none
 | _=>none
def qy(l:List D):Option D:=(jfO l).bind jk4
theorem jh3:BC R (λxs H Q=>∃ x n,xs=[x]/\jj6 R.K x H n/\Q (.int n) H) qy:=by
 intro Z H xs d i O z r e Q k;refine ob e λx g e=>?_;rw[JG g] at r;obtain⟨v,rfl,a⟩:=r.one_of;cases x with
 | lst o l =>
  cases e;obtain⟨p,b,j,rfl,c,f⟩:=a.lst_of;exact⟨_,_,rfl,.inl ⟨b,c.sq,rfl⟩,by rw[f.length];exact k (Go.id z) .int_mk⟩
 | tup l =>
  cases e;obtain⟨p,b,rfl,c,f⟩:=a.tup_of;exact⟨_,_,rfl,.inr ⟨b,c,rfl⟩,by rw[f.length];exact k (Go.id z) .int_mk⟩
 | str s =>
  refine oc e λh e=>?_;cases e;obtain⟨rfl,_⟩:=a.str_of;exact⟨_,_,rfl,⟨by rw[Jz];exact q5 h,rfl⟩,by rw[Jz];exact k (Go.id z) .int_mk⟩
 | _=>cases e
noncomputable def wE:List D->Option (List Int)
 | []=>some []
 | d::l=>match d with
  | .int i=>((wE l).bind λr=>some (i::r))
  | _=>none
theorem Reps.ints:∀{l:List D}{vs:List V}{O:List Addr}{ns:List Int},Reps R Z H l vs O->wE l=some ns->vs=ns.map V.int:=by
 intro l
 induction l with
 | nil=>intro vs O ns h e;rw[Reps] at h;cases e;exact h.1
 | cons d l a =>
  intro vs O ns h e;rw[Reps] at h;obtain⟨v,vs,g,j,rfl,rfl,b,c⟩:=h;cases d with
  | int i =>
   refine ob e λr f e=>?_;cases e;rw[a c f,b.int_of.1];rfl
  | _=>cases e
def Kn(l:List D):Option D:=(jfO l).bind λx=>(jgx x).bind λl=>(wE l).bind λns=>some (.int ns.sum)
theorem jiP:BC R (λxs H Q=>∃(p:Addr) (ns:List Int),xs=[.ref p]/\SqL R.K H p (ns.map V.int)/\Q (.int ns.sum) H) Kn:=by
 intro Z H xs d i O z r e Q k;refine ob e λx a e=>ob e λl b e=>ob e λns c e=>?_;cases e;obtain⟨o,rfl⟩:=zA b;rw[JG a] at r;obtain⟨v,rfl,f⟩:=r.one_of;obtain⟨p,j,m,rfl,g,h⟩:=f.lst_of;have:=h.ints c;subst this;exact⟨p,ns,rfl,g.sq,k (Go.id z) .int_mk⟩
def f2I(g:Int->Int->Int)(l:List D):Option D:=(two1 l).bind λp=>two (λi j=>some (.int (g i j))) p.1 p.2
theorem jhP{g:Int->Int->Int}:BC R (λxs H Q=>∃ i j,xs=[.int i,.int j]/\Q (.int (g i j)) H) (f2I g):=by
 intro Z H xs d f O z r e Q k;refine ob e λp a e=>?_;obtain⟨i,j,e2,e3,e⟩:=two_of e;cases e;rw[two1_of a,e2,e3] at r;obtain⟨v,u,h,l,rfl,_,b,c⟩:=r.two_of;obtain⟨rfl,_⟩:=b.int_of;obtain⟨rfl,_⟩:=c.int_of;exact⟨i,j,rfl,k (Go.id z) .int_mk⟩
abbrev jgk:List D->Option D:=f2I λi j=>if j > i then j else i
abbrev zU:List D->Option D:=f2I λi j=>if j < i then j else i
def jla:D->Option D
 | .lst _ l=>bif frzs l then some (.lst true l) else none
 | .tup l=>bif frzs l then some (.lst true l) else none
 | _=>none
def Qa(l:List D):Option D:=(jfO l).bind jla
theorem jfz:BC R (λxs H Q=>∃ p ys,xs=[.ref p]/\(SqL R.K H p ys \/ SqT R.K H p ys)/\∀ l,H l=none->Q (.ref l) (upd H l (.lst ys))) Qa:=by
 intro Z H xs d m O z r e Q k;refine ob e λx j e=>?_;rw[JG j] at r;obtain⟨v,rfl,i⟩:=r.one_of;cases x with
 | lst o l =>
  refine oc e λc e=>?_;cases e;obtain⟨p,f,n,rfl,g,h⟩:=i.lst_of;exact⟨p,f,rfl,.inl g.sq,λb a=>k (Go.newO (wf0 z) a) (Rep.lstNew (wf0 z) a (h.frozen c))⟩
 | tup l =>
  refine oc e λc e=>?_;cases e;obtain⟨p,f,rfl,g,h⟩:=i.tup_of;exact⟨p,f,rfl,.inr g,λb a=>k (Go.newO (wf0 z) a) (Rep.lstNew (wf0 z) a (h.frozen c))⟩
 | _=>cases e
noncomputable def tyD:D->Option String
 | .non=>some "NoneType" | .bl _=>some "bool" | .int _=>some "int" | .str _=>some "str" | .tup _=>some "tuple" | .lst _ _=>some "list"
 | .dK true _ _=>some "dict"
 | _=>none
noncomputable def Q8(t T:String):Bool:=t==T||(t=="bool"&&T=="int")
@[simp] def Km(T:String)(pa:PF)(ρ:Rh):Option D:=(pa ρ).bind λd=>(tyD d).bind λt=>some (.bl (Q8 t T))
theorem jfq(K:PySem.W.Frag){t T:String}(a:t∈["NoneType","bool","int","str","tuple","list","dict"])(b:T∈["bool","int","str","tuple","list","dict"]):PySem.W.kitOne K (.type t) (.type T)=some (Q8 t T):=by
 simp only[M4,List.not_mem_nil,or_false] at a b;rcases a with rfl | rfl | rfl | rfl | rfl | rfl | rfl<;>rcases b with rfl | rfl | rfl | rfl | rfl | rfl<;>rfl
theorem Rep.ty{x:D}{v:V}{O:List Addr}{t:String}(r:Rep R Z H x v O)(e:tyD x=some t):TyQ R.K H v t/\t∈["NoneType","bool","int","str","tuple","list","dict"]:=by
 cases x with
 | non=>cases e;obtain⟨rfl,_⟩:=r.non_of;exact⟨.non,by simp⟩
 | bl b=>cases e;obtain⟨rfl,_⟩:=r.bl_of;exact⟨.bl _,by simp⟩
 | int i=>cases e;obtain⟨rfl,_⟩:=r.int_of;exact⟨.int _,by simp⟩
 | str s=>cases e;obtain⟨rfl,_⟩:=r.str_of;exact⟨.str _,by simp⟩
 | tup l=>cases e;obtain⟨p,d,rfl,c,f⟩:=r.tup_of;exact⟨.tup c,by simp⟩
 | lst o l=>cases e;obtain⟨p,d,g,rfl,c,f⟩:=r.lst_of;exact⟨.lst c.sq,by simp⟩
 | dK o h l=>cases o with
  | false=>cases e
  | true=>cases e;rw[Rep] at r;obtain⟨a,j,g,rfl,_,_,hd,_⟩:=r;exact⟨.dK hd,by simp⟩
 | _=>cases e
theorem jg7{T:String}(a:T∈["bool","int","str","tuple","list","dict"]){te:TE}{p:PF}(h:PB R te p) :
  PP R (tCB (λxs H Q=>∃ x T t b,xs=[x,.ty T]/\TyQ R.K H x t/\PySem.W.kitOne R.K (.type t) (.type T)=some b/\Q (.bl b) H) (yc te (yc (tC (.ty T)) Y7))) (Km T p):=by
 intro σ ρ Z H O d z s e Q k;refine ob e λx c e=>ob e λt e2 e=>?_;cases e;refine h z s c λ{v l m n} f g=>?_;obtain⟨i,j⟩:=g.ty e2;exact⟨v,T,t,Q8 t T,rfl,i,jfq _ j a,k f .bl_mk⟩
end
noncomputable def yf:Nat->List D->List D
 | _,[]=>[]
 | k,x::l=>.tup [.int k,x]::yf (k+1) l
theorem j8:∀(k:Nat) (l:List D),(yf k l).length=l.length
 | _,[]=>rfl
 | k,x::l=>by rw[yf,M0,M0,j8]
theorem kI:∀(k:Nat) (l:List D) (i:Nat) (y:D),(yf k l)[i]?=some y->∃ x,l[i]?=some x/\y=.tup [.int ((k+i:Nat):Int),x]
 | _,[],_,_,e=>by simp[yf] at e
 | k,x::l,0,y,e=>by simp[yf] at e;exact⟨x,rfl,e.symm⟩
 | k,x::l,i+1,y,e=>by
  obtain⟨z,a,e2⟩:=kI (k+1) l i y (by simpa [yf] using e);exact⟨z,by simpa using a,by rw[e2];congr 3;lia⟩
def jdD(l:List D):Option (List D):=(jfO l).bind λx=>(jgx x).bind λl=>some (yf 0 (fzs l))
@[simp] def YW(p:PAf)(ρ:Rh):Option (List D):=(p ρ).bind jdD
theorem zS(z:Zd Z H)(b:H p=none)(c:Rep R Z H x u [])(d:Rep R Z H y v []):Rep R (λa=>Z a \/ a=p) (upd H p (.tup [u,v])) (.tup [x,y]) (.ref p) [] :=
 Rep.tupNew (wf0 z) b (.cons c (.cons d .empty))
theorem jcM(h:PPs R ta p):PIt R (jeD R.K ta) (YW p):=by
 intro σ ρ Z H O T z s e Q k;refine ob e λx B e=>ob e λy e2 e=>ob e λl e3 e=>?_;cases e;obtain⟨o,rfl⟩:=zA e3;cases JG e2;refine h z s B λ{U C V D} E F=>?_;obtain⟨v,rfl,G⟩:=F.one_of;have g:=G.freeze (Z':=λa=>C a \/ a∈D) (λa z=>.inl z) λa z=>.inr z;rw[fz,Rep] at g;obtain⟨a,b,W,rfl,I,j,rfl,_⟩:=g;refine⟨a,b,rfl,FL.sq j,k E.fz ?_⟩;intro J L m n zd i;have c:=(j.frame m n).sq;have r:Reps R J L (fzs l) b []:=I.frame m n λa M=>(nomatch M);refine⟨λhi=>⟨b,c,by rw[r.length];rw[j8] at hi;exact hi⟩,λx N=>?_⟩;obtain⟨y,P,rfl⟩:=kI 0 _ i x N;obtain⟨u,t,S⟩:=r.item P;refine⟨⟨b,u,c,t⟩,λw X d=>?_⟩;obtain⟨q,Y,f,rfl,A,rfl⟩:=d;have:=f b c;rw[t] at this;cases this;refine⟨_,Go.newF (wf0 zd) A,?_⟩;have:=zS (R:=R) (x:=.int i) (u:=.int i) zd A .int_mk S;simpa using this
theorem jgL(h:ixN n i=some j):j < n:=(zD h).2.1
@[simp] def gIx(pm:List Nat)(i:Nat)(pi:PF)(d:D)(ρ:Rh):Option Rh:=(pi ρ).bind λk=>(y4 k).bind λk=>(pV i ρ).bind λx=>(VM x).bind λl=>(ixN l.length k).bind λj=>some (ρ.set i (some (.lst true (l.set j d))))
theorem jfB(rs:Reps R Z H l vs O)(a:j < l.length)(rd:Rep R Z H d u P):∃ O2,Reps R Z H (l.set j d) (vs.set j u) O2/\∀ q,O2.count q<=O.count q+P.count q:=by
 obtain⟨b,c,e,f,g,rfl,h,put⟩:=rs.at (show l[j]?=some l[j] by simp[a]);exact⟨_,put rd (λ_ z=>z) (λ_ _=>rfl) (λ_ _=>rfl) (λ_ _=>rfl),λq=>by simp only[U7];lia⟩
theorem jjr(h:PB R te pi):DG R pm (jjx (kD i) te jeJ) (gIx pm i pi):=by
 intro σ ρ D Z H O P d v w r s e Q k;refine ob e λx f e=>ob e λn e3 e=>ob e λy g e=>ob e λl m e=>ob e λj e2 e=>?_;cases e;cases ym e3;cases J4 m;refine JJ Vy w s g rfl ow_lst λa _ o E c _ p t put=>t (h w.zd s f λ{u F G I} b z=>?_);obtain⟨rfl,_⟩:=z.int_of;obtain⟨J,A,B⟩:=jfB (b.reps w.zd c) (jgL e2) (b.rep w.zd r);obtain⟨K,g3,C⟩:=put ow_lst trivial b A λq=>by have:=B q;simp;lia
 exact⟨a,o,n,j,rfl,rfl,b.at0 p,by rw[c.length];exact e2,k g3 C (Keep.refl _ _)⟩
@[simp] def sAugIx(i:Nat)(pi:PF)(g:Int->Int->Int)(pe:PF)(ρ:Rh):Option Out:=(pi ρ).bind λk=>(y4 k).bind λk=>(pV i ρ).bind λx=>(VM x).bind λl=>(ixN l.length k).bind λj=>(l[j]?).bind λy=>(y4 y).bind λa=>(pe ρ).bind λz=>(y4 z).bind λb=>some (.nx (ρ.set i (some (.lst true (l.set j (.int (g a b)))))))
end QD
namespace QD
open PySem L2 PySem.Spec PyProof.Rows
section
variable (c:Nat->Addr)(pm:List Nat)(X:Cx)
structure QP(e:Expr)(te:TE)(p:PF):Prop where
 sem:PE X e te
 den:PP ⟨X.K,c⟩ te p
structure QB(e:Expr)(te:TE)(p:PF):Prop where
 sem:PE X e te
 den:PB ⟨X.K,c⟩ te p
structure QPs(es:List Expr)(ta:TA)(p:PAf):Prop where
 sem:PA X es ta
 den:PPs ⟨X.K,c⟩ ta p
structure QBs(es:List Expr)(ta:TA)(p:PAf):Prop where
 sem:PA X es ta
 den:PBs ⟨X.K,c⟩ ta p
 n:∀ ρ ds,p ρ=some ds->ds.length=es.length
structure QT(e:Expr)(tt:TT)(q:PTf):Prop where
 sem:PT X e tt
 den:PTt ⟨X.K,c⟩ tt q
structure QW(e:Expr)(tt:TT)(q:PTf):Prop where
 sem:PW X e tt
 den:PTt ⟨X.K,c⟩ tt q
structure QI(tg e:Expr)(wi:TI)(p:PAf):Prop where
 sem:PI X tg e wi
 den:PIt ⟨X.K,c⟩ wi p
structure QG(tg:Expr)(t:TG)(g:D->Rh->Option Rh):Prop where
 sem:PG X tg t
 den:PGt ⟨X.K,c⟩ pm t g
structure QGs(tg:List Expr)(t:TGs)(g:List D->Rh->Option Rh):Prop where
 sem:PGs X tg t
 den:jic ⟨X.K,c⟩ pm t g
structure QE(e:Expr)(te:TE)(f:FE):Prop where
 sem:PE X e te
 den:DE ⟨X.K,c⟩ te f
structure QS(st:Stmt)(ts:TS)(f:FS):Prop where
 sem:PS X st ts
 den:DS ⟨X.K,c⟩ pm ts f
structure QSs(st:List Stmt)(ts:TS)(f:FS):Prop where
 sem:PSs X st ts
 den:DS ⟨X.K,c⟩ pm ts f
structure QO(e:Option Expr)(t:TO)(p:OF):Prop where
 sem:PO X e t
 den:PO' ⟨X.K,c⟩ t p
structure QIf(ifs:List Expr)(tc:TT)(q:PTf):Prop where
 sem:PIf X ifs tc
 den:PTt ⟨X.K,c⟩ tc q
end
section
variable {cl:Nat->Addr}{pm:List Nat}{X:Cx}{a b c e o:Expr}{es:List Expr}{ta tb tc te:TE}{pa pb pc pe:PF}{tA tB:TT}{qa qb:PTf}{tr:TA}{pr:PAf}{pos:Pos}
theorem QP.bb(h:QP cl X e te pe):QB cl X e te pe:=⟨h.sem,PP.b h.den⟩
theorem QB.f(h:QB cl X e te pe):QP cl X e te (pF pe):=⟨h.sem,PB.f h.den⟩
theorem QP.d(h:QP cl X e te pe):QE cl X e te (dP pe):=⟨h.sem,PP.d h.den⟩
theorem jjK(i:Nat){x:Str}(b:X.N[i]?=some x:=by rfl)(c:Vis X.env.scope x:=by first | exact Or.inl rfl | exact Or.inr (Or.inl rfl) | exact Or.inr (Or.inr rfl))(hd:(x==("__debug__" : Str))=false:=by decide)
  (a:(x==("__classdict__" : Str))=false:=by decide):QB cl X (.Name x pos) (kD i) (pV i):=⟨jdn b c hd a,jhS⟩
theorem jlm(i:Nat){x:Str}(b:X.N[i]?=some x:=by rfl)(c:Vis X.env.scope x:=by first | exact Or.inl rfl | exact Or.inr (Or.inl rfl) | exact Or.inr (Or.inr rfl))(hd:(x==("__debug__" : Str))=false:=by decide)
  (a:(x==("__classdict__" : Str))=false:=by decide):QE cl X (.Name x pos) (kD i) (dMv i):=⟨jdn b c hd a,jjI⟩
theorem jgt{i:Int}{j}:QP cl X (.Constant (.int i) j pos) (tC (.int i)) (pC (.int i)):=⟨jdq,ji2 λ_ _=>.int_mk⟩
theorem jld{i:Bool}{j}:QP cl X (.Constant (.bool i) j pos) (tC (.bl i)) (pC (.bl i)):=⟨jj9,ji2 λ_ _=>.bl_mk⟩
theorem jkb{j}:QP cl X (.Constant .none j pos) (tC .non) (pC .non):=⟨jgN,ji2 λ_ _=>.non_mk⟩
theorem jit{x:Str}{j}(l:List Nat)(h:x=S l):QP cl X (.Constant (.str x) j pos) (tC (.str x)) (pC (.str l)):=⟨jhY,by subst h;exact ji2 λ_ _=>.str_mk⟩
theorem jiL(c:QB cl X a ta pa)(d:QB cl X b tb pb):QP cl X (.BinOp a .Add b pos) (tOp (jbP X.K) ta tb) (p2 jr pa pb):=⟨wb jeu c.sem d.sem,KU jiX c.den d.den⟩
theorem jkD(c:QB cl X a ta pa)(d:QB cl X b tb pb):QP cl X (.BinOp a .Sub b pos) (tOp (rI0 λi j=>.int (i - j)) ta tb) (p2 vS pa pb):=⟨wb jid c.sem d.sem,KU jiR c.den d.den⟩
theorem jjc(c:QB cl X a ta pa)(d:QB cl X b tb pb):QP cl X (.BinOp a .Mult b pos) (tOp jfA ta tb) (p2 j9 pa pb):=⟨wb jd6 c.sem d.sem,KU jie c.den d.den⟩
theorem jkv(c:QB cl X a ta pa)(d:QB cl X b tb pb):QP cl X (.BinOp a .FloorDiv b pos) (tOp (rI (λ_ j=>xY j=true) λi j=>.int (i / j)) ta tb) (p2 jA pa pb):=⟨wb jbZ c.sem d.sem,KU jhT c.den d.den⟩
theorem jj8(c:QB cl X a ta pa)(d:QB cl X b tb pb):QP cl X (.BinOp a .Mod b pos) (tOp (rI (λ_ j=>0 < j) λi j=>.int (i % j)) ta tb) (p2 jn pa pb):=⟨wb jgI c.sem d.sem,KU jia c.den d.den⟩
theorem ji6(c:QB cl X a ta pa)(d:QB cl X b tb pb):QP cl X (.BinOp a .Pow b pos) (tOp (rI jkt λi j=>.int (i ^ j.toNat)) ta tb) (p2 YM pa pb):=⟨wb jhN c.sem d.sem,KU jiv c.den d.den⟩
theorem jjs(b:QB cl X a ta pa):QP cl X (.UnaryOp .USub a pos) (tUn (rU λi=>.int (-i)) ta) (p1 zw pa):=⟨jke jiC b.sem,ji8 jhQ b.den⟩
theorem jjp(b:QB cl X a ta pa):QP cl X (.UnaryOp .Not a pos) (jes ta) (jj5 pa):=⟨jg6 b.sem,jgE b.den⟩
structure CmpR(cl:Nat->Addr)(X:Cx)(op:CmpOp)(b:Expr)(r:R2)(g:D->D->Option D):Prop where
 o:OpR X (compareOp op) r
 g:BO ⟨X.K,cl⟩ r g
 m:behindInMarks op b=false
theorem jlr:CmpR cl X .Lt b (rI0 λi j=>.bl (decide (i < j))) jf5:=⟨jjC,jkH,Qb _⟩
theorem jk9:CmpR cl X .Gt b (rI0 λi j=>.bl (decide (j < i))) Qs:=⟨jjj,jkH,Qb _⟩
theorem jlh:CmpR cl X .Is b (λx y H Q=>y=.non/\Q (.bl (decide (x=.non))) H) wU:=⟨jh6,jkq,Qb _⟩
theorem jk6(a:behindInMarks .In b=false):CmpR cl X .In b (jgj X.K false) (zE false):=⟨jh7,jgC,a⟩
theorem c_notin(a:behindInMarks .NotIn b=false):CmpR cl X .NotIn b (jgj X.K true) (zE true):=⟨wY,jgC,a⟩
theorem jj0{c:CmpOp}{r:R2}{g:D->D->Option D}(h:CmpR cl X c b r g)(d:QB cl X a ta pa)(e:QB cl X b tb pb):QP cl X (.Compare a [c] [b] pos) (tOp r ta tb) (p2 g pa pb):=⟨jfh h.o d.sem e.sem h.m,KU h.g d.den e.den⟩
theorem jhU{c:CmpOp}{r:R2}{g:D->D->Option D}(h:CmpR cl X c b r g)(d:QB cl X a ta pa)(e:QB cl X b tb pb):QT cl X (.Compare a [c] [b] pos) (jeo (tOp r ta tb)) (jh (p2 g pa pb)):=⟨je5 h.o d.sem e.sem h.m,jal (PP.b (KU h.g d.den e.den))⟩
theorem jix(b:QB cl X a ta pa)(c:∀ whole,isTrue a X.env whole=(do let v <- whole;standAt a.pos;holding [v] (truthy v)):=by intro _;rfl):QT cl X a (L2.tB ta) (jh pa):=⟨jin b.sem c,jal b.den⟩
theorem jgV(b:QT cl X a tA qa):QT cl X (.UnaryOp .Not a pos) (jkz tA) (jfU qa):=⟨jhe b.sem,jdI b.den⟩
theorem jeX(b:QT cl X a tA qa):QW cl X (.BoolOp .And [a] pos) tA qa:=⟨jfJ b.sem,b.den⟩
theorem jgO(c:QT cl X a tA qa)(d:QW cl X (.BoolOp .And (b::es) pos) tB qb):QW cl X (.BoolOp .And (a::b::es) pos) (jjR tA tB) (QY qa qb):=⟨jhO c.sem d.sem,jhp c.den d.den⟩
theorem QW.t(h:QW cl X a tA qa):QT cl X a tA qa:=⟨PW.pt h.sem,h.den⟩
theorem jjl{op}(h:QP cl X a ta pa):QP cl X (.BoolOp op [a] pos) ta pa:=⟨jhq h.sem,h.den⟩
theorem jjY(c:QB cl X a ta pa)(d:QP cl X (.BoolOp .And (b::es) pos) tb pb):QP cl X (.BoolOp .And (a::b::es) pos) (jdV ta tb) (jdF pa pb):=⟨jhM c.sem d.sem,jho c.den d.den⟩
theorem jlb(d:QT cl X c tA qa)(e:QP cl X a ta pa)(f:QP cl X b tb pb):QP cl X (.IfExp c a b pos) (tIf tA ta tb) (pIf qa pa pb):=⟨jbL d.sem e.sem f.sem,jkg d.den e.den f.den⟩
theorem jh8:QPs cl X [] Y7 pN:=⟨vO,pps_nil⟩
theorem jfj(a:QP cl X e te pe)(b:QPs cl X es tr pr)(c:starEach (e::es) X.env=(false,eval e X.env)::starEach es X.env:=by rfl):QPs cl X (e::es) (yc te tr) (ja pe pr):=⟨jG a.sem b.sem c,pps_cons a.den b.den⟩
theorem jg9:QBs cl X [] Y7 pN:=⟨vO,jfW,λρ a e=>by cases e;rfl⟩
theorem jeY(b:QB cl X e te pe)(a:QBs cl X es tr pr)(c:starEach (e::es) X.env=(false,eval e X.env)::starEach es X.env:=by rfl):QBs cl X (e::es) (yc te tr) (ja pe pr) :=
 ⟨jG b.sem a.sem c,jcg b.den a.den,λρ f h=>by
  refine ob h λx g h=>ob h λd e2 h=>?_;cases h;rw[M0,M0,a.n ρ d e2]⟩
theorem jjQ{x1}(h:QPs cl X es tr pr):QP cl X (.Tuple es x1 pos) (zM tr) (yU pr):=⟨Jd h.sem,jiy h.den⟩
theorem jko(h:QPs cl X es tr pr):QP cl X (.List es pos) (jiG tr) (vY pr):=⟨jdr h.sem,jgz h.den⟩
theorem jkZ(c:QB cl X a ta pa)(d:QB cl X b tb pb)(e:VO b:=by exact λ_ _=>rfl):QB cl X (.Subscript a b pos) (tOp (rIx X.K) ta tb) (p2 jc pa pb):=⟨jhj jdC c.sem d.sem e,jkp jj2 c.den d.den⟩
theorem jfZ:QO cl X none zu oN:=⟨jee,jlf⟩
theorem jge(h:QB cl X e te pe):QO cl X (some e) (jf9 te) (oS pe):=⟨jeE h.sem,jll h.den⟩
theorem jle{lo hi:Option Expr}{tl th:TO}{pl c:OF}{b:Pos}(d:QB cl X a ta pa)(e:QO cl X lo tl pl)(f:QO cl X hi th c):QP cl X (.Subscript a (.Slice lo hi none b) pos) (tSl (jjO X.K) ta tl th) (pSl pa pl c) :=
 ⟨jcj jli d.sem e.sem f.sem,ji9 d.den e.den f.den⟩
def OkF(P:Program)(w:World)(K:PySem.W.Frag)(mg:Str->Option Value)(x:Str)(st:Stmt)(k:Nat)(ps:List Str)(sp:Sp):Prop:=∃ f fd,FnFact K mg x x st f fd ps/\∀ base,FnOk P w K mg base CX0 k f fd ps sp
theorem jgW{k n:Nat}{ps:List Str}{m:List D->Option D}{x:Str}{st:Stmt}{p:Pos}(O:OkF X.prog X.w X.K X.mg x st k ps (spP ⟨X.K,cl⟩ m n))(d:Room k X.A)
  (a:QBs cl X (e::es) tr pr) (f:(e::es).length=n:=by rfl) (g:Gl X x:=by rfl) (b:(x==("__debug__" : Str))=false:=by decide)
  (i:starEach (e::es) X.env=(false,eval e X.env)::starEach es X.env:=by rfl) (c:(backTo pos (starEach es X.env)).any (·.1)=false:=by rfl):QP cl X (.Call (.Name x p) (e::es) [] pos) (x6 (spP ⟨X.K,cl⟩ m n) [] E0 tr) (jH m pr):=by
 obtain⟨_,_,F,G⟩:=O;exact⟨jhK F (G _) d a.sem g b i c,jfn a.den λρ j h=>(a.n ρ j h).trans f⟩
theorem Ys{x:Str}{p:Pos}{id:String}{r:List V->Hp->VK->Prop}{g:List D->Option D}(d:Jt X (.builtin id) r)(f:BC ⟨X.K,cl⟩ r g)(h:X.mg x=none)(i:bootBuiltins x=some (.builtin id))(c:QBs cl X (e::es) tr pr)(j:Gl X x:=by rfl)
  (k:x≠"__name__":=by decide) (a:(x==("__debug__" : Str))=false:=by decide) (l:starEach (e::es) X.env=(false,eval e X.env)::starEach es X.env:=by rfl) (b:(backTo pos (starEach es X.env)).any (·.1)=false:=by rfl) :
  QP cl X (.Call (.Name x p) (e::es) [] pos) (tCB r tr) (pCB g pr):=⟨xc d j h i c.sem k a l b,jha f c.den⟩
theorem jbl{x:Str}{p:Pos}{T:String}{r:List V->Hp->VK->Prop}{g:List D->Option D}(d:Jt X (.type T) r)(f:BC ⟨X.K,cl⟩ r g)(h:X.mg x=none)(i:bootBuiltins x=some (.type T))(c:QBs cl X (e::es) tr pr)(j:Gl X x:=by rfl)
  (k:x≠"__name__":=by decide) (a:(x==("__debug__" : Str))=false:=by decide) (l:starEach (e::es) X.env=(false,eval e X.env)::starEach es X.env:=by rfl) (b:(backTo pos (starEach es X.env)).any (·.1)=false:=by rfl) :
  QP cl X (.Call (.Name x p) (e::es) [] pos) (tCB r tr) (pCB g pr):=⟨K4 d j h i c.sem k a l b,jha f c.den⟩
theorem jjS(b:X.mg "len" = none){p:Pos}(c:QBs cl X [e] tr pr)(d:Gl X "len":=by rfl)(f:starEach [e] X.env=(false,eval e X.env)::starEach [] X.env:=by rfl)(a:(backTo pos (starEach [] X.env)).any (·.1)=false:=by rfl) :
  QP cl X (.Call (.Name "len" p) [e] [] pos) (tCB (λxs H Q=>∃ x n,xs=[x]/\jj6 X.K x H n/\Q (.int n) H) tr) (pCB qy pr):=Ys jbK jh3 b PySem.boot_len c d (by decide) (by decide) f a
theorem jaL:bootBuiltins "sum" = some (.builtin "sum"):=by decide +kernel
theorem jan:bootBuiltins "max" = some (.builtin "max"):=by decide +kernel
theorem uI:bootBuiltins "min" = some (.builtin "min"):=by decide +kernel
theorem JQ:bootBuiltins "isinstance" = some (.builtin "isinstance"):=by decide +kernel
theorem jaP:bootBuiltins "int" = some (.type "int"):=by decide +kernel
theorem uX:bootBuiltins "str" = some (.type "str"):=by decide +kernel
theorem JA:bootBuiltins "list" = some (.type "list"):=by decide +kernel
theorem zp:bootBuiltins "tuple" = some (.type "tuple"):=by decide +kernel
theorem xR:bootBuiltins "bool" = some (.type "bool"):=by decide +kernel
theorem wy:bootBuiltins "dict" = some (.type "dict"):=by decide +kernel
theorem jaV{T:String}{x:Str}{p p1:Pos}(j:T∈["bool","int","str","tuple","list","dict"])(k:X.mg "isinstance" = none)(c:X.mg x=none)(d:bootBuiltins x=some (.type T))(h:QB cl X a ta pa)(l:Gl X "isinstance":=by rfl)(e:Gl X x:=by rfl)
  (m:x≠"__name__":=by decide) (f:(x==("__debug__" : Str))=false:=by decide) (i:starEach [a,.Name x p1] X.env=(false,eval a X.env)::starEach [.Name x p1] X.env:=by rfl) (g:(backTo pos (starEach [.Name x p1] X.env)).any (·.1)=false:=by rfl)
  (h1:starEach [.Name x p1] X.env=(false,eval (.Name x p1) X.env)::starEach [] X.env:=by rfl) :
  QP cl X (.Call (.Name "isinstance" p) [a,.Name x p1] [] pos) (tCB (λxs H Q=>∃ x T t b,xs=[x,.ty T]/\TyQ X.K H x t/\PySem.W.kitOne X.K (.type t) (.type T)=some b/\Q (.bl b) H) (yc ta (yc (tC (.ty T)) Y7))) (Km T pa) :=
 ⟨xc KS l k JQ (jG h.sem (jG (jev e c d rfl m f) vO h1) i) (by decide) (by decide) i g,jg7 j h.den⟩
variable {tg iter elt:Expr}{ifs:List Expr}{wi:TI}{pi:PAf}{t:TG}{g:D->Rh->Option Rh}
theorem jgu(h:QP cl X e te pe):QI cl X tg e (jcL X.K te) (pIt pe):=⟨zQ h.sem,jjA h.den⟩
theorem jfC{p:Pos}(b:X.mg "range" = none)(h:QBs cl X [a] tr pr)(c:Gl X "range":=by rfl)(d:starEach [a] X.env=[(false,eval a X.env)]:=by rfl):QI cl X tg (.Call (.Name "range" p) [a] [] pos) (jeF tr) (Jg pr):=⟨jbo c b h.sem d,jfQ h.den⟩
theorem jer{b:List Expr}{n:Nat}{tpos p:Pos}(c:X.mg "enumerate" = none)(h:QPs cl X [a] tr pr)(d:Gl X "enumerate":=by rfl)(e:starEach [a] X.env=[(false,eval a X.env)]:=by rfl):QI cl X (.Tuple b n tpos) (.Call (.Name "enumerate" p) [a] [] pos) (jeD X.K tr) (YW pr):=⟨jfs d c h.sem e,jcM h.den⟩
theorem jep{i:Nat}{x:Str}(a:X.N.Nodup)(hi:X.N[i]?=some x:=by rfl)(b:Loc X.env.scope x:=by first | exact Or.inl rfl | exact Or.inr rfl)(c:X.fn x=true \/ X.env.scope.names.lookup x=some .local:=by first | exact .inl rfl | exact .inr rfl) :
  QG cl pm X (.Name x pos) (V7 i) (jd pm i):=⟨uw a hi b c,jcY⟩
theorem jd8:QGs cl pm X [] jjL gN:=⟨jeh,jde⟩
theorem jbY{ts:TGs}{a:List D->Rh->Option Rh}(h1:QG cl pm X e t g)(h2:QGs cl pm X es ts a)(b:(assignEach (e::es) X.env).map (·.2)=assign e X.env::(assignEach es X.env).map (·.2):=by rfl):QGs cl pm X (e::es) (jfv t ts) (gC g a):=⟨jcH h1.sem h2.sem b,jaW h1.den h2.den⟩
theorem jdl{ts:TGs}{b:List D->Rh->Option Rh}{k n:Nat}(c:X.calm=true)(h:QGs cl pm X es ts b)(d:(assignEach es X.env).length=n:=by rfl)(a:(assignEach es X.env).findIdx? (·.1)=none:=by rfl):QG cl pm X (.Tuple es k pos) (ji3 X.K n ts) (gT n b):=⟨jiE c h.sem d a,jgd h.den⟩
theorem jdc:QIf cl X [] (λ_ H Q=>Q true H) qT:=⟨.inl ⟨rfl,rfl⟩,jd1⟩
theorem jch(h:QT cl X c tA qa):QIf cl X [c] tA qa:=⟨.inr ⟨c,rfl,h.sem⟩,h.den⟩
variable {st:Stmt}{rest:List Stmt}{ts tu:TS}{f fe:FS}{fE:FE}
theorem jeN:QSs cl pm X [] jeL jF:=⟨jfl,jeT⟩
theorem jf2(h:QS cl pm X st ts f):QSs cl pm X [st] ts f:=⟨jfi h.sem,h.den⟩
theorem jca(h:QS cl pm X st ts f)(k:QSs cl pm X rest tu fe):QSs cl pm X (st::rest) (jjh ts tu) (jg f fe):=⟨jcp h.sem k.sem,jgY h.den k.den⟩
theorem jf8(h:QE cl X e te fE)(a:swapsWith e none pos.line X.env=pure false:=by rfl):QS cl pm X (.Expr e pos) (V1 te) (JR fE):=⟨VS h.sem a,je2 h.den⟩
theorem jhH(h:QE cl X e te fE):QS cl pm X (.Return (some e) pos) (jjN te) (yL fE):=⟨jiO h.sem,jiq h.den⟩
theorem jjm{x y:List Stmt}(a:QT cl X c tA qa)(b:QSs cl pm X x ts f)(e:QSs cl pm X y tu fe):QS cl pm X (.If c x y pos) (jjq tA ts tu) (sIf (dPT qa) f fe):=⟨jj3 a.sem b.sem e.sem,jja (PTt.d a.den) b.den e.den⟩
theorem jc9:QS cl pm X st jaa v8:=⟨jc8,jb5⟩
theorem jiW{i:Nat}{x:Str}{pos':Pos}(a:X.N.Nodup)(h:QE cl X e te fE)(hi:X.N[i]?=some x:=by rfl)(b:Loc X.env.scope x:=by first | exact Or.inl rfl | exact Or.inr rfl)(c:swapsWith e (some (.Name x pos')) pos.line X.env=pure false:=by rfl)
  (d:X.fn x=true \/ X.env.scope.names.lookup x=some .local:=by first | exact .inl rfl | exact .inr rfl):QS cl pm X (.Assign [.Name x pos'] e pos) (jfN te (V7 i)) (jC fE (jd pm i)):=⟨jhG a hi b h.sem c d,uC h.den Q6⟩
@[simp] def sAsgT(fe:FE)(G:D->Rh->Option Rh)(ρ:Rh):Option Out:=(fe ρ).bind λx=>(bif frz x.1 then G x.1 x.2 else none).bind λr=>some (.nx r)
theorem jbW{i:Nat}{x:Str}{a c:Pos}(d:QB cl X (.Name x a) (kD i) (pV i))(hi:QB cl X b tb pb)(h:QE cl X e te fE)
  (f:∀ v,assign (.Subscript (.Name x a) b c) X.env v=(do
   let ov <- holding [v] (eval (.Name x a) X.env)
   let iv <- holding [v,ov] (eval b X.env)
   standAt c
   holding [v,ov,iv] (setItem ov iv v)
   release [v,ov,iv] []):=by intro _;rfl)
  (g:swapsWithSole [.Subscript (.Name x a) b c] e pos.line X.env=pure false:=by rfl) (j:swappedStores [.Subscript (.Name x a) b c] e X.env=pure none:=by rfl)
  (h1:(assignEach [.Subscript (.Name x a) b c] X.env).map (·.2)=[assign (.Subscript (.Name x a) b c) X.env]:=by rfl) :
  QS cl pm X (.Assign [.Subscript (.Name x a) b c] e pos) (jfN te (jjx (kD i) tb jeJ)) (jC fE (gIx pm i pb)):=⟨jij h.sem (jh9 d.sem hi.sem jb1 f) g j h1,uC h.den (jjr hi.den)⟩
@[simp] def sAugI(pm:List Nat)(i:Nat)(g:Int->Int->Int)(pa:PF)(ρ:Rh):Option Out:=(pV i ρ).bind λx=>(y4 x).bind λa=>(pa ρ).bind λy=>(y4 y).bind λb=>(jd pm i (.int (g a b)) ρ).bind λr=>some (.nx r)
theorem jgP{i:Nat}{x:Str}{a apos cpos:Pos}(j:QB cl X (.Name x a) (kD i) (pV i))(h:QP cl X e te pe)(c:attributeBase (.Name x a) "append" X.env (eval (.Name x a) X.env)=eval (.Name x a) X.env:=by rfl)
  (f:((backTo cpos (starEach [e] X.env)).all (λx=>!x.1)&&(backToKw cpos (keywordEach [] X.env)).all (λx=>x.1.isSome)
   && decide ([e].length+([]:List Keyword).length+(if([]:List Keyword).isEmpty then 0 else 1) < 30))=true:=by rfl)
  (d:(apos.endLine==cpos.line)=true:=by rfl) (g:starEach [e] X.env=(false,eval e X.env)::starEach [] X.env:=by rfl) (b:(backTo cpos (starEach [] X.env)).any (·.1)=false:=by rfl)
  (hsw:swapsWith (.Call (.Attribute (.Name x a) "append" apos) [e] [] cpos) none pos.line X.env=pure false:=by rfl) :
  QS cl pm X (.Expr (.Call (.Attribute (.Name x a) "append" apos) [e] [] cpos) pos) (V1 (tBM X.K "list" qQ (kD i) (yc te Y7))) (VQ i pe) :=
 ⟨VS (jcy PySem.F.plainAttrs_list PySem.F.slot_list_append PySem.F.type_list_append Je j.sem (jG h.sem vO g) c f d g b) hsw,jh1 h.den⟩
theorem jhm{body:List Stmt}(c:PassesOwn (model X.prog X.w) X.A X.env X.xe)(d:X.calm=true)(hi:QI cl X tg iter wi pi)(a:QG cl pm X tg t g)(b:QSs cl pm X body ts f)(e:∀ x,foldedSetIterable iter X.env x=pure x:=by intro _;rfl):QS cl pm X (.For tg iter body [] pos) (jey wi t ts) (J6 pi g f) :=
 ⟨jak c d hi.sem a.sem b.sem e,jiM hi.den a.den b.den⟩
theorem QS.fz(i:Nat)(h:QS cl pm X st ts f):QS cl pm X st ts (sFz i f):=⟨h.sem,jjF h.den⟩
theorem jka{P:Program}{w:World}{K:PySem.W.Frag}{mg:Str->Option Value}{base:Heap}{x qual:Str}{a:Stmt}{fa:Addr}{fd:FuncData}{N ps:List Str}{k n:Nat}{fs:FS}(F:Fun K x qual a fa fd)(c:FnScope N ps (jz a))(d:ps.length=n)
  (b:∀(cdv:Value) (A:Around) (outer:List Env) (s:Shared) (H:Hp) (E:XK),Room k (A.deeper (envOfC qual (jz a) s.heap.objs.size fa cdv)) ->
   ∃ ts,QSs cl [] (jdw CX0 P w K mg base N qual (jz a) fa cdv A outer s H E).nox (vA a) ts fs):FnOk P w K mg base CX0 (k+1) fa fd ps (spP ⟨K,cl⟩ (fnP N.length fs) n):=by
 refine F.ok c (λe H Q E h=>by rw[jeg h,d]) λcdv A outer s H e Q E f h=>?_;obtain⟨ts,q⟩:=b cdv A outer s H E f;exact⟨ts,q.sem,jeB q.den h⟩
end
mutual
noncomputable def uG:D->PyData
 | .non=>.none | .bl b=>.bool b | .int i=>.int i | .str s=>.str (S s)
 | .tup l=>.tuple (kH l)
 | .lst _ l=>.list (kH l)
 | .dK _ _ _=>.none | .dT _ _ _=>.none | .ins _ _ _ _=>.none | .dead=>.none | .tok _=>.none | .exc _ _=>.none
noncomputable def kH:List D->List PyData
 | []=>[]
 | d::l=>uG d::kH l
end
mutual
noncomputable def okE:Nat->D->Bool
 | _,.non=>true | _,.bl _=>true | _,.int _=>true
 | _,.str s=>s.all λc=>decide (c < 1114112)
 | n+1,.tup l=>kx n l
 | n+1,.lst _ l=>kx n l
 | _,_=>false
noncomputable def kx:Nat->List D->Bool
 | _,[]=>true
 | n,d::l=>okE n d&&kx n l
end
mutual
noncomputable def eqD:D->D->Bool
 | .non,.non=>true
 | .bl a,.bl b=>a==b
 | .bl a,.int j=>(if a then 1 else 0)==j
 | .int i,.bl b=>i==(if b then 1 else 0)
 | .int i,.int j=>i==j
 | .str a,.str b=>a==b
 | .tup l,.tup m=>Kx l m
 | .lst _ l,.lst _ m=>Kx l m
 | _,_=>false
noncomputable def Kx:List D->List D->Bool
 | [],[]=>true
 | x::l,y::m=>eqD x y&&Kx l m
 | _,_=>false
end
theorem xt:∀(n:Nat) (l:List D),kx n l=l.all (okE n)
 | _,[]=>rfl
 | n,d::l=>by rw[kx,xt n l];rfl
mutual
theorem uJ:∀(n:Nat) (x y:D),okE n x=true->okE n y=true->PyData.eqv (uG x) (uG y)=eqD x y
 | n,.non,y,hx,hy=>by cases y<;>first | rfl | (cases n<;>simp_all [okE])
 | n,.bl a,y,hx,hy=>by cases y<;>first | rfl | (cases n<;>simp_all [okE])
 | n,.int a,y,hx,hy=>by cases y<;>first | rfl | (cases n<;>simp_all [okE])
 | n,.str a,y,hx,hy=>by
  cases y with
  | str b =>
   show(S a==S b)=(a==b);rw[Bool.eq_iff_iff];simp[jkC]
  | _=>first | rfl | (cases n<;>simp_all [okE])
 | 0,.tup l,y,hx,hy=>by simp[okE] at hx
 | n+1,.tup l,y,hx,hy=>by
  cases y with
  | tup m=>show PyData.eqvAll (kH l) (kH m)=Kx l m;exact zC n l m (by simpa [okE] using hx) (by simpa [okE] using hy)
  | _=>first | rfl | (simp_all [okE])
 | 0,.lst o l,y,hx,hy=>by simp[okE] at hx
 | n+1,.lst o l,y,hx,hy=>by
  cases y with
  | lst o' m=>show PyData.eqvAll (kH l) (kH m)=Kx l m;exact zC n l m (by simpa [okE] using hx) (by simpa [okE] using hy)
  | _=>first | rfl | (simp_all [okE])
 | n,.dK _ _ _,y,hx,hy=>by cases n<;>simp[okE] at hx
 | n,.dT _ _ _,y,hx,hy=>by cases n<;>simp[okE] at hx
 | n,.ins _ _ _ _,y,hx,hy=>by cases n<;>simp[okE] at hx
 | n,.dead,y,hx,hy=>by cases n<;>simp[okE] at hx
 | n,.tok _,y,hx,hy=>by cases n<;>simp[okE] at hx
 | n,.exc _ _,y,hx,hy=>by cases n<;>simp[okE] at hx
theorem zC:∀(n:Nat) (l m:List D),kx n l=true->kx n m=true->PyData.eqvAll (kH l) (kH m)=Kx l m
 | n,[],[],_,_=>rfl
 | n,[],_::_,_,_=>rfl
 | n,_::_,[],_,_=>rfl
 | n,x::l,y::m,hx,hy=>by
  rw[kx,L9] at hx hy;show(PyData.eqv (uG x) (uG y)&&PyData.eqvAll (kH l) (kH m))=(eqD x y&&Kx l m);rw[uJ n x y hx.1 hy.1,zC n l m hx.2 hy.2]
end
mutual
theorem xy:∀(n:Nat) (x:D),okE n x=true->(uG x).canLay0=true/\(uG x).depth<=n
 | n,.non,_=>⟨rfl,U4 _⟩
 | n,.bl _,_=>⟨rfl,U4 _⟩
 | n,.int _,_=>⟨rfl,U4 _⟩
 | n,.str s,h=>by
  refine⟨?_,U4 _⟩;have h:(s.all λc=>decide (c < 1114112))=true:=by cases n<;>simpa [okE] using h
  show PyData.strOk (S s)=true;unfold PyData.strOk S;rw[Array.all_eq_true'];intro c hc;rw[List.all_eq_true] at h;exact h c (by simpa using hc)
 | 0,.tup l,h=>by simp[okE] at h
 | n+1,.tup l,h=>by
  obtain⟨h1,h2⟩:=YR n l (by simpa [okE] using h);exact⟨h1,Nat.succ_le_succ h2⟩
 | 0,.lst o l,h=>by simp[okE] at h
 | n+1,.lst o l,h=>by
  obtain⟨h1,h2⟩:=YR n l (by simpa [okE] using h);exact⟨h1,Nat.succ_le_succ h2⟩
 | n,.dK _ _ _,hx=>by cases n<;>simp[okE] at hx
 | n,.dT _ _ _,hx=>by cases n<;>simp[okE] at hx
 | n,.ins _ _ _ _,hx=>by cases n<;>simp[okE] at hx
 | n,.dead,hx=>by cases n<;>simp[okE] at hx
 | n,.tok _,hx=>by cases n<;>simp[okE] at hx
 | n,.exc _ _,hx=>by cases n<;>simp[okE] at hx
theorem YR:∀(n:Nat) (l:List D),kx n l=true->PyData.canLayAll0 (kH l)=true/\PyData.depthAll (kH l)<=n
 | n,[],_=>⟨rfl,U4 _⟩
 | n,x::l,h=>by
  rw[kx,L9] at h;obtain⟨h1,h2⟩:=xy n x h.1;obtain⟨h3,h4⟩:=YR n l h.2;rw[kH];refine⟨?_,?_⟩
  ·show((uG x).canLay0&&PyData.canLayAll0 (kH l))=true;rw[h1,h3];rfl
  ·show max (uG x).depth (PyData.depthAll (kH l))<=n;exact Nat.max_le.mpr ⟨h2,h4⟩
end
section
variable {X:Cx}{cl:Nat->Addr}{Z Z':Zn}{H H':Hp}{pins:List (Addr×Obj)}{σ:L2.St}{s:Shared}
mutual
theorem Rep.reads(I:Inv X pins σ H s):∀(n:Nat) {x:D}{v:V}{u:Value}{O:List Addr},Rep ⟨X.K,cl⟩ Z H x v O->RelV v u->okE n x=true->∃ as,Reads s.heap u (uG x) as
 | n,.non,_,_,_,r,q,_=>by obtain⟨rfl,_⟩:=r.non_of;cases q;exact⟨_,.none⟩
 | n,.bl b,_,_,_,r,q,_=>by obtain⟨rfl,_⟩:=r.bl_of;cases q;exact⟨_,.bool b⟩
 | n,.int i,_,_,_,r,q,_=>by obtain⟨rfl,_⟩:=r.int_of;obtain⟨t,rfl⟩:=q;exact⟨_,.int i t⟩
 | n,.str w,_,_,_,r,q,_=>by obtain⟨rfl,_⟩:=r.str_of;obtain⟨t,rfl⟩:=q;exact⟨_,.str _ t⟩
 | 0,.tup l,_,_,_,r,q,h=>by simp[okE] at h
 | n+1,.tup l,_,_,_,r,q,h=>by
  obtain⟨a,vs,rfl,hx,rs⟩:=r.tup_of;cases q;obtain⟨its,rv,⟨o,h1,h2,k,h3⟩,_⟩:=I.tuple hx;obtain⟨as,hr⟩:=Reps.reads I n rs rv (by simpa [okE] using h);exact⟨_,reads_tuple_at h1 h2 h3 (by simpa using hr)⟩
 | 0,.lst o l,_,_,_,r,q,h=>by simp[okE] at h
 | n+1,.lst o l,_,_,_,r,q,h=>by
  obtain⟨a,vs,O',rfl,hx,rs⟩:=r.lst_of;cases q;obtain⟨its,rv,⟨o,k,h1,h2,_,h3⟩,_⟩:=I.list hx.sq;obtain⟨as,hr⟩:=Reps.reads I n rs rv (by simpa [okE] using h);exact⟨_,reads_list_at h1 h2 h3 (by simpa using hr)⟩
 | n,.dK _ _ _,_,_,_,_,_,hx=>by cases n<;>simp[okE] at hx
 | n,.dT _ _ _,_,_,_,_,_,hx=>by cases n<;>simp[okE] at hx
 | n,.ins _ _ _ _,_,_,_,_,_,hx=>by cases n<;>simp[okE] at hx
 | n,.dead,_,_,_,_,_,hx=>by cases n<;>simp[okE] at hx
 | n,.tok _,_,_,_,_,_,hx=>by cases n<;>simp[okE] at hx
 | n,.exc _ _,_,_,_,_,_,hx=>by cases n<;>simp[okE] at hx
theorem Reps.reads(I:Inv X pins σ H s):∀(n:Nat) {l:List D}{vs:List V}{us:List Value}{O:List Addr},Reps ⟨X.K,cl⟩ Z H l vs O->Vals vs us->kx n l=true->∃ as,ReadsAll s.heap us (kH l) as
 | n,[],_,_,_,r,q,_=>by rw[Reps] at r;obtain⟨rfl,_⟩:=r;cases q;exact⟨_,.nil⟩
 | n,x::l,_,_,_,r,q,h=>by
  rw[Reps] at r;obtain⟨v,vs,O1,O2,rfl,rfl,r1,r2⟩:=r;rw[kx,L9] at h;cases q with
  | cons q1 q2 =>
   obtain⟨as,h1⟩:=Rep.reads I n r1 q1 h.1;obtain⟨bs,h2⟩:=Reps.reads I n r2 q2 h.2;exact⟨_,.cons h1 h2⟩
end
def jdL(R:RC)(neg:Bool):R2:=λx y H Q=>∃ Z d e O P,Rep R Z H d x O/\Rep R Z H e y P/\okE 20 d=true/\okE 20 e=true/\Q (.bl (neg != eqD d e)) H
theorem jiY{x:D}(h:okE 20 x=true):SeqAt.shaped (uG x)=true:=by
 obtain⟨a,b⟩:=xy 20 x h;unfold SeqAt.shaped;rw[a,Bool.true_and];exact X4 (N6 b (by decide))
theorem jhl(f:X.A.units+64 < cLine):OpR X (compareOp .Eq) (jdL ⟨X.K,cl⟩ false):=by
 intro c s σ H x y v u Q I g i h;obtain⟨Z,d,e,O,P,j,k,a,b,q⟩:=h;obtain⟨n,l⟩:=j.reads I 20 g a;obtain⟨bs,m⟩:=k.reads I 20 i b;refine eq_dataH l m (jiY a) (jiY b) f ?_;rw[uJ 20 d e a b];exact⟨.bl _,H,I,rfl,by simpa using q⟩
theorem jgr(f:X.A.units+64 < cLine):OpR X (compareOp .NotEq) (jdL ⟨X.K,cl⟩ true):=by
 intro c s σ H x y v u Q I g i h;obtain⟨Z,d,e,O,P,j,k,a,b,q⟩:=h;obtain⟨n,l⟩:=j.reads I 20 g a;obtain⟨bs,m⟩:=k.reads I 20 i b;refine ne_dataH l m (jiY a) (jiY b) f ?_;rw[uJ 20 d e a b];exact⟨.bl _,H,I,rfl,by simpa using q⟩
def vk(x y:D):Option D:=bif qz x&&qz y&&VN x y then some (.bl (eqF x y)) else bif okE 20 x&&okE 20 y then some (.bl (eqD x y)) else none
def Kl(x y:D):Option D:=bif qz x&&qz y&&VN x y then some (.bl (!eqF x y)) else bif okE 20 x&&okE 20 y then some (.bl (!eqD x y)) else none
theorem jjH{R:RC}:BO R (λx y H Q=>rEq x y H Q \/ jdL R false x y H Q) vk:=by
 intro Z H x y d v u f g z b c e Q k;unfold vk at e;cases hl:qz x&&qz y&&VN x y with
 | true =>
  rw[hl] at e;cases e;obtain⟨h,i⟩:=uD b c hl;exact .inl ⟨h,by rw[i];exact k (Go.id z) .bl_mk⟩
 | false =>
  rw[hl,cond_false] at e;refine oc e λa e=>?_;cases e;rw[L9] at a;exact .inr ⟨Z,x,y,f,g,b,c,a.1,a.2,by simpa using k (Go.id z) .bl_mk⟩
theorem jjD{R:RC}:BO R (λx y H Q=>rNe x y H Q \/ jdL R true x y H Q) Kl:=by
 intro Z H x y d v u f g z b c e Q k;unfold Kl at e;cases hl:qz x&&qz y&&VN x y with
 | true =>
  rw[hl] at e;cases e;obtain⟨h,i⟩:=uD b c hl;exact .inl ⟨h,by rw[i];exact k (Go.id z) .bl_mk⟩
 | false =>
  rw[hl,cond_false] at e;refine oc e λa e=>?_;cases e;rw[L9] at a;exact .inr ⟨Z,x,y,f,g,b,c,a.1,a.2,by simpa using k (Go.id z) .bl_mk⟩
theorem c_eq{b:Expr}{k:Nat}(a:Room k X.A):CmpR cl X .Eq b (λx y H Q=>rEq x y H Q \/ jdL ⟨X.K,cl⟩ false x y H Q) vk:=⟨JN jjP (jhl a.units),jjH,Qb _⟩
theorem jk8{b:Expr}{k:Nat}(a:Room k X.A):CmpR cl X .NotEq b (λx y H Q=>rNe x y H Q \/ jdL ⟨X.K,cl⟩ true x y H Q) Kl:=⟨JN jjb (jgr a.units),jjD,Qb _⟩
def BM(R:RC)(T:String)(r:V->List V->Hp->VK->Prop)(g:D->List D->Option D):Prop:=∀{Z:Zn}{H:Hp}{x d:D}{xs:List D}{v:V}{vs:List V}{O1 O2:List Addr},Zd Z H->Rep R Z H x v O1->Reps R Z H xs vs O2->g x xs=some d ->
 ∀{Q:VK},(∀{w:V}{Z':Zn}{H':Hp}{P:List Addr},Go Z H [] Z' H' P->Rep R Z' H' d w P->Q w H')->r v vs H Q
noncomputable def isT:String->D->Bool
 | "str",.str _=>true
 | _,_=>false
@[simp] def pBM(T:String)(g:D->List D->Option D)(pa:PF)(pr:PAf)(ρ:Rh):Option D:=(pa ρ).bind λx=>bif isT T x then(pr ρ).bind λxs=>g x xs else none
theorem jgF{R:RC}{T:String}{x:D}{v:V}{O:List Addr}(r:Rep R Z H x v O)(h:isT T x=true):tyV R.K T v H:=by
 unfold isT at h;split at h
 ·obtain⟨rfl,_⟩:=r.str_of;rfl
 ·cases h
theorem jjV{R:RC}{T:String}{r:V->List V->Hp->VK->Prop}{g:D->List D->Option D}{to:TE}{ta:TA}{pa:PF}{pr:PAf}(f:BM R T r g)(h:PB R to pa)(i:PBs R ta pr):PP R (tBM R.K T r to ta) (pBM T g pa pr):=by
 intro σ ρ Z H O d z s e Q k;refine ob e λx j e=>oc e λl e=>ob e λo e2 e=>?_;refine h z s j λ{v p q t} a c=>⟨jgF c l,?_⟩;refine i a.wf.zd (a.slots z s) e2 λ{u w y A} b m=>?_;exact f b.wf.zd (b.rep a.wf.zd c) m e λg3 n=>k ((a.pair b).pair g3) n
end
end QD
namespace QD
open PySem L2
section
variable {R:RC}{Z Z':Zn}{H H':Hp}{pm:List Nat}
theorem Keep.sub(h:∀ i∈pm,i∈pm')(k:Keep pm' σ σ'):Keep pm σ σ':=λi hi=>k i (h i hi)
def ItB(R:RC)(J:It)(Z:Zn)(H:Hp)(xs:List D):Prop:=∀{Z1:Zn}{H1:Hp},(∀ a,Z a->Z1 a)->(∀ a,H a≠none->H1 a=H a)->Zd Z1 H1->∀ i:Nat,
 (xs.length<=i->J.stop i H1)/\∀ x,xs[i]?=some x->J.go i H1/\∀ u H2,J.yld i H1 u H2->∃ Z2,Go Z1 H1 [] Z2 H2 []/\Rep R Z2 H2 x u []
def jhB(R:RC)(wi:TI)(p:PAf):Prop:=∀{σ:St}{ρ:Rh}{Z:Zn}{H:Hp}{O:List Addr}{xs:List D},Zd Z H->Slots R Z H ρ σ O->p ρ=some xs ->
 ∀{Q:It->Hp->Prop},(∀{J:It}{Z':Zn}{H':Hp},Go Z H [] Z' H' []->ItB R J Z' H' xs->Q J H')->wi σ H Q
theorem PIt.b(h:PIt R wi p):jhB R wi p:=by
 intro σ ρ Z H O j z s e Q k;refine h z s e λg c=>k g ?_;intro l m d f zd i;exact c d (λa z=>f a (g.wf.zd a z)) zd i
def itB:D->Option (List D)
 | .lst _ l=>bif frzs l then some l else none
 | .tup l=>bif frzs l then some l else none
 | .str s=>some (s.map λc=>.str [c])
 | _=>none
@[simp] def Vs(p:PF)(ρ:Rh):Option (List D):=(p ρ).bind itB
theorem jc2(b:∀ a,H a≠none->H' a=H a)(h:SqX K H a vs):SqX K H' a vs:=by
 rcases h with h | h
 ·refine .inl (Rd.agree (b a ?_) h);rcases h with h | ⟨o,h⟩<;>rw[h]<;>exact λz=>(nomatch z)
 ·exact .inr h
theorem jb9(b:∀ a,H a≠none->H' a=H a)(h:SqT K H a vs):SqT K H' a vs:=by
 rcases h with h | h
 ·refine .inl (Rd.agree (b a ?_) h);rcases h with h | ⟨o,h⟩<;>rw[h]<;>exact λz=>(nomatch z)
 ·exact .inr h
theorem jiN(h:PB R te p):jhB R (jcL R.K te) (Vs p):=by
 intro σ ρ Z H O P z s e Q k;refine ob e λc G e=>?_;cases c with
 | lst o l =>
  refine oc e λI e=>?_;cases e;refine h z s G λ{v J L S} g A=>?_;obtain⟨a,f,U,rfl,B,C⟩:=A.lst_of;have j:=C.frozen I;refine .inl ⟨a,rfl,⟨f,B.sq⟩,k g ?_⟩;intro y F D m zd i;have d:=SqX.sq (jc2 m B);have n:Reps R y F P f []:=j.frame D (λb z=>m b (g.wf.zd b z)) λb M=>(nomatch M);refine⟨λhi=>⟨f,d,by rw[C.length];exact hi⟩,λx q=>?_⟩;obtain⟨u,E,N⟩:=n.item q;refine⟨⟨f,u,d,E⟩,λw T r=>?_⟩;obtain⟨rfl,r⟩:=r;have e2:=r f d;rw[E] at e2;cases e2;exact⟨y,Go.id zd,N⟩
 | tup l =>
  refine oc e λI e=>?_;cases e;refine h z s G λ{v J L S} g A=>?_;obtain⟨a,f,rfl,B,C⟩:=A.tup_of;have j:=C.frozen I;refine .inr (.inl ⟨a,rfl,⟨f,B⟩,k g ?_⟩);intro y F D m zd i;have d:=jb9 m B;have n:Reps R y F P f []:=j.frame D (λb z=>m b (g.wf.zd b z)) λb M=>(nomatch M);refine⟨λhi=>⟨f,d,by rw[C.length];exact hi⟩,λx q=>?_⟩;obtain⟨u,E,N⟩:=n.item q;refine⟨⟨f,u,d,E⟩,λw T r=>?_⟩;obtain⟨rfl,r⟩:=r;have e2:=r f d;rw[E] at e2;cases e2;exact⟨y,Go.id zd,N⟩
 | str t =>
  cases e;refine h z s G λ{v J L S} g A=>?_;obtain⟨rfl,_⟩:=A.str_of;refine .inr (.inr ⟨t,rfl,k g ?_⟩);intro y F D m zd i;exact jdt (Z:=J) (H:=L) D (λb z=>m b (g.wf.zd b z)) zd i
 | _=>cases e
inductive CpI (R:RC) (g:D->Rh->Option Rh) (q:PTf) (p:PF) (Z0:Zn) (H0:Hp) (a:Addr) (xs all:List D) (i m:Nat) (σ2:L2.St) (H2:Hp):Prop
 | mk:m=xs.length - i->i<=xs.length->∀(ρ2:Rh) (Z2:Zn) (O2:List Addr) (ys:List D) (vs:List V) (Py:List Addr) (rest:List D),Go Z0 H0 [] Z2 H2 (a::Py)->H2 a=some (.lst vs)->Reps R Z2 H2 ys vs Py->(∀ b∈O2,b≠a)->Slots R Z2 H2 ρ2 σ2 O2->yO g q p (xs.drop i) ρ2=some rest->all=ys++rest->ys.length<=i->CpI R g q p Z0 H0 a xs all i m σ2 H2
theorem Jl{tg:TG}{tc:TT}{te:TE}{g:D->Rh->Option Rh}{q:PTf}{p:PF}{ix:List (Option Nat)}(hg:PGt R [] tg g)(hq:PTt R tc q)(he:PP R te p)
  {J:It}{l:Zn}{c:Hp}{ρ:Rh}{σ:L2.St}{O:List Addr}{xs all:List D}(G:Zd l c) (s:Slots R l c ρ σ O) (it:ItB R J l c xs) (hl:lim xs.length=true) (e2:yO g q p xs (jL ix ρ)=some all)
  {Q:VK}(k:∀{v:V}{Z':Zn}{H':Hp}{P:List Addr},Go l c [] Z' H' P->Rep R Z' H' (.lst true all) v P->Q v H'):∀ a,c a=none->xE tc te tg J a (yJ ix σ) (upd c a (.lst [])) λH2=>Q (.ref a) H2:=by
 intro a ha;obtain⟨Oi,si⟩:=qE s ix;have gp:Go l c [] l (upd c a (.lst [])) [a]:=Go.newO (wf0 G) ha;refine⟨CpI R g q p l c a xs all,
  ⟨xs.length,rfl,U4 _,_,l,Oi,[],[],[],all,gp,ju,Reps.empty,λb d e=>si.dom b d (e▸ha),gp.slots G si,e2,rfl,M8 _⟩,?_⟩
 rintro i m σ2 H2 ⟨rfl,W,ρ2,Z2,O2,X,o,h,rest,j,H,M,Y,s2,e3,N,w⟩;have I:=it (Z1:=Z2) (H1:=H2) j.zz (λb z=>j.same b z) j.wf.zd i;by_cases x:i < xs.length
 ·right
  have hx:xs[i]?=some xs[i]:=by simp[x]
  obtain⟨go,yl⟩:=I.2 _ hx;refine⟨go,λu H3 hy=>?_⟩;obtain⟨Z3,g3,r3⟩:=yl u H3 hy;rw[vx hx] at e3;refine ob e3 λρ3 e5 e3=>?_;refine hg r3 (g3.slots j.wf.zd s2) e5 λ{σ4 O4} sub nd S _=>?_;refine ob e3 λb e6 e3=>?_;refine hq g3.wf.zd S e6 λ{Z5 H5} K=>?_;have r:=g3.pair K;cases b with
  | true =>
   refine jgh ?_;rw[cond_true] at e3;refine ob e3 λy e7 e3=>ob e3 λZ e8 e3=>?_;cases e3;refine he K.wf.zd (K.slots g3.wf.zd S) e7 λ{T E t F} g6 r6=>?_;have C:Go Z2 H2 [] E t F:=by simpa using r.pair g6
   have ea6:t a=some (.lst o):=by rw[C.same a (by rw[H];exact λz=>(nomatch z))];exact H
   have hvl:o.length < sizeLine:=by
    rw[M.length];exact Kp (n:=X.length) (X4 (N6 w (N6 W (X6 hl))))
   have U:Go l c [] E t (a::h++F):=by
    have f:=C.frame (A:=a::h) (B:=[]) (by simpa using j.wf);exact j.trans (by simpa using f)
   have w6:=U.wf;have gB:Go E t (a::h++F) E (upd t a (.lst (o++[T]))) (a::h++F):=Go.put w6 L6;have nd6:=List.nodup_cons.mp w6.nd;have ne:∀ b,b∈h++F->upd t a (.lst (o++[T])) b=t b:=λb d=>jf λz=>nd6.1 (z▸d);have L:∀ b,E b->upd t a (.lst (o++[T])) b=t b:=λb d=>jf λz=>w6.nz a L6 (z▸d);refine⟨o,ea6,hvl,xs.length - (i+1),by lia,rfl,x,ρ3,E,O4,X++[y],o++[T],h++F,Z,U.trans gB,ju,?_,λb d=>Y b (sub b d),?_,e8,by rw[N];simp,by rw[N3];exact Nat.add_le_add_right w 1⟩
   ·refine((C.reps j.wf.zd M).append (.one r6)).frame (λb z=>z) L ne
   ·exact((K.pair g6).slots g3.wf.zd S).frame (λb z=>z) L λb d=>jf (Y b (sub b d))
  | false =>
   refine jgi ?_;rw[cond_false] at e3;have U:Go l c [] Z5 H5 (a::h):=by
    have f:=r.frame (A:=a::h) (B:=[]) (by simpa using j.wf);exact j.trans (by simpa using f)
   exact⟨xs.length - (i+1),by lia,rfl,x,ρ3,Z5,O4,X,o,h,rest,U,by rw[r.same a (by rw[H];exact λz=>(nomatch z))];exact H,r.reps j.wf.zd M,λb d=>Y b (sub b d),K.slots g3.wf.zd S,e3,N,Nat.le_succ_of_le w⟩
 ·left
  have hi2:i=xs.length:=by lia
  refine⟨I.1 (by lia),?_⟩;rw[hi2,List.drop_length] at e3;cases e3;rw[M9] at N;subst N;refine k (P:=a::h) j ?_;rw[Rep];exact⟨a,o,h,rfl,M,H,rfl⟩
theorem z5{wi:TI}{tg:TG}{tc:TT}{te:TE}{pi:PAf}{g:D->Rh->Option Rh}{q:PTf}{p:PF}{ix:List (Option Nat)}(hi:jhB R wi pi)(b:PGt R [] tg g)(c:PTt R tc q)(f:PP R te p) :
  PP R (Qv wi tg tc te ix) (vm pi g q p ix):=by
 intro σ ρ Z H O d z s e Q k;refine ob e λn h e=>oc e λi e=>ob e λall e2 e=>?_;cases e;refine hi z s h λ{J o r} a j=>?_;exact Jl b c f a.wf.zd (a.slots z s) j i e2 λl m=>k (by simpa using a.pair l) m
end
section
variable {cl:Nat->Addr}{pm:List Nat}{X:Cx}{c e elt tg iter:Expr}{te:TE}{pe:PF}{ifs:List Expr}{wi:TI}{pi:PAf}{t:TG}{g:D->Rh->Option Rh}{pos:Pos}{ts:TS}{f:FS}
structure QIb(cl:Nat->Addr)(X:Cx)(tg e:Expr)(wi:TI)(p:PAf):Prop where
 sem:PI X tg e wi
 den:jhB ⟨X.K,cl⟩ wi p
theorem QI.b'(h:QI cl X tg e wi pi):QIb cl X tg e wi pi:=⟨h.sem,PIt.b h.den⟩
theorem jew(h:QB cl X e te pe):QIb cl X tg e (jcL X.K te) (Vs pe):=⟨zQ h.sem,jiN h.den⟩
theorem jfd{scope:Scope}{N':List Str}{ix:List (Option Nat)}{a:TT}{c:PTf}(B:BlockOk X scope N' ix)(f:X.calm=true)(hi:QIb cl X tg iter wi pi)
  (d:∀ C s H fp,QG cl [] (yp X scope N' C s H fp) tg t g) (b:∀ C s H fp,QIf cl (yp X scope N' C s H fp) ifs a c) (e:∀ C s H fp,QP cl (yp X scope N' C s H fp) elt te pe)
  (h:∀ x,foldedSetIterable iter X.env x=pure x:=by intro _;rfl):QP cl X (.ListComp elt [⟨tg,iter,ifs,0⟩] scope pos) (Qv wi t a te ix) (vm pi g c pe ix) :=
 ⟨jaH B f hi.sem (λC s H fp=>(d C s H fp).sem) (λC s H fp=>(b C s H fp).sem) (λC s H fp=>(e C s H fp).sem) h,
  z5 hi.den (d 0 X.s₀ X.H₀ []).den (b 0 X.s₀ X.H₀ []).den (e 0 X.s₀ X.H₀ []).den⟩
theorem zo{i:Nat}{x:Str}{pos' spos:Pos}{scope:Scope}{N':List Str}{ix:List (Option Nat)}{a:TT}{e:PTf}(B:BlockOk X scope N' ix)(j:X.calm=true)(hi:QIb cl X tg iter wi pi)
  (f:∀ C s H fp,QG cl [] (yp X scope N' C s H fp) tg t g) (b:∀ C s H fp,QIf cl (yp X scope N' C s H fp) ifs a e) (h:∀ C s H fp,QP cl (yp X scope N' C s H fp) elt te pe)
  (k:X.N.Nodup) (c:X.N[i]?=some x:=by rfl) (l:Loc X.env.scope x:=by first | exact Or.inl rfl | exact Or.inr rfl)
  (hsw:swapsWith (.ListComp elt [⟨tg,iter,ifs,0⟩] scope pos) (some (.Name x pos')) spos.line X.env=pure true:=by with_unfolding_all rfl)
  (m:∀ x,foldedSetIterable iter X.env x=pure x:=by intro _;rfl)
  (n:X.fn x=true \/ X.env.scope.names.lookup x=some .local:=by first | exact .inl rfl | exact .inr rfl) :
  QS cl pm X (.Assign [.Name x pos'] (.ListComp elt [⟨tg,iter,ifs,0⟩] scope pos) spos) (jfN (Qv wi t a te ix) (V7 i)) (jC (dP (vm pi g e pe ix)) (jd pm i)) :=
 ⟨wF B j hi.sem (λC s H fp=>(f C s H fp).sem) (λC s H fp=>(b C s H fp).sem) (λC s H fp=>(h C s H fp).sem) k c l hsw m n,
  uC (PP.d (z5 hi.den (f 0 X.s₀ X.H₀ []).den (b 0 X.s₀ X.H₀ []).den (h 0 X.s₀ X.H₀ []).den)) Q6⟩
end
@[simp] theorem pV0:pV 0 (o::ρ)=o:=by unfold pV;cases o<;>rfl
@[simp] theorem pVs:pV (i+1) (o::ρ)=pV i ρ:=rfl
@[simp] theorem gN_e:gN [] ρ=some ρ:=rfl
@[simp] theorem gC_e:gC G Gs (d::r) ρ=(G d ρ).bind λρ1=>Gs r ρ1:=rfl
@[simp] theorem gT_e:gT n Gs (.tup l) ρ=bif decide (l.length=n) then Gs l ρ else none:=rfl
@[simp] theorem itB_lst(o:Bool)(l:List D):itB (.lst o l)=bif frzs l then some l else none:=rfl
@[simp] theorem itB_tup(l:List D):itB (.tup l)=bif frzs l then some l else none:=rfl
@[simp] theorem itB_str(l:List Nat):itB (.str l)=some (l.map λc=>D.str [c]):=rfl
@[simp] theorem enumOf_e(o:Bool)(l:List D):jdD [.lst o l]=some (yf 0 (fzs l)):=rfl
theorem Ko(h:-(2 ^ 62) < j)(k:j < 2 ^ 62):Vp j=true:=Nat.ble_eq_true_of_le (by lia)
theorem yV(h:-(2 ^ 62) < j)(k:j < 2 ^ 62):Yw [.int j]=some (kE 0 j.toNat):=by
 show(bif Vp j then some (kE 0 j.toNat) else none)=_;rw[Ko h k];rfl
theorem jZ(n:Nat)(f:FS)(ds:List D):fnP n f ds=(f (ds.map some++List.replicate (n - ds.length) none)).bind Out.val:=rfl
@[simp] theorem sLoop_nil:jY G f [] ρ=some (.nx ρ):=rfl
theorem qd:jY G f (x::xs) ρ=(G x ρ).bind λr=>(f r).bind λo=>o.loop (jY G f xs):=rfl
@[simp] theorem cLoop_nil:yO G q p [] ρ=some []:=rfl
theorem JE:yO G q p (x::xs) ρ=(G x ρ).bind λr=>(q r).bind λb=>bif b then((p r).bind λy=>(yO G q p xs r).bind λys=>some (y::ys)) else yO G q p xs r:=rfl
theorem jX(P:Nat->Rh->Prop)(step:∀ i x ρ,xs[i]?=some x->P i ρ->∃ ρ1 ρ2,G x ρ=some ρ1/\(f ρ1=some (.nx ρ2) \/ f ρ1=some (.ct ρ2))/\P (i+1) ρ2)  (d:P 0 ρ) :
  ∃ ρ',jY G f xs ρ=some (.nx ρ')/\P xs.length ρ':=by
 have b:∀(n i:Nat) (ρ:Rh),xs.length - i=n->i<=xs.length->P i ρ->∃ ρ',jY G f (xs.drop i) ρ=some (.nx ρ')/\P xs.length ρ':=by
  intro n
  induction n with
  | zero =>
   intro i ρ e hi p;have:i=xs.length:=by lia
   subst this;exact⟨ρ,by rw[List.drop_length];rfl,p⟩
  | succ n g =>
   intro i ρ e hi p;have a:i < xs.length:=by lia
   have c:xs[i]?=some xs[i]:=by simp[a]
   obtain⟨ρ1,ρ2,h,e2,p2⟩:=step i _ ρ c p;obtain⟨ρ',e3,p3⟩:=g (i+1) ρ2 (by lia) a p2;refine⟨ρ',?_,p3⟩;rw[vx c,qd,h];rcases e2 with e2 | e2<;>simp[e2,e3]
 exact b _ 0 ρ rfl (U4 _) d
theorem jW{G:D->Rh->Option Rh}{xs:List D}{l:List α}{en:α->D}{out:α->D}(a:xs=l.map en)(P:Rh->Prop)(step:∀ x∈l,∀ ρ,P ρ->∃ ρ1,G (en x) ρ=some ρ1/\p ρ1=some (out x)/\P ρ1){ρ:Rh}(b:P ρ):yO G qT p xs ρ=some (l.map out):=by
 subst a
 induction l generalizing ρ with
 | nil=>rfl
 | cons x l c =>
  obtain⟨ρ1,d,e2,p1⟩:=step x L6 ρ b;rw[L4,JE,d];simp[e2,c (λy e=>step y (L5 _ e)) p1]
@[simp] theorem cond_dec(p:Prop) [Decidable p] (x y:α):(bif decide p then x else y)=if p then x else y:=by by_cases h:p<;>simp[h]
@[simp] theorem cond_beq_int(i j:Int)(x y:α):(bif i==j then x else y)=if i=j then x else y:=by
 by_cases h:i=j
 ·subst h;simp
 ·rw[if_neg h,U1.mpr h];rfl
@[simp] theorem ite_bind(p:Prop) [Decidable p] (x y:Option α) (f:α->Option β):(if p then x else y).bind f=if p then x.bind f else y.bind f:=by by_cases h:p<;>simp[h]
@[simp] theorem add_ii(i j:Int):jr (.int i) (.int j)=some (.int (i+j)):=rfl
@[simp] theorem sub_ii(i j:Int):vS (.int i) (.int j)=some (.int (i - j)):=rfl
theorem yY(h:i.natAbs < 2 ^ 1000)(k:j.natAbs < 2 ^ 1000):j9 (.int i) (.int j)=some (.int (i*j)):=by
 show(bif jg1 i&&jg1 j then some (D.int (i*j)) else none)=_;rw[ja4 h,ja4 k];rfl
theorem jP(h:0 < j)(k:j < 2 ^ 300):jA (.int i) (.int j)=some (.int (i / j)):=by
 show(bif decide (0 < j)&&decide (j < 2 ^ 300) then some (D.int (i / j)) else none)=_;rw[X4 h,X4 k];rfl
theorem jI(h:0 < j):jn (.int i) (.int j)=some (.int (i % j)):=by
 show(bif decide (0 < j) then some (D.int (i % j)) else none)=_;rw[X4 h];rfl
@[simp] theorem opB_ii(g:Int->Int->Bool)(i j:Int):opB g (.int i) (.int j)=some (.bl (g i j)):=rfl
@[simp] theorem eq_ii(i j:Int):vk (.int i) (.int j)=some (.bl (i==j)):=rfl
@[simp] theorem ne_ii(i j:Int):Kl (.int i) (.int j)=some (.bl (!(i==j))):=rfl
@[simp] theorem kC(g:Int->Int->Int)(i j:Int):f2I g [.int i,.int j]=some (.int (g i j)):=rfl
@[simp] theorem frz_int(i:Int):frz (.int i)=true:=rfl
@[simp] theorem frz_bl(i:Bool):frz (.bl i)=true:=rfl
@[simp] theorem frz_str(i:List Nat):frz (.str i)=true:=rfl
@[simp] theorem frz_non:frz .non=true:=rfl
@[simp] theorem fz_int(i:Int):fz (.int i)=.int i:=rfl
@[simp] theorem fz_bl(i:Bool):fz (.bl i)=.bl i:=rfl
@[simp] theorem fz_str(i:List Nat):fz (.str i)=.str i:=rfl
@[simp] theorem fz_non:fz .non=.non:=rfl
@[simp] theorem fz_lst(o:Bool)(l:List D):fz (.lst o l)=.lst false (fzs l):=rfl
@[simp] theorem fz_tup(l:List D):fz (.tup l)=.tup (fzs l):=rfl
@[simp] theorem frz_lst(o:Bool)(l:List D):frz (.lst o l)=(!o&&frzs l):=rfl
@[simp] theorem frz_tup(l:List D):frz (.tup l)=frzs l:=rfl
@[simp] theorem fzs_nil:fzs []=[]:=rfl
@[simp] theorem jcf(d:D)(l:List D):fzs (d::l)=fz d::fzs l:=rfl
@[simp] theorem frzs_nil:frzs []=true:=rfl
@[simp] theorem K7(d:D)(l:List D):frzs (d::l)=(frz d&&frzs l):=rfl
@[simp] theorem clean_int(i:Int):yB (.int i)=true:=rfl
@[simp] theorem clean_bl(i:Bool):yB (.bl i)=true:=rfl
@[simp] theorem clean_str(i:List Nat):yB (.str i)=true:=rfl
@[simp] theorem clean_non:yB .non=true:=rfl
@[simp] theorem clean_lst(o:Bool)(l:List D):yB (.lst o l)=(o&&jN l):=rfl
@[simp] theorem clean_tup(l:List D):yB (.tup l)=jN l:=rfl
@[simp] theorem cleans_nil:jN []=true:=rfl
@[simp] theorem cleans_cons(d:D)(l:List D):jN (d::l)=(yB d&&jN l):=rfl
@[simp] theorem qj(l:List Int):fzs (l.map D.int)=l.map D.int:=by
 rw[qP,U0];rfl
@[simp] theorem vq(l:List Int):frzs (l.map D.int)=true:=by
 rw[JX,List.all_map,List.all_eq_true];intro x _;rfl
theorem vo:∀ l:List D,jN l=l.all yB
 | []=>rfl
 | d::l=>by rw[jN,vo l];rfl
@[simp] theorem zc(l:List Int):jN (l.map D.int)=true:=by
 rw[vo,List.all_map,List.all_eq_true];intro x _;rfl
@[simp] theorem intsD_ints(l:List Int):wE (l.map D.int)=some l:=by
 induction l with
 | nil=>rfl
 | cons x l a=>show(wE (l.map D.int)).bind _=_;rw[a];rfl
@[simp] theorem kj(o:Bool)(l:List D):Kn [.lst o l]=(wE l).bind λns=>some (.int ns.sum):=rfl
@[simp] theorem yu(o:Bool)(l:List D):qy [.lst o l]=some (.int l.length):=rfl
@[simp] theorem fLen_tup(l:List D):qy [.tup l]=some (.int l.length):=rfl
@[simp] theorem fList_lst(o:Bool)(l:List D):Qa [.lst o l]=bif frzs l then some (.lst true l) else none:=rfl
@[simp] theorem itemsOf_lst(o:Bool)(l:List D):VW (.lst o l)=some (fzs l):=rfl
@[simp] theorem itemsOf_tup(l:List D):VW (.tup l)=some (fzs l):=rfl
@[simp] theorem tyD_int(i:Int):tyD (.int i)=some "int":=rfl
@[simp] theorem tyD_bl(i:Bool):tyD (.bl i)=some "bool":=rfl
@[simp] theorem tyD_str(i:List Nat):tyD (.str i)=some "str":=rfl
@[simp] theorem tyD_non:tyD .non=some "NoneType":=rfl
@[simp] theorem tyD_lst(o:Bool)(l:List D):tyD (.lst o l)=some "list":=rfl
@[simp] theorem tyD_tup(l:List D):tyD (.tup l)=some "tuple":=rfl
theorem jgZ{c:Nat->Addr}{m:List D->Option D}{ns:List Int}(h:m [.lst false (ns.map D.int)]=some (.bl true))(d:SqX K H a (ns.map V.int)):spP ⟨K,c⟩ m 1 [.ref a] H (λv _=>v=.bl true) E:=by
 refine⟨λb=>b=a/\H a≠none,[.lst false (ns.map D.int)],.bl true,λb e=>by rw[e.1];exact e.2,rfl,.one ?_,h,λg r=>r.bl_of.1⟩;rw[Rep];have f:∀(l:List Int),Reps ⟨K,c⟩ (λb=>b=a/\H a≠none) H (l.map D.int) (l.map V.int) []:=by
  intro l
  induction l with
  | nil=>exact .empty
  | cons x l i=>exact .cons (O:=[]) (P:=[]) .int_mk i
 refine⟨a,ns.map V.int,[],rfl,f ns,?_⟩;show FL _ _ _ _ _/\_;refine⟨?_,rfl,rfl⟩;rcases d with d | d
 ·refine .inl ⟨⟨rfl,?_⟩,d⟩;rcases d with d | ⟨o,d⟩<;>rw[d]<;>exact λz=>(nomatch z)
 ·exact .inr d
end QD
namespace L2
open PySem PySem.Spec PyProof.Rows
theorem YB:∀{ws:List Str}{us:List Value},Vals (ws.map V.str) us->∃ l:List (Str×Tok),us=strValues l/\l.map (·.1)=ws
 | [],us,h=>by
  cases h;exact⟨[],rfl,rfl⟩
 | w::ws,us,h=>by
  cases h with
  | cons a b =>
   obtain⟨t,rfl⟩:=a;obtain⟨l,rfl,e⟩:=YB b;exact⟨(w,t)::l,rfl,by rw[L4,e]⟩
theorem jfw{X:Cx}:MtR X "str.join" (λx vs H Q=>∃(a:Str) (p:Addr) (ws:List Str),x=.str a/\vs=[.ref p]/\SqL X.K H p (ws.map V.str)/\JoinOk a ws=true/\Q (.str (Txt.join a ws)) H):=by
 intro c s σ H x vs v j Q I d b h;obtain⟨a,p,ws,rfl,rfl,f,hok,q⟩:=h;obtain⟨t,rfl⟩:=d;obtain⟨u,rfl,g⟩:=b.one;cases g;obtain⟨i,b,pl,m⟩:=I.list f;obtain⟨l,rfl,e⟩:=YB b;exact SC.join pl.isList e hok λn k=>⟨.str _,H,I.tok _,⟨_,rfl⟩,q⟩
end L2
namespace QD
open PySem L2 PySem.Spec PyProof.Rows
noncomputable def Kj(sep:List Nat):List (List Nat)->List Nat
 | []=>[]
 | [x]=>x
 | x::y::r=>x++sep++Kj sep (y::r)
theorem jaO(a:List Nat):∀ ws:List (List Nat),Str.join (S a) (ws.map S)=S (Kj a ws)
 | []=>rfl
 | [x]=>rfl
 | x::y::r=>by
  show S x++S a++Str.join (S a) ((y::r).map S)=_;rw[jaO a (y::r),jeP,jeP];rfl
noncomputable def Y9:List D->Option (List (List Nat))
 | []=>some []
 | .str w::l=>match Y9 l with
  | some ws=>some (w::ws)
  | none=>none
 | _::_=>none
@[simp] theorem strsD_strs(l:List (List Nat)):Y9 (l.map D.str)=some l:=by
 induction l with
 | nil=>rfl
 | cons x l a=>simp[Y9,a]
section
variable {R:RC}{Z:Zn}{H:Hp}
theorem xL:∀{l:List D}{ws:List (List Nat)}{vs:List V}{O:List Addr},Y9 l=some ws->Reps R Z H l vs O->vs=(ws.map S).map V.str
 | [],ws,vs,O,e,r=>by
  cases e;have:=r.length;exact List.length_eq_zero_iff.mp this
 | x::l,ws,vs,O,e,r=>by
  cases x with
  | str w =>
   simp only[Y9] at e;cases e1:Y9 l with
   | none=>rw[e1] at e;cases e
   | some a =>
    rw[e1] at e;cases e;obtain⟨v,b,P,f,rfl,-,c,d⟩:=r;obtain⟨rfl,_⟩:=c.str_of;rw[xL e1 d];rfl
  | _=>cases e
noncomputable def qM(sep:List Nat)(ws:List (List Nat)):Bool:=decide ((ws.map List.length).sum+ws.length*sep.length<=1000000)
theorem uK{a:List Nat}{b:List (List Nat)}(h:qM a b=true):JoinOk (S a) (b.map S)=true:=by
 unfold qM at h;have h:=X6 h;unfold JoinOk;rw[StrLaws.joinTotal];have e:((b.map S).map (·.length))=b.map List.length:=by
  rw[U0];exact List.map_congr_left λw _=>Jz w
 rw[e,L0,Jz];unfold Builtin.Str.tooLong;have:sizeLine=16777216:=by decide
 simp
 lia
def wq:D->List D->Option D
 | .str sep,[.lst _ l]=>match Y9 l with
  | some ws=>bif qM sep ws then some (.str (Kj sep ws)) else none
  | none=>none
 | _,_=>none
theorem jeS:BM R "str" (λx vs H Q=>∃(a:Str) (p:Addr) (ws:List Str),x=.str a/\vs=[.ref p]/\SqL R.K H p (ws.map V.str)/\JoinOk a ws=true/\Q (.str (Txt.join a ws)) H) wq:=by
 intro Z H x d h v vs i j z r c e Q k;unfold wq at e;split at e
 ·rename_i b o l;cases e1:Y9 l with
  | none=>rw[e1] at e;cases e
  | some ws =>
   rw[e1] at e;dsimp only at e;cases hm:qM b ws with
   | false=>rw[hm] at e;cases e
   | true =>
    rw[hm] at e;cases e;obtain⟨rfl,_⟩:=r.str_of;obtain⟨v,rfl,f⟩:=c.one_of;obtain⟨p,m,n,rfl,g,c⟩:=f.lst_of;have:=xL e1 c;subst this;refine⟨S b,p,ws.map S,rfl,rfl,g.sq,uK hm,?_⟩;have e2:Txt.join (S b) (ws.map S)=S (Kj b ws):=(StrLaws.glued_eq_join _ _).trans (jaO b ws);rw[e2];exact k (Go.id z) .str_mk
 ·cases e
end
section
variable {cl:Nat->Addr}{X:Cx}{o e:Expr}{es:List Expr}{to:TE}{po:PF}{tr:TA}{pr:PAf}{name:Str}{apos cpos:Pos}{T id:String}{r:V->List V->Hp->VK->Prop}{g:D->List D->Option D}
theorem jlq(pa:PlainAttrs T)(slot:Slot T name id)(f:typeOf (.builtin id)=pure (.type "method_descriptor"))(j:MtR X id r)(k:BM ⟨X.K,cl⟩ T r g)(h:QB cl X o to po)(i:QBs cl X (e::es) tr pr)
  (b:attributeBase o name X.env (eval o X.env)=eval o X.env:=by rfl)
  (d:((backTo cpos (starEach (e::es) X.env)).all (λx=>!x.1)&&(backToKw cpos (keywordEach [] X.env)).all (λx=>x.1.isSome)
   && decide ((e::es).length+([]:List Keyword).length+(if([]:List Keyword).isEmpty then 0 else 1) < 30))=true:=by rfl)
  (c:(apos.endLine==cpos.line)=true:=by rfl) (l:starEach (e::es) X.env=(false,eval e X.env)::starEach es X.env:=by rfl) (a:(backTo cpos (starEach es X.env)).any (·.1)=false:=by rfl) :
  QP cl X (.Call (.Attribute o name apos) (e::es) [] cpos) (tBM X.K T r to tr) (pBM T g po pr) :=
 ⟨jcy pa slot f j h.sem i.sem b d c l a,jjV k h.den i.den⟩
end
@[simp] theorem isT_str(w:List Nat):isT "str" (.str w)=true:=rfl
@[simp] theorem fJoin_e(a:List Nat)(o:Bool)(l:List D):wq (.str a) [.lst o l]=(Y9 l).bind λws=>bif qM a ws then some (.str (Kj a ws)) else none:=by
 unfold wq;cases h:Y9 l<;>simp[h]
end QD
namespace QK
open PySem L2 QD PySem.Spec PyProof.Rows
section
variable {cl:Nat->Addr}{pm:List Nat}{X:Cx}{a b c e o:Expr}{es:List Expr}{ta tb tc te to:TE}{pa pb pc pe po:PF}{tr:TA}{pr:PAf}{pos:Pos}{K:PySem.W.Frag}
variable {tg iter elt:Expr}{ifs:List Expr}{wi:TI}{pi:PAf}{t:TG}{g:D->Rh->Option Rh}
theorem add(c:X.K=K)(d:QB cl X a ta pa)(e:QB cl X b tb pb):QP cl X (.BinOp a .Add b pos) (tOp (jbP K) ta tb) (p2 jr pa pb):=by subst c;exact jiL d e
theorem ix(c:X.K=K)(d:QB cl X a ta pa)(e:QB cl X b tb pb)(f:VO b:=by exact λ_ _=>rfl):QB cl X (.Subscript a b pos) (tOp (rIx K) ta tb) (p2 jc pa pb):=by subst c;exact jkZ d e f
theorem c_notin(a:X.K=K)(c:behindInMarks .NotIn b=false):CmpR cl X .NotIn b (jgj K true) (zE true):=by subst a;exact QD.c_notin c
theorem c_eq{k:Nat}(a:X.K=K)(c:Room k X.A):CmpR cl X .Eq b (λx y H Q=>rEq x y H Q \/ jdL ⟨K,cl⟩ false x y H Q) vk:=by subst a;exact QD.c_eq c
theorem g_tup{ts:TGs}{b:List D->Rh->Option Rh}{k n:Nat}(c:X.K=K)(d:X.calm=true)(h:QGs cl pm X es ts b)(e:(assignEach es X.env).length=n:=by rfl)(a:(assignEach es X.env).findIdx? (·.1)=none:=by rfl):QG cl pm X (.Tuple es k pos) (ji3 K n ts) (gT n b):=by subst c;exact jdl d h e a
end
end QK
namespace QD
open PySem L2 PySem.Spec PyProof.Rows
@[simp] def uQ(i:Nat)(p:PAf)(ρ:Rh):Option (D×Rh):=(pV i ρ).bind λd=>(p ρ).bind λds=>bif lim (ds.length+1) then some (.tup (d::ds),ρ.set i none) else none
theorem jcm(y:PPs R ta p):DE R (zM (yc (kD i) ta)) (uQ i p):=by
 intro σ ρ J Z H O d w h e Q k;refine ob e λc l e=>ob e λK C e=>oc e λD e=>?_;cases e;have l:=Jw l;obtain⟨A,P,B,rfl,E,L,F⟩:=h.put (L8.mp l).1;obtain⟨v,G,r⟩:=E c l;refine⟨v,G,y w.zd h C λ{M t n I} o u=>⟨by rw[M0,u.length];exact q5 D,λq s=>?_⟩⟩;have x:=o.widen w;have f:=x.wf.nd;have m:Go Z H (A++P++B) t n ((P++I)++(A++B)):=x.drop (λa q=>by simp at q ⊢;rcases q with q | q | q | q<;>simp[q]) (by
  simp only[U8,N1] at f ⊢;refine⟨⟨f.2.1.1.2.1,f.1,λa j b g e=>f.2.2 b g a (.inl (.inr j)) e.symm⟩,⟨f.2.1.1.1,f.2.1.2.1,λa j b g=>f.2.1.2.2 a (.inl j) b g⟩,λa j b g e=>?_⟩;rcases j with j | j
  ·rcases g with g | g
   ·exact f.2.1.1.2.2 b g a j e.symm
   ·exact f.2.1.2.2 a (.inr j) b g e
  ·rcases g with g | g
   ·exact f.2.2 a j b (.inl (.inl g)) e
   ·exact f.2.2 a j b (.inr g) e)
 have ne:∀ a,n a≠none->a≠q:=λa h e=>h (e▸s);have s1:Slots R t n (ρ.set i none) σ (A++B):=o.slots w.zd F;refine k (m.trans (Go.newF m.wf s)) (Rep.tupNew m.wf.left s (Reps.cons (o.rep w.zd r) u)) (s1.frame (λa z=>.inl z) (λa z=>jf (ne a (m.wf.zd a z))) λa j=>jf (ne a (s1.dom a j)))
theorem jeR{x1}(i:Nat)  (a:QB cl X (.Name x xpos) (kD i) (pV i)) (h:QPs cl X es tr pr) (b:starEach (.Name x xpos::es) X.env=(false,eval (.Name x xpos) X.env)::starEach es X.env:=by rfl) :
  QE cl X (.Tuple (.Name x xpos::es) x1 pos) (zM (yc (kD i) tr)) (uQ i pr):=⟨Jd (jG a.sem h.sem b),jcm h.den⟩
structure QGo(cl:Nat->Addr)(pm:List Nat)(X:Cx)(tg:Expr)(t:TG)(g:D->Rh->Option Rh):Prop where
 sem:PG X tg t
 den:DG ⟨X.K,cl⟩ pm t g
structure QGos(cl:Nat->Addr)(pm:List Nat)(X:Cx)(tg:List Expr)(t:TGs)(g:List D->Rh->Option Rh):Prop where
 sem:PGs X tg t
 den:DGs ⟨X.K,cl⟩ pm t g
theorem jdN(a:X.N.Nodup)(hi:X.N[i]?=some x:=by rfl)(b:Loc X.env.scope x:=by first | exact Or.inl rfl | exact Or.inr rfl)(c:X.fn x=true \/ X.env.scope.names.lookup x=some .local:=by first | exact .inl rfl | exact .inr rfl) :
  QGo cl pm X (.Name x pos) (V7 i) (jd pm i):=⟨uw a hi b c,Q6⟩
section
variable {R:RC}{Z Z':Zn}{H H':Hp}{pm:List Nat}
noncomputable def vy:D->Option KA
 | .int i=>some (.int i)
 | .str s=>some (.str s)
 | _=>none
theorem yW(e:vy d=some k)(r:Rep R Z H d v O):v=kV (kaV k)/\O=[]:=by
 cases d with
 | int i=>cases e;rw[Rep] at r;exact r
 | str s=>cases e;rw[Rep] at r;exact r
 | _=>cases e
theorem YJ(h:kaV a=kaV b):a=b:=by
 cases a<;>cases b<;>simp only[kaV] at h
 ·cases h;rfl
 ·cases h
 ·cases h
 ·have:=jhf (Sum.inr.inj h);rw[this]
noncomputable def Kk:List KA->List D->KA->Option D
 | k::ks,d::l,a=>if k=a then some d else Kk ks l a
 | _,_,_=>none
theorem qR:∀{ks:List KA}{l:List D}{vs:List V}{O:List Addr}{a:KA},Reps R Z H l vs O->ks.length=l.length ->
  (∀ d,Kk ks l a=some d->∃ v P,Y6 ((ks.map kaV).zip vs) (kaV a)=some v/\Rep R Z H d v P)/\(Kk ks l a=none->Y6 ((ks.map kaV).zip vs) (kaV a)=none)
 | [],l,vs,O,a,r,c=>⟨λd e=>(by cases l<;>cases e),λ_=>rfl⟩
 | k::ks,[],vs,O,a,r,c=>by simp at c
 | k::ks,x::l,vs,O,a,r,c=>by
  rw[Reps] at r;obtain⟨v,b,f,n,rfl,rfl,g,i⟩:=r;have j:=qR (a:=a) i (by simpa using c);by_cases e:k=a
  ·subst e;refine⟨λd h=>?_,λh=>?_⟩
   ·simp only[Kk,if_true] at h;cases h;exact⟨v,f,qg rfl,g⟩
   ·simp[Kk] at h
  ·have m:¬ (kaV k=kaV a):=λz=>e (YJ z);have q:Y6 (((k::ks).map kaV).zip (v::b)) (kaV a)=Y6 ((ks.map kaV).zip b) (kaV a):=k8 m;rw[q];simp only[Kk,if_neg e];exact j
theorem DkA.rd(h:DkA o H a kvs):Rd H a (.dK kvs):=by
 cases o with
 | true=>exact .inl h
 | false=>exact h
theorem DGet.r(e:Rd H a (.dK kvs)):DGet H a (kV k) (Y6 kvs k):=.inl ⟨kvs,k,e,rfl,rfl⟩
theorem Rep.dK_of(r:Rep R Z H (.dK o ks l) v O):∃ a vs O',v=.ref a/\Rd H a (.dK ((ks.map kaV).zip vs))/\Reps R Z H l vs O'/\ks.length=l.length:=by
 rw[Rep] at r;obtain⟨a,vs,O',rfl,b,c,d,_⟩:=r;exact⟨a,vs,O',rfl,d.rd,b,c⟩
theorem jef:PP R wZ (pC (.dK true [] [])):=by
 intro σ ρ Z H O d z s e Q k;cases e;intro p a;refine k (Go.newO (wf0 z) a) ?_;rw[Rep];exact⟨p,[],[],rfl,.empty,rfl,ju,rfl⟩
def jO:D->D->Option D
 | .dK _ ks l,y=>(vy y).bind λk=>Kk ks l k
 | _,_=>none
theorem jdY(f:PB R td pa)(g:PB R ty pb):PB R (Q7 td ty) (p2 jO pa pb):=by
 intro σ ρ Z H O d z s e Q k;unfold p2 at e;refine ob e λx h e=>ob e λy e2 e=>?_;refine f z s h λ{v B C D} b i=>?_;refine g b.wf.zd (b.slots z s) e2 λ{u E F G} c j=>?_;have m:=c.rep b.wf.zd i;cases x with
 | dK o I l =>
  simp only[jO] at e;refine ob e λa e3 e=>?_;obtain⟨p,J,K,rfl,n,q,t⟩:=m.dK_of;obtain⟨rfl,_⟩:=yW e3 j;obtain⟨w,P,A,rw⟩:=(qR q t).1 d e;exact⟨p,w,rfl,A▸DGet.r n,k (b.pair c) rw⟩
 | _=>cases e
@[simp] def p3(g:D->D->D->Option D)(pa:PF)(pb:PF)(pc:PF)(ρ:Rh):Option D:=(pa ρ).bind λx=>(pb ρ).bind λy=>(pc ρ).bind λz=>g x y z
def QR(neg:Bool)(y x:D):Option D:=match x with
 | .dK _ ks l=>(vy y).bind λk=>some (.bl (neg != (Kk ks l k).isSome))
 | _=>none
theorem jcI{c ty:TE}{pa pb:PF}{neg:Bool}(j:PB R ty pa)(m:PB R c pb){σ:L2.St}{ρ:Rh}{Z:Zn}{H:Hp}{O:List Addr}{d:D}(z:Zd Z H)(s:Slots R Z H ρ σ O)(e:p2 (QR neg) pa pb ρ=some d)
  {Q:VK}(k:∀{v:V}{Z':Zn}{H':Hp}{P:List Addr},Go Z H [] Z' H' P->Rep R Z' H' d v P->Q v H'):ty σ H λy H1=>c σ H1 λx H2=>∃ a o,x=.ref a/\DGet H2 a y o/\Q (.bl (neg != o.isSome)) H2:=by
 unfold p2 at e;refine ob e λy n e=>ob e λx e2 e=>?_;refine j z s n λ{v E H1 F} b q=>?_;refine m b.wf.zd (b.slots z s) e2 λ{u G H2 I} f t=>?_;cases x with
 | dK o A l =>
  simp only[QR] at e;refine ob e λa e3 e=>?_;cases e;obtain⟨p,J,K,rfl,g,h,i⟩:=t.dK_of;obtain⟨rfl,_⟩:=yW e3 q;cases ev:Kk A l a with
  | none =>
   refine⟨p,none,rfl,(qR h i).2 ev▸DGet.r g,k (b.pair f) ?_⟩;rw[ev];exact .bl_mk
  | some d =>
   obtain⟨w,P,B,C⟩:=(qR h i).1 d ev;refine⟨p,some w,rfl,B▸DGet.r g,k (b.pair f) ?_⟩;rw[ev];exact .bl_mk
 | _=>cases e
theorem um{a ty:TE}{pa pb:PF}(b:PB R ty pa)(c:PB R a pb):PP R (V3 ty a) (p2 (QR true) pa pb):=λz s e _ k=>by
 have:=jcI (neg:=true) b c z s e k;simpa [V3] using this
noncomputable def jbj:List KA->List D->KA->D->List D
 | k::ks,x::l,a,d=>(if k=a then d else x)::jbj ks l a d
 | _,_,_,_=>[]
theorem z7:∀{ks:List KA}{l:List D}(a:KA) (d:D),ks.length=l.length->(jbj ks l a d).length=l.length
 | [],[],_,_,_=>rfl
 | [],_::_,_,_,h=>by simp at h
 | _::_,[],_,_,h=>by simp at h
 | k::ks,x::l,a,d,h=>by rw[jbj,M0,M0,z7 a d (by simpa using h)]
theorem z8(rd:Rep R Z H d v [])(a:KA):∀{ks:List KA}{l:List D}{vs:List V}{O:List Addr},Reps R Z H l vs O->ks.length=l.length ->
  ∃ vs2 O2,Reps R Z H (jbj ks l a d) vs2 O2/\(ks.map kaV).zip vs2=((ks.map kaV).zip vs).map (λkv=>if kv.1=kaV a then(kv.1,v) else kv)/\O2.Sublist O
 | [],[],vs,O,r,b=>by
  rw[Reps] at r;obtain⟨rfl,rfl⟩:=r;exact⟨[],[],.empty,rfl,.slnil⟩
 | [],_::_,_,_,_,h=>by simp at h
 | _::_,[],_,_,_,h=>by simp at h
 | k::ks,x::l,vs,O,r,b=>by
  rw[Reps] at r;obtain⟨w,j,m,O2,rfl,rfl,n,o⟩:=r;obtain⟨c,f,g,e3,i⟩:=z8 rd a o (by simpa using b);by_cases e:k=a
  ·subst e;refine⟨v::c,[]++f,?_,?_,?_⟩
   ·rw[jbj,if_pos rfl];exact Reps.cons rd g
   ·simp only[L4,U6,if_true,e3]
   ·exact i.trans (List.sublist_append_right _ _)
  ·have p:¬ (kaV k=kaV a):=λz=>e (YJ z);refine⟨w::c,m++f,?_,?_,?_⟩
   ·rw[jbj,if_neg e];exact Reps.cons n g
   ·simp only[L4,U6,if_neg p,e3]
   ·exact List.Sublist.append (List.Sublist.refl _) i
theorem VZ(a:KA):∀{ks:List KA}{vs:List V},ks.length=vs.length->(((ks.map kaV).zip vs).any λkv=>decide (kv.1=kaV a))=decide (a∈ks)
 | [],vs,_=>by simp
 | k::ks,[],h=>by simp at h
 | k::ks,v::vs,h=>by
  rw[L4,U6,List.any_cons,VZ a (by simpa using h)];by_cases e:k=a
  ·subst e;simp
  ·have b:¬ (kaV k=kaV a):=λz=>e (YJ z);have e2:¬ (a=k):=λz=>e z.symm;simp[b,e2]
def v5(ks:List KA)(l:List D)(a:KA)(d:D):List KA×List D:=if a∈ks then(ks,jbj ks l a d) else(ks++[a],l++[d])
theorem VH(rd:Rep R Z H d v [])(a:KA)  (r:Reps R Z H l vs O) (b:ks.length=l.length) :
  ∃ vs2 O2,Reps R Z H (v5 ks l a d).2 vs2 O2/\(((v5 ks l a d).1).map kaV).zip vs2=vC ((ks.map kaV).zip vs) (kaV a) v/\O2.Sublist O/\(v5 ks l a d).1.length=(v5 ks l a d).2.length:=by
 have c:ks.length=vs.length:=by rw[r.length];exact b
 unfold v5 vC;rw[VZ a c];by_cases e:a∈ks
 ·rw[if_pos e,X4 e,if_pos rfl];obtain⟨f,P,g,e2,h⟩:=z8 rd a r b;exact⟨f,P,g,e2,h,by rw[z7 a d b];exact b⟩
 ·rw[if_neg e,X5 e,if_neg (λz=>(nomatch z))];refine⟨vs++[v],O++[],r.append (Reps.one rd),?_,by simp,by simp[b]⟩;rw[N4,List.zip_append (by simpa using c)];rfl
@[simp] def sDSet(i:Nat)(pk:PF)(pv:PF)(ρ:Rh):Option Out:=(pv ρ).bind λd=>(pV i ρ).bind λx=>(jbv x).bind λp=>(pk ρ).bind λy=>(vy y).bind λa=>bif frz d&&lim p.1.length then some (.nx (ρ.set i (some (.dK true (v5 p.1 p.2 a d).1 (v5 p.1 p.2 a d).2)))) else none
theorem Kb{ks:List α}{vs:List V}{f:α->β}(h:lim ks.length=true):((ks.map f).zip vs).length < sizeLine:=by rw[List.length_zip,L0];exact E4 (Nat.min_le_left _ _) (Kp h)
end
theorem jiQ:QP cl X (.Dict [] [] pos) wZ (pC (.dK true [] [])):=⟨jcJ,jef⟩
theorem jir(e:Room k X.A)(c:QB cl X a ta pa)(d:QB cl X b tb pb)(f:jhD b:=by exact λ_ _=>rfl):QB cl X (.Subscript a b pos) (Q7 ta tb) (p2 jO pa pb):=⟨jau (K9 e) c.sem d.sem f,jdY c.den d.den⟩
@[simp] theorem keyOf_int(i:Int):vy (.int i)=some (.int i):=rfl
@[simp] theorem keyOf_str(s:List Nat):vy (.str s)=some (.str s):=rfl
@[simp] theorem opDIx_e(o:Bool)(ks:List KA)(l:List D)(y:D):jO (.dK o ks l) y=(vy y).bind λk=>Kk ks l k:=rfl
@[simp] theorem opDIn_e(neg o:Bool)(ks:List KA)(l:List D)(y:D):QR neg y (.dK o ks l)=(vy y).bind λk=>some (.bl (neg != (Kk ks l k).isSome)):=rfl
theorem jd3{P:Program}{w:World}{K:PySem.W.Frag}{cl:Nat->Addr}{mg:Str->Option Value}{base:Heap}{k n:Nat}{f:Addr}{fd:FuncData}{ps:List Str}:FnOk P w K mg base CX0 k f fd ps (spP ⟨K,cl⟩ (λ_=>none) n) :=
 ⟨λb H Q E ⟨_,_,_,_,_,_,h,_⟩=>(nomatch h),λA outer s H a c b Q E _ _ _ _ ⟨_,_,_,_,_,_,h,_⟩=>(nomatch h)⟩
def JO:List D->Option (List (KA×D))
 | []=>some []
 | .tup [k,v]::l=>(vy k).bind λa=>(JO l).bind λr=>some ((a,v)::r)
 | _::_=>none
def Qw(ps:List (KA×D)):List KA×List D:=ps.foldl (λacc kv=>v5 acc.1 acc.2 kv.1 kv.2) ([],[])
def yq:List D->Option D
 | [.lst _ l]=>(JO l).bind λps=>bif frzs (ps.map (·.2))&&lim ps.length then some (.dK true (Qw ps).1 (Qw ps).2) else none
 | _=>none
theorem Ve:∀{l:List D}{ps:List (KA×D)}{ys:List V}{O:List Addr},JO l=some ps->Reps R Z H l ys O->frzs (ps.map (·.2))=true ->
  ∃ ws:List V,Reps R Z H (ps.map (·.2)) ws []/\ys.length=ps.length/\∀(j:Nat) (y:V),ys[j]?=some y->∃ kv t,((ps.map λp=>kaV p.1).zip ws)[j]?=some kv/\y=.ref t/\SqT R.K H t [kV kv.1,kv.2]
 | [],ps,ys,O,e,r,b=>by
  cases e;rw[Reps] at r;obtain⟨rfl,rfl⟩:=r;exact⟨[],.empty,rfl,λj y c=>by simp at c⟩
 | d::l,ps,ys,O,e,r,b=>by
  match d,e with
  | .tup [k,v],e =>
   simp only[JO] at e;refine ob e λa i e=>ob e λm e2 e=>?_;cases e;rw[Reps] at r;obtain⟨C,n,E,F,rfl,rfl,g,o⟩:=r;rw[L4,K7,L9] at b;obtain⟨ws,f,s,q⟩:=Ve e2 o b.2;rw[Rep] at g;obtain⟨t,G,rfl,x,z⟩:=g;obtain⟨u,w,I,J,rfl,-,A,h⟩:=z.two_of;obtain⟨rfl,_⟩:=yW i A;have B:=h.nil b.1;subst B;refine⟨w::ws,Reps.cons (O:=[]) (P:=[]) h f,by simp[s],λj y c=>?_⟩;cases j with
   | zero =>
    cases c;exact⟨(kaV a,w),t,rfl,rfl,x.sq⟩
   | succ j=>exact q j y (by simpa using c)
theorem KC:∀{ps:List (KA×D)}{ws:List V}{ks:List KA}{l:List D}{us:List V},Reps R Z H (ps.map (·.2)) ws []->Reps R Z H l us []->ks.length=l.length ->
  ∃ us',Reps R Z H (ps.foldl (λacc kv=>v5 acc.1 acc.2 kv.1 kv.2) (ks,l)).2 us' []/\(((ps.foldl (λacc kv=>v5 acc.1 acc.2 kv.1 kv.2) (ks,l)).1).map kaV).zip us'=(((ps.map λp=>kaV p.1).zip ws).foldl (λa kv=>vC a kv.1 kv.2) ((ks.map kaV).zip us)) /\
   (ps.foldl (λacc kv=>v5 acc.1 acc.2 kv.1 kv.2) (ks,l)).1.length=(ps.foldl (λacc kv=>v5 acc.1 acc.2 kv.1 kv.2) (ks,l)).2.length
 | [],ws,ks,l,us,b,r,c=>⟨us,r,by simp,c⟩
 | p::ps,ws,ks,l,us,b,r,c=>by
  rw[L4,Reps] at b;obtain⟨w,g,s,t,rfl,e,h,i⟩:=b;obtain⟨rfl,rfl⟩:=List.append_eq_nil_iff.mp e.symm;obtain⟨j,k,m,e3,n,d⟩:=VH h p.1 r c;have:k=[]:=List.sublist_nil.mp n;subst this;obtain⟨us',o,q,f⟩:=KC (ps:=ps) i m d;refine⟨us',o,?_,f⟩;rw[L4,U6,U9,U9,q,e3]
theorem jdJ:BC R (λxs H Q=>∃(p:Addr) (ys:List V) (ps:List (Key×V)),xs=[.ref p]/\SqL R.K H p ys/\ys.length=ps.length/\ps.length<=100000 /\
  (∀(j:Nat) (y:V),ys[j]?=some y->∃ kv t,ps[j]?=some kv/\y=.ref t/\SqT R.K H t [kV kv.1,kv.2])/\∀ D,H D=none->Q (.ref D) (upd H D (.dK (ps.foldl (λa kv=>vC a kv.1 kv.2) [])))) yq:=by
 intro Z H xs d F O z r e Q k
 match xs,e,r with
 | [.lst o l],e,r =>
  simp only[yq] at e;refine ob e λps s e=>oc e λf e=>?_;cases e;rw[L9] at f;obtain⟨v,rfl,u⟩:=r.one_of;obtain⟨p,ys,G,rfl,w,A⟩:=u.lst_of;obtain⟨m,b,B,q⟩:=Ve s A f.1;obtain⟨g,C,E,i⟩:=KC (ks:=[]) (l:=[]) (us:=[]) b .empty rfl;have c:m.length=ps.length:=by rw[b.length];simp
  refine⟨p,ys,(ps.map λp=>kaV p.1).zip m,rfl,w.sq,by simp[B,c],by simp[c];exact X6 f.2,q,λD n=>?_⟩;refine k (Go.newO (wf0 z) n) ?_;have ne:∀ a,H a≠none->a≠D:=λa h e=>h (e▸n);rw[Rep];exact⟨D,g,[],rfl,C.frame (λa z=>z) (λa h=>jf (ne a (z a h))) (λa h=>(nomatch h)),i,by show upd H D _ D=some _;rw[ju];exact congrArg (λx=>some (HO.dK x)) E.symm,rfl⟩
@[simp] theorem fDict_e(o:Bool)(l:List D):yq [.lst o l]=(JO l).bind λps=>bif frzs (ps.map (·.2))&&lim ps.length then some (.dK true (Qw ps).1 (Qw ps).2) else none:=rfl
end QD
namespace QK
open PySem L2 QD PySem.Spec PyProof.Rows
end QK
namespace QD
open PySem L2 PySem.Spec PyProof.Rows
@[simp] def sRev(i:Nat)(ρ:Rh):Option Out:=(pV i ρ).bind λx=>(VM x).bind λl=>bif frzs l then some (.nx (ρ.set i (some (.lst true l.reverse)))) else none
end QD
namespace L2
open PySem PySem.Spec PyProof.Rows
end L2
namespace QD
open PySem L2 PySem.Spec PyProof.Rows
theorem jdx(h:ixN l.length j=some i)(k:l[i]?=some x):L2.atI l j=some x:=by
 unfold L2.atI;rw[h];exact k
theorem Go.frz1(w:WF Z H (a::O)):Go Z H (a::O) (λb=>Z b \/ b=a) H O:=by
 have nd:=List.nodup_cons.mp w.nd;refine⟨⟨nd.2,λb c z=>?_,λb c=>w.od b (L5 _ c),λb z=>?_⟩,λb z=>.inl z,λ_ _ _=>rfl,λb z=>?_,λb c=>.inl (L5 _ c),λ_ h=>h⟩
 ·rcases z with z | rfl
  ·exact w.nz b (L5 _ c) z
  ·exact nd.1 c
 ·rcases z with z | rfl
  ·exact w.zd b z
  ·exact w.od b L6
 ·rcases z with z | rfl
  ·exact .inl z
  ·exact .inr (.inl L6)
def wz(fe:FE)(g:D->Rh->Option Rh)(f:FS):FS:=λρ=>match fe ρ with
 | some (.tup l,ρ1)=>jY g f l ρ1
 | some (.lst true l,ρ1)=>jY g f l ρ1
 | _=>none
theorem jg5{pm:List Nat}{g:D->Rh->Option Rh}(hg:DG R pm tg g)(hf:DS R pm tb f){J:It}{vs:List V}{l:List D}{O P:List Addr}{ρ:Rh}{D':Ends}
  (hJ:∀{Z':Zn}{H':Hp},(∀ a,Z a->Z' a)->(∀ a,Z a->H' a=H a)->∀ i,(l.length<=i->J.stop i H')/\(∀ x,vs[i]?=some x->J.go i H'/\∀ y H2,J.yld i H' y H2->H2=H'/\y=x))
  (w:WF Z H (P++O)) (rs:Reps R Z H l vs P) (s:Slots R Z H ρ σ O) (e:jY g f l ρ=some o) (k:OutOk R pm Z H (P++O) σ D' o) :
  ∃ W:Nat->Nat->L2.St->Hp->Prop,(∃ m,W 0 m σ H)/\∀ i m σ H,W i m σ H->(J.stop i H/\D'.nx σ H) \/ (J.go i H/\∃ N:L2.St->Hp->Prop,(∀ σ' H',N σ' H'->∃ m',m' < m/\W (i+1) m' σ' H')/\∀ x H',J.yld i H x H'->tg x σ H' λσ2 H2=>tb { D' with nx:=N,ct:=N,bk:=D'.nx } σ2 H2):=by
 have E:=rs.length;refine⟨λi m σ' H'=>m=l.length - i/\i<=l.length/\∃ T Z' U F,Go Z H (P++O) Z' H' (U++F)/\Reps R Z' H' (l.drop i) (vs.drop i) U/\Slots R Z' H' T σ' F/\Keep pm σ σ'/\jY g f (l.drop i) T=some o,
  ⟨l.length,rfl,U4 _,ρ,Z,P,O,Go.refl w,rs,s,Keep.refl _ _,e⟩,?_⟩
 rintro i m σ' H' ⟨rfl,hi',T,Z',U,F,G,X,s1,kp,e2⟩;obtain⟨h1,h2⟩:=hJ (Z':=Z') (H':=H') G.zz (λa z=>G.zH w a z) i;by_cases t:i < l.length
 ·right
  have hx:l[i]?=some l[i]:=by simp[t]
  have hv:vs[i]?=some (vs[i]'(by lia)):=by simp[E,t]
  obtain⟨go,yl⟩:=h2 _ hv;rw[vx hx] at e2 X;rw[vx hv,Reps] at X;obtain⟨v,vs',P1,I,ev,rfl,ri,rr⟩:=X;injection ev with ev1 ev2;subst ev1;subst ev2;unfold jY at e2;refine ob e2 λρ1 e3 e2=>ob e2 λo1 e4 e2=>?_;refine⟨go,λσ2 H2=>∃ h K L n,Go Z H (P++O) K H2 (n++L)/\Reps R K H2 (l.drop (i+1)) (vs.drop (i+1)) n/\Slots R K H2 h σ2 L/\Keep pm σ σ2/\jY g f (l.drop (i+1)) h=some o,λσ2 H2 ⟨h,K,L,n,a1,a2,a3,a4,a5⟩=>⟨l.length - (i+1),by lia,rfl,t,h,K,n,L,a1,a2,a3,a4,a5⟩,λu H2 hy=>?_⟩;obtain⟨rfl,rfl⟩:=yl u H2 hy
  -- what is owned,in the order that the frame wants: the rest of the items,then the item and the slots
  have M:Go Z H (P++O) Z' H2 (I++(P1++F)++[]):=G.drop (λa A=>by simp at A ⊢;rcases A with q | q | q<;>simp[q]) (by
   have nd:=G.wf.nd;simp only[U8,N1,M9] at nd ⊢;obtain⟨⟨n1,n2,n3⟩,n4,n5⟩:=nd;exact⟨n2,⟨n1,n4,λa A b Y=>n5 a (.inl A) b Y⟩,λa A b Y=>Y.elim (λq e=>n3 b q a A e.symm) (λq=>n5 a (.inr A) b q)⟩)
  have wi:WF Z' H2 (P1++F):=M.wf.mid;refine hg wi ri s1 e3 λ{σ3 Z3 H3 O3} g3 s3 Q=>?_;refine hf g3.wf s3 e4 ?_;have c:∀{j:Zn}{r:Hp}{p:List Addr},Go Z3 H3 O3 j r p->Go Z H (P++O) j r (I++p)/\Reps R j r (l.drop (i+1)) (vs.drop (i+1)) I:=by
   intro j r p g4;have S:=g3.trans g4;have g6:=S.frame M.wf;refine⟨M.trans (by simpa using g6),rr.frame S.zz (λa z=>S.zH wi a z) (Go.keepA M.wf S).1⟩
  cases o1 with
  | nx h=>exact λ{σ4 j r p} g4 B C=>⟨h,j,p,I,(c g4).1,(c g4).2,B,kp.trans (Q.trans C),e2⟩
  | ct h=>exact λ{σ4 j r p} g4 B C=>⟨h,j,p,I,(c g4).1,(c g4).2,B,kp.trans (Q.trans C),e2⟩
  | bk h=>cases e2;exact λ{σ4 j r p} g4 B C=>k ((c g4).1.dropL) B (kp.trans (Q.trans C))
  | rt d h=>cases e2;exact λ{v4 σ4 j r P4 p} g4 r4 B C=>k ((c g4).1.dropL) r4 B (kp.trans (Q.trans C))
 ·left
  have hi2:i=l.length:=by lia
  refine⟨h1 (by lia),?_⟩;rw[hi2,List.drop_length] at e2;cases e2;exact k (G.dropL) s1 kp
theorem jf7{pm:List Nat}{g:D->Rh->Option Rh}(I:DE R te fe)(L:DG R pm tg g)(M:DS R pm tb f):DS R pm (jey (jcL R.K te) tg tb) (wz fe g f):=by
 intro σ ρ Z H O o w s e X k;unfold wz at e;have N:∀{j:Zn}{m:Hp}{n:List Addr},Go Z H O j m n->OutOk R pm j m n σ X o:=by
  intro j m n h;cases o with
  | nx B=>exact λg4 p q=>k (h.trans g4) p q
  | ct B=>exact λg4 p q=>k (h.trans g4) p q
  | bk B=>exact λg4 p q=>k (h.trans g4) p q
  | rt d B=>exact λg4 Y p q=>k (h.trans g4) Y p q
 split at e
 ·rename_i l Q C;refine I w s C λ{v j m P n} h r s1=>?_;rw[Rep] at r;obtain⟨a,c,rfl,S,t⟩:=r;refine .inr (.inl ⟨a,rfl,⟨c,S.sq⟩,?_⟩);refine jg5 L M (J:=Itt R.K a) (vs:=c) (λ{Z' E} T F i=>?_) h.wf t s1 e (N h);have sq:SqT R.K E a c:=(S.frame T F).sq;refine⟨λhi=>⟨c,sq,by rw[t.length];exact hi⟩,λx u=>⟨⟨c,x,sq,u⟩,λy H2 A=>⟨A.1,?_⟩⟩⟩;have:=A.2 c sq;rw[u] at this;exact(X7 this).symm
 ·rename_i l Q C;refine I w s C λ{v j m P n} h r s1=>?_;rw[Rep] at r;obtain⟨a,c,U,rfl,t,V,rfl⟩:=r;refine .inl ⟨a,rfl,⟨c,SqL.of V⟩,?_⟩;have W:Go Z H O (λb=>j b \/ b=a) m (U++n):=h.trans (Go.frz1 h.wf);have G:Reps R (λb=>j b \/ b=a) m l c U:=t.frame (λb z=>.inl z) (λ_ _=>rfl) λ_ _=>rfl;have s2:Slots R (λb=>j b \/ b=a) m Q σ n:=s1.frame (λb z=>.inl z) (λ_ _=>rfl) λ_ _=>rfl;refine jg5 L M (J:=Itl R.K a) (vs:=c) (λ{Z' E} T F i=>?_) W.wf G s2 e (N W);have sq:SqL R.K E a c:=SqL.of (by rw[F a (.inr rfl)];exact V);refine⟨λhi=>⟨c,sq,by rw[t.length];exact hi⟩,λx u=>⟨⟨c,x,sq,u⟩,λy H2 A=>⟨A.1,?_⟩⟩⟩;have:=A.2 c sq;rw[u] at this;exact(X7 this).symm
 ·cases e
structure QDs(cl:Nat->Addr)(X:Cx)(es:List Expr)(ta:TA)(f:FA):Prop where
 sem:PA X es ta
 den:DA ⟨X.K,cl⟩ ta f
theorem jis:QDs cl X [] Y7 jgo:=⟨vO,jio⟩
theorem jen(h1:QE cl X e te fE)(h2:QDs cl X es tr fr)(a:starEach (e::es) X.env=(false,eval e X.env)::starEach es X.env:=by rfl):QDs cl X (e::es) (yc te tr) (vj fE fr):=⟨jG h1.sem h2.sem a,jez h1.den h2.den⟩
theorem jh0{x1}(h:QDs cl X es tr fr):QE cl X (.Tuple es x1 pos) (zM tr) (jgn fr):=⟨Jd h.sem,jiJ h.den⟩
@[simp] theorem dTup_e:jgn fa ρ=(fa ρ).bind λx=>bif decide (x.1.length<=1000) then some (.tup x.1,x.2) else none:=by
 unfold jgn dCB;cases fa ρ with
 | none=>rfl
 | some x =>
  obtain⟨d,r⟩:=x;dsimp only[Option.bind];cases decide (d.length<=1000)<;>rfl
section
variable {R:RC}{Z Z':Zn}{H H':Hp}{pm:List Nat}
@[simp] def sDAugI(i:Nat)(pk:PF)(g:Int->Int->Int)(pv:PF)(ρ:Rh):Option Out:=(pk ρ).bind λy=>(vy y).bind λc=>(pV i ρ).bind λx=>(jbv x).bind λkl=>(Kk kl.1 kl.2 c).bind λm=>(y4 m).bind λm=>(pv ρ).bind λn=>(y4 n).bind λn =>
  bif lim kl.1.length then some (.nx (ρ.set i (some (.dK true (v5 kl.1 kl.2 c (.int (g m n))).1 (v5 kl.1 kl.2 c (.int (g m n))).2)))) else none
def Jk(i:Nat)(L:Ln)(pk:PF)(g:Int->Int->Int)(pv:PF)(ρ:Rh):Option Out:=(pk ρ).bind λy=>(vy y).bind λc=>(pV i ρ).bind λt=>(L t).bind λy=>(jbv y.1).bind λkl=>(Kk kl.1 kl.2 c).bind λm=>(y4 m).bind λm=>(pv ρ).bind λn=>(y4 n).bind λn =>
  bif lim kl.1.length then some (.nx (ρ.set i (some (y.2 (.dK true (v5 kl.1 kl.2 c (.int (g m n))).1 (v5 kl.1 kl.2 c (.int (g m n))).2))))) else none
theorem jb0{i:Nat}{L:Ln}{tb ty tv:TE}{pk pv:PF}{g:Int->Int->Int}{rd:V->V->Hp->VK->Prop}(j:∀{m n:Int}{H:Hp}{Q:VK},Q (.int (g m n)) H->rd (.int m) (.int n) H Q)(C:Qr R tb i L)(D:PB R ty pk)(E:PB R tv pv):DS R pm (jbi tb ty tv rd) (Jk i L pk g pv):=by
 intro σ ρ Z H O o w s e D' k;refine ob e λq F e=>ob e λc e5 e=>ob e λt hi e=>ob e λ⟨y,k0⟩ e3 e=>ob e λ⟨ks,l⟩ G e=>ob e λx I e=>ob e λm J e=>ob e λx' K e=>ob e λn e2 e=>oc e λd e=>?_;cases e;cases VU G;cases ym J;cases ym e2;refine JJ (P0:=[]) C w s hi e3 ow_dK λa _ vs O' A f B M put=>M (D w.zd s F λ{z Z1 H1 P1} h N=>?_);obtain⟨rfl,_⟩:=yW e5 N;obtain⟨mv,P3,p,r⟩:=(qR (a:=c) A f).1 _ I;obtain⟨rfl,_⟩:=r.int_of;refine⟨a,.int m,rfl,by rw[<- p];exact DGet.k (h.at0 B),E h.wf.zd (h.slots w.zd s) K λ{u Z2 H2 P4} P S=>?_⟩;obtain⟨rfl,_⟩:=S.int_of;have b:=h.trans P;obtain⟨T,O2,U,W,X,v⟩:=VH (Rep.int_mk (i:=g m n)) c (b.reps w.zd A) f;obtain⟨O3,Y,sF⟩:=put ow_dK v b U λq=>by simpa using X.count_le q
 refine j ⟨_,DPut.k (b.at0 B) (Kb d),?_⟩;rw[<- W];exact k Y sF (Keep.refl _ _)
noncomputable def kaD:KA->D
 | .int i=>.int i
 | .str s=>.str s
@[simp] def vw(pd:PF)(ρ:Rh):Option D:=(pd ρ).bind λd=>(jeO d).bind λk=>bif frzs k.2 then some (.lst true ((k.1.zip k.2).map λp=>.tup [kaD p.1,p.2])) else none
theorem jfy(a:KA):Rep R Z H (kaD a) (kV (kaV a)) []:=by
 cases a with
 | int i=>exact .int_mk
 | str s=>exact .str_mk
theorem jab(h:PB R td pd):PP R (zf td) (vw pd):=by
 intro σ ρ Z H O d z s e Q k;refine ob e λx e1 e=>ob e λ⟨B,l⟩ e2 e=>oc e λhf e=>?_;cases e;obtain⟨o,rfl⟩:=jbz e2;refine h z s e1 λ{v I y P} g r=>?_;rw[Rep] at r;obtain⟨a,A,O',rfl,rs,J,ea,f⟩:=r;refine⟨a,_,rfl,(show Rd y a _ by cases o with | true=>exact .inl ea | false=>exact ea),λt m T F U has=>?_⟩;have n:=List.nodup_cons.mp U;have W:=rs.frozen hf;have X:=rs.length;have S:∀ b,y b≠none->jV y m ((B.map kaV).zip A) t b=y b:=λb f=>by
  unfold jV;rw[if_neg λq=>f (by rw[q];exact T),kq λq=>f (has b q)]
 have zd:=g.wf.zd;have K:∀ b∈m,jV y m ((B.map kaV).zip A) t b≠none:=λb f=>by
  obtain⟨j,hj⟩:=List.mem_iff_getElem?.mp f;have Y:j < ((B.map kaV).zip A).length:=by rw[<- F];exact(L8.mp hj).1
  unfold jV;rw[if_neg (show ¬ b=t from λq=>n.1 (q▸f)),V6 n.2 hj (X8 Y)];exact λz=>nomatch z
 have L:jV y m ((B.map kaV).zip A) t t=some (.lst (m.map V.ref)):=by unfold jV;rw[if_pos rfl]
 have g2:Go I y [] (λb=>I b \/ b∈m) (jV y m ((B.map kaV).zip A) t) [t]:=by
  refine⟨⟨by simp,λb f q=>?_,λb f=>?_,λb q=>?_⟩,λb q=>.inl q,λb f _=>S b f,λb q=>?_,λb f=>?_,λb f=>?_⟩
  ·rw[M7.mp f] at q;rcases q with q | q
   ·exact zd _ q T
   ·exact n.1 q
  ·rw[M7.mp f,L];exact λz=>nomatch z
  ·rcases q with q | q
   ·rw[S b (zd b q)];exact zd b q
   ·exact K b q
  ·rcases q with q | q
   ·exact .inl q
   ·exact .inr (.inr (has b q))
  ·rw[M7.mp f];exact .inr T
  ·rw[S b f];exact f
 refine k (g.trans g2) ?_;rw[Rep];refine⟨t,m.map V.ref,[],rfl,?_,L,rfl⟩;have rs2:Reps R (λb=>I b \/ b∈m) (jV y m ((B.map kaV).zip A) t) l A []:=W.frame (λb q=>.inl q) (λb q=>S b (zd b q)) (λb f=>nomatch f);have key:∀(w:List Addr) (i:List KA) (G:List D) (C:List V),Reps R (λb=>I b \/ b∈m) (jV y m ((B.map kaV).zip A) t) G C []->i.length=G.length->w.length=i.length ->
   (∀(j:Nat) (b:Addr) (c:KA) (u:V),w[j]?=some b->i[j]?=some c->C[j]?=some u->b∈m/\jV y m ((B.map kaV).zip A) t b=some (.tup [kV (kaV c),u])) ->
   Reps R (λb=>I b \/ b∈m) (jV y m ((B.map kaV).zip A) t) ((i.zip G).map λp=>.tup [kaD p.1,p.2]) (w.map V.ref) []:=by
  intro w
  induction w with
  | nil =>
   intro i G C _ hk E _;have:i=[]:=List.length_eq_zero_iff.mp E.symm;subst this;exact .empty
  | cons b w ih =>
   intro i G C rr hk E hp;cases i with
   | nil=>simp at E
   | cons c i =>
    cases G with
    | nil=>simp at hk
    | cons d G =>
     rw[Reps] at rr;obtain⟨u,M,O1,O2,rfl,eO,r1,r2⟩:=rr;obtain⟨rfl,rfl⟩:=List.append_eq_nil_iff.mp eO.symm;obtain⟨f,eb⟩:=hp 0 b c u rfl rfl rfl;refine Reps.cons (O:=[]) (P:=[]) ?_ (ih i G M r2 (by simpa using hk) (by simpa using E) λj b' c' u' N h2 h3=>hp (j+1) b' c' u' (by simpa using N) (by simpa using h2) (by simpa using h3));rw[Rep];exact⟨b,[kV (kaV c),u],rfl,.inl ⟨.inr f,.inl eb⟩,Reps.cons (O:=[]) (P:=[]) (jfy c) (.one r1)⟩
 refine key m B l A rs2 J (by rw[F,List.length_zip,L0,X,J];simp) λj b c u N h2 h3=>⟨List.mem_of_getElem? N,?_⟩;have hz:((B.map kaV).zip A)[j]?=some (kaV c,u):=by
  rw[List.getElem?_zip_eq_some];exact⟨by rw[List.getElem?_map,h2];rfl,h3⟩
 unfold jV;rw[if_neg (show ¬ b=t from λq=>n.1 (q▸List.mem_of_getElem? N)),V6 n.2 N hz]
end
section
variable {cl:Nat->Addr}{pm:List Nat}{X:Cx}{a b e o tg iter:Expr}{body:List Stmt}{ta tb te to:TE}{pa pb pe po:PF}{pos:Pos}{k:Nat}{t:TG}{g:D->Rh->Option Rh}{fE:FE}{ts:TS}{f:FS}
theorem jcn(f:X.calm=true)(g:X.mg "list" = none)(e:QB cl X o to po)(h:Gl X "list":=by rfl)
  (a:attributeBase o "items" X.env (eval o X.env)=eval o X.env:=by rfl) (b:(apos.endLine==cpos.line)=true:=by rfl)
  (i:starEach [.Call (.Attribute o "items" apos) [] [] cpos] X.env=(false,eval (.Call (.Attribute o "items" apos) [] [] cpos) X.env)::starEach [] X.env:=by rfl)
  (c:(backTo pos (starEach [] X.env)).any (·.1)=false:=by rfl)
  (d:backTo pos (starEach [.Call (.Attribute o "items" apos) [] [] cpos] X.env)=[(false,eval (.Call (.Attribute o "items" apos) [] [] cpos) X.env)]:=by rfl) :
  QP cl X (.Call (.Name "list" p) [.Call (.Attribute o "items" apos) [] [] cpos] [] pos) (zf to) (vw po):=⟨wW f h g JA e.sem a b i c d,jab e.den⟩
theorem jfc(c:PassesOwn (model X.prog X.w) X.A X.env X.xe)(d:X.calm=true)(hi:QE cl X iter te fE)(a:QGo cl pm X tg t g)(b:QSs cl pm X body ts f)(e:∀ x,foldedSetIterable iter X.env x=pure x:=by intro _;rfl) :
  QS cl pm X (.For tg iter body [] pos) (jey (jcL X.K te) t ts) (wz fE g f):=⟨jak c d (zQ hi.sem) a.sem b.sem e,jf7 hi.den a.den b.den⟩
end
def spM(R:RC)(m:List D->Option (D×D))(n j:Nat):Sp:=λvs H Q _=>∃ Z ds d c O u,WF Z H O/\ds.length=n/\Reps R Z H ds vs O/\vs[j]?=some u/\m ds=some (d,c) /\
 ∀{v:V}{Z':Zn}{H':Hp}{P O':List Addr},Go Z H O Z' H' (P++O')->Rep R Z' H' d v P->Rep R Z' H' c u O'->Q v H'
def JS(j:Nat):Out->Option (D×D)
 | .rt d ρ=>(pV j ρ).bind λc=>some (d,c)
 | .nx ρ=>(pV j ρ).bind λc=>some (.non,c)
 | _=>none
def fnM(n j:Nat)(f:FS):List D->Option (D×D):=λds=>(f (ds.map some++List.replicate (n - ds.length) none)).bind (JS j)
theorem ku:fnM n j f ds=(f (ds.map some++List.replicate (n - ds.length) none)).bind (JS j):=rfl
theorem Go.pick(g:Go Z H O Z' H' (P++(A++Q++B))):Go Z H O Z' H' (P++Q):=g.drop (λa h=>by simp at h ⊢;rcases h with h | h<;>simp[h]) (by
 have nd:=g.wf.nd;simp only[U8,N1] at nd ⊢;exact⟨nd.1,nd.2.1.1.2.1,λa c b d=>nd.2.2 a c b (.inl (.inr d))⟩)
theorem jdR(C:DS R [j] ts f)(h:spM R (fnM N.length j f) n j vs H Q E):ts { nx:=λ_ H'=>Q .non H',rt:=Q } (L2.start N vs) H:=by
 obtain⟨Z,t,d,c,O,u,w,M,r,D,e,k⟩:=h;rw[ku] at e;have s:Slots R Z H (t.map some++List.replicate (N.length - t.length) none) (L2.start N vs) O:=by
  have q:=Jn r (Js (R:=R) (Z:=Z) (H:=H) (N.length - t.length));unfold L2.start;rw[r.length];rw[M9] at q;exact q
 have x:(L2.start N vs)[j]?=some (some u):=by
  unfold L2.start;have G:j < vs.length:=(L8.mp D).1;rw[List.getElem?_append_left (by simpa using G),List.getElem?_map,D];rfl
 have i:∀{a:Rh}{m:L2.St}{p:Zn}{H':Hp}{P y:List Addr}{v:V},a[j]?=some (some c)->Go Z H O p H' (P++y)->Rep R p H' d v P->Slots R p H' a m y->Keep [j] (L2.start N vs) m->Q v H':=by
  intro a m p H' P y v b g z l kp;obtain⟨A,S,B,rfl,I,_,_⟩:=l.put (L8.mp b).1;obtain⟨T,J,K⟩:=I c b;have:m[j]?=some (some u):=by rw[kp j (by simp),x]
  rw[J] at this;cases this;exact k g.pick z K
 refine ob e λo F e=>?_;cases o with
 | rt U a=>exact ob e λL b e=>by cases e;exact C w s F λg z l kp=>i (Jw b) g z l kp
 | nx a=>exact ob e λL b e=>by cases e;exact C w s F λg l kp=>i (P:=[]) (Jw b) (by simpa using g) .non_mk l kp
 | bk a=>cases e
 | ct a=>cases e
theorem jfk(h:spM R m n j vs H Q E):vs.length=n:=by
 obtain⟨Z,b,d,c,O,u,w,a,r,_⟩:=h;rw[r.length,a]
def PJ(R:RC)(i j:Nat)(ta:TA)(p:PAf):Prop:=∀{σ:L2.St}{ρ:Rh}{Z:Zn}{H:Hp}{O:List Addr}{ds:List D},Zd Z H->Slots R Z H ρ σ O->p ρ=some ds->∀{u:V},σ[i]?=some (some u) ->
 ∀{Q:List V->Hp->Prop},(∀{v1 v2:List V}{Z':Zn}{H':Hp},Go Z H [] Z' H' []->v1.length=j->Reps R Z' H' (ds.take j) v1 []->Reps R Z' H' (ds.drop j) v2 []->Q (v1++u::v2) H')->ta σ H Q
@[simp] def pFs(p:PAf)(ρ:Rh):Option (List D):=(p ρ).bind λds=>bif frzs ds then some ds else none
@[simp] def dCallM(m:List D->Option (D×D))(i:Nat)(j:Nat)(p:PAf)(ρ:Rh):Option (D×Rh):=(p ρ).bind λds=>(pV i ρ).bind λc=>(m (ds.take j++c::ds.drop j)).bind λr=>some (r.1,ρ.set i (some r.2))
theorem Go.turn(g:Go Z H O Z' H' (A++(P++Q)++B)):Go Z H O Z' H' (P++(A++Q++B)):=g.drop (λa h=>by simp at h ⊢;rcases h with h | h | h | h<;>simp[h]) (by
 have nd:=g.wf.nd;simp only[U8,N1] at nd ⊢;obtain⟨⟨j,⟨k,l,m⟩,f⟩,n,i⟩:=nd;refine⟨k,⟨⟨j,l,λa d b c=>f a d b (.inr c)⟩,n,λa d b c=>i a (d.elim .inl λq=>.inr (.inr q)) b c⟩,λa d b c e=>?_⟩;rcases c with(c | c) | c
 ·exact f b c a (.inl d) e.symm
 ·exact m a d b c e
 ·exact i a (.inr (.inl d)) b c e)
structure QJ(cl:Nat->Addr)(X:Cx)(i j:Nat)(es:List Expr)(ta:TA)(p:PAf):Prop where
 sem:PA X es ta
 den:PJ ⟨X.K,cl⟩ i j ta p
 n:∀ ρ ds,p ρ=some ds->ds.length+1=es.length/\j<=ds.length
theorem jib{cl:Nat->Addr}{P:Program}{w:World}{K:PySem.W.Frag}{mg:Str->Option Value}{base:Heap}{x qual:Str}{a:Stmt}{fa:Addr}{fd:FuncData}{N ps:List Str}{k n j:Nat}{fs:FS}(F:Fun K x qual a fa fd)(c:FnScope N ps (jz a))(d:ps.length=n)
  (b:∀(cdv:Value) (A:Around) (outer:List Env) (s:Shared) (H:Hp) (E:XK),Room k (A.deeper (envOfC qual (jz a) s.heap.objs.size fa cdv)) ->
   ∃ ts,QSs cl [j] (jdw CX0 P w K mg base N qual (jz a) fa cdv A outer s H E).nox (vA a) ts fs):FnOk P w K mg base CX0 (k+1) fa fd ps (spM ⟨K,cl⟩ (fnM N.length j fs) n j):=by
 refine F.ok c (λe H Q E h=>by rw[jfk h,d]) λcdv A outer s H e Q E f h=>?_;obtain⟨ts,q⟩:=b cdv A outer s H E f;exact⟨ts,q.sem,jdR q.den h⟩
def oF(g:D->D->Option D):D->D->Option D:=λx y=>(g x y).bind λd=>bif frz d then some d else none
def DIt(R:RC)(wi:TI)(fi:FA):Prop:=∀{σ:L2.St}{ρ ρ':Rh}{Z:Zn}{H:Hp}{O:List Addr}{xs:List D},WF Z H O->Slots R Z H ρ σ O->fi ρ=some (xs,ρ') ->
 ∀{Q:It->Hp->Prop},(∀{J:It}{Z':Zn}{H':Hp}{O':List Addr},Go Z H O Z' H' O'->Slots R Z' H' ρ' σ O'->jgg R J Z' H' xs->Q J H')->wi σ H Q
structure QTE(cl:Nat->Addr)(X:Cx)(e:Expr)(tt:TT)(f:FT'):Prop where
 sem:PT X e tt
 den:DT ⟨X.K,cl⟩ tt f
structure QWE(cl:Nat->Addr)(X:Cx)(e:Expr)(tt:TT)(f:FT'):Prop where
 sem:PW X e tt
 den:DT ⟨X.K,cl⟩ tt f
structure QIE(cl:Nat->Addr)(X:Cx)(tg e:Expr)(wi:TI)(p:FA):Prop where
 sem:PI X tg e wi
 den:DIt ⟨X.K,cl⟩ wi p
theorem jb2:∀(ρ:Rh) (ds:List D),pN ρ=some ds->ds.length=0:=λρ ds h=>by cases h;rfl
theorem jaq(h:∀(ρ:Rh) (ds:List D),pr ρ=some ds->ds.length=n):∀(ρ:Rh) (ds:List D),ja p pr ρ=some ds->ds.length=n+1:=λρ ds e=>by
 rw[ja] at e;refine ob e λd a e=>ob e λl e2 e=>?_;cases e;rw[M0,h ρ l e2]
end QD
namespace QD
open PySem L2
theorem jb{n:Nat}(h:n<=100000):lim n=true:=X4 h
theorem Q5{α:Type}{l:List α}{i:Int}(a:0<=i)(h:i < l.length):atI l i=l[i.toNat]?:=by
 unfold atI ixN;rw[if_pos (by omega),if_pos (by omega)];rfl
theorem jaK{n i:Nat}(h:i < n):ixN n (i:Int)=some i:=by
 unfold ixN;rw[if_pos (by omega),if_pos (by omega)];simp
theorem vh{lo:Int}{n i:Nat}{x:D}(h:(kE lo n)[i]?=some x):x=.int (lo+i)/\i < n:=by
 unfold kE at h;rw[List.getElem?_map] at h;by_cases hi:i < n
 ·rw[List.getElem?_range hi] at h;cases h;exact⟨rfl,hi⟩
 ·rw[List.getElem?_eq_none (by simpa using hi)] at h;cases h
theorem yG(lo:Int)(n:Nat):(kE lo n).length=n:=by simp[kE]
@[simp] theorem eq_ss(a b:List Nat):vk (.str a) (.str b)=some (.bl (a==b)):=rfl
@[simp] theorem ne_ss(a b:List Nat):Kl (.str a) (.str b)=some (.bl (!(a==b))):=rfl
@[simp] theorem is_i(i:Int):wU (.int i) .non=some (.bl false):=rfl
@[simp] theorem is_n:wU .non .non=some (.bl true):=rfl
@[simp] theorem is_s(a:List Nat):wU (.str a) .non=some (.bl false):=rfl
@[simp] theorem in_cs(neg:Bool)(c:Nat)(s:List Nat):zE neg (.str [c]) (.str s)=some (.bl (neg != decide (c∈s))):=rfl
@[simp] theorem neg_i(i:Int):zw (.int i)=some (.int (-i)):=rfl
theorem jhg{a:List Nat}{n:Int}(h:a.length<=1000)(b:0<=n)(h1:n<=1000):j9 (.str a) (.int n)=some (.str (List.replicate n.toNat a).flatten):=by
 show(bif decide (a.length<=1000)&&(decide (0<=n)&&decide (n<=1000)) then some (D.str (List.replicate n.toNat a).flatten) else none)=_;rw[X4 h,X4 b,X4 h1];rfl
theorem jkM{s:List Nat}{i:Int}(a:s.length<=100000)(b:0<=i)(h:i < s.length):jc (.str s) (.int i)=some (.str [s.getD i.toNat 0]):=by
 show(bif lim s.length then((atI s i).bind λc=>some (D.str [c])) else none)=_;rw[jb a,Q5 b h];have:i.toNat < s.length:=by omega
 simp[this]
theorem JD{α:Type}(xs:List α){k:Int}(h:0<=k):yC xs (some k) none=xs.drop k.toNat:=by
 obtain⟨n,rfl⟩:∃ n:Nat,k=(n:Int):=⟨k.toNat,by omega⟩;rw[uZ];simp
@[simp] theorem itemsOf_str(s:List Nat):VW (.str s)=some (s.map λc=>D.str [c]):=rfl
theorem jaD(w:List Nat)(l:List (List Nat)):jbJ (.str w) (l.map D.str)=true:=by
 unfold jbJ;rw[L9];refine⟨rfl,List.all_eq_true.mpr λy a=>?_⟩;obtain⟨z,_,rfl⟩:=M5.mp a;rfl
theorem jbA(w:List Nat)(l:List (List Nat)):inL (.str w) (l.map D.str)=decide (w∈l):=by
 unfold inL;rw[Bool.eq_iff_iff,List.any_eq_true,decide_eq_true_eq];constructor
 ·rintro⟨y,a,e⟩;obtain⟨z,b,rfl⟩:=M5.mp a;have:z=w:=by
   have e:(z==w)=true:=e;exact eq_of_beq e
  exact this▸b
 ·intro h;exact⟨.str w,M5.mpr ⟨w,h,rfl⟩,by show(w==w)=true;simp⟩
theorem uW(neg o:Bool)(w:List Nat)(l:List (List Nat)):zE neg (.str w) (.lst o (l.map D.str))=some (.bl (neg != decide (w∈l))):=by
 show(bif jbJ (.str w) (l.map D.str) then some (D.bl (neg != inL (.str w) (l.map D.str))) else none)=_;rw[jaD,jbA];rfl
mutual
theorem jcc:∀(n:Nat) (d:D),okE n d=true->eqD d d=true
 | n,.non,_=>rfl
 | n,.bl _,_=>by show(_==_)=true;simp
 | n,.int _,_=>by show(_==_)=true;simp
 | n,.str _,_=>by show(_==_)=true;simp
 | n+1,.tup l,h=>by rw[eqD];exact YT n l (by simpa [okE] using h)
 | n+1,.lst _ l,h=>by rw[eqD];exact YT n l (by simpa [okE] using h)
 | 0,.tup l,h=>by simp[okE] at h
 | 0,.lst _ l,h=>by simp[okE] at h
 | n,.dK _ _ _,h=>by cases n<;>simp[okE] at h
 | n,.dT _ _ _,h=>by cases n<;>simp[okE] at h
 | n,.ins _ _ _ _,h=>by cases n<;>simp[okE] at h
 | n,.dead,h=>by cases n<;>simp[okE] at h
 | n,.tok _,h=>by cases n<;>simp[okE] at h
 | n,.exc _ _,h=>by cases n<;>simp[okE] at h
theorem YT:∀(n:Nat) (l:List D),kx n l=true->Kx l l=true
 | n,[],_=>rfl
 | n,d::l,h=>by
  rw[kx,L9] at h;rw[Kx,jcc n d h.1,YT n l h.2];rfl
end
theorem jc1{o o':Bool}{l m:List D}(h:kx 19 l=true)(h':kx 19 m=true):Kl (.lst o l) (.lst o' m)=some (.bl (!Kx l m)):=by
 show(bif okE 20 (.lst o l)&&okE 20 (.lst o' m) then some (D.bl (!Kx l m)) else none)=_;show(bif kx 19 l&&kx 19 m then _ else _)=_;rw[h,h'];rfl
theorem jdU{l m:List D}(h:kx 19 l=true)(h':kx 19 m=true):vk (.tup l) (.tup m)=some (.bl (Kx l m)):=by
 show(bif okE 20 (.tup l)&&okE 20 (.tup m) then some (D.bl (Kx l m)) else none)=_;show(bif kx 19 l&&kx 19 m then _ else _)=_;rw[h,h'];rfl
theorem jbd{n:Nat}{l:List D}(h:∀ d∈l,okE n d=true):kx n l=true:=by rw[xt];exact List.all_eq_true.mpr h
theorem yN:∀{l:List D},(∀ d∈l,frz d=true)->frzs l=true
 | [],_=>rfl
 | d::l,h=>by rw[K7,h d (by simp),yN λx a=>h x (by simp[a])];rfl
theorem vJ:∀{l:List D},(∀ d∈l,fz d=d)->fzs l=l
 | [],_=>rfl
 | d::l,h=>by rw[jcf,h d (by simp),vJ λx a=>h x (by simp[a])]
theorem qK{n:Nat}{w:List Nat}(h:∀ c∈w,c < 1114112):okE n (.str w)=true:=by
 have:okE n (.str w)=w.all λc=>decide (c < 1114112):=by cases n<;>rfl
 rw[this];exact List.all_eq_true.mpr λc a=>X4 (h c a)
@[simp] theorem okE_int(n:Nat)(i:Int):okE n (.int i)=true:=by cases n<;>rfl
theorem jaX{l:List Nat}{i N:Nat}(h:∀ c∈l,c < N)(a:0 < N):l.getD i 0 < N:=by
 rw[List.getD_eq_getElem?_getD];cases e:l[i]? with
 | none=>exact a
 | some c=>exact h c (List.mem_of_getElem? e)
theorem Vf(a:List Nat):∀(w:List Nat) (ws:List (List Nat)),Kj a (w::ws)=w++(ws.map (a++·)).flatten
 | w,[]=>by simp[Kj]
 | w,v::ws=>by rw[Kj,Vf a v ws];simp
theorem zX{α:Type}{f:α->D}{Q:α->Prop}:∀{ys:List D},(∀ y∈ys,∃ a,y=f a/\Q a)->∃ l:List α,ys=l.map f/\∀ a∈l,Q a
 | [],_=>⟨[],rfl,by simp⟩
 | y::ys,h=>by
  obtain⟨a,e,q⟩:=h y (by simp);obtain⟨l,e2,c⟩:=zX (ys:=ys) λz d=>h z (by simp[d]);exact⟨a::l,by rw[e,e2];rfl,λb g=>(M4.mp g).elim (λz=>z▸q) (c b)⟩
theorem jjM{o:Bool}{l:List D}{lo hi:Option Int}(a:frzs l=true):jdA lo hi (.lst o l)=some (.lst true (yC l lo hi)):=by
 show(bif frzs l then some (D.lst true (yC l lo hi)) else none)=_;rw[a];rfl
theorem jbs{o:Bool}{l:List D}{i:Int}(a:0<=i)(h:i < l.length):jc (.lst o l) (.int i)=l[i.toNat]?:=Q5 a h
theorem jhJ{l:List D}{i:Int}(a:0<=i)(h:i < l.length):jc (.tup l) (.int i)=l[i.toNat]?:=Q5 a h
def Wd(w:List Nat):Prop:=w.length<=30/\∀ c∈w,c < 1114112
@[simp] theorem yD(l:List (List Nat)):fzs (l.map D.str)=l.map D.str:=by
 rw[qP,U0];rfl
@[simp] theorem yi(l:List (List Nat)):frzs (l.map D.str)=true:=by
 rw[JX,List.all_map,List.all_eq_true];intro x _;rfl
@[simp] theorem qF(l:List (List Nat)):jN (l.map D.str)=true:=by
 rw[vo,List.all_map,List.all_eq_true];intro x _;rfl
theorem YZ{o:Bool}{l:List (List Nat)}{i:Int}(a:0<=i)(h:i < l.length):jc (.lst o (l.map D.str)) (.int i)=some (.str (l.getD i.toNat [])):=by
 rw[jbs a (by rw[L0];exact h),List.getElem?_map,List.getD_eq_getElem?_getD,X8 (by omega)];rfl
theorem J1{α:Type}{l:List α}{i:Nat}{d:α}(h:i < l.length):l.getD i d∈l:=by
 rw[List.getD_eq_getElem?_getD,X8 h];exact List.getElem_mem h
theorem VG{α β:Type}(f:α->β)(l:List α)(lo hi:Option Int):yC (l.map f) lo hi=(yC l lo hi).map f:=by
 unfold yC;rw[L0,List.map_take,List.map_drop]
theorem xh{α:Type}{l:List α}{lo hi:Option Int}{x:α}(h:x∈yC l lo hi):x∈l:=List.mem_of_mem_drop (List.mem_of_mem_take h)
theorem xP{α:Type}(l:List α)(lo hi:Option Int):(yC l lo hi).length<=l.length:=by
 unfold yC;rw[X9,List.length_drop];omega
theorem xU{α:Type}{l:List α}{lo hi:Option Int}(h:l.Nodup):(yC l lo hi).Nodup:=(h.sublist (List.drop_sublist _ _)).sublist (List.take_sublist _ _)
theorem jai(o:Bool)(l:List (List Nat))(lo hi:Option Int):jdA lo hi (.lst o (l.map D.str))=some (.lst true ((yC l lo hi).map D.str)):=by
 rw[jjM (yi l),VG]
theorem Vr{G:D->Rh->Option Rh}{q:PTf}{p:PF}{α:Type}{l:List α}{en out:α->D}{b:α->Bool}(P:Rh->Prop)(step:∀ x∈l,∀ ρ,P ρ->∃ ρ1,G (en x) ρ=some ρ1/\q ρ1=some (b x)/\p ρ1=some (out x)/\P ρ1){ρ:Rh}(a:P ρ):yO G q p (l.map en) ρ=some ((l.filter b).map out):=by
 induction l generalizing ρ with
 | nil=>rfl
 | cons x l c =>
  obtain⟨ρ1,d,e2,e3,p1⟩:=step x L6 ρ a;have:=c (λy e=>step y (L5 _ e)) p1;rw[L4,JE,d,L3,e2,L3];cases hb:b x with
  | true=>simp[e3,this,hb]
  | false=>simp[this,hb]
mutual
theorem jiD:∀(n:Nat) (d:D),okE n d=true->eqD (fz d) d=true
 | n,.non,_=>rfl
 | n,.bl _,_=>by show(_==_)=true;simp
 | n,.int _,_=>by show(_==_)=true;simp
 | n,.str _,_=>by show(_==_)=true;simp
 | n+1,.tup l,h=>by rw[fz,eqD];exact zx n l (by simpa [okE] using h)
 | n+1,.lst _ l,h=>by rw[fz,eqD];exact zx n l (by simpa [okE] using h)
 | 0,.tup l,h=>by simp[okE] at h
 | 0,.lst _ l,h=>by simp[okE] at h
 | n,.dK _ _ _,h=>by cases n<;>simp[okE] at h
 | n,.dT _ _ _,h=>by cases n<;>simp[okE] at h
 | n,.ins _ _ _ _,h=>by cases n<;>simp[okE] at h
 | n,.dead,h=>by cases n<;>simp[okE] at h
 | n,.tok _,h=>by cases n<;>simp[okE] at h
 | n,.exc _ _,h=>by cases n<;>simp[okE] at h
theorem zx:∀(n:Nat) (l:List D),kx n l=true->Kx (fzs l) l=true
 | n,[],_=>rfl
 | n,d::l,h=>by
  rw[kx,L9] at h;rw[fzs,Kx,jiD n d h.1,zx n l h.2];rfl
end
mutual
theorem jdy:∀(n:Nat) (d e:D),okE n d=true->fz d=fz e->eqD d e=true
 | n,.non,e,_,h=>by cases e<;>simp[fz] at h;rfl
 | n,.bl _,e,_,h=>by cases e<;>simp[fz] at h;subst h;show(_==_)=true;simp
 | n,.int _,e,_,h=>by cases e<;>simp[fz] at h;subst h;show(_==_)=true;simp
 | n,.str _,e,_,h=>by cases e<;>simp[fz] at h;subst h;show(_==_)=true;simp
 | n+1,.tup l,e,h,q=>by
  cases e<;>simp[fz] at q;rw[eqD];exact QV n l _ (by simpa [okE] using h) q
 | n+1,.lst _ l,e,h,q=>by
  cases e<;>simp[fz] at q;rw[eqD];exact QV n l _ (by simpa [okE] using h) q
 | 0,.tup l,e,h,_=>by simp[okE] at h
 | 0,.lst _ l,e,h,_=>by simp[okE] at h
 | n,.dK _ _ _,e,h,_=>by cases n<;>simp[okE] at h
 | n,.dT _ _ _,e,h,_=>by cases n<;>simp[okE] at h
 | n,.ins _ _ _ _,e,h,_=>by cases n<;>simp[okE] at h
 | n,.dead,e,h,_=>by cases n<;>simp[okE] at h
 | n,.tok _,e,h,_=>by cases n<;>simp[okE] at h
 | n,.exc _ _,e,h,_=>by cases n<;>simp[okE] at h
theorem QV:∀(n:Nat) (l m:List D),kx n l=true->fzs l=fzs m->Kx l m=true
 | n,[],[],_,_=>rfl
 | n,[],_::_,_,q=>by simp[fzs] at q
 | n,_::_,[],_,q=>by simp[fzs] at q
 | n,d::l,e::m,h,q=>by
  rw[kx,L9] at h;rw[fzs,fzs] at q;injection q with q1 q2;rw[Kx,jdy n d e h.1 q1,QV n l m h.2 q2];rfl
end
theorem jgc{d e:D}(h:okE 20 d=true)(h':okE 20 e=true)(q:fz d=fz e)(a:qz d=false:=by rfl):Kl d e=some (.bl false):=by
 unfold Kl;rw[a,h,h',jdy 20 d e h q];rfl
theorem Yx:∀ l:List (List Nat×D),JO (l.map λp=>.tup [.str p.1,p.2])=some (l.map λp=>(KA.str p.1,p.2))
 | []=>rfl
 | p::l=>by
  rw[L4,JO,Yx l];rfl
theorem Yh:∀(ps:List (KA×D)) (ks:List KA) (vs:List D),(ks++ps.map (·.1)).Nodup->ps.foldl (λacc kv=>v5 acc.1 acc.2 kv.1 kv.2) (ks,vs)=(ks++ps.map (·.1),vs++ps.map (·.2))
 | [],ks,vs,_=>by simp
 | p::ps,ks,vs,h=>by
  have a:p.1∉ks:=by
   rw[L4] at h;intro z;exact(U8.mp h).2.2 p.1 z p.1 (by simp) rfl
  rw[U9];have b:v5 ks vs p.1 p.2=(ks++[p.1],vs++[p.2]):=by unfold v5;rw[if_neg a]
  show ps.foldl _ (v5 ks vs p.1 p.2)=_;rw[b,Yh ps (ks++[p.1]) (vs++[p.2]) (by simpa using h)];simp
theorem wA{o:Bool}{l:List (List Nat×D)}(g:(l.map (·.1)).Nodup)(i:∀ p∈l,frz p.2=true)(j:l.length<=100000):yq [.lst o (l.map λp=>.tup [.str p.1,p.2])]=some (.dK true (l.map λp=>KA.str p.1) (l.map (·.2))):=by
 have k:((l.map λp=>(KA.str p.1,p.2)).map (·.1)).Nodup:=by
  rw[U0];have:((λx:KA×D=>x.1) ∘ λp:List Nat×D=>(KA.str p.1,p.2))=KA.str ∘ (·.1):=rfl;rw[this,<- U0];exact List.Pairwise.map _ (λa b h z=>h (by cases z;rfl)) g
 have e:=Yh (l.map λp=>(KA.str p.1,p.2)) [] [] (by simpa using k);show((JO (l.map λp=>.tup [.str p.1,p.2])).bind λc=>bif frzs (c.map (·.2))&&lim c.length then some (D.dK true (Qw c).1 (Qw c).2) else none)=_;rw[Yx,L3];have f:((l.map λp=>(KA.str p.1,p.2)).map (·.2))=l.map (·.2):=by rw[U0];rfl
 rw[f,yN (by intro d hd;obtain⟨p,m,rfl⟩:=M5.mp hd;exact i p m),L0,jb j];unfold Qw;rw[e,f];simp[U0]
noncomputable def lkp{α:Type}(w:List Nat):List (List Nat×α)->Option α
 | []=>none
 | p::l=>if p.1=w then some p.2 else lkp w l
noncomputable def dct(o:Bool)(N:List (List Nat))(f:List Nat->Int):D:=.dK o (N.map KA.str) (N.map λn=>D.int (f n))
theorem V0(f:List Nat->Int):∀{N:List (List Nat)},c∈N->Kk (N.map KA.str) (N.map λn=>D.int (f n)) (.str c)=some (.int (f c))
 | [],h=>by cases h
 | n::N,h=>by
  rw[L4,L4,Kk];by_cases e:n=c
  ·rw[if_pos (by rw[e]),e]
  ·rw[if_neg λz=>e (by cases z;rfl)];exact V0 f ((M4.mp h).resolve_left λz=>e z.symm)
theorem kB(h:c∈N):jO (dct o N f) (.str c)=some (.int (f c)):=V0 f h
theorem xO(f:List Nat->Int)(c:List Nat)(v:Int):∀ N:List (List Nat),jbj (N.map KA.str) (N.map λn=>D.int (f n)) (.str c) (.int v)=N.map λn=>D.int (if n=c then v else f n)
 | []=>rfl
 | n::N=>by
  rw[L4,L4,jbj,xO f c v N,L4];by_cases e:n=c
  ·rw[if_pos (by rw[e]),if_pos e]
  ·rw[if_neg λz=>e (by cases z;rfl),if_neg e]
theorem xj{N:List (List Nat)}{f:List Nat->Int}{c:List Nat}{v:Int}(h:c∈N):v5 (N.map KA.str) (N.map λn=>D.int (f n)) (.str c) (.int v)=(N.map KA.str,N.map λn=>D.int (if n=c then v else f n)):=by
 unfold v5;rw[if_pos (M5.mpr ⟨c,h,rfl⟩),xO]
theorem KL:∀{l:List (List Nat×α)},(l.map (·.1)).Nodup->∀ p∈l,lkp p.1 l=some p.2
 | [],_,_,h=>by cases h
 | q::l,a,p,h=>by
  rw[L4,List.nodup_cons] at a;rw[lkp];rcases M4.mp h with rfl | h
  ·rw[if_pos rfl]
  ·rw[if_neg λz=>a.1 (by rw[z];exact M5.mpr ⟨p,h,rfl⟩)];exact KL a.2 p h
def fnOf(S:List (List Nat×Int))(n:List Nat):Int:=(lkp n S).getD 0
theorem xS{S:List (List Nat×Int)}(a:(S.map (·.1)).Nodup){p:List Nat×Int}(h:p∈S):fnOf S p.1=p.2:=by
 unfold fnOf;rw[KL a p h];rfl
theorem yt{S:List (List Nat×Int)}(b:(S.map (·.1)).Nodup)(c:S.length<=100000):yq [.lst o (S.map λp=>.tup [.str p.1,.int p.2])]=some (dct true (S.map (·.1)) (fnOf S)):=by
 have e:=wA (o:=o) (l:=S.map λq=>(q.1,D.int q.2)) (by rw[U0];exact b) (by intro q d;obtain⟨a,_,rfl⟩:=M5.mp d;rfl) (by rw[L0];exact c);rw[U0,U0,U0] at e;refine e.trans ?_;unfold dct;rw[U0,U0];congr 2;refine List.map_congr_left λp f=>?_;show D.int p.2=D.int (fnOf S p.1);rw[xS b f]
theorem jcE(N:List (List Nat))(f:List Nat->Int):frzs (N.map λn=>D.int (f n))=true:=yN λd hd=>by
 obtain⟨n,_,rfl⟩:=M5.mp hd;rfl
theorem jbn(N:List (List Nat))(f:List Nat->Int):(((N.map KA.str).zip (N.map λn=>D.int (f n))).map λp=>D.tup [kaD p.1,p.2])=N.map λn=>D.tup [.str n,.int (f n)]:=by
 induction N with
 | nil=>rfl
 | cons n N a =>
  rw[L4,L4,U6,L4,L4,a];rfl
@[simp] theorem jci(N:List (List Nat))(f:List Nat->Int):jbv (dct true N f)=some (N.map KA.str,N.map λn=>D.int (f n)):=rfl
variable {ρ:Rh}{fa fb fe:FE}{ft fu:FT'}{fr:FA}{p:PAf}{pi:PAf}{g:D->D->Option D}{gl:List D->Option D}{G:D->Rh->Option Rh}{f:FS}{m:List D->Option (D×D)}{mp:List D->Option D}{i j:Nat}
@[simp] theorem dCBx_e:dCB gl fr ρ=(fr ρ).bind λr=>(gl r.1).bind λz=>some (z,r.2):=rfl
@[simp] theorem oF_e:oF g x y=(g x y).bind λd=>bif frz d then some d else none:=rfl
end QD
namespace L2
open PySem PySem.Spec PyProof.Rows
end L2
namespace QD
open PySem L2 PySem.Spec PyProof.Rows
noncomputable def JT:Int->List D->List D
 | _,[]=>[]
 | n,x::l=>.tup [.int n,x]::JT (n+1) l
theorem KG:∀(n:Int) (l:List D),(JT n l).length=l.length
 | _,[]=>rfl
 | n,x::l=>by rw[JT,M0,M0,KG]
theorem Qc:∀(n:Int) (l:List D) (i:Nat) (y:D),(JT n l)[i]?=some y->∃ x,l[i]?=some x/\y=.tup [.int (n+i),x]
 | _,[],_,_,e=>by simp[JT] at e
 | n,x::l,0,y,e=>by simp[JT] at e;exact⟨x,rfl,by rw[<- e];simp⟩
 | n,x::l,i+1,y,e=>by
  obtain⟨z,a,e2⟩:=Qc (n+1) l i y (by simpa [JT] using e);exact⟨z,by simpa using a,by rw[e2];congr 3;lia⟩
def jhd(p:PAf)(q:PF)(ρ:Rh):Option (List D):=(p ρ).bind λx=>(jfO x).bind λx=>(jgx x).bind λl=>(q ρ).bind λy=>(y4 y).bind λn=>bif Vp n then some (JT n (fzs l)) else none
theorem jig(h:PPs R ta p)(g:PB R tb q):PIt R (jje R.K ta tb) (jhd p q):=by
 intro σ ρ Z H O xs z s e Q k;refine ob e λx j e=>ob e λy e3 e=>ob e λl I e=>ob e λy' e2 e=>ob e λn e5 e=>oc e λJ e=>?_;cases e;cases ym e5;obtain⟨o,rfl⟩:=zA I;cases JG e3;refine h z s j λ{vs L H1 M} N P=>?_;obtain⟨v,rfl,S⟩:=P.one_of;have D:=S.freeze (Z':=λa=>L a \/ a∈M) (λa z=>.inl z) λa z=>.inr z;rw[fz,Rep] at D;obtain⟨a,c,O',rfl,T,U,rfl,_⟩:=D;have b:=N.fz;refine g b.wf.zd (b.slots z s) e2 λ{u Z2 H2 P2} d m=>?_;obtain⟨rfl,_⟩:=m.int_of;have f:=U.frame d.zz (λa z=>d.same a (b.wf.zd a z));have r:=T.frame d.zz (λa z=>d.same a (b.wf.zd a z)) (λa A=>(nomatch A));have hb:=Yn J;refine⟨a,c,n,rfl,rfl,by unfold Builtin.SmallTypes.fitsIndex;simp;lia,FL.sq f,k (b.pair d) ?_⟩;intro Z3 V E F zd i;have B:=(f.frame E F).sq;have m:Reps R Z3 V (fzs l) c []:=r.frame E F λa A=>(nomatch A);refine⟨λhi=>⟨c,B,by rw[m.length];rw[KG] at hi;exact hi⟩,λx W=>?_⟩;obtain⟨y,X,rfl⟩:=Qc _ _ i x W;obtain⟨u,G,Y⟩:=m.item X;refine⟨⟨c,u,B,G⟩,λw H4 C=>?_⟩;obtain⟨q,t,ht,rfl,g,rfl⟩:=C;have j:=ht c B;rw[G] at j;cases j;exact⟨_,Go.newF (wf0 zd) g,zS zd g .int_mk Y⟩
noncomputable def Qh:List (List KA)->List D->List KA->Option D
 | k::ks,d::l,a=>if k=a then some d else Qh ks l a
 | _,_,_=>none
theorem VX{a b:List KA}(h:a.map kaV=b.map kaV):a=b:=by
 induction a generalizing b with
 | nil=>cases b with
  | nil=>rfl
  | cons y b=>simp at h
 | cons x a c=>cases b with
  | nil=>simp at h
  | cons y b =>
   simp only[L4,List.cons.injEq] at h;rw[YJ h.1,c h.2]
theorem J5:∀{ks:List (List KA)}{l:List D}{vs:List V}{O:List Addr}{a:List KA},Reps R Z H l vs O->ks.length=l.length ->
  (∀ d,Qh ks l a=some d->∃ v P,Y6 ((ks.map (List.map kaV)).zip vs) (a.map kaV)=some v/\Rep R Z H d v P)/\(Qh ks l a=none->Y6 ((ks.map (List.map kaV)).zip vs) (a.map kaV)=none)
 | [],l,vs,O,a,r,c=>⟨λd e=>(by cases l<;>cases e),λ_=>rfl⟩
 | k::ks,[],vs,O,a,r,c=>by simp at c
 | k::ks,x::l,vs,O,a,r,c=>by
  rw[Reps] at r;obtain⟨v,b,f,n,rfl,rfl,g,i⟩:=r;have j:=J5 (a:=a) i (by simpa using c);by_cases e:k=a
  ·subst e;refine⟨λd h=>?_,λh=>?_⟩
   ·simp only[Qh,if_true] at h;cases h;exact⟨v,f,qg rfl,g⟩
   ·simp[Qh] at h
  ·have m:¬ (k.map kaV=a.map kaV):=λz=>e (VX z);have q:Y6 (((k::ks).map (List.map kaV)).zip (v::b)) (a.map kaV)=Y6 ((ks.map (List.map kaV)).zip b) (a.map kaV):=k8 m;rw[q];simp only[Qh,if_neg e];exact j
abbrev jcs(ta tb:TE):TE:=zM (yc ta (yc tb Y7))
def jbw(pa pb:PF)(ρ:Rh):Option (List KA):=(pa ρ).bind λx=>(pb ρ).bind λy=>(vy x).bind λa=>(vy y).bind λb=>some [a,b]
theorem J9 (f : PB R ta pa) (g : PB R tb pb)  (z : Zd Z H) (s : Slots R Z H ρ σ O) (e : jbw pa pb ρ = some k)
     (go:∀{p:Addr}{Z':Zn}{H':Hp},Go Z H [] Z' H' []->Z' p->H' p=some (.tup ((k.map kaV).map kV))->Q (.ref p) H'):jcs ta tb σ H Q:=by
 unfold jbw at e;refine ob e λx h e=>ob e λy e2 e=>ob e λa e3 e=>ob e λb i e=>?_;cases e;refine f z s h λ{v n o q} c j=>?_;refine g c.wf.zd (c.slots z s) e2 λ{u r t w} d l=>?_;obtain⟨rfl,_⟩:=yW e3 j;obtain⟨rfl,_⟩:=yW i l;refine⟨by show 2<=sizeLine;decide,λp m=>?_⟩;exact go ((c.pair d).trans (Go.newF d.wf m)) (.inr rfl) ju
theorem Rep.dT_of(r:Rep R Z H (.dT o ks l) v O):∃ a vs O',v=.ref a/\H a=some (.dT ((ks.map (List.map kaV)).zip vs))/\Reps R Z H l vs O'/\ks.length=l.length:=by
 rw[Rep] at r;obtain⟨a,vs,O',rfl,b,c,d,_⟩:=r;exact⟨a,vs,O',rfl,d,b,c⟩
def KW(x:D)(k:List KA)(z:D):Option D:=match x with
 | .dT _ ks l=>some ((Qh ks l k).getD z)
 | _=>none
@[simp] theorem opTGet_e(o:Bool)(ks:List (List KA))(l:List D)(k:List KA)(z:D):KW (.dT o ks l) k z=some ((Qh ks l k).getD z):=rfl
@[simp] def xX(pd:PF)(pa:PF)(pb:PF)(pc:PF)(ρ:Rh):Option D:=(pd ρ).bind λx=>(jbw pa pb ρ).bind λk=>(pc ρ).bind λz=>KW x k z
@[simp] theorem jht:jbw pa pb ρ=(pa ρ).bind λx=>(pb ρ).bind λy=>(vy x).bind λa=>(vy y).bind λb=>some [a,b]:=rfl
theorem jcz(hd:PB R td pd)(B:PB R ta pa)(C:PB R tb pb)(D:PB R tx pc):PB R (uF td (jcs ta tb) tx) (xX pd pa pb pc):=by
 intro σ ρ Z H O d z s e Q k;unfold xX at e;refine ob e λx E e=>ob e λy e2 e=>ob e λc F e=>?_;cases x with
 | dT o m l =>
  cases e;refine hd z s E λ{v S T U} j r=>?_;obtain⟨p,V,W,rfl,G,X,Y⟩:=r.dT_of;refine⟨p,rfl,.inr ⟨_,.inl G⟩,?_⟩;refine J9 B C j.wf.zd (j.slots z s) e2 λ{b Z2 H2} n zb u=>?_;have a:=j.pair n;refine D n.wf.zd (a.slots z s) F λ{t Z3 q I} g3 J=>?_;have A:=(n.pair g3).rep j.wf.zd r;rw[Rep] at A;obtain⟨p',K,L,M,f,g,h,_⟩:=A;cases M;have i:q b=some (.tup ((y.map kaV).map kV)):=by rw[g3.same b (by rw[u];exact λz=>(nomatch z))];exact u
  cases ev:Qh m l y with
  | none=>exact⟨none,(J5 f g).2 ev▸DGet.t h i,k (a.pair g3) (show Rep R Z3 q ((Qh m l y).getD c) t I by rw[ev];exact J)⟩
  | some d =>
   obtain⟨w,P,N,rw⟩:=(J5 f g).1 d ev;exact⟨some w,N▸DGet.t h i,k (a.pair g3) (show Rep R Z3 q ((Qh m l y).getD c) w P by rw[ev];exact rw)⟩
 | _=>cases e
noncomputable def jbD:List (List KA)->List D->List KA->D->List D
 | k::ks,x::l,a,d=>(if k=a then d else x)::jbD ks l a d
 | _,_,_,_=>[]
theorem xF:∀{ks:List (List KA)}{l:List D}(a:List KA) (d:D),ks.length=l.length->(jbD ks l a d).length=l.length
 | [],[],_,_,_=>rfl
 | [],_::_,_,_,h=>by simp at h
 | _::_,[],_,_,h=>by simp at h
 | k::ks,x::l,a,d,h=>by rw[jbD,M0,M0,xF a d (by simpa using h)]
theorem xk(rd:Rep R Z H d v [])(a:List KA):∀{ks:List (List KA)}{l:List D}{vs:List V}{O:List Addr},Reps R Z H l vs O->ks.length=l.length ->
  ∃ vs2 O2,Reps R Z H (jbD ks l a d) vs2 O2/\(ks.map (List.map kaV)).zip vs2=((ks.map (List.map kaV)).zip vs).map (λkv=>if kv.1=a.map kaV then(kv.1,v) else kv)/\O2.Sublist O
 | [],[],vs,O,r,b=>by
  rw[Reps] at r;obtain⟨rfl,rfl⟩:=r;exact⟨[],[],.empty,rfl,.slnil⟩
 | [],_::_,_,_,_,h=>by simp at h
 | _::_,[],_,_,_,h=>by simp at h
 | k::ks,x::l,vs,O,r,b=>by
  rw[Reps] at r;obtain⟨w,j,m,O2,rfl,rfl,n,o⟩:=r;obtain⟨c,f,g,e3,i⟩:=xk rd a o (by simpa using b);by_cases e:k=a
  ·subst e;refine⟨v::c,[]++f,?_,?_,?_⟩
   ·rw[jbD,if_pos rfl];exact Reps.cons rd g
   ·simp only[L4,U6,if_true,e3]
   ·exact i.trans (List.sublist_append_right _ _)
  ·have p:¬ (k.map kaV=a.map kaV):=λz=>e (VX z);refine⟨w::c,m++f,?_,?_,?_⟩
   ·rw[jbD,if_neg e];exact Reps.cons n g
   ·simp only[L4,U6,if_neg p,e3]
   ·exact List.Sublist.append (List.Sublist.refl _) i
theorem z9(a:List KA):∀{ks:List (List KA)}{vs:List V},ks.length=vs.length->(((ks.map (List.map kaV)).zip vs).any λkv=>decide (kv.1=a.map kaV))=decide (a∈ks)
 | [],vs,_=>by simp
 | k::ks,[],h=>by simp at h
 | k::ks,v::vs,h=>by
  rw[L4,U6,List.any_cons,z9 a (by simpa using h)];by_cases e:k=a
  ·subst e;simp
  ·have b:¬ (k.map kaV=a.map kaV):=λz=>e (VX z);have e2:¬ (a=k):=λz=>e z.symm;simp[b,e2]
def Kg(ks:List (List KA))(l:List D)(a:List KA)(d:D):List (List KA)×List D:=if a∈ks then(ks,jbD ks l a d) else(ks++[a],l++[d])
theorem Ka(rd:Rep R Z H d v [])(a:List KA)  (r:Reps R Z H l vs O) (b:ks.length=l.length) :
  ∃ vs2 O2,Reps R Z H (Kg ks l a d).2 vs2 O2/\(((Kg ks l a d).1).map (List.map kaV)).zip vs2=vC ((ks.map (List.map kaV)).zip vs) (a.map kaV) v/\O2.Sublist O/\(Kg ks l a d).1.length=(Kg ks l a d).2.length:=by
 have c:ks.length=vs.length:=by rw[r.length];exact b
 unfold Kg vC;rw[z9 a c];by_cases e:a∈ks
 ·rw[if_pos e,X4 e,if_pos rfl];obtain⟨f,P,g,e2,h⟩:=xk rd a r b;exact⟨f,P,g,e2,h,by rw[xF a d b];exact b⟩
 ·rw[if_neg e,X5 e,if_neg (λz=>(nomatch z))];refine⟨vs++[v],O++[],r.append (Reps.one rd),?_,by simp,by simp[b]⟩;rw[N4,List.zip_append (by simpa using c)];rfl
@[simp] def jf6(i:Nat)(pa:PF)(pb:PF)(pv:PF)(ρ:Rh):Option Out:=(pv ρ).bind λd=>(pV i ρ).bind λx=>(jgm x).bind λp=>(jbw pa pb ρ).bind λa=>bif frz d&&lim p.1.length then some (.nx (ρ.set i (some (.dT true (Kg p.1 p.2 a d).1 (Kg p.1 p.2 a d).2)))) else none
theorem jfI{R:RC}{pm:List Nat}{i:Nat}{ta tb tv:TE}{pa pb pv:PF}(r:PB R ta pa)(v:PB R tb pb)(y:PB R tv pv):DS R pm (jac (kD i) (jcs ta tb) tv) (jf6 i pa pb pv):=by
 intro σ ρ Z H O o w s e M k;refine ob e λd z e=>ob e λx A e=>ob e λ⟨N,l⟩ B e=>ob e λc e2 e=>oc e λh e=>?_;cases e;cases uP B;rw[L9] at h;refine y w.zd s z λ{u P Q S} f n=>?_;cases n.nil h.1;have p:=f.widen w;have s1:=f.slots w.zd s;refine JJ (P0:=[]) Vy p.wf s1 A rfl jbU λa _ T U C j D E put=>E (J9 r v f.wf.zd s1 e2 λ{b V W} g X F=>?_);obtain⟨G,Y,I,J,K,m⟩:=Ka (g.rep f.wf.zd n) c (g.reps f.wf.zd C) j;obtain⟨O3,g3,L⟩:=put jbU m g I λq=>by simpa using K.count_le q
 refine⟨a,_,rfl,DPut.t (g.at0 D) F (Kb h.2),?_⟩;rw[<- J];exact k (p.trans g3) L (Keep.refl _ _)
theorem jjd(d:X.mg "enumerate" = none)(h:QPs cl X [a] tr pr)(c:QB cl X b tb pb)(e:Gl X "enumerate":=by rfl)(f:starEach [a] X.env=[(false,eval a X.env)]:=by rfl) :
  QI cl X (.Tuple elts n tpos) (.Call (.Name "enumerate" p) [a] [⟨some "start",b,kpos⟩] pos) (jje X.K tr tb) (jhd pr pb):=⟨jkf e d h.sem c.sem f,jig h.den c.den⟩
theorem jei{x1}(h:Room k X.A)(d:QB cl X o to po)(e:QB cl X a ta pa)(f:QB cl X b tb pb)(g:QB cl X c tc pc)(m:M2 X o "get" apos (.Tuple [a,b] x1 tpos) c cpos:=by exact⟨rfl,rfl,rfl,rfl⟩)
  (h1:starEach [a,b] X.env=(false,eval a X.env)::starEach [b] X.env:=by rfl) (h2:starEach [b] X.env=(false,eval b X.env)::starEach [] X.env:=by rfl) :
  QB cl X (.Call (.Attribute o "get" apos) [.Tuple [a,b] x1 tpos,c] [] cpos) (uF to (jcs ta tb) tc) (xX po pa pb pc) :=
 ⟨jcF (K9 h) d.sem (Jd (jG e.sem (jG f.sem vO h2) h1)) g.sem m,jcz d.den e.den f.den g.den⟩
theorem je4{x1}(g:Room k X.A)(h:QB cl X (.Name x xpos) (kD i) (pV i))(c:QB cl X a ta pa)(d:QB cl X b tb pb)(f:QB cl X e te pe)
  (j:swapsWith e (some (.Subscript (.Name x xpos) (.Tuple [a,b] x1 tpos) pos')) pos.line X.env=pure false:=by rfl)
  (h1:starEach [a,b] X.env=(false,eval a X.env)::starEach [b] X.env:=by rfl) (h2:starEach [b] X.env=(false,eval b X.env)::starEach [] X.env:=by rfl) :
  QS cl pm X (.Assign [.Subscript (.Name x xpos) (.Tuple [a,b] x1 tpos) pos'] e pos) (jac (kD i) (jcs ta tb) te) (jf6 i pa pb pe) :=
 ⟨jaC (K9 g) h.sem (Jd (jG c.sem (jG d.sem vO h2) h1)) f.sem j,jfI c.den d.den f.den⟩
end QD
namespace L2
open PySem PySem.Spec PyProof.Rows
end L2
namespace QD
open PySem L2 PySem.Spec PyProof.Rows
def pFz(p:PF):PF:=λρ=>(p ρ).bind λd=>some (fz d)
@[simp] theorem pFz_e:pFz p ρ=(p ρ).bind λd=>some (fz d):=rfl
theorem jjJ(h:PP R te p):PB R te (pFz p):=by
 intro σ ρ Z H O d z s e Q k;unfold pFz at e;refine ob e λx b e=>?_;cases e;refine h z s b λ{v c f P} g r=>?_;exact k (P:=[]) g.fz (r.freeze (Z':=λa=>c a \/ a∈P) (λa z=>.inl z) λa z=>.inr z)
theorem QP.fzb(h:QP cl X e te pe):QB cl X e te (pFz pe):=⟨h.sem,jjJ h.den⟩
theorem Vu:∀(ks:List KA) (ws:List V) (js:List KA) (us:List V),js.length=us.length->ks.length=ws.length->(js++ks).Nodup ->
  ((ks.map kaV).zip ws).foldl (λa kv=>vC a kv.1 kv.2) ((js.map kaV).zip us)=((js++ks).map kaV).zip (us++ws)
 | [],ws,js,us,_,b,_=>by
  cases ws with
  | nil=>simp
  | cons _ _=>simp at b
 | k::ks,[],js,us,_,b,_=>by simp at b
 | k::ks,w::ws,js,us,c,b,d=>by
  have f:¬ k∈js:=λz=>(U8.mp d).2.2 k z k (by simp) rfl;have e:vC ((js.map kaV).zip us) (kaV k) w=((js++[k]).map kaV).zip (us++[w]):=by
   unfold vC;rw[VZ k c,X5 f,if_neg (by decide),N4,List.zip_append (by rw[L0];exact c)];rfl
  rw[L4,U6,U9];show List.foldl _ (vC ((js.map kaV).zip us) (kaV k) w) _=_;rw[e,Vu ks ws (js++[k]) (us++[w]) (by simp[c]) (by simpa using b) (by simpa using d)];simp
noncomputable def jgp:List KA->KA->Option Nat
 | [],_=>none
 | k::ks,a=>if k=a then some 0 else(jgp ks a).map (·+1)
theorem V2:∀{ks:List KA}{a:KA}{vs:List V}{j:Nat}{v:V},jgp ks a=some j->ks.length=vs.length->vs[j]?=some v->Y6 ((ks.map kaV).zip vs) (kaV a)=some v
 | [],_,_,_,_,h,_,_=>by cases h
 | k::ks,a,[],_,_,_,b,_=>by simp at b
 | k::ks,a,u::vs,j,v,h,b,c=>by
  rw[jgp] at h;by_cases e:k=a
  ·rw[if_pos e] at h;cases h;cases c;rw[L4,U6,e];exact qg rfl
  ·rw[if_neg e] at h;cases hp:jgp ks a with
   | none=>rw[hp] at h;cases h
   | some i =>
    rw[hp] at h;cases h;rw[L4,U6,k8 (λz=>e (YJ z))];exact V2 hp (by simpa using b) (by simpa using c)
noncomputable def Jr:List Str->List D->Str->Option D
 | n::ns,d::l,f=>if f=n then some d else Jr ns l f
 | _,_,_=>none
theorem QX:∀{ns:List Str}{l:List D}{vs:List V}{O:List Addr},Reps R Z H l vs O->ns.length=l.length->Jr ns l f=some d->∃ v P,(ns.zip vs).lookup f=some v/\Rep R Z H d v P
 | [],l,vs,O,_,_,h=>by cases l<;>cases h
 | n::ns,[],vs,O,_,a,_=>by simp at a
 | n::ns,x::l,vs,O,r,a,h=>by
  rw[Reps] at r;obtain⟨v,b,c,k,rfl,rfl,g,i⟩:=r;rw[Jr] at h;by_cases e:f=n
  ·rw[if_pos e] at h;cases h;exact⟨v,c,by rw[U6,List.lookup_cons,e];simp,g⟩
  ·rw[if_neg e] at h;obtain⟨w,P,j,e2⟩:=QX i (by simpa using a) h;refine⟨w,P,?_,e2⟩;rw[U6,List.lookup_cons];have:(f==n)=false:=by simp[e]
   rw[this];exact j
def Kw(c:Nat)(f:Str):D->Option D
 | .ins _ c' ns l=>bif c'==c then Jr ns l f else none
 | _=>none
@[simp] theorem fldOf_ins:Kw c f (.ins o c' ns l)=bif c'==c then Jr ns l f else none:=rfl
@[simp] def Y5(c:Nat)(f:Str)(po:PF)(ρ:Rh):Option D:=(po ρ).bind (Kw c f)
theorem jhi(i:Cls R.K (R.cls c))(j:NoAttr R.K (R.cls c) f)(h:PB R ta p):PB R (jcl R.K ta f) (Y5 c f p):=by
 intro σ ρ Z H O d z s e Q k;refine ob e λx m e=>?_;cases x with
 | ins o n ns l =>
  refine oc e λq r=>?_;obtain rfl:n=c:=by simpa using q
  refine h z s m λ{v D E F} t g=>?_;rw[Rep] at g;obtain⟨a,u,G,I,rfl,y,A,B,_⟩:=g;obtain⟨w,P,C,b⟩:=QX y A r;exact⟨a,_,u,_,w,rfl,B,i,j,C,k t b⟩
 | _=>cases e
noncomputable def qx:List Str->List D->Str->D->List Str×List D
 | n::ns,x::l,f,d=>if n=f then(n::ns,d::l) else(n::(qx ns l f d).1,x::(qx ns l f d).2)
 | _,_,f,d=>([f],[d])
theorem YS(rd:Rep R Z H d v P):∀{ns:List Str}{l:List D}{vs:List V}{O:List Addr},Reps R Z H l vs O->ns.length=l.length ->
  ∃ vs2 O2,Reps R Z H (qx ns l f d).2 vs2 O2/\(qx ns l f d).1.zip vs2=VA f v (ns.zip vs)/\(qx ns l f d).1.length=(qx ns l f d).2.length/\∀ c,O2.count c<=O.count c+P.count c
 | [],[],vs,O,r,_=>by
  rw[Reps] at r;obtain⟨rfl,rfl⟩:=r;exact⟨[v],P,.one rd,rfl,rfl,λc=>by simp⟩
 | [],_::_,_,_,_,a=>by simp at a
 | _::_,[],_,_,_,a=>by simp at a
 | n::ns,x::l,vs,O,r,a=>by
  rw[Reps] at r;obtain⟨u,b,h,O2,rfl,rfl,i,g⟩:=r;rw[qx];by_cases e:n=f
  ·rw[if_pos e];refine⟨v::b,P++O2,Reps.cons rd g,?_,a,λc=>by simp only[U7];lia⟩;rw[U6,U6,VA,if_pos e]
  ·rw[if_neg e];obtain⟨vs2,j,k,e3,m,o⟩:=YS (f:=f) rd g (by simpa using a);refine⟨u::vs2,h++j,Reps.cons i k,?_,by simp[m],λc=>by have:=o c;simp only[U7];lia⟩;rw[U6,U6,VA,if_neg e,e3]
@[simp] def qU(i:Nat)(c:Nat)(f:Str)(pv:PF)(ρ:Rh):Option Out:=(pv ρ).bind λd=>(pV i ρ).bind λt=>(K3 t).bind λy=>bif y.1==c&&decide (y.2.1.length<=900) then some (.nx (ρ.set i (some (.ins true c (qx y.2.1 y.2.2 f d).1 (qx y.2.1 y.2.2 f d).2)))) else none
theorem jad{l:List α}{m:List β}(h:decide (l.length<=900)=true):(l.zip m).length < 1000:=by
 rw[List.length_zip];have:=X6 h;exact E4 (Nat.min_le_left _ _) (by lia)
theorem jgH{R:RC}{pm:List Nat}{i c:Nat}{f:Str}{tv:TE}{pv:PF}(m:Cls R.K (R.cls c))(n:NoAttr R.K (R.cls c) f)(p:PP R tv pv):DS R pm (jjG R.K (kD i) tv f) (qU i c f pv):=by
 intro σ ρ Z H O o w s e J k;refine ob e λd r e=>ob e λt v e=>ob e λ⟨x,ns,l⟩ e2 e=>oc e λb e=>?_;cases e;cases qZ e2;rw[L9] at b;obtain rfl:x=c:=by simpa using b.1
 refine p w.zd s r λ{u L M N} j y=>?_;have g:=j.widen w;refine JJ Vy g.wf (j.slots w.zd s) v rfl ow_ins λa z P Q A h B C put=>C ?_;obtain⟨D,S,E,e3,F,G⟩:=YS (f:=f) y A h;obtain⟨T,g3,I⟩:=put ow_ins F (Go.id g.wf.zd) E λq=>by have:=G q;simp;lia
 refine⟨a,_,z,_,rfl,B,m,n,jad b.2,?_⟩;rw[<- e3];exact k (g.trans g3) I (Keep.refl _ _)
theorem jkl(b:Cls X.K (cl c))(d:NoAttr X.K (cl c) f)(a:QB cl X o to po)(e:attributeBase o f X.env (eval o X.env)=eval o X.env:=by rfl):QB cl X (.Attribute o f pos) (jcl X.K to f) (Y5 c f po):=⟨xi a.sem e,jhi (R:=⟨X.K,cl⟩) b d a.den⟩
theorem jhr(b:Cls X.K (cl c))(d:NoAttr X.K (cl c) f)(g:QB cl X (.Name x xpos) (kD i) (pV i))(a:QP cl X e te pe)(h:swapsWith e (some (.Attribute (.Name x xpos) f pos')) pos.line X.env=pure false:=by rfl) :
  QS cl pm X (.Assign [.Attribute (.Name x xpos) f pos'] e pos) (jjG X.K (kD i) te f) (qU i c f pe):=⟨jhu g.sem a.sem h,jgH (R:=⟨X.K,cl⟩) b d a.den⟩
noncomputable def jhw:List Str->Str->Option Nat
 | [],_=>none
 | n::ns,f=>if f=n then some 0 else(jhw ns f).map (·+1)
theorem zY:∀{ns:List Str}{f:Str}{vs:List V}{j:Nat}{v:V},jhw ns f=some j->ns.length=vs.length->vs[j]?=some v->(ns.zip vs).lookup f=some v
 | [],_,_,_,_,h,_,_=>by cases h
 | n::ns,f,[],_,_,_,a,_=>by simp at a
 | n::ns,f,u::vs,j,v,h,a,b=>by
  rw[jhw] at h;by_cases e:f=n
  ·rw[if_pos e] at h;cases h;cases b;rw[U6,List.lookup_cons,e];simp
  ·rw[if_neg e] at h;cases hp:jhw ns f with
   | none=>rw[hp] at h;cases h
   | some i =>
    rw[hp] at h;cases h;rw[U6,List.lookup_cons,show(f==n)=false by simp[e]];exact zY hp (by simpa using a) (by simpa using b)
theorem VL:∀{ns:List Str}{l:List D}{vs:List V},ns.length=l.length->vs.length=l.length->Jr ns l f=none->(ns.zip vs).lookup f=none
 | [],_,_,_,_,_=>rfl
 | n::ns,[],_,a,_,_=>by simp at a
 | n::ns,x::l,[],_,b,_=>by simp at b
 | n::ns,x::l,v::vs,a,b,h=>by
  rw[Jr] at h;by_cases e:f=n
  ·rw[if_pos e] at h;cases h
  ·rw[if_neg e] at h;rw[U6,List.lookup_cons,show(f==n)=false by simp[e]];exact VL (by simpa using a) (by simpa using b) h
@[simp] def vb(m:List D->Option (D×D))(i c:Nat)(mn:Str)(p:PAf)(ρ:Rh):Option (D×Rh):=(p ρ).bind λds=>(pV i ρ).bind λt=>(K3 t).bind λy=>bif y.1==c&&(frzs ds&&(Jr y.2.1 y.2.2 mn).isNone) then(m (t::ds)).bind λr=>some (r.1,ρ.set i (some r.2)) else none
theorem jbI(h:PPs R ta p)(S:∀ ρ ds,p ρ=some ds->ds.length+1=n):DE R (uN (R.cls c) mn (spM R m n 0) [] E0 (kD i) ta) (vb m i c mn p):=by
 intro σ ρ ρ' Z H O d w s e Q k;refine ob e λds F e=>ob e λy b e=>ob e λ⟨o,ns,l⟩ e3 e=>oc e λG e=>ob e λ⟨T,U⟩ e2 e=>?_;cases e;cases qZ e3;have b:=Jw b;rw[L9,L9] at G;obtain⟨q,r,t⟩:=G;obtain rfl:o=c:=by simpa using q
 have hi:=(L8.mp b).1;obtain⟨A0,P0,B0,_,k0,_,_⟩:=s.put hi;obtain⟨u,x,I⟩:=k0 _ b;rw[Rep] at I;obtain⟨a,V,vs,O',rfl,W,C,X,_⟩:=I;refine⟨.ref a,x,a,V,_,rfl,X,VL C W.length (Option.isNone_iff_eq_none.mp t),?_⟩;refine h w.zd s F λ{Y D J P1} K L=>?_;cases L.nil r;have f:Go Z H O D J O:=by simpa using K.widen w
 obtain⟨A,P,B,rfl,k1,k2,_⟩:=(K.slots w.zd s).put hi;obtain⟨u',g,rc⟩:=k1 _ b;rw[x] at g;cases g;have rr:Reps R D J (.ins true o ns l::ds) (.ref a::Y) P:=by
  have:=Reps.cons rc L;simpa using this
 refine⟨D,.ins true o ns l::ds,T,U,P,.ref a,f.wf.mid,by have:=S ρ ds F;simpa using this,by rw[M9];exact rr,rfl,e2,λ{v Z2 H2 P2 O2} j r2 E=>?_⟩;have g3:=j.frame f.wf;have M:=Go.keepA f.wf j;have N:=k2 E j.zz (λa z=>j.zH f.wf.mid a z) M.1 M.2;rw[vc x] at N;exact k (P:=P2) (f.trans g3).turn r2 N
noncomputable def jhy:D×D->Option D
 | (.non,t)=>some t
 | _=>none
@[simp] theorem nonOf_non(t:D):jhy (.non,t)=some t:=rfl
@[simp] def wJ(m:List D->Option (D×D))(c:Nat)(p:PAf)(ρ:Rh):Option D:=(p ρ).bind λds=>bif frzs ds then(m (.ins true c [] []::ds)).bind jhy else none
theorem je6(h:PPs R ta p)(B:∀ ρ ds,p ρ=some ds->ds.length+1=n):PP R (jfg (R.cls c) (spM R m n 0) [] E0 ta) (wJ m c p):=by
 intro σ ρ Z H O d z s e Q k;refine ob e λds r e=>oc e λC e=>ob e λ⟨x,t⟩ e2 e=>?_;cases x with
 | non =>
  cases e;refine h z s r λ{J D u K} f w=>?_;cases w.nil C;intro x b E g i;have y:=Go.newF (o:=.own x) (wf0 f.wf.zd) g;have j:upd u b (.own x) x=none:=by rw[jf (λe=>i e.symm)];exact E
  have F:=Go.newO (o:=.ins (R.cls c) b []) y.wf j;have l:=y.trans F;have G:=l.reps f.wf.zd w;have I:Rep R (λa=>D a \/ a=b) (upd (upd u b (.own x)) x (.ins (R.cls c) b [])) (.ins true c [] []) (.ref x) [x]:=by
   rw[Rep];exact⟨x,b,[],[],rfl,.empty,rfl,ju,rfl⟩
  refine⟨_,.ins true c [] []::ds,.non,d,[x],.ref x,l.wf,by have:=B ρ ds r;simpa using this,by rw[M9];have:=Reps.cons I G;simpa using this,rfl,e2,λ{v Z3 L M N} g3 A q=>?_⟩;rw[Rep] at A;obtain⟨rfl,rfl⟩:=A;exact⟨rfl,k (by simpa using(f.trans l).trans g3) q⟩
 | _=>cases e
section
variable {cl:Nat->Addr}{pm:List Nat}{X:Cx}{e:Expr}{es:List Expr}{tr:TA}{pr:PAf}{pos p apos:Pos}
structure MtFact(K:PySem.W.Frag)(C:Addr)(x qual:Str)(st:Stmt)(f:Addr)(fd:FuncData)(ps:List Str):Prop where
 fn:Fun K x qual st f fd
 mt:Meth K C x f
 bd:Binds K fd ps []
def OkM(P:Program)(w:World)(K:PySem.W.Frag)(mg:Str->Option Value)(C:Addr)(x qual:Str)(st:Stmt)(k:Nat)(ps:List Str)(sp:Sp):Prop:=∃ f fd,MtFact K C x qual st f fd ps/\∀ base,FnOk P w K mg base CX0 k f fd ps sp
theorem jfE{k n i c:Nat}{ps:List Str}{m:List D->Option (D×D)}{x mn qual:Str}{st:Stmt}{pl:Sem Bool}(g:Cls X.K (cl c))(O:OkM X.prog X.w X.K X.mg (cl c) mn qual st k ps (spM ⟨X.K,cl⟩ m n 0))(h:Room k X.A)(j:QB cl X (.Name x p) (kD i) (pV i))(d:QPs cl X (e::es) tr pr)(l:∀ ρ ds,pr ρ=some ds->ds.length+1=n)
  (a:starEach (e::es) X.env=(false,eval e X.env)::starEach es X.env:=by rfl) (b:(backTo pos (starEach es X.env)).any (·.1)=false:=by rfl)
  (o:eval (.Call (.Attribute (.Name x p) mn apos) (e::es) [] pos) X.env=(do
   let ov <- eval (.Name x p) X.env
   standAt apos.atName
   let (f,first) <- holding [ov] (getMethod ov mn pl)
   callWith pos f first (backTo pos (starEach (e::es) X.env)) (backToKw pos (keywordEach [] X.env))):=by rfl) :
  QE cl X (.Call (.Attribute (.Name x p) mn apos) (e::es) [] pos) (uN (cl c) mn (spM ⟨X.K,cl⟩ m n 0) [] E0 (kD i) tr) (vb m i c mn pr):=by
 obtain⟨_,_,F,G⟩:=O;exact⟨jaQ j.sem g F.mt (G _) h F.bd .nil jbS d.sem a b o,jbI (R:=⟨X.K,cl⟩) d.den l⟩
theorem jii{k n c:Nat}{ps:List Str}{m:List D->Option (D×D)}{x qual:Str}{st:Stmt}(f:PySem.W.makesIn X.K (cl c)=true)(g:PySem.W.keepIn X.K (.ref (cl c))=true)(O:OkM X.prog X.w X.K X.mg (cl c) "__init__" qual st k ps (spM ⟨X.K,cl⟩ m n 0))(h:Room (k+1) X.A)(i:X.mg x=some (.ref (cl c)))(d:QPs cl X (e::es) tr pr)(j:∀ ρ ds,pr ρ=some ds->ds.length+1=n)(l:Gl X x:=by rfl)
  (a:(x==("__debug__" : Str))=false:=by decide) (o:starEach (e::es) X.env=(false,eval e X.env)::starEach es X.env:=by rfl) (b:(backTo pos (starEach es X.env)).any (·.1)=false:=by rfl) :
  QP cl X (.Call (.Name x p) (e::es) [] pos) (jfg (cl c) (spM ⟨X.K,cl⟩ m n 0) [] E0 tr) (wJ m c pr):=by
 obtain⟨_,_,F,G⟩:=O;exact⟨jdO ⟨f,F.mt.at_,F.mt.fn,g⟩ (G _) h l i F.bd .nil jbS d.sem a o b,je6 (R:=⟨X.K,cl⟩) d.den j⟩
end
@[simp] def JH(m:List D->Option D)(c:Nat)(mn:Str)(po:PF)(p:PAf)(ρ:Rh):Option D:=(po ρ).bind λs=>(jjZ s).bind λy=>bif y.1==c&&(Jr y.2.1 y.2.2 mn).isNone then(p ρ).bind λds=>(m (fzs (s::ds))).bind λd=>bif frzs (s::ds)||yB d then some d else none else none
theorem jfr(r:PB R to po)(t:PBs R ta p)(u:∀ ρ ds,p ρ=some ds->ds.length+1=n):PP R (uN (R.cls c) mn (spP R m n) [] E0 to ta) (JH m c mn po p):=by
 intro σ ρ Z H O d z s e Q k;refine ob e λG v e=>ob e λ⟨w,ns,l⟩ e3 e=>oc e λg e=>ob e λds j e=>ob e λI e2 e=>oc e λx e=>?_;cases e;obtain⟨o,rfl⟩:=jek e3;rw[L9] at g;obtain rfl:w=c:=by simpa using g.1
 refine r z s v λ{J K L M} f q=>?_;have b:=q;rw[Rep] at b;obtain⟨a,y,A,N,rfl,B,h,C,_⟩:=b;exact⟨a,y,_,rfl,C,VL h B.length (Option.isNone_iff_eq_none.mp g.2),t f.wf.zd (f.slots z s) j λi D=>w8 i.wf.zd (Reps.cons (i.rep f.wf.zd q) D) (u ρ ds j) e2 x λE F=>k (by simpa using(f.pair i).pair E) F⟩
def JP(c:Nat)(f:Str)(L:Ln)(d:D):Option (D×(D->D)):=(L d).bind λy=>(K3 y.1).bind λq=>bif q.1==c then(jhw q.2.1 f).bind λj=>(q.2.2[j]?).bind λx=>some (x,λx'=>y.2 (.ins true q.1 q.2.1 (q.2.2.set j x'))) else none
theorem jh5(G:Cls R.K (R.cls c))(I:NoAttr R.K (R.cls c) f)(h:Qr R tb i L):Qr R (jcl R.K tb f) i (JP c f L):=by
 intro σ ρ Z H O d x k s hd e;refine ob e λ⟨y,k0⟩ J e=>ob e λ⟨M,ns,l⟩ e3 e=>oc e λN e=>ob e λj Q e=>ob e λx0 e2 e=>?_;cases e;cases qZ e3;obtain rfl:M=c:=by simpa using N
 obtain⟨v,A,P,B,rfl,r,S,T⟩:=h s hd J;rw[Rep] at r;obtain⟨a,t,U,O',rfl,w,n,z,rfl⟩:=r;obtain⟨u,V,W,X,C,rfl,Y,o⟩:=w.at e2;refine⟨u,A++(a::V),W,X++B,by simp,Y,λq=>S ⟨a,_,t,_,u,rfl,z,G,I,zY Q (by rw[w.length];exact n) C,q⟩,λ{Z' H' x' P''} r' D E p F=>?_⟩;have g:=o r' D E (λb m=>p b (by simp[m])) (λb m=>F b (by simp[m]));rw[vc C] at g;have s2:=T (ow_ins.mpr ⟨a,t,U,_,rfl,g,by rw[List.length_set];exact n,(p a (by simp)).trans z,rfl⟩) D E (λb m=>p b (by simp[m])) (λb m=>F b (by simp[m]));simpa using s2
def lIx(j:Int)(L:Ln):Ln:=λd=>(L d).bind λy=>match y.1 with
 | .tup l=>(ixN l.length j).bind λn=>(l[n]?).bind λx=>some (x,λx'=>y.2 (.tup (l.set n x')))
 | .lst true l=>(ixN l.length j).bind λn=>(l[n]?).bind λx=>some (x,λx'=>y.2 (.lst true (l.set n x')))
 | _=>none
theorem jkr(X:∀{σ:L2.St}{H:Hp}{Q:VK},Q (.int j) H->tj σ H Q)(h:Qr R tb i L):Qr R (tOp (rIx R.K) tb tj) i (lIx j L):=by
 intro σ ρ Z H O d x k s hd e;unfold lIx at e;refine ob e λy Y e=>?_;obtain⟨y,k0⟩:=y;dsimp only at e;split at e
 ·rename_i l;refine ob e λn G e=>ob e λx0 e2 e=>?_;cases e;obtain⟨v,A,P,B,rfl,r,I,J⟩:=h s hd Y;rw[Rep] at r;obtain⟨a,w,rfl,ft,z⟩:=r;obtain⟨u,C,M,D,E,rfl,N,g⟩:=z.at e2;refine⟨u,A++C,M,D++B,by simp,N,λq=>I (X (.inr (.inl ⟨a,w,j,u,rfl,rfl,ft.sq,jdx (by rw[z.length];exact G) E,q⟩))),λ{S T U m} V o p t F=>?_⟩;have c:=g V o p (λb f=>t b (by simp[f])) (λb f=>F b (by simp[f]));rw[vc E] at c;have rt:Rep R S T (.tup (l.set n U)) (.ref a) (C++m++D):=by
   rw[Rep];exact⟨a,w,rfl,ft.frame o p,c⟩
  have W:=J rt o p (λb f=>t b (by simp[f])) (λb f=>F b (by simp[f]));simpa using W
 ·rename_i l;refine ob e λn G e=>ob e λx0 e2 e=>?_;cases e;obtain⟨v,A,P,B,rfl,r,I,J⟩:=h s hd Y;rw[Rep] at r;obtain⟨a,w,O',rfl,z,ea,rfl⟩:=r;obtain⟨u,C,M,D,E,rfl,N,g⟩:=z.at e2;refine⟨u,A++(a::C),M,D++B,by simp,N,λq=>I (X (.inl ⟨a,w,j,u,rfl,rfl,SqL.of ea,jdx (by rw[z.length];exact G) E,q⟩)),λ{S T U m} V o p t F=>?_⟩;have c:=g V o p (λb f=>t b (by simp[f])) (λb f=>F b (by simp[f]));rw[vc E] at c;have rt:Rep R S T (.lst true (l.set n U)) (.ref a) (a::(C++m++D)):=by
   rw[Rep];exact⟨a,w,_,rfl,c,(t a (by simp)).trans ea,rfl⟩
  have W:=J rt o p (λb f=>t b (by simp[f])) (λb f=>F b (by simp[f]));simpa using W
 ·cases e
structure QL(cl:Nat->Addr)(X:Cx)(e:Expr)(tb:TE)(i:Nat)(L:Ln):Prop where
 sem:PE X e tb
 den:Qr ⟨X.K,cl⟩ tb i L
section
variable {cl:Nat->Addr}{pm:List Nat}{X:Cx}{o e j:Expr}{es:List Expr}{to te tb tj:TE}{po pe pj:PF}{tr:TA}{pr:PAf}{pos p apos:Pos}{L L':Ln}{i:Nat}
theorem jgM{k n c:Nat}{ps:List Str}{m:List D->Option D}{mn qual:Str}{st:Stmt}{pl:Sem Bool}(i:Cls X.K (cl c))(O:OkM X.prog X.w X.K X.mg (cl c) mn qual st k ps (spP ⟨X.K,cl⟩ m n))(j:Room k X.A)(g:QB cl X o to po)(a:QBs cl X (e::es) tr pr)(l:(e::es).length+1=n:=by rfl)
  (b:starEach (e::es) X.env=(false,eval e X.env)::starEach es X.env:=by rfl) (d:(backTo pos (starEach es X.env)).any (·.1)=false:=by rfl)
  (p:eval (.Call (.Attribute o mn apos) (e::es) [] pos) X.env=(do
   let ov <- eval o X.env
   standAt apos.atName
   let (f,first) <- holding [ov] (getMethod ov mn pl)
   callWith pos f first (backTo pos (starEach (e::es) X.env)) (backToKw pos (keywordEach [] X.env))):=by rfl) :
  QP cl X (.Call (.Attribute o mn apos) (e::es) [] pos) (uN (cl c) mn (spP ⟨X.K,cl⟩ m n) [] E0 to tr) (JH m c mn po pr):=by
 obtain⟨_,_,F,G⟩:=O;exact⟨jaQ g.sem i F.mt (G _) j F.bd .nil jbS a.sem b d p,jfr (R:=⟨X.K,cl⟩) g.den a.den λρ q h=>by rw[a.n ρ q h];exact l⟩
theorem jdg{x:Str}(a:QB cl X (.Name x p) (kD i) (pV i)):QL cl X (.Name x p) (kD i) i jK:=⟨a.sem,Vy⟩
theorem jgy{c:Nat}{f:Str}(a:Cls X.K (cl c))(b:NoAttr X.K (cl c) f)(h:QL cl X o tb i L)(d:attributeBase o f X.env (eval o X.env)=eval o X.env:=by rfl):QL cl X (.Attribute o f pos) (jcl X.K tb f) i (JP c f L) :=
 ⟨xi h.sem d,jh5 (R:=⟨X.K,cl⟩) a b h.den⟩
theorem jjv{z:Int}{j2}{a:Pos}(h:QL cl X o tb i L)(b:VO (.Constant (.int z) j2 a):=by exact λ_ _=>rfl):QL cl X (.Subscript o (.Constant (.int z) j2 a) pos) (tOp (rIx X.K) tb (tC (.int z))) i (lIx z L) :=
 ⟨jhj jdC h.sem jdq b,jkr (R:=⟨X.K,cl⟩) (λq=>q) h.den⟩
theorem jfR{cpos:Pos}(f:QL cl X o tb i L)(h:QP cl X e te pe)(b:attributeBase o "append" X.env (eval o X.env)=eval o X.env:=by rfl)
  (d:((backTo cpos (starEach [e] X.env)).all (λx=>!x.1)&&(backToKw cpos (keywordEach [] X.env)).all (λx=>x.1.isSome)
   && decide ([e].length+([]:List Keyword).length+(if([]:List Keyword).isEmpty then 0 else 1) < 30))=true:=by rfl)
  (c:(apos.endLine==cpos.line)=true:=by rfl) (g:starEach [e] X.env=(false,eval e X.env)::starEach [] X.env:=by rfl) (a:(backTo cpos (starEach [] X.env)).any (·.1)=false:=by rfl)
  (hsw:swapsWith (.Call (.Attribute o "append" apos) [e] [] cpos) none pos.line X.env=pure false:=by rfl) :
  QS cl pm X (.Expr (.Call (.Attribute o "append" apos) [e] [] cpos) pos) (V1 (tBM X.K "list" qQ tb (yc te Y7))) (jQ i L pe) :=
 ⟨VS (jcy PySem.F.plainAttrs_list PySem.F.slot_list_append PySem.F.type_list_append Je f.sem (jG h.sem vO g) b d c g a) hsw,uT (R:=⟨X.K,cl⟩) f.den h.den⟩
end
def jlc(R:RC)(tk:TE)(pk:Rh->Option (List KA)):Prop:=∀{σ:L2.St}{ρ:Rh}{Z:Zn}{H:Hp}{O:List Addr}{k:List KA},Zd Z H->Slots R Z H ρ σ O->pk ρ=some k ->
 ∀{Q:VK},(∀{p:Addr}{Z':Zn}{H':Hp},Go Z H [] Z' H' []->Z' p->H' p=some (.tup ((k.map kaV).map kV))->Q (.ref p) H')->tk σ H Q
structure QK3(cl:Nat->Addr)(X:Cx)(e:Expr)(tk:TE)(pk:Rh->Option (List KA)):Prop where
 sem:PE X e tk
 den:jlc ⟨X.K,cl⟩ tk pk
section
variable {R:RC}{Z Z' Z2:Zn}{H H' H2:Hp}{pm:List Nat}
theorem jaZ(rd:Rep R Z H d v P)(a:KA)  (r:Reps R Z H l vs O) (b:ks.length=l.length) (c:a∉ks) :
  Reps R Z H (v5 ks l a d).2 (vs++[v]) (O++P)/\(((v5 ks l a d).1).map kaV).zip (vs++[v])=vC ((ks.map kaV).zip vs) (kaV a) v/\(v5 ks l a d).1.length=(v5 ks l a d).2.length:=by
 have e:ks.length=vs.length:=by rw[r.length];exact b
 unfold v5 vC;rw[VZ a e,if_neg c,X5 c,if_neg (λz=>(nomatch z))];refine⟨r.append (Reps.one rd),?_,by simp[b]⟩;rw[N4,List.zip_append (by simpa using e)];rfl
def ya(i:Nat)(L:Ln)(pk pv:PF)(ρ:Rh):Option Out:=(pv ρ).bind λd=>(pV i ρ).bind λt=>(L t).bind λy=>(jbv y.1).bind λkl=>(pk ρ).bind λq=>(vy q).bind λa=>bif lim kl.1.length&&(frz d||!decide (a∈kl.1)) then some (.nx (ρ.set i (some (y.2 (.dK true (v5 kl.1 kl.2 a d).1 (v5 kl.1 kl.2 a d).2))))) else none
theorem jcW{i:Nat}{L:Ln}{tb ty tv:TE}{pk pv:PF}(E:Qr R tb i L)(F:PB R ty pk)(G:PP R tv pv):DS R pm (jac tb ty tv) (ya i L pk pv):=by
 intro σ ρ Z H O o w s e D' k;refine ob e λd I e=>ob e λt hi e=>ob e λ⟨y,k0⟩ e3 e=>ob e λ⟨g,l⟩ J e=>ob e λq K e=>ob e λc e5 e=>oc e λA e=>?_;cases e;cases VU J;rw[L9] at A;refine G w.zd s I λ{u Z1 H1 M} h C=>?_;have s1:=h.slots w.zd s;have D:=h.widen w;refine JJ E D.wf s1 hi e3 ow_dK λa _ N P Q j S T put=>T (F h.wf.zd s1 K λ{z U V P2} x W=>?_);obtain⟨rfl,_⟩:=yW e5 W;have m:=x.rep h.wf.zd C;have n:=x.reps h.wf.zd Q;have B:∃ b p,Reps R U V (v5 g l c d).2 b p/\(((v5 g l c d).1).map kaV).zip b=vC ((g.map kaV).zip N) (kaV c) u/\(∀ q,p.count q<=P.count q+M.count q)/\(v5 g l c d).1.length=(v5 g l c d).2.length:=by
  cases hf:frz d with
  | true =>
   cases C.nil hf;obtain⟨b,p,r,v,X,f⟩:=VH m c n j;exact⟨b,p,r,v,λq=>by simpa using X.count_le q,f⟩
  | false =>
   have Y:c∉g:=by
    have:=A.2;rw[hf] at this;simpa using this
   obtain⟨r,v,f⟩:=jaZ m c n j Y;exact⟨_,_,r,v,λq=>by rw[U7];exact M8 _,f⟩
 obtain⟨b,p,r,v,cn,f⟩:=B;obtain⟨O3,g3,s3⟩:=put ow_dK f x r λq=>by simpa using cn q
 refine⟨a,_,rfl,DPut.k (x.at0 S) (Kb A.1),?_⟩;rw[<- v];exact k (D.trans g3) s3 (Keep.refl _ _)
def YA(i:Nat)(L:Ln)(c:Nat)(f:Str)(g:Int->Int->Int)(pv:PF)(ρ:Rh):Option Out:=(pV i ρ).bind λt=>(L t).bind λy=>(K3 y.1).bind λq=>(Jr q.2.1 q.2.2 f).bind λm=>(y4 m).bind λm=>(pv ρ).bind λn=>(y4 n).bind λn =>
 bif q.1==c&&decide (q.2.1.length<=900) then some (.nx (ρ.set i (some (y.2 (.ins true c (qx q.2.1 q.2.2 f (.int (g m n))).1 (qx q.2.1 q.2.2 f (.int (g m n))).2))))) else none
theorem jb4{i c:Nat}{f:Str}{L:Ln}{tb tv:TE}{pv:PF}{g:Int->Int->Int}{rd:V->V->Hp->VK->Prop}(d:∀{m n:Int}{H:Hp}{Q:VK},Q (.int (g m n)) H->rd (.int m) (.int n) H Q)(C:Cls R.K (R.cls c))(D:NoAttr R.K (R.cls c) f)(E:Qr R tb i L)(F:PB R tv pv):DS R pm (zv R.K tb tv rd f) (YA i L c f g pv):=by
 intro σ ρ Z H O o w s e D' k;refine ob e λt hi e=>ob e λ⟨y,k0⟩ e3 e=>ob e λ⟨G,ns,l⟩ I e=>ob e λx J e=>ob e λm M e=>ob e λx' N e=>ob e λn e2 e=>oc e λh e=>?_;cases e;cases qZ I;cases ym M;cases ym e2;rw[L9] at h;obtain rfl:G=c:=by simpa using h.1
 refine JJ (P0:=[]) E w s hi e3 ow_ins λa z vs O' A b B P put=>?_;obtain⟨mv,P3,j,p⟩:=QX A b J;obtain⟨rfl,_⟩:=p.int_of;refine P ⟨a,_,z,_,_,rfl,B,C,D,j,F w.zd s N λ{u Z2 H2 P4} r S=>?_⟩;obtain⟨rfl,_⟩:=S.int_of;obtain⟨T,O2,U,W,v,X⟩:=YS (f:=f) (Rep.int_mk (i:=g m n)) (r.reps w.zd A) b;obtain⟨O3,g3,Y⟩:=put ow_ins v r U λq=>by simpa using X q
 refine d ⟨z,_,r.at0 B,jad h.2,?_⟩;rw[<- W];exact k g3 Y (Keep.refl _ _)
end
section
variable {cl:Nat->Addr}{pm:List Nat}{X:Cx}{o b e:Expr}{to tb te:TE}{po pb pe:PF}{pos p fp tpos:Pos}{k i:Nat}{L:Ln}
theorem jbR(f:Room k X.A)(a:QL cl X o to i L)(c:QB cl X b tb pb)(d:QP cl X e te pe)(g:swapsWith e (some (.Subscript o b pos')) pos.line X.env=pure false:=by rfl) :
  QS cl pm X (.Assign [.Subscript o b pos'] e pos) (jac to tb te) (ya i L pb pe):=⟨jaC (K9 f) a.sem c.sem d.sem g,jcW (R:=⟨X.K,cl⟩) a.den c.den d.den⟩
theorem ux(f:Room k X.A)(a:QL cl X o to i L)(c:QB cl X b tb pb)(d:QB cl X e te pe)
  (g:∀ ov iv new,augStore b ov iv new=(do holding [new,ov,iv] (setItem ov iv new);release [new,ov,iv] [];pure .next):=by intro _ _ _;rfl) :
  QS cl pm X (.AugAssign (.Subscript o b tpos) .Sub e pos) (jbi to tb te ji1) (Jk i L pb (λm n=>m - n) pe):=⟨jaJ (K9 f) a.sem c.sem d.sem jaB g,jb0 (R:=⟨X.K,cl⟩) (λq=>⟨_,_,rfl,rfl,q⟩) a.den c.den d.den⟩
theorem u5{c:Nat}{f:Str}(d:Cls X.K (cl c))(g:NoAttr X.K (cl c) f)(a:QL cl X o to i L)(b:QB cl X e te pe) :
  QS cl pm X (.AugAssign (.Attribute o f tpos) .Sub e pos) (zv X.K to te ji1 f) (YA i L c f (λm n=>m - n) pe):=⟨jaU a.sem b.sem jaB,jb4 (R:=⟨X.K,cl⟩) (λq=>⟨_,_,rfl,rfl,q⟩) d g a.den b.den⟩
end
namespace QK
end QK
section
variable {R:RC}{Z Z':Zn}{H H':Hp}{pm:List Nat}
def jM(m:List D->Option (D×D))(i:Nat)(L:Ln)(p:PAf)(ρ:Rh):Option (D×Rh):=(pV i ρ).bind λt=>(L t).bind λy=>(p ρ).bind λds=>bif frzs ds then(m (y.1::ds)).bind λr=>some (r.1,ρ.set i (some (y.2 r.2))) else none
theorem jba(x:Qr R tb i L)(C:PPs R tr p)(D:∀ ρ ds,p ρ=some ds->ds.length+1=n):DE R (x6 (spM R m n 0) [] E0 (yc tb tr)) (jM m i L p):=by
 intro σ ρ V Z H O d w s e Q k;refine ob e λt hi e=>ob e λ⟨y,k0⟩ e3 e=>ob e λds l e=>oc e λE e=>ob e λ⟨F,G⟩ e2 e=>?_;cases e;obtain⟨v,A,P,B,rfl,r,I,J⟩:=x s (Jw hi) e3;refine I ?_;refine C w.zd s l λ{K g o W} b q=>?_;cases q.nil E;have c:Go Z H (A++P++B) g o (A++P++B):=by simpa using b.widen w
 have M:=b.rep w.zd r;have N:Reps R g o (y::ds) (v::K) P:=by
  have:=Reps.cons M q;simpa using this
 refine⟨g,y::ds,F,G,P,v,c.wf.mid,by have:=D ρ ds l;simpa using this,by rw[M9];exact N,rfl,e2,λ{X Y H2 S O2} f T j=>?_⟩;have g3:=f.frame c.wf;have u:=Go.keepA c.wf f;have U:=J j (λa z=>f.zz a (b.zz a z)) (λa z=>(f.zH c.wf.mid a (b.zz a z)).trans (b.same a (w.zd a z))) (λa h=>(u.1 a h).trans (b.same a (w.od a (by simp[h])))) (λa h=>(u.2 a h).trans (b.same a (w.od a (by simp[h]))));exact k (P:=S) (c.trans g3).turn T U
def jbT(i:Nat)(pa pb:PF)(g:Int->Int->Int)(pv:PF):FS:=λρ=>(pV i ρ).bind λx=>(jgm x).bind λp=>(jbw pa pb ρ).bind λa=>(Qh p.1 p.2 a).bind λy=>(y4 y).bind λm=>(pv ρ).bind λz=>(y4 z).bind λn =>
 bif lim p.1.length then some (.nx (ρ.set i (some (.dT true (Kg p.1 p.2 a (.int (g m n))).1 (Kg p.1 p.2 a (.int (g m n))).2)))) else none
theorem jfH{i:Nat}{ta tb tv:TE}{pa pb pv:PF}{g:Int->Int->Int}{rd:V->V->Hp->VK->Prop}(p:∀{m n:Int}{H:Hp}{Q:VK},Q (.int (g m n)) H->rd (.int m) (.int n) H Q)(F:PB R ta pa)(G:PB R tb pb)(I:PB R tv pv):DS R pm (jbi (kD i) (jcs ta tb) tv rd) (jbT i pa pb g pv):=by
 intro σ ρ Z H O o w s e Y k;refine ob e λx J e=>ob e λ⟨ks,l⟩ K e=>ob e λc e2 e=>ob e λy e3 e=>ob e λm L e=>ob e λz M e=>ob e λn N e=>oc e λf e=>?_;cases e;cases uP K;cases ym L;cases ym N;refine JJ (P0:=[]) Vy w s J rfl jbU λa _ vs O' C h D P put=>P (J9 F G w.zd s e2 λ{b Z2 H2} j zb E=>?_);obtain⟨mv,P3,r,v⟩:=(J5 (a:=c) C h).1 _ e3;obtain⟨rfl,_⟩:=v.int_of;refine⟨a,.int m,rfl,by rw[<- r];exact DGet.t (j.at0 D) E,I j.wf.zd (j.slots w.zd s) M λ{u Z3 H3 P4} g3 S=>?_⟩;obtain⟨rfl,_⟩:=S.int_of;have d:=j.trans g3;obtain⟨T,O2,A,U,W,B⟩:=Ka (Rep.int_mk (i:=g m n)) c (d.reps w.zd C) h;obtain⟨O3,g4,X⟩:=put jbU B d A λq=>by simpa using W.count_le q
 refine p ⟨_,DPut.t (d.at0 D) (g3.at0 E) (Kb f),?_⟩;rw[<- U];exact k g4 X (Keep.refl _ _)
end
section
variable {cl:Nat->Addr}{pm:List Nat}{X:Cx}{o e:Expr}{es:List Expr}{to te:TE}{po pe:PF}{tr:TA}{pr:PAf}{pos p:Pos}{i:Nat}{L:Ln}
theorem jcu{k n:Nat}{ps:List Str}{m:List D->Option (D×D)}{x:Str}{st:Stmt}(O:OkF X.prog X.w X.K X.mg x st k ps (spM ⟨X.K,cl⟩ m n 0))(f:Room k X.A)
  (c:QL cl X o to i L) (d:QPs cl X es tr pr) (g:∀ ρ ds,pr ρ=some ds->ds.length+1=n) (h:Gl X x:=by rfl) (a:(x==("__debug__" : Str))=false:=by decide)
  (e:starEach (o::es) X.env=(false,eval o X.env)::starEach es X.env:=by rfl) (b:(backTo pos (starEach es X.env)).any (·.1)=false:=by rfl):QE cl X (.Call (.Name x p) (o::es) [] pos) (x6 (spM ⟨X.K,cl⟩ m n 0) [] E0 (yc to tr)) (jM m i L pr):=by
 obtain⟨_,_,F,G⟩:=O;exact⟨jhK F (G _) f (jG c.sem d.sem e) h a e b,jba (R:=⟨X.K,cl⟩) c.den d.den g⟩
theorem jbE{a b:Expr}{ta tb:TE}{pa pb:PF}{x:Str}{x1}{k:Nat}{c kpos tpos:Pos}(h:Room k X.A)(j:QB cl X (.Name x c) (kD i) (pV i))(d:QB cl X a ta pa)(f:QB cl X b tb pb)(g:QB cl X e te pe)
  (l:∀ ov iv new,augStore (.Tuple [a,b] x1 kpos) ov iv new=(do holding [new,ov,iv] (setItem ov iv new);release [new,ov,iv] [];pure .next):=by intro _ _ _;rfl)
  (h1:starEach [a,b] X.env=(false,eval a X.env)::starEach [b] X.env:=by rfl) (h2:starEach [b] X.env=(false,eval b X.env)::starEach [] X.env:=by rfl) :
  QS cl pm X (.AugAssign (.Subscript (.Name x c) (.Tuple [a,b] x1 kpos) tpos) .Sub e pos) (jbi (kD i) (jcs ta tb) te ji1) (jbT i pa pb (λm n=>m - n) pe) :=
 ⟨jaJ (K9 h) j.sem (Jd (jG d.sem (jG f.sem vO h2) h1)) g.sem jaB l,jfH (R:=⟨X.K,cl⟩) (λq=>⟨_,_,rfl,rfl,q⟩) d.den f.den g.den⟩
theorem jcb(e:Room k X.A)(c:QB cl X a ta pa)(d:QB cl X b tb pb)(f:behindInMarks .NotIn b=false:=by with_unfolding_all rfl):QP cl X (.Compare a [.NotIn] [b] pos) (V3 ta tb) (p2 (QR true) pa pb) :=
 ⟨jhc (uv (K9 e) c.sem d.sem) f,um c.den d.den⟩
end
section
variable {R:RC}{Z Z':Zn}{H H':Hp}{pm:List Nat}
def VR(K:PySem.W.Frag):List V->Hp->VK->Prop:=(λxs H Q=>∃(p:Addr) (ys:List V) (ps:List (List Key×Addr×V)),xs=[.ref p]/\SqL K H p ys/\ys.length=ps.length/\ps.length<=100000 /\
  (∀(j:Nat) (y:V),ys[j]?=some y->∃ kv t,ps[j]?=some kv/\y=.ref t/\SqT K H t [.ref kv.2.1,kv.2.2]/\H kv.2.1=some (.tup (kv.1.map kV)))/\∀ D,H D=none->Q (.ref D) (upd H D (.dT (ps.foldl (λa kv=>vC a kv.1 kv.2.2) []))))
def PK(R:RC)(te:TE)(pk:Rh->Option (List KA))(pv:PF):Prop:=∀{σ:L2.St}{ρ:Rh}{Z:Zn}{H:Hp}{O:List Addr}{c:List KA}{d:D},Zd Z H->Slots R Z H ρ σ O->pk ρ=some c->pv ρ=some d->frz d=true ->
 ∀{Q:VK},(∀{t b:Addr}{u:V}{Z':Zn}{H':Hp},Go Z H [] Z' H' []->Z' t->Z' b->H' t=some (.tup [.ref b,u])->H' b=some (.tup ((c.map kaV).map kV))->Rep R Z' H' d u []->Q (.ref t) H')->te σ H Q
theorem jjo{ta tb tv:TE}{pa pb pv:PF}(q:PB R ta pa)(r:PB R tb pb)(v:PB R tv pv):PK R (zM (yc (jcs ta tb) (yc tv Y7))) (jbw pa pb) pv:=by
 intro σ ρ Z H O c d z s w e2 x Q k;unfold zM yc;refine J9 q r z s w λ{b A B} j y m=>?_;refine v j.wf.zd (j.slots z s) e2 λ{u n i C} f o=>?_;cases o.nil x;refine⟨by show 2<=sizeLine;decide,λt p=>?_⟩;have l:=j.trans f;have g:i b=some (.tup ((c.map kaV).map kV)):=by rw[f.same b (by rw[m];exact λz=>(nomatch z))];exact m
 have gN:Go n i [] (λa=>n a \/ a=t) (upd i t (.tup [.ref b,u])) []:=Go.newF (wf0 f.wf.zd) p;have ne:∀ a,i a≠none->a≠t:=λa h e=>h (e▸p);refine k (l.trans gN) (.inr rfl) (.inl (f.zz b y)) ju ?_ (gN.rep f.wf.zd o);rw[jf (ne b (by rw[g];exact λz=>(nomatch z)))];exact g
def KP(g:D->Rh->Option Rh)(q:PTf)(pk:Rh->Option (List KA))(pv:PF):List D->Rh->Option (List (List KA×D))
 | [],_=>some []
 | x::xs,ρ=>(g x ρ).bind λρ1=>(q ρ1).bind λb=>bif b then(pk ρ1).bind λc=>(pv ρ1).bind λd=>bif frz d then(KP g q pk pv xs ρ1).bind λr=>some ((c,d)::r) else none else KP g q pk pv xs ρ1
def jfM(ps:List (List KA×D)):List (List KA)×List D:=ps.foldl (λacc kv=>Kg acc.1 acc.2 kv.1 kv.2) ([],[])
@[simp] def xM(pi:PAf)(g:D->Rh->Option Rh)(q:PTf)(pk:Rh->Option (List KA))(pv:PF)(ix:List (Option Nat))(ρ:Rh):Option D:=(pi ρ).bind λxs=>bif lim xs.length then(KP g q pk pv xs (jL ix ρ)).bind λall=>some (.dT true (jfM all).1 (jfM all).2) else none
structure KvAt(R:RC)(Z:Zn)(H:Hp)(ys:List (List KA×D))(vs:List V)(ps:List (List Key×Addr×V)):Prop where
 l:vs.length=ps.length
 i:∀(j:Nat) (v:V),vs[j]?=some v->∃ kv t,ps[j]?=some kv/\v=.ref t/\H t=some (.tup [.ref kv.2.1,kv.2.2])/\H kv.2.1=some (.tup (kv.1.map kV))
 k:ps.map (·.1)=ys.map λy=>y.1.map kaV
 r:Reps R Z H (ys.map (·.2)) (ps.map (·.2.2)) []
theorem KvAt.mono(h:KvAt R Z H ys vs ps)(zz:∀ a,Z a->Z' a)(e:∀ a,Z a->H' a=H a)(th:∀ a xs,H a=some (.tup xs)->H' a=some (.tup xs)):KvAt R Z' H' ys vs ps :=
 ⟨h.l,λj v f=>by obtain⟨g,t,a,b,c,d⟩:=h.i j v f;exact⟨g,t,a,b,th _ _ c,th _ _ d⟩,h.k,h.r.frame zz e λa m=>(nomatch m)⟩
theorem KvAt.snoc(h:KvAt R Z H ys vs ps)  (m:H t=some (.tup [.ref b,u])) (n:H b=some (.tup ((c.map kaV).map kV))) (r:Rep R Z H d u []) :
  KvAt R Z H (ys++[(c,d)]) (vs++[.ref t]) (ps++[(c.map kaV,b,u)]):=by
 refine⟨by simp[h.l],λj v e=>?_,by simp[h.k],?_⟩
 ·by_cases g:j < vs.length
  ·rw[List.getElem?_append_left g] at e;obtain⟨o,p,a,b',q,s⟩:=h.i j v e;exact⟨o,p,by rw[List.getElem?_append_left (by rw[<- h.l];exact g)];exact a,b',q,s⟩
  ·have f:=(L8.mp e).1;have:j=vs.length:=by simp at f;lia
   subst this;rw[List.getElem?_concat_length] at e;cases e;exact⟨(c.map kaV,b,u),t,by rw[h.l,List.getElem?_concat_length],rfl,m,n⟩
 ·rw[N4,N4];have:=h.r.append (Reps.one r);simpa using this
inductive CpK (R:RC) (g:D->Rh->Option Rh) (q:PTf) (pk:Rh->Option (List KA)) (pv:PF) (Z0:Zn) (H0:Hp) (a:Addr) (xs:List D) (all:List (List KA×D)) (i m:Nat) (σ2:L2.St) (H2:Hp):Prop
 | mk:m=xs.length - i->i<=xs.length->∀(ρ2:Rh) (Z2:Zn) (O2:List Addr) (ys:List (List KA×D)) (vs:List V) (ps:List (List Key×Addr×V)) (rest:List (List KA×D)),Go Z0 H0 [] Z2 H2 [a]->H2 a=some (.lst vs)->KvAt R Z2 H2 ys vs ps->(∀ b∈O2,b≠a)->Slots R Z2 H2 ρ2 σ2 O2->KP g q pk pv (xs.drop i) ρ2=some rest->all=ys++rest->ys.length<=i->CpK R g q pk pv Z0 H0 a xs all i m σ2 H2
theorem wK{tg:TG}{tc:TT}{te:TE}{g:D->Rh->Option Rh}{q:PTf}{pk:Rh->Option (List KA)}{pv:PF}{ix:List (Option Nat)}(hg:PGt R [] tg g)(hq:PTt R tc q)(he:PK R te pk pv)
  {J:It}{w:Zn}{o:Hp}{ρ:Rh}{σ:L2.St}{O:List Addr}{xs:List D}{all:List (List KA×D)}(I:Zd w o) (s:Slots R w o ρ σ O) (it:ItB R J w o xs) (hl:lim xs.length=true) (e2:KP g q pk pv xs (jL ix ρ)=some all)
  {Q:VK}(k:∀{a:Addr}{Z':Zn}{H':Hp}{vs:List V}{ps:List (List Key×Addr×V)},Go w o [] Z' H' [a]->H' a=some (.lst vs)->KvAt R Z' H' all vs ps->all.length<=xs.length->Q (.ref a) H'):∀ a,o a=none->xE tc te tg J a (yJ ix σ) (upd o a (.lst [])) λH2=>Q (.ref a) H2:=by
 intro a ha;obtain⟨Oi,si⟩:=qE s ix;have gp:Go w o [] w (upd o a (.lst [])) [a]:=Go.newO (wf0 I) ha;refine⟨CpK R g q pk pv w o a xs all,
  ⟨xs.length,rfl,U4 _,_,w,Oi,[],[],[],all,gp,ju,⟨rfl,λj v hv=>by simp at hv,rfl,Reps.empty⟩,λb y e=>si.dom b y (e▸ha),gp.slots I si,e2,rfl,M8 _⟩,?_⟩
 rintro i m σ2 H2 ⟨rfl,Y,ρ2,Z2,O2,T,vs,ps,rest,p,K,L,Z,s2,e3,U,E⟩;have M:=it (Z1:=Z2) (H1:=H2) p.zz (λb z=>p.same b z) p.wf.zd i;by_cases F:i < xs.length
 ·right
  have H:xs[i]?=some xs[i]:=by simp[F]
  obtain⟨go,yl⟩:=M.2 _ H;refine⟨go,λu H3 hy=>?_⟩;obtain⟨Z3,g3,r3⟩:=yl u H3 hy;rw[vx H] at e3;unfold KP at e3;refine ob e3 λρ3 e5 e3=>?_;refine hg r3 (g3.slots p.wf.zd s2) e5 λ{σ4 O4} sub nd W _=>?_;refine ob e3 λb e6 e3=>?_;refine hq g3.wf.zd W e6 λ{Z5 H5} N=>?_;have h:=g3.pair N;cases b with
  | true =>
   refine jgh ?_;rw[cond_true] at e3;refine ob e3 λc e7 e3=>ob e3 λd e8 e3=>oc e3 λhf e3=>ob e3 λys2 e9 e3=>?_;cases e3;refine he N.wf.zd (N.slots g3.wf.zd W) e7 e8 hf λ{t b u G C} g6 zt zb et eb r6=>?_;have r:Go Z2 H2 [] G C []:=by simpa using h.pair g6
   have P:C a=some (.lst vs):=by rw[r.same a (by rw[K];exact λz=>(nomatch z))];exact K
   have ry6:KvAt R G C T vs ps:=L.mono r.zz (λx H=>r.same x (p.wf.zd x H)) λx zs ex=>by rw[r.same x (by rw[ex];exact λz=>(nomatch z))];exact ex
   have hvl:vs.length < sizeLine:=by
    have h1:=congrArg List.length L.k;rw[L0,L0] at h1;rw[L.l,h1];exact Kp (n:=T.length) (X4 (N6 E (N6 Y (X6 hl))))
   have X:Go w o [] G C [a]:=by
    have f:=r.frame (A:=[a]) (B:=[]) (by simpa using p.wf);exact p.trans (by simpa using f)
   have w6:=X.wf;have gB:Go G C [a] G (upd C a (.lst (vs++[.ref t]))) [a]:=Go.put w6 L6;have S:∀ b,G b->upd C a (.lst (vs++[.ref t])) b=C b:=λb y=>jf λz=>w6.nz a L6 (z▸y);refine⟨vs,P,hvl,xs.length - (i+1),by lia,rfl,F,ρ3,G,O4,T++[(c,d)],vs++[.ref t],ps++[(c.map kaV,b,u)],ys2,X.trans gB,ju,?_,λb y=>Z b (sub b y),?_,e9,by rw[U];simp,by rw[N3];exact Nat.add_le_add_right E 1⟩
   ·exact(ry6.snoc et eb r6).mono (λ_ z=>z) S λx zs ex=>by rw[jf (λz=>by rw[z,P] at ex;cases ex)];exact ex
   ·exact((N.pair g6).slots g3.wf.zd W).frame (λb z=>z) S λb y=>jf (Z b (sub b y))
  | false =>
   refine jgi ?_;rw[cond_false] at e3;have X:Go w o [] Z5 H5 [a]:=by
    have f:=h.frame (A:=[a]) (B:=[]) (by simpa using p.wf);exact p.trans (by simpa using f)
   exact⟨xs.length - (i+1),by lia,rfl,F,ρ3,Z5,O4,T,vs,ps,rest,X,by rw[h.same a (by rw[K];exact λz=>(nomatch z))];exact K,L.mono h.zz (λx H=>h.same x (p.wf.zd x H)) (λx zs ex=>by rw[h.same x (by rw[ex];exact λz=>(nomatch z))];exact ex),λb y=>Z b (sub b y),N.slots g3.wf.zd W,e3,U,Nat.le_succ_of_le E⟩
 ·left
  have hi2:i=xs.length:=by lia
  refine⟨M.1 (by lia),?_⟩;rw[hi2,List.drop_length] at e3;cases e3;rw[M9] at U;subst U;exact k p K L (by lia)
theorem Qj:∀{ps:List (List KA×D)}{ws:List (List Key×Addr×V)}{ks:List (List KA)}{l:List D}{us:List V},ws.map (·.1)=ps.map (λy=>y.1.map kaV)->Reps R Z H (ps.map (·.2)) (ws.map (·.2.2)) []->Reps R Z H l us []->ks.length=l.length ->
  ∃ us',Reps R Z H (ps.foldl (λacc kv=>Kg acc.1 acc.2 kv.1 kv.2) (ks,l)).2 us' []/\(((ps.foldl (λacc kv=>Kg acc.1 acc.2 kv.1 kv.2) (ks,l)).1).map (List.map kaV)).zip us'=(ws.foldl (λa kv=>vC a kv.1 kv.2.2) ((ks.map (List.map kaV)).zip us)) /\
   (ps.foldl (λacc kv=>Kg acc.1 acc.2 kv.1 kv.2) (ks,l)).1.length=(ps.foldl (λacc kv=>Kg acc.1 acc.2 kv.1 kv.2) (ks,l)).2.length
 | [],[],ks,l,us,_,_,r,c=>⟨us,r,by simp,c⟩
 | [],w::ws,ks,l,us,h,_,_,_=>by simp at h
 | p::ps,[],ks,l,us,h,_,_,_=>by simp at h
 | p::ps,w::ws,ks,l,us,j,b,r,c=>by
  rw[L4,L4,Reps] at b;obtain⟨v,k,A,B,m,e,n,o⟩:=b;obtain⟨rfl,rfl⟩:=List.append_eq_nil_iff.mp e.symm;obtain⟨rfl,rfl⟩:=List.cons.inj m;rw[L4,L4] at j;obtain⟨d,f⟩:=List.cons.inj j;obtain⟨q,s,t,e3,u,g⟩:=Ka n p.1 r c;have:s=[]:=List.sublist_nil.mp u;subst this;obtain⟨us',x,z,i⟩:=Qj (ps:=ps) f o t g;refine⟨us',x,?_,i⟩;rw[U9,U9,z,e3,d]
theorem jcU{wi:TI}{tg:TG}{tc:TT}{te:TE}{pi:PAf}{g:D->Rh->Option Rh}{q:PTf}{pk:Rh->Option (List KA)}{pv:PF}{ix:List (Option Nat)}(hi:jhB R wi pi)(G:PGt R [] tg g)(I:PTt R tc q)(L:PK R te pk pv) :
  PP R (tCB (VR R.K) (yc (Qv wi tg tc te ix) Y7)) (xM pi g q pk pv ix):=by
 intro σ ρ Z H O d z s e Q k;rw[xM] at e;refine ob e λxs M e=>oc e λE e=>ob e λall e2 e=>?_;cases e;unfold tCB yc;refine hi z s M λ{J N P} m S=>?_;refine wK (Q:=λv f=>VR R.K [v] f Q) G I L m.wf.zd (m.slots z s) S E e2 λ{a T f U n} o V c p=>?_;obtain⟨u,W,X,A⟩:=Qj (ps:=all) (ks:=[]) (l:=[]) (us:=[]) c.k c.r .empty rfl;have B:n.length=all.length:=by have:=congrArg List.length c.k;simpa using this
 refine⟨a,U,n,rfl,SqL.of V,c.l,?_,λj y Y=>?_,λD F=>?_⟩
 ·rw[B];exact N6 p (X6 E)
 ·obtain⟨w,t,e5,e6,e7,e8⟩:=c.i j y Y;exact⟨w,t,e5,e6,SqT.of e7,e8⟩
 ·have C:Go N P [] T f []:=o.drop (λ_ h=>(nomatch h)) List.nodup_nil;refine k ((m.trans C).trans (Go.newO (wf0 o.wf.zd) F)) ?_;have ne:∀ b,f b≠none->b≠D:=λb h e=>h (e▸F);rw[Rep];refine⟨D,u,[],rfl,W.frame (λa z=>z) (λb h=>jf (ne b (o.wf.zd b h))) (λa h=>(nomatch h)),A,?_,rfl⟩;rw[ju];exact congrArg (λx=>some (HO.dT x)) X.symm
end
section
variable {cl:Nat->Addr}{pm:List Nat}{X:Cx}{tg iter elt:Expr}{ifs:List Expr}{wi:TI}{pi:PAf}{t:TG}{g:D->Rh->Option Rh}{te:TE}{pk:Rh->Option (List KA)}{pv:PF}{pos cpos p:Pos}
structure QKv(cl:Nat->Addr)(X:Cx)(e:Expr)(te:TE)(pk:Rh->Option (List KA))(pv:PF):Prop where
 sem:PE X e te
 den:PK ⟨X.K,cl⟩ te pk pv
theorem qkv{a b v:Expr}{ta tb tv:TE}{pa pb pv:PF}{x1 x2}{p1 p2:Pos}(c:QB cl X a ta pa)(d:QB cl X b tb pb)(e:QB cl X v tv pv)
  (h1:starEach [a,b] X.env=(false,eval a X.env)::starEach [b] X.env:=by rfl) (h2:starEach [b] X.env=(false,eval b X.env)::starEach [] X.env:=by rfl)
  (f:starEach [.Tuple [a,b] x1 p1,v] X.env=(false,eval (.Tuple [a,b] x1 p1) X.env)::starEach [v] X.env:=by rfl) (g:starEach [v] X.env=(false,eval v X.env)::starEach [] X.env:=by rfl) :
  QKv cl X (.Tuple [.Tuple [a,b] x1 p1,v] x2 p2) (zM (yc (jcs ta tb) (yc tv Y7))) (jbw pa pb) pv :=
 ⟨Jd (jG (Jd (jG c.sem (jG d.sem vO h2) h1)) (jG e.sem vO g) f),jjo (R:=⟨X.K,cl⟩) c.den d.den e.den⟩
theorem jd0{k:Nat}{scope:Scope}{N':List Str}{ix:List (Option Nat)}{a:TT}{f:PTf}(l:Room k X.A)(m:X.mg "dict" = none)(n:bootBuiltins "dict" = some (.type "dict"))(B:BlockOk X scope N' ix)(h:X.calm=true)(hi:QIb cl X tg iter wi pi)
  (i:∀ C s H fp,QG cl [] (yp X scope N' C s H fp) tg t g) (b:∀ C s H fp,QIf cl (yp X scope N' C s H fp) ifs a f) (j:∀ C s H fp,QKv cl (yp X scope N' C s H fp) elt te pk pv)
  (d:Gl X "dict":=by rfl) (o:∀ x,foldedSetIterable iter X.env x=pure x:=by intro _;rfl)
  (c:starEach [.ListComp elt [⟨tg,iter,ifs,0⟩] scope cpos] X.env=(false,eval (.ListComp elt [⟨tg,iter,ifs,0⟩] scope cpos) X.env)::starEach [] X.env:=by rfl) (e:(backTo pos (starEach [] X.env)).any (·.1)=false:=by rfl) :
  QP cl X (.Call (.Name "dict" p) [.ListComp elt [⟨tg,iter,ifs,0⟩] scope cpos] [] pos) (tCB (VR X.K) (yc (Qv wi t a te ix) Y7)) (xM pi g f pk pv ix) :=
 ⟨K4 (r:=VR X.K) (Q2 h (by have:=l.un;lia)) d m n (jG (jaH B h hi.sem (λC s H fp=>(i C s H fp).sem) (λC s H fp=>(b C s H fp).sem) (λC s H fp=>(j C s H fp).sem) o) vO c) (by decide) (by decide) c e,
  jcU (R:=⟨X.K,cl⟩) hi.den (i 0 X.s₀ X.H₀ []).den (b 0 X.s₀ X.H₀ []).den (j 0 X.s₀ X.H₀ []).den⟩
end
end QD
namespace L2
open PySem PySem.Spec PyProof.Rows
theorem uo(h:Vals ys its):Vals (Y0 lt ys .non) (Y0 lt its Value.none):=by
 have b:=h.length;unfold Y0;rw[<- b];split
 ·exact h
 ·generalize(kEv lt (PySem.W.kas_sort ys.length)).toList=l;have get:∀(ys:List V) (its:List Value),Vals ys its->∀ i,RelV (ys.getD i .non) (its.getD i Value.none):=by
   intro ys its h
   induction h with
   | nil=>intro i;simp;rfl
   | cons c _ a =>
    intro i;cases i with
    | zero=>exact c
    | succ i=>exact a i
  induction l with
  | nil=>exact .nil
  | cons i l a=>exact .cons (get ys its h i) a
def jao(K:PySem.W.Frag):List V->Hp->VK->Prop:=λxs H Q=>∃(p:Addr) (ys:List V) (rs:List ut),xs=[.ref p]/\SqL K H p ys/\ys.length=rs.length/\ys.length < 64 /\
 (∀(j:Nat) (y:V),ys[j]?=some y->∃ r t,rs[j]?=some r/\y=.ref t/\SqT K H t [.str r.1,.str r.2.1,.int r.2.2])/\∀ D,H D=none->Q (.ref D) (upd H D (.lst (Y0 (λi j=>KM (rs.getD i ("","",0)) (rs.getD j ("","",0))) ys .non)))
theorem jbX(h:Vals ys its):∀(j:Nat) (v:Value),its[j]?=some v->∃ y,ys[j]?=some y/\RelV y v:=by
 induction h with
 | nil=>intro j v e;simp at e
 | @cons y u ys c a _ b =>
  intro j v e;cases j with
  | zero=>cases e;exact⟨y,rfl,a⟩
  | succ j=>exact b j v (by simpa using e)
theorem Qg:Jt X (.builtin "sorted") (jao X.K):=by
 intro C s σ H xs us Q I r h;obtain⟨p,D,d,rfl,F,hl,hz,G,q⟩:=h;obtain⟨u,rfl,J⟩:=r.one;cases J;obtain⟨b,f,⟨o,n,e,g,L,k⟩,_⟩:=I.list F;have M:b.length=D.length:=f.length.symm;refine JW (rs:=d) (vs:=b) ⟨o,e,g,n,k⟩ (by lia) (by lia) (λj v N=>?_) λh' c O P=>?_
 ·obtain⟨y,R,S⟩:=jbX f j v N;obtain⟨r,t,T,rfl,l⟩:=G j y R;cases(show v=Value.ref t from S);obtain⟨E,U,⟨V,e2,m,W,w⟩,_⟩:=I.tuple l;cases U with
  | cons Y Z =>
   cases Z with
   | cons k3 k4 =>
    cases k4 with
    | cons k5 k6 =>
     cases k6;rename_i v1 v2 v3;obtain⟨x,rfl⟩:=(show ∃ x,v1=Value.str r.1 x from Y);obtain⟨z,rfl⟩:=(show ∃ z,v2=Value.str r.2.1 z from k3);obtain⟨A,rfl⟩:=(show ∃ A,v3=Value.int r.2.2 A from k5);exact⟨r,T,t,V,W,x,z,A,rfl,e2,m,w⟩
 ·have B:=I.hok.fresh (Nat.le_succ s.heap.objs.size);refine⟨.ref (s.heap.objs.size+1),_,I.laid (a:=s.heap.objs.size+1) (o:=.lst (Y0 (λi j=>KM (d.getD i ("","",0)) (d.getD j ("","",0))) D .non)) (t':=s.toks) O (Nat.le_succ _) ⟨?_,_,c,uo f,P⟩,rfl,q _ B⟩;rw[z6];have:sizeLine=16777216:=by decide
  lia
end L2
namespace QD
open PySem L2 PySem.Spec PyProof.Rows
noncomputable def jf4:D->Option (List Nat)
 | .str s=>some s
 | _=>none
theorem xG{d:D}{n:List Nat}(h:jf4 d=some n):d=.str n:=by cases d<;>cases h<;>rfl
noncomputable def jkE:List D->Option (D×D×D)
 | [x,y,z]=>some (x,y,z)
 | _=>none
theorem jea{l:List D}{p:D×D×D}(h:jkE l=some p):l=[p.1,p.2.1,p.2.2]:=by
 match l with
 | [_,_,_]=>cases h;rfl
def jlk(d:D):Option ut:=(je3 d).bind λt=>(jkE t).bind λp=>(jf4 p.1).bind λa=>(jf4 p.2.1).bind λb=>(y4 p.2.2).bind λn=>some (S a,S b,n)
def wm:List D->Option (List ut)
 | []=>some []
 | d::l=>(jlk d).bind λx=>(wm l).bind λr=>some (x::r)
def Kv(rs:List ut)(l:List D):List D:=Y0 (λi j=>KM (rs.getD i ("","",0)) (rs.getD j ("","",0))) l .non
def Yd:List D->Option D
 | [.lst _ l]=>(wm l).bind λrs=>bif decide (l.length < 64) then some (.lst true (Kv rs l)) else none
 | _=>none
@[simp] theorem fSorted_e(o:Bool)(l:List D):Yd [.lst o l]=(wm l).bind λrs=>bif decide (l.length < 64) then some (.lst true (Kv rs l)) else none:=rfl
theorem KR:∀{l:List D}{rs:List ut}{ys:List V}{O:List Addr},wm l=some rs->Reps R Z H l ys O->O=[]/\ys.length=rs.length/\∀(j:Nat) (y:V),ys[j]?=some y->∃ r t,rs[j]?=some r/\y=.ref t/\SqT R.K H t [.str r.1,.str r.2.1,.int r.2.2]
 | [],rs,ys,O,e,r=>by
  cases e;rw[Reps] at r;obtain⟨rfl,rfl⟩:=r;exact⟨rfl,rfl,λj y g=>by simp at g⟩
 | d::l,rs,ys,O,e,r=>by
  refine ob e λx c e=>ob e λk e2 e=>ob c λt m c=>ob c λq o c=>ob c λa p c=>ob c λb s c=>ob c λn u c=>?_;cases e;cases c;rw[Reps,jbF m,jea o,xG p,xG s,ym u] at r;obtain⟨J,v,L,M,rfl,rfl,h,w⟩:=r;obtain⟨rfl,z,q⟩:=KR e2 w;have A:=h.nil (by rfl);subst A;rw[Rep] at h;obtain⟨t,N,rfl,B,f⟩:=h;rw[Reps] at f;obtain⟨P,C,Q,T,rfl,U,E,i⟩:=f;obtain⟨W,X,Y,P4,rfl,F,G,I⟩:=i.two_of;obtain⟨rfl,_⟩:=E.str_of;obtain⟨rfl,_⟩:=G.str_of;obtain⟨rfl,_⟩:=I.int_of;refine⟨rfl,by simp[z],λj y g=>?_⟩;cases j with
  | zero=>cases g;exact⟨(S a,S b,n),t,rfl,rfl,B.sq⟩
  | succ j=>exact q j y (by simpa using g)
theorem u9(r:Reps R Z H l vs [])(a:List Nat):Reps R Z H (a.map λi=>l.getD i .non) (a.map λi=>vs.getD i .non) []:=by
 have get:∀(l:List D) (vs:List V),Reps R Z H l vs []->∀ i,Rep R Z H (l.getD i .non) (vs.getD i .non) []:=by
  intro l
  induction l with
  | nil =>
   intro vs r i;rw[Reps] at r;obtain⟨rfl,_⟩:=r;simp;exact .non_mk
  | cons d l b =>
   intro vs r i;rw[Reps] at r;obtain⟨v,c,h,j,rfl,e,f,g⟩:=r;obtain⟨rfl,rfl⟩:=List.append_eq_nil_iff.mp e.symm;cases i with
   | zero=>exact f
   | succ i=>exact b c g i
 induction a with
 | nil=>exact .empty
 | cons i a b=>exact Reps.cons (O:=[]) (P:=[]) (get l vs r i) b
theorem u4:BC R (jao R.K) Yd:=by
 intro Z H n d y O z r e Q k
 match n,e,r with
 | [.lst o l],e,r =>
  simp only[Yd] at e;refine ob e λc s e=>oc e λf e=>?_;cases e;have f:=X6 f;obtain⟨v,rfl,t⟩:=r.one_of;obtain⟨p,g,A,rfl,u,b⟩:=t.lst_of;obtain⟨rfl,w,q⟩:=KR s b;refine⟨p,g,c,rfl,u.sq,w,by rw[b.length];exact f,q,λD m=>?_⟩;refine k (Go.newO (wf0 z) m) ?_;have ne:∀ a,H a≠none->a≠D:=λa h e=>h (e▸m);have x:Reps R Z H (Kv c l) (Y0 (λi j=>KM (c.getD i ("","",0)) (c.getD j ("","",0))) g .non) []:=by
   unfold Kv Y0;rw[b.length];split
   ·exact b
   ·exact u9 b _
  rw[Rep];exact⟨D,_,[],rfl,x.frame (λa z=>z) (λa h=>jf (ne a (z a h))) (λa h=>(nomatch h)),ju,rfl⟩
theorem Ky:bootBuiltins "sorted" = some (.builtin "sorted"):=by boot_fast
theorem wT:(Kv rs l).Perm l:=by
 unfold Kv Y0;split
 ·exact List.Perm.refl _
 ·rename_i h;have a:=(zl (lt:=λi j=>KM (rs.getD i ("","",0)) (rs.getD j ("","",0))) (n:=l.length) (by lia)).2;refine(a.map λi=>l.getD i .non).trans ?_;have:(List.range l.length).map (λi=>l.getD i .non)=l:=by
   apply List.ext_getElem
   ·simp
   ·intro i c b;simp[List.getD_eq_getElem?_getD,X8 b]
  rw[this]
noncomputable def two2:List KA->Option (KA×KA)
 | [a,b]=>some (a,b)
 | _=>none
def QZ:List (List KA)->List D->Option (List D)
 | [],[]=>some []
 | k::ks,d::l=>(two2 k).bind λp=>(y4 d).bind λn=>(QZ ks l).bind λr=>some (bif decide (0 < n) then .tup [kaD p.1,kaD p.2,.int n]::r else r)
 | _,_=>none
@[simp] def dPos(i:Nat)(ρ:Rh):Option (D×Rh):=(pV i ρ).bind λt=>(jgm t).bind λp=>bif lim p.1.length then(QZ p.1 p.2).bind λr=>some (.lst true r,ρ.set i none) else none
section
variable {R:RC}{Z Z':Zn}{H H':Hp}{pm:List Nat}
inductive CpP (R:RC) (Z0:Zn) (H0:Hp) (a:Addr) (ks:List (List KA)) (l all:List D) (i m:Nat) (σ2:L2.St) (H2:Hp):Prop
 | mk:m=ks.length - i->i<=ks.length->σ2.length=2->∀(Z2:Zn) (ys:List D) (vs:List V) (rest:List D),Go Z0 H0 [] Z2 H2 [a]->H2 a=some (.lst vs)->Reps R Z2 H2 ys vs []->QZ (ks.drop i) (l.drop i)=some rest->all=ys++rest->ys.length<=i->CpP R Z0 H0 a ks l all i m σ2 H2
end
theorem Ke:∀{ns:List Str}{l:List D}{vs:List V}{O:List Addr},Reps R Z H l vs O->ns.length=l.length->Jr ns l f=some d->∃ v P,(ns.zip vs).lookup f=some v/\Rep R Z H d v P/\∀ q,P.count q<=O.count q
 | [],l,vs,O,_,_,h=>by cases l<;>cases h
 | n::ns,[],vs,O,_,a,_=>by simp at a
 | n::ns,x::l,vs,O,r,a,h=>by
  rw[Reps] at r;obtain⟨v,b,c,k,rfl,rfl,g,i⟩:=r;rw[Jr] at h;by_cases e:f=n
  ·rw[if_pos e] at h;cases h;exact⟨v,c,by rw[U6,List.lookup_cons,e];simp,g,λq=>by rw[U7];lia⟩
  ·rw[if_neg e] at h;obtain⟨w,P,j,e2,e3⟩:=Ke i (by simpa using a) h;refine⟨w,P,?_,e2,λq=>by have:=e3 q;rw[U7];lia⟩;rw[U6,List.lookup_cons,show(f==n)=false by simp[e]];exact j
theorem xr(j:f≠g):∀{ns:List Str}{l:List D}{vs:List V}{O:List Addr},Reps R Z H l vs O->ns.length=l.length->Jr ns l f=some d->Jr ns l g=some c ->
  ∃ v P w Q,(ns.zip vs).lookup f=some v/\(ns.zip vs).lookup g=some w/\Rep R Z H d v P/\Rep R Z H c w Q/\∀ q,P.count q+Q.count q<=O.count q
 | [],l,vs,O,_,_,h,_=>by cases l<;>cases h
 | n::ns,[],vs,O,_,m,_,_=>by simp at m
 | n::ns,x::l,vs,O,r,m,h,k=>by
  rw[Reps] at r;obtain⟨v,u,s,A,rfl,rfl,t,p⟩:=r;rw[Jr] at h k;by_cases e:f=n
  ·have i:g≠n:=λz=>j (e.trans z.symm);rw[if_pos e] at h;rw[if_neg i] at k;cases h;obtain⟨w,Q,o,e2,e3⟩:=Ke p (by simpa using m) k;refine⟨v,s,w,Q,by rw[U6,List.lookup_cons,e];simp,?_,t,e2,λq=>by have:=e3 q;rw[U7];lia⟩;rw[U6,List.lookup_cons,show(g==n)=false by simp[i]];exact o
  ·rw[if_neg e] at h;by_cases i:g=n
   ·rw[if_pos i] at k;cases k;obtain⟨w,Q,o,e2,e3⟩:=Ke p (by simpa using m) h;refine⟨w,Q,v,s,?_,by rw[U6,List.lookup_cons,i];simp,e2,t,λq=>by have:=e3 q;rw[U7];lia⟩;rw[U6,List.lookup_cons,show(f==n)=false by simp[e]];exact o
   ·rw[if_neg i] at k;obtain⟨a,P,b,Q,o,e2,e3,y,e5⟩:=xr j p (by simpa using m) h k;refine⟨a,P,b,Q,?_,?_,e3,y,λq=>by have:=e5 q;rw[U7];lia⟩
    ·rw[U6,List.lookup_cons,show(f==n)=false by simp[e]];exact o
    ·rw[U6,List.lookup_cons,show(g==n)=false by simp[i]];exact e2
@[simp] def jgl(i:Nat)(c:Nat)(f:Str)(g:Str)(pe:PF)(ρ:Rh):Option (D×Rh):=(pV i ρ).bind λt=>(K3 t).bind λy=>bif y.1==c&&!decide (f=g) then(Jr y.2.1 y.2.2 f).bind λa=>(Jr y.2.1 y.2.2 g).bind λb=>(pe ρ).bind λr=>some (.tup [a,r,b],ρ.set i none) else none
theorem jiH(U:Cls R.K (R.cls c))(hf:NoAttr R.K (R.cls c) f)(hg:NoAttr R.K (R.cls c) g)(he:PP R te pe):DE R (zM (yc (jcl R.K (kD i) f) (yc te (yc (jcl R.K (kD i) g) Y7)))) (jgl i c f g pe):=by
 intro σ ρ ρ' Z H O d w s e Q k;refine ob e λt e1 e=>ob e λ⟨c',ns,l⟩ e2 e=>oc e λF e=>ob e λa e3 e=>ob e λb e4 e=>ob e λr e5 e=>?_;cases e;cases qZ e2;have W:=Jw e1;rw[L9] at F;obtain rfl:c'=c:=by simpa using F.1
 have G:f≠g:=by simpa using F.2
 obtain⟨A,P,B,rfl,k1,_,k3⟩:=s.put (L8.mp W).1;obtain⟨v,X,Y⟩:=k1 _ W;rw[Rep] at Y;obtain⟨x,dx,vs,I,rfl,rs,J,ea,rfl⟩:=Y;obtain⟨m,Pf,n,Pg,lf,lg,rf,rg,cn⟩:=xr G rs J e3 e4;unfold zM yc;refine⟨.ref x,X,x,_,dx,_,m,rfl,ea,U,hf,lf,?_⟩;refine he w.zd s e5 λ{p o j u} C r1=>?_;have L:=C.at0 ea;refine⟨.ref x,X,x,_,dx,_,n,rfl,L,U,hg,lg,by show 3<=sizeLine;decide,λq hq=>?_⟩;have M:=C.widen w;have gN:Go o j (u++(A++(x::I)++B)) (λy=>o y \/ y=q) (upd j q (.tup [m,p,n])) (u++(A++(x::I)++B)):=Go.newF M.wf hq;have ne:∀ y,j y≠none->y≠q:=λy h e=>h (e▸hq);have zn:∀ y,o y->upd j q (.tup [m,p,n]) y=j y:=λy E=>jf (ne y (M.wf.zd y E));have N:=C.rep w.zd rf;have S:=C.rep w.zd rg;have T:∀{d:D}{v:V}{Pd:List Addr},Rep R o j d v Pd->Rep R (λy=>o y \/ y=q) (upd j q (.tup [m,p,n])) d v Pd:=λrr=>rr.frame (λ_ z=>.inl z) zn λy E=>jf (ne y (rr.dom y E));have s1:=(C.slots w.zd k3);have s2:Slots R (λy=>o y \/ y=q) (upd j q (.tup [m,p,n])) (ρ.set i none) σ (A++B):=s1.frame (λ_ z=>.inl z) zn λy E=>jf (ne y (s1.dom y E));have le:∀ y,((Pf++(u++Pg))++(A++B)).count y<=(u++(A++(x::I)++B)).count y:=λy=>by
  have:=cn y;simp only[U7,List.count_cons];lia
 refine k (P:=Pf++(u++Pg)) ((M.trans gN).drop (Yk le) (qW le gN.wf.nd)) ?_ s2;rw[Rep];refine⟨q,[m,p,n],rfl,.inl ⟨.inr rfl,.inl ju⟩,?_⟩;have:=Reps.cons (T N) (Reps.cons (T r1) (Reps.one (T S)));simpa using this
theorem jkd{cl:Nat->Addr}{X:Cx}{e:Expr}{te:TE}{pe:PF}{pos p:Pos}{i k:Nat}{x f g:Str}{x1}{p2 b a:Pos}(m:Cls X.K (cl k))(n:NoAttr X.K (cl k) f)(o:NoAttr X.K (cl k) g)(q:QB cl X (.Name x p) (kD i) (pV i))(l:QP cl X e te pe)(c:QB cl X (.Name x p2) (kD i) (pV i))
  (r:attributeBase (.Name x p) f X.env (eval (.Name x p) X.env)=eval (.Name x p) X.env:=by rfl) (d:attributeBase (.Name x p2) g X.env (eval (.Name x p2) X.env)=eval (.Name x p2) X.env:=by rfl)
  (s:starEach [.Attribute (.Name x p) f b,e,.Attribute (.Name x p2) g a] X.env=(false,eval (.Attribute (.Name x p) f b) X.env)::starEach [e,.Attribute (.Name x p2) g a] X.env:=by rfl)
  (h:starEach [e,.Attribute (.Name x p2) g a] X.env=(false,eval e X.env)::starEach [.Attribute (.Name x p2) g a] X.env:=by rfl)
  (j:starEach [.Attribute (.Name x p2) g a] X.env=(false,eval (.Attribute (.Name x p2) g a) X.env)::starEach [] X.env:=by rfl) :
  QE cl X (.Tuple [.Attribute (.Name x p) f b,e,.Attribute (.Name x p2) g a] x1 pos) (zM (yc (jcl X.K (kD i) f) (yc te (yc (jcl X.K (kD i) g) Y7)))) (jgl i k f g pe) :=
 ⟨Jd (jG (xi q.sem r) (jG l.sem (jG (xi c.sem d) vO j) h) s),jiH (R:=⟨X.K,cl⟩) m n o l.den⟩
end QD
namespace QD
open PySem L2
end QD
namespace L2
open PySem PySem.Spec PyProof.Rows
end L2
namespace QD
open PySem L2 PySem.Spec PyProof.Rows
mutual
noncomputable def pln:D->Bool
 | .tup l=>ji0 l
 | .non=>true | .bl _=>true | .int _=>true | .str _=>true
 | .lst _ _=>false | .dK _ _ _=>false | .dT _ _ _=>false | .ins _ _ _ _=>false | .dead=>false | .tok _=>false | .exc _ _=>false
noncomputable def ji0:List D->Bool
 | []=>true
 | d::l=>pln d&&ji0 l
end
section
variable {R:RC}{Z Z':Zn}{H H':Hp}{pm:List Nat}
mutual
theorem Rep.cutA{a:Addr}(ha:∀ vs,¬ Rd H a (.tup vs))(hH:∀ b,b≠a->H' b=H b):∀{d:D}{v:V}{O:List Addr},pln d=true->Rep R Z H d v O->Rep R (λb=>Z b/\b≠a) H' d v O
 | .non,_,_,_,r=>by rw[Rep] at r ⊢;exact r
 | .bl _,_,_,_,r=>by rw[Rep] at r ⊢;exact r
 | .int _,_,_,_,r=>by rw[Rep] at r ⊢;exact r
 | .str _,_,_,_,r=>by rw[Rep] at r ⊢;exact r
 | .tup l,_,_,h,r=>by
  rw[pln] at h;rw[Rep] at r ⊢;obtain⟨p,vs,e,t,r⟩:=r;refine⟨p,vs,e,?_,Reps.cutA ha hH h r⟩;rcases t with⟨z,t⟩ | t
  ·have ne:p≠a:=λq=>ha vs (q▸t);exact .inl ⟨⟨z,ne⟩,Rd.agree (hH p ne) t⟩
  ·exact .inr t
 | .lst _ _,_,_,h,_=>by rw[pln] at h;cases h
 | .dK _ _ _,_,_,h,_=>by rw[pln] at h;cases h
 | .dT _ _ _,_,_,h,_=>by rw[pln] at h;cases h
 | .ins _ _ _ _,_,_,h,_=>by rw[pln] at h;cases h
 | .dead,_,_,h,_=>by rw[pln] at h;cases h
 | .tok _,_,_,h,_=>by rw[pln] at h;cases h
 | .exc _ _,_,_,h,_=>by rw[pln] at h;cases h
theorem Reps.cutA{a:Addr}(ha:∀ vs,¬ Rd H a (.tup vs))(hH:∀ b,b≠a->H' b=H b):∀{l:List D}{vs:List V}{O:List Addr},ji0 l=true->Reps R Z H l vs O->Reps R (λb=>Z b/\b≠a) H' l vs O
 | [],_,_,_,r=>by rw[Reps] at r ⊢;exact r
 | d::l,_,_,h,r=>by
  rw[ji0,L9] at h;rw[Reps] at r ⊢;obtain⟨v,vs',O1,O2,e1,e2,r1,r2⟩:=r;exact⟨v,vs',O1,O2,e1,e2,Rep.cutA ha hH h.1 r1,Reps.cutA ha hH h.2 r2⟩
end
end
def jkK(K:PySem.W.Frag)(mg:Str->Option Value)(x:Str)(st:Stmt)(ps:List Str):Prop:=∃ f fd,FnFact K mg x x st f fd ps
def jk0(K:PySem.W.Frag)(C:Addr)(x qual:Str)(st:Stmt)(ps:List Str):Prop:=∃ f fd,MtFact K C x qual st f fd ps
section
variable {K:PySem.W.Frag}{mg:Str->Option Value}{h:Heap}{x qual:Str}{st:Stmt}{ps:List Str}{a C:Addr}{od an:Option Addr}{sl:Array (Option Value)}{oc kV dc pm cd ct:Value}
theorem hasF(X:K.In h)(G:h.Ns mainGlobals mg)(c:PySem.W.nsIn K mainGlobals x=some (some (.ref a)))(e2:K.lookup a=some ⟨oc,od,.func (PySem.W.fnOf x x (kX st) (vA st) (jz st) .none kV dc pm an cd ct),sl⟩)(e3:PySem.W.codeIn K cd x=true)(b:PySem.W.keepIn K (.ref a)=true)
  (d:∀(kV doc pm:Value) (an:Option Addr) (cdv ct:Value) (us:List Value),us.length=ps.length->bindArgs (PySem.W.fnOf x x (kX st) (vA st) (jz st) .none kV doc pm an cdv ct) ⟨us,[]⟩=pure (ps.zip us)):jkK K mg x st ps:=⟨_,_,xN e2 e3 b,PySem.W.mg_of X G c,(xN e2 e3 b).binds d⟩
theorem hasM(c:PySem.W.findIn K (.ref C) x=some (some (.ref a)))(e5:PySem.W.isFn K (.ref a)=true)(e2:K.lookup a=some ⟨oc,od,.func (PySem.W.fnOf x qual (kX st) (vA st) (jz st) .none kV dc pm an cd ct),sl⟩)(e3:PySem.W.codeIn K cd qual=true)(b:PySem.W.keepIn K (.ref a)=true)
  (d:∀(kV doc pm:Value) (an:Option Addr) (cdv ct:Value) (us:List Value),us.length=ps.length->bindArgs (PySem.W.fnOf x qual (kX st) (vA st) (jz st) .none kV doc pm an cdv ct) ⟨us,[]⟩=pure (ps.zip us)):jk0 K C x qual st ps:=⟨_,_,xN e2 e3 b,⟨c,e5,b⟩,(xN e2 e3 b).binds d⟩
end
theorem fsc{N ps:List Str}{sc:Scope}(a:sc.kind=.function:=by rfl)(b:sc.isCoroutine=false:=by rfl)(c:sc.isGenerator=false:=by rfl)(d:N.Nodup:=by decide +kernel)(e:N.take ps.length=ps:=by rfl)
  (f:∀ x∈ps,sc.names.lookup x=some .local \/ sc.names.lookup x=some .cell:=by decide +kernel) (g:∀ y∈sc.names,y.2≠.free:=by decide +kernel):FnScope N ps sc:=⟨a,b,c,d,e,f,g⟩
def kF(K:PySem.W.Frag)(mg:Str->Option Value)(x:Str)(st:Stmt)(N:List Str)(n:Nat):Prop:=FnScope N (N.take n) (jz st)/\jkK K mg x st (N.take n)
def jbt(K:PySem.W.Frag)(C:Addr)(x qual:Str)(st:Stmt)(N:List Str)(n:Nat):Prop:=FnScope N (N.take n) (jz st)/\jk0 K C x qual st (N.take n)
section
variable (P:Program)(w:World)(cl:Nat->Addr){K:PySem.W.Frag}{mg:Str->Option Value}{C:Addr}{x qual:Str}{st:Stmt}{N:List Str}{n:Nat}
abbrev NP(_:kF K mg x st N n)(k:Nat)(m:List D->Option D):Prop:=OkF P w K mg x st k (N.take n) (spP ⟨K,cl⟩ m n)
abbrev NM(_:kF K mg x st N n)(k:Nat)(m:List D->Option (D×D)):Prop:=OkF P w K mg x st k (N.take n) (spM ⟨K,cl⟩ m n 0)
abbrev OP(mg:Str->Option Value)(_:jbt K C x qual st N n)(k:Nat)(m:List D->Option D):Prop:=OkM P w K mg C x qual st k (N.take n) (spP ⟨K,cl⟩ m n)
abbrev OM(mg:Str->Option Value)(_:jbt K C x qual st N n)(k:Nat)(m:List D->Option (D×D)):Prop:=OkM P w K mg C x qual st k (N.take n) (spM ⟨K,cl⟩ m n 0)
end
section
variable {P:Program}{w:World}{k:Nat}{sp:Sp}{K:PySem.W.Frag}{mg:Str->Option Value}{C:Addr}{x qual:Str}{st:Stmt}{N:List Str}{n:Nat}
theorem okN(h:kF K mg x st N n)(g:∀ f fd,FnScope N (N.take n) (jz st)->FnFact K mg x x st f fd (N.take n)->∀ base,FnOk P w K mg base CX0 k f fd (N.take n) sp):OkF P w K mg x st k (N.take n) sp:=by
 obtain⟨S,f,fd,F⟩:=h;exact⟨f,fd,F,g f fd S F⟩
theorem okO(h:jbt K C x qual st N n)(g:∀ f fd,FnScope N (N.take n) (jz st)->MtFact K C x qual st f fd (N.take n)->∀ base,FnOk P w K mg base CX0 k f fd (N.take n) sp):OkM P w K mg C x qual st k (N.take n) sp:=by
 obtain⟨S,f,fd,F⟩:=h;exact⟨f,fd,F,g f fd S F⟩
end
theorem jk2{a b:Prop}(h:a)(k:a->b):a/\b:=⟨h,k h⟩
section
variable {cl:Nat->Addr}{X:Cx}{pos:Pos}{x:Str}{scope:Scope}{N':List Str}{i:Nat}
theorem qS{j}{l:List Nat}(h:x=S l:=by decide +kernel):QP cl X (.Constant (.str x) j pos) (tC (.str x)) (pC (.str l)):=jit l h
theorem qI{i:Int}{j}:QB cl X (.Constant (.int i) j pos) (tC (.int i)) (pC (.int i)):=QP.bb jgt
end
end QD
namespace L2
open PySem PySem.Spec PyProof.Rows
end L2
namespace QD
open PySem L2 PySem.Spec PyProof.Rows
noncomputable def blN(N:List Str):List (Option Nat)->List Str->List Str
 | [],_=>[]
 | none::l,xs=>xs.headD ""::blN N l xs.tail
 | some j::l,xs=>N.getD j ""::blN N l xs
noncomputable def jkJ(sc:Scope):List Str:=(sc.names.filter λy=>decide (y.2=.local)||decide (y.2=.cell)).tail.map (·.1)
theorem bkN(_:FnScope N ps sc)  (h1:X.env.scope=sc:=by rfl) (h2:X.N=N:=by rfl) (h:Kc sc N scope (blN N ix (jkJ scope)) ix=true:=by decide +kernel):BlockOk X scope (blN N ix (jkJ scope)) ix:=jeq sc N h1 h2 h
theorem jjX{p:PAf}{n:Nat}(h:∀(ρ:Rh) (ds:List D),p ρ=some ds->ds.length=n):∀(ρ:Rh) (ds:List D),p ρ=some ds->ds.length+1=n+1:=λρ ds e=>by rw[h ρ ds e]
theorem ndN(h:N'.Nodup):(yp X scope N' C s H fp).N.Nodup:=h
abbrev PrF:=Rh->Option (List KA×List D)
noncomputable def prN:PrF:=λ_=>some ([],[])
@[simp] theorem prN_e:prN ρ=some ([],[]):=rfl
def PRs(R:RC)(trs:List (TE×TE))(f:PrF):Prop:=∀{σ:L2.St}{ρ:Rh}{Z:Zn}{H:Hp}{O:List Addr}{q:List KA×List D},Zd Z H->Slots R Z H ρ σ O->f ρ=some q ->
 ∀{Q:List (V×V)->Hp->Prop},(∀{vs:List V}{Z':Zn}{H':Hp},Go Z H [] Z' H' []->Reps R Z' H' q.2 vs []->q.1.length=q.2.length->Q (((q.1.map kaV).zip vs).map λkv=>(kV kv.1,kv.2)) H')->Qn trs σ H Q
noncomputable def jaT(f:PrF):PF:=λρ=>(f ρ).bind λq=>bif decide q.1.Nodup&&decide (q.1.length<=15) then some (.dK true q.1 q.2) else none
@[simp] theorem Q9:jaT f ρ=(f ρ).bind λq=>bif decide q.1.Nodup&&decide (q.1.length<=15) then some (.dK true q.1 q.2) else none:=rfl
structure QPr(cl:Nat->Addr)(X:Cx)(pos:Pos)(keys:List (Option Expr))(values:List Expr)(trs:List (TE×TE))(f:PrF):Prop where
 sem:L2.PPs X pos keys values trs
 den:PRs ⟨X.K,cl⟩ trs f
section
variable {R:RC}{Z Z':Zn}{H H':Hp}{pm:List Nat}
def Jm(k:List Nat)(L:Ln):Ln:=λd=>(L d).bind λy=>(jbv y.1).bind λq=>(jgp q.1 (.str k)).bind λn=>(q.2[n]?).bind λx=>some (x,λx'=>y.2 (.dK true q.1 (q.2.set n x')))
theorem jhZ{i:Nat}{k:List Nat}{tb tj:TE}{L:Ln}(D:∀{σ:L2.St}{H:Hp}{Q:VK},Q (.str (S k)) H->tj σ H Q)(h:Qr R tb i L):Qr R (Q7 tb tj) i (Jm k L):=by
 intro σ ρ Z H O d x Y s hd e;refine ob e λ⟨y,k0⟩ E e=>ob e λ⟨ks,l⟩ e3 e=>ob e λn F e=>ob e λx0 e2 e=>?_;cases e;cases VU e3;obtain⟨v,A,P,B,rfl,r,G,I⟩:=h s hd E;obtain⟨a,J,K,O',rfl,o,g,p,rfl⟩:=ow_dK.mp r;obtain⟨u,M,N,T,t,rfl,U,j⟩:=o.at e2;refine⟨u,A++(a::M),N,T++B,by simp,U,λ{Q} q=>G (D ⟨a,u,rfl,(V2 F (by rw[o.length];exact g) t)▸DGet.k (k:=kaV (.str k)) p,q⟩),λ{Z' H' x' V} W w z m C=>?_⟩;have c:=j W w z (λb f=>m b (by simp[f])) (λb f=>C b (by simp[f]));rw[vc t] at c;have X:=I (ow_dK.mpr ⟨a,J,K,_,rfl,c,by rw[List.length_set];exact g,(m a (by simp)).trans p,rfl⟩) w z (λb f=>m b (by simp[f])) (λb f=>C b (by simp[f]));simpa using X
open Classical in
noncomputable def uni(F:Addr->Option Out):Option Out:=if h:∃ o,∀ a,F a=some o then some h.choose else none
theorem jhs{F:Addr->Option Out}{o:Out}(h:uni F=some o)(a:Addr):F a=some o:=by
 unfold uni at h;split at h
 ·rename_i q;rw[<- h];exact q.choose_spec a
 ·cases h
theorem jiu{F:Addr->Option Out}{o:Out}(h:∀ a,F a=some o):uni F=some o:=by
 have q:∃ o,∀ a,F a=some o:=⟨o,h⟩;unfold uni;rw[dif_pos q];exact(q.choose_spec 0).symm.trans (h 0)
noncomputable def jeQ:D->Option Addr
 | .tok a=>some a
 | _=>none
theorem jcN{d:D}{a:Addr}(h:jeQ d=some a):d=.tok a:=by
 cases d with
 | tok b=>cases h;rfl
 | _=>cases h
def xn(i:Nat)(L:Ln)(fe:FE)(ρ:Rh):Option Out:=(pV i ρ).bind λt=>(L t).bind λy=>(VM y.1).bind λl=>bif lim l.length then uni λa=>(fe (ρ.set i (some (y.2 (.tok a))))).bind λr=>(pV i r.2).bind λt2=>(L t2).bind λy2=>(jeQ y2.1).bind λb=>if b=a then some (.nx (r.2.set i (some (y2.2 (.lst true (l++[r.1])))))) else none else none
theorem Go.perm{O O2 O':List Addr}(g:Go Z H O Z' H' O')(h:∀ a,a∈O↔a∈O2):Go Z H O2 Z' H' O':=⟨g.wf,g.zz,λa b c=>g.fr a b λz=>c ((h a).mp z),λa z=>(g.zn a z).imp (λq=>q) λq=>q.imp (h a).mp λq=>q,λa q=>(g.sub a q).imp (h a).mp λq=>q,g.dm⟩
theorem jcB{i:Nat}{tb te:TE}{L:Ln}{fe:FE}(hL:Qr R tb i L)(h:DE R te fe):DS R pm (V1 (tBM R.K "list" qQ tb (yc te Y7))) (xn i L fe):=by
 intro σ ρ Z H O o w s e D' k;refine ob e λt hi e=>ob e λ⟨y,k0⟩ e3 e=>ob e λl e4 e=>oc e λx e=>?_;have hu:=jhs e;cases J4 e4;obtain⟨v,A,P,B,rfl,r,ht,kb⟩:=hL s (Jw hi) e3;obtain⟨a,dx,n,f,rfl,rs,_,ea,rfl⟩:=ow_lst.mp r;refine ob (hu a) λ⟨d,ρ2⟩ e1 C=>ob C λt2 h2 C=>ob C λ⟨y2,k2⟩ e5 C=>ob C λb e6 j=>?_;by_cases S:b=a
 ·rw[if_pos S] at j;subst S;cases j;cases jcN e6;have nd:=w.nd;have s1:=kb (x':=.tok b) (P':=[]) (by rw[Rep];exact⟨rfl,rfl⟩) (λ_ z=>z) (λ_ _=>rfl) (λ_ _=>rfl) (λ_ _=>rfl);have T:∀ c,((A++[]++B)++(b::f)).count c<=(A++(b::f)++B).count c:=λc=>by simp only[U7,List.count_cons,List.count_nil];omega
  have U:∀ c,(A++(b::f)++B).count c<=((A++[]++B)++(b::f)).count c:=λc=>by simp only[U7,List.count_cons,List.count_nil];omega
  have M:WF Z H ((A++[]++B)++(b::f)):=w.sub (Yk T) (qW T nd);have w1:=M.left;have out:∀ c∈b::f,c∉A++[]++B:=λc g z=>(U8.mp M.nd).2.2 c z c g rfl;refine ht ⟨.inl ⟨rfl,n,SqL.of ea⟩,h w1 s1 e1 λ{u V N m O1} D r1 s2=>?_⟩;obtain⟨v2,E,P2,F,rfl,r2,_,W⟩:=hL s2 (Jw h2) e5;rw[Rep] at r2;obtain⟨rfl,rfl⟩:=r2;have X:=D.at (out b (by simp)) ea;have Q:Go Z H ([]++(A++[]++B)++(b::f)) V N ([]++(m++(E++[]++F))++(b::f)):=Go.frame (by simpa using M) D;have G:=Q.wf.nd;have Y:=rs.frame D.zz (Go.zH w1 D) λc g=>D.fr c (M.od c (by simp[g])) (out c (by simp[g]));have ne:∀ c∈f++m++(E++F),c≠b:=λc g z=>by
   subst z;have:=List.nodup_iff_count.mp G c;have q:=List.count_pos_iff.mpr g;simp only[U7,List.count_cons,List.count_nil,beq_self_eq_true,if_true] at this q;omega
  have I:∀ c,V c->upd N b (.lst (n++[u])) c=N c:=λc g=>jf λz=>Q.wf.nz b (by simp) (z▸g);have rr:Rep R V (upd N b (.lst (n++[u]))) (.lst true (l++[d])) (.ref b) (b::(f++m)):=ow_lst.mpr ⟨b,0,n++[u],f++m,rfl,(Y.append (.one r1)).frame (λ_ z=>z) I λc g=>jf (ne c (by simp at g ⊢;exact g.imp_right .inl)),trivial,ju,rfl⟩;have s3:=W rr (λ_ z=>z) I (λc g=>jf (ne c (by simp[g]))) (λc g=>jf (ne c (by simp[g])));have J:∀ c,(E++(b::(f++m))++F).count c<=([]++(m++(E++[]++F))++(b::f)).count c:=λc=>by simp only[U7,List.count_cons,List.count_nil];omega
  have g3:=((Q.trans (Go.put Q.wf (p:=b) (o:=.lst (n++[u])) (by simp))).perm (O2:=A++(b::f)++B) λc=>⟨Yk T c,Yk U c⟩).drop (O'':=E++(b::(f++m))++F) (Yk J) (qW J G);exact⟨b,n,u,rfl,rfl,X,by rw[rs.length];exact Kp x,k g3 s3 (Keep.refl _ _)⟩
 ·rw[if_neg S] at j;cases j
def xB(i:Nat)(L:Ln)(ρ:Rh):Option (D×Rh):=(pV i ρ).bind λt=>(L t).bind λy=>some (y.1,ρ.set i (some (y.2 .dead)))
theorem jgw{i:Nat}{tb:TE}{L:Ln}(b:Qr R tb i L):DE R tb (xB i L):=by
 intro σ ρ h Z H O d w s e Q k;refine ob e λt hi e=>ob e λ⟨y,k0⟩ e3 e=>?_;cases e;obtain⟨v,A,P,B,rfl,r,f,g⟩:=b s (Jw hi) e3;have s1:=g (x':=.dead) (P':=[]) (by rw[Rep]) (λ_ z=>z) (λ_ _=>rfl) (λ_ _=>rfl) (λ_ _=>rfl);have a:∀ c,(P++(A++[]++B)).count c<=(A++P++B).count c:=λc=>by simp only[U7,List.count_nil];omega
 exact f (k ((Go.refl w).drop (O'':=P++(A++[]++B)) (Yk a) (qW a w.nd)) r s1)
def QH(pk pv:PF)(f:PrF):PrF:=λρ=>(pk ρ).bind λx=>(vy x).bind λa=>(pv ρ).bind λd=>(f ρ).bind λq=>some (a::q.1,d::q.2)
def PRo(R:RC)(trs:List (TE×TE))(f:PrF):Prop:=∀{σ:L2.St}{ρ:Rh}{Z:Zn}{H:Hp}{O:List Addr}{q:List KA×List D},Zd Z H->Slots R Z H ρ σ O->f ρ=some q ->
 ∀{Q:List (V×V)->Hp->Prop},(∀{vs:List V}{Z':Zn}{H':Hp}{P:List Addr},Go Z H [] Z' H' P->Reps R Z' H' q.2 vs P->q.1.length=q.2.length->Q (((q.1.map kaV).zip vs).map λkv=>(kV kv.1,kv.2)) H')->Qn trs σ H Q
theorem jfG:PRo R [] prN:=by
 intro σ ρ Z H O q z s e Q k;cases e;exact k (Go.id z) .empty rfl
theorem jc3{tk tv:TE}{pk pv:PF}{b:List (TE×TE)}{f:PrF}(h:PB R tk pk)(i:PP R tv pv)(j:PRo R b f):PRo R ((tk,tv)::b) (QH pk pv f):=by
 intro σ ρ Z H O q z s e Q k;refine ob e λx l e=>ob e λa e2 e=>ob e λy e3 e=>ob e λt m e=>?_;cases e;refine h z s l λ{v w A B} c n=>?_;have s1:=c.slots z s;refine i c.wf.zd s1 e3 λ{u C D E} d o=>?_;refine j d.wf.zd (d.slots c.wf.zd s1) m λ{g Z3 F G} g3 p r=>?_;obtain⟨rfl,_⟩:=yW e2 n;exact k (vs:=u::g) ((c.trans d).pair g3) (Reps.cons (g3.rep d.wf.zd o) p) (by simp[r])
theorem jcV{a:List (TE×TE)}{f:PrF}(r:PRo R a f):PP R (jfV a) (jaT f):=by
 intro σ ρ Z H O d z s e Q k;rw[Q9] at e;refine ob e λq t e=>oc e λg e=>?_;cases e;simp only[L9,decide_eq_true_eq] at g;intro p u;have i:Go Z H [] Z (upd H p (.dK [])) [p]:=Go.newO (wf0 z) u;refine r i.wf.zd (i.slots z s) t λ{c v j P} g3 n o=>?_;have l:j p=some (.dK []):=g3.at0 ju;have h:=i.pair g3;have w:Yr [] ((q.1.map kaV).zip c)=(q.1.map kaV).zip c:=by
  have:=Vu q.1 c [] [] rfl (by rw[n.length];exact o) (by simpa using g.1);simpa [Yr] using this
 have m:∀ b,v b->upd j p (.dK ((q.1.map kaV).zip c)) b=j b:=λb x=>jf λq=>h.wf.nz p (by simp) (q▸x);refine⟨l,_,rfl,by rw[List.length_zip,L0];omega,?_⟩;rw[w];exact k (h.trans (Go.put h.wf (by simp))) (ow_dK.mpr ⟨p,0,c,P,rfl,n.frame (λ_ z=>z) m λb g=>jf λz=>(List.nodup_cons.mp h.wf.nd).1 (z▸g),o,ju,rfl⟩)
end
section
variable {cl:Nat->Addr}{pm:List Nat}{X:Cx}{o a b e:Expr}{ta tb te:TE}{pa pb:PF}{fe:FE}{pos apos cpos:Pos}{i:Nat}{L:Ln}
theorem jds{k:Nat}{x:Str}{b:List Nat}{j2}{a:Pos}(d:Room k X.A)(h:QL cl X o tb i L)(c:x=S b:=by decide +kernel)(e:jhD (.Constant (.str x) j2 a):=by exact λ_ _=>rfl):QL cl X (.Subscript o (.Constant (.str x) j2 a) pos) (Q7 tb (tC (.str x))) i (Jm b L) :=
 ⟨jau (K9 d) h.sem (jit (cl:=cl) b c).sem e,by subst c;exact jhZ (R:=⟨X.K,cl⟩) (λq=>q) h.den⟩
theorem jc7(f:QL cl X o tb i L)(h:QE cl X e te fe)(b:attributeBase o "append" X.env (eval o X.env)=eval o X.env:=by rfl)
  (d:((backTo cpos (starEach [e] X.env)).all (λx=>!x.1)&&(backToKw cpos (keywordEach [] X.env)).all (λx=>x.1.isSome)
   && decide ([e].length+([]:List Keyword).length+(if([]:List Keyword).isEmpty then 0 else 1) < 30))=true:=by rfl)
  (c:(apos.endLine==cpos.line)=true:=by rfl) (g:starEach [e] X.env=(false,eval e X.env)::starEach [] X.env:=by rfl) (a:(backTo cpos (starEach [] X.env)).any (·.1)=false:=by rfl)
  (hsw:swapsWith (.Call (.Attribute o "append" apos) [e] [] cpos) none pos.line X.env=pure false:=by rfl) :
  QS cl pm X (.Expr (.Call (.Attribute o "append" apos) [e] [] cpos) pos) (V1 (tBM X.K "list" qQ tb (yc te Y7))) (xn i L fe) :=
 ⟨VS (jcy PySem.F.plainAttrs_list PySem.F.slot_list_append PySem.F.type_list_append Je f.sem (jG h.sem vO g) b d c g a) hsw,jcB (R:=⟨X.K,cl⟩) f.den h.den⟩
theorem jim{es:List Expr}{tr:TA}{fr:FA}(h:QDs cl X es tr fr):QE cl X (.List es pos) (jiG tr) (jiZ fr):=⟨jdr h.sem,jgT h.den⟩
theorem jji(a:QL cl X e tb i L):QE cl X e tb (xB i L):=⟨a.sem,jgw a.den⟩
structure QPo(cl:Nat->Addr)(X:Cx)(pos:Pos)(keys:List (Option Expr))(values:List Expr)(trs:List (TE×TE))(f:PrF):Prop where
 sem:L2.PPs X pos keys values trs
 den:PRo ⟨X.K,cl⟩ trs f
theorem jdW:QPo cl X pos [] [] [] prN:=⟨L2.pps_nil,jfG⟩
theorem jcS{ks:List (Option Expr)}{vs:List Expr}{c:List (TE×TE)}{f:PrF}(d:QB cl X a ta pa)(e:QP cl X b tb pb)(h:QPo cl X pos ks vs c f):QPo cl X pos (some a::ks) (b::vs) ((ta,tb)::c) (QH pa pb f) :=
 ⟨L2.pps_cons d.sem e.sem h.sem,jc3 d.den e.den h.den⟩
theorem jgb{ks:List (Option Expr)}{vs:List Expr}{a:List (TE×TE)}{f:PrF}(h:QPo cl X pos ks vs a f)(b:ks.all (·.isSome)=true:=by rfl)(e:ks.length=vs.length:=by rfl)(d:(!ks.isEmpty)=true:=by rfl)(c:decide (ks.length<=15)=true:=by rfl) :
  QP cl X (.Dict ks vs pos) (jfV a) (jaT f):=⟨je9 h.sem b e (by intro z;rw[z] at d;cases d) (X6 c),jcV (R:=⟨X.K,cl⟩) h.den⟩
end
theorem okR{P:Program}{w:World}{K:PySem.W.Frag}{mg:Str->Option Value}{cl:Nat->Addr}{x:Str}{st:Stmt}{N:List Str}{n:Nat}{r:Nat->List D->Option D}(h:kF K mg x st N n)(a:∀ ds,r 0 ds=none)
  (g:∀ j f fd,FnScope N (N.take n) (jz st)->FnFact K mg x x st f fd (N.take n)->OkF P w K mg x st j (N.take n) (spP ⟨K,cl⟩ (r j) n)->∀ base,FnOk P w K mg base CX0 (j+1) f fd (N.take n) (spP ⟨K,cl⟩ (r (j+1)) n)) (k:Nat):OkF P w K mg x st k (N.take n) (spP ⟨K,cl⟩ (r k) n):=by
 obtain⟨S,f,fd,F⟩:=h;refine⟨f,fd,F,?_⟩
 induction k with
 | zero=>exact λbase=>by rw[show r 0=λ_=>none from funext a];exact jd3
 | succ j b=>exact g j f fd S F ⟨f,fd,F,b⟩
end QD
namespace QD
open PySem L2
section
variable {R:RC}{Z Z':Zn}{H H':Hp}{pm:List Nat}
noncomputable def jkI:Out->Option Rh
 | .nx ρ=>some ρ
 | _=>none
def jce(i:Nat)(k:List Nat)(g:D->Rh->Option Rh)(f:FS):FS:=λρ=>(pV i ρ).bind λt=>(jbv t).bind λq=>(jgp q.1 (.str k)).bind λn=>(q.2[n]?).bind λx=>(VM x).bind λl=>bif frzs l then((jY g f l (ρ.set i none)).bind λo=>(jkI o).bind λρ'=>some (.nx (ρ'.set i (some t)))) else none
theorem back{A P B O':List Addr}{σ h:L2.St}{ρ':Rh}{i:Nat}{t:D}{v:V}(w:WF Z H (A++P++B))(j:σ[i]?=some (some v))(r:Rep R Z H t v P)(g:Go Z H (A++B) Z' H' O')(s:Slots R Z' H' ρ' h O')(kp:h[i]?=σ[i]?):∃ O2,Go Z H (A++P++B) Z' H' O2/\Slots R Z' H' (ρ'.set i (some t)) h O2:=by
 have nd:=w.nd;have m:∀ a∈P,a∉A++B:=λa c d=>by
  simp only[U8,N1] at nd d;rcases d with d | d
  ·exact nd.1.2.2 a d a c rfl
  ·exact nd.2.2 a (.inr c) a d rfl
 have n:WF Z H (P++(A++B)++[]):=w.sub (λa c=>by simp at c ⊢;rcases c with q | q | q<;>simp[q]) (by
  simp only[U8,N1,M9] at nd ⊢;refine⟨nd.1.2.1,⟨nd.1.1,nd.2.1,λa c b d=>nd.2.2 a (.inl c) b d⟩,λa c b d=>d.elim (λq e=>nd.1.2.2 b q a c e.symm) (λq=>nd.2.2 a (.inr c) b q)⟩)
 have k:=(Go.frame n g).perm (O2:=A++P++B) (λa=>by simp;constructor<;>(rintro(q | q | q)<;>simp[q]));have o:Rep R Z' H' t v P:=r.frame g.zz (Go.zH (w.sub (λa c=>by simp at c ⊢;rcases c with q | q<;>simp[q]) (by simp only[U8,N1] at nd ⊢;exact⟨nd.1.1,nd.2.1,λa c b d=>nd.2.2 a (.inl c) b d⟩)) g) λa c=>g.fr a (w.od a (by simp[c])) (m a c);have hi:i < ρ'.length:=by
  rw[<- s.length];rw[j] at kp;exact(L8.mp kp).1
 obtain⟨p,G,u,rfl,_,x,_⟩:=s.put hi;refine⟨p++P++u,k.drop (λa c=>by simp at c ⊢;rcases c with q | q | q<;>simp[q]) ?_,?_⟩
 ·have f:=k.wf.nd;simp only[U8,N1,M9] at f ⊢;obtain⟨y,⟨⟨C,I,J⟩,E,F⟩,l⟩:=f;exact⟨⟨C,y,λa c b d e=>l b d a (.inl (.inl c)) e.symm⟩,E,λa c b d=>c.elim (λq=>F a (.inl q) b d) (λq=>l a q b (.inr d))⟩
 ·have q:=x o (λ_ z=>z) (λ_ _=>rfl) (λ_ _=>rfl) (λ_ _=>rfl);rw[j] at kp;rw[vc kp] at q;exact q
theorem jej{i:Nat}{k:List Nat}{tj:TE}{tg:TG}{tb:TS}{g:D->Rh->Option Rh}{f:FS}(hj:∀{σ:L2.St}{H:Hp}{Q:VK},Q (.str (S k)) H->tj σ H Q)(hg:PGt R (i::pm) tg g)(hf:DS R (i::pm) tb f):DS R pm (jey (jcL R.K (Q7 (kD i) tj)) tg tb) (jce i k g f):=by
 intro σ ρ Z H O o w s e D' kk;refine ob e λt hi e=>ob e λ⟨ks,l0⟩ e0 e=>ob e λn e1 e=>ob e λx e2 e=>ob e λl e3 e=>oc e λhfl e=>ob e λo1 e4 e=>ob e λρe e5 e=>?_;cases e;cases VU e0;cases J4 e3;have N:=Jw hi;obtain⟨A,P,B,rfl,k1,_,s0⟩:=s.put (L8.mp N).1;obtain⟨v,ev,r⟩:=k1 _ N;have r0:=r;obtain⟨a,dx,vs,G,rfl,rs,hkl,ea,rfl⟩:=ow_dK.mp r;obtain⟨u,A',P',B',eu,rfl,ru,_⟩:=rs.at e2;obtain⟨b,_,T,M,rfl,I,_,eb,rfl⟩:=ow_lst.mp ru;cases I.nil hfl;have hlen:=I.length;refine⟨.ref a,ev,hj ⟨a,.ref b,rfl,(V2 e1 (by rw[rs.length];exact hkl) eu)▸DGet.k (k:=kaV (.str k)) ea,.inl ⟨b,rfl,⟨T,.of eb⟩,?_⟩⟩⟩;have nd:=w.nd;have U:WF Z H (A++B):=w.sub (λa ha=>by simp at ha ⊢;rcases ha with q | q<;>simp[q]) (by simp only[U8,N1] at nd ⊢;exact⟨nd.1.1,nd.2.1,λa ha b p=>nd.2.2 a (.inl ha) b p⟩);have hbn:b∉A++B:=λp=>by
  simp only[U8,N1] at nd p;rcases p with p | p
  ·exact nd.1.2.2 b p b (by simp) rfl
  ·exact nd.2.2 b (.inr (by simp)) b p rfl
 have V:∀{J:L2.St}{E:Zn}{C:Hp}{G:List Addr},Go Z H (A++B) E C G->Slots R E C ρe J G->Keep (i::pm) σ J->D'.nx J C:=λF s1 kp=>by
  obtain⟨M,g2,s2⟩:=back w ev r0 F s1 (kp i L6);exact kk g2 s2 (kp.sub λb p=>L5 _ p)
 refine⟨λj m J C=>∃ ρ' E G,m=l.length - j/\j<=l.length/\Go Z H (A++B) E C G/\Slots R E C ρ' J G/\Keep (i::pm) σ J/\jY g f (l.drop j) ρ'=some o1,⟨l.length,ρ.set i none,Z,A++B,rfl,U4 _,Go.refl U,s0,Keep.refl _ _,e4⟩,?_⟩;rintro j m J C ⟨ρ',E,G,rfl,hj',F,s1,kp,c⟩;have L:C b=some (.lst T):=F.at hbn eb;by_cases W:j < l.length
 ·right
  have hx:l[j]?=some l[j]:=X8 W;obtain⟨u,A3,P3,B3,X,e0',ru2,_⟩:=I.at hx;have hP3:P3=[]:=by
   have:=List.append_eq_nil_iff.mp e0'.symm;exact(List.append_eq_nil_iff.mp this.1).2
  subst hP3;have rx:Rep R E C l[j] u []:=ru2.frame F.zz (Go.zH U F) λ_ h=>nomatch h
  rw[vx hx] at c;refine ob c λρ1 e7 c=>ob c λo2 e8 c=>?_;refine⟨⟨T,u,.of L,X⟩,λσ2 Y=>∃ z Z2 M,Go Z H (A++B) Z2 Y M/\Slots R Z2 Y z σ2 M/\Keep (i::pm) σ σ2/\jY g f (l.drop (j+1)) z=some o1,λσ2 Y ⟨z,Z2,M,a1,a2,a3,a4⟩=>⟨l.length - (j+1),by omega,z,Z2,M,rfl,W,a1,a2,a3,a4⟩,λy Y hy=>?_⟩;obtain⟨rfl,hy⟩:=hy;have ev2:=hy T (.of L);rw[X] at ev2;cases ev2;refine hg rx s1 e7 λ{σ3 O3} sub nd s3 k3=>?_;have g3:Go Z H (A++B) E Y O3:=F.drop sub (nd F.wf.nd);refine hf g3.wf s3 e8 ?_;cases o2 with
  | nx z=>exact λ{σ4 Z4 H4 O4} g4 s4 k4=>⟨z,Z4,O4,g3.trans g4,s4,kp.trans (k3.trans k4),c⟩
  | ct z=>exact λ{σ4 Z4 H4 O4} g4 s4 k4=>⟨z,Z4,O4,g3.trans g4,s4,kp.trans (k3.trans k4),c⟩
  | bk z=>cases c;cases e5;exact λ{σ4 Z4 H4 O4} g4 s4 k4=>V (g3.trans g4) s4 (kp.trans (k3.trans k4))
  | rt d z=>cases c;cases e5
 ·left
  have hj2:j=l.length:=by omega
  rw[hj2,List.drop_length] at c;cases c;cases e5;exact⟨⟨T,.of L,by omega⟩,V F s1 kp⟩
end
section
variable {cl:Nat->Addr}{pm:List Nat}{X:Cx}{tg:Expr}{t:TG}{g:D->Rh->Option Rh}{ts:TS}{f:FS}{pos spos:Pos}{i:Nat}
theorem jdQ{k:Nat}{x y:Str}{d:List Nat}{j2}{a b:Pos}{body:List Stmt}(l:PassesOwn (model X.prog X.w) X.A X.env X.xe)(m:X.calm=true)(n:Room k X.A)(o:QB cl X (.Name y b) (kD i) (pV i))(e:QG cl (i::pm) X tg t g)(h:QSs cl (i::pm) X body ts f)(j:x=S d:=by decide +kernel)(c:jhD (.Constant (.str x) j2 a):=by exact λ_ _=>rfl)
  (p:∀ z,foldedSetIterable (.Subscript (.Name y b) (.Constant (.str x) j2 a) spos) X.env z=pure z:=by intro _;rfl):QS cl pm X (.For tg (.Subscript (.Name y b) (.Constant (.str x) j2 a) spos) body [] pos) (jey (jcL X.K (Q7 (kD i) (tC (.str x)))) t ts) (jce i d g f) :=
 ⟨jak l m (zQ (jds n (jdg o) j c).sem) e.sem h.sem p,by subst j;exact jej (R:=⟨X.K,cl⟩) (λq=>q) e.den h.den⟩
end
end QD
namespace K27
open PySem L2 QD
noncomputable def top(i:Nat):Stmt:=PySem.Challenge.pw_tranchefall_k27_lends_and_backs.main.body.getD i (.Pass ⟨0,0,0,0⟩)
def Yi:FS:=(yL (dP (pCB Kn (ja (vm (Vs (pV 0)) (jd [] 0) qT (pF (p2 jc (pV 0) (pC (.int 1)))) [none]) pN))))
def kh:List D->Option D:=fnP 1 Yi
def yg:FS:=(sIf (dPT (jh (p2 vk (p2 jc (pV 2) (pC (.int 0))) (pV 1)))) (yL (dP (pF (pV 2))))
 jF)
def qV:FS:=(jg (J6 (pIt (pF (p2 jc (pV 0) (pC (.int 4))))) (jd [] 2) yg)
 (yL (dP (pC .non))))
def vi:List D->Option D:=fnP 3 qV
def kQ:FS:=(yL (dP (xM (Vs (pV 0)) (gT 3 (gC (jd [] 0) (gC (jd [] 1) (gC (jd [] 2) gN)))) qT (jbw (pV 0) (pV 1)) (pV 2) [none,none,none])))
def yE:List D->Option D:=fnP 1 kQ
def qN:FS:=(sIf (dPT (jh (p2 vk (pV 2) (pC (.str [108,101,110,100]))))) (jf6 0 (pV 1) (pV 3) (p2 jr (xX (pV 0) (pV 1) (pV 3) (pC (.int 0))) (pV 4)))
 (jbT 0 (pV 3) (pV 1) (λm n=>m - n) (pV 4)))
def yP:List D->Option (D×D):=fnM 5 0 qN
def yr:FS:=(jg (jC (dP (pF (p2 jc (pV 1) (pC (.int 0))))) (jd [] 2))
 (jg (jC (dP (pF (p2 jc (pV 1) (pC (.int 1))))) (jd [] 3))
 (jg (sIf (dPT (jh (p2 vk (pV 2) (pC (.str [112,97,121]))))) (yL (dP (pF (p2 jO (Y5 0 "owed" (pV 0)) (pV 3)))))
 jF)
 (jg (sIf (dPT (jh (p2 vk (pV 2) (pC (.str [114,101,112,97,121]))))) v8
 jF)
 (jg (sIf (dPT (jh (p2 vk (pV 2) (pC (.str [102,105,108,108]))))) v8
 jF)
 (jg (sIf (dPT (jh (p2 vk (pV 2) (pC (.str [108,101,110,100]))))) (yL (dP (pCB jgk (ja (p2 vS (p2 jc (pV 1) (pC (.int 2))) (xX (Y5 0 "loans" (pV 0)) (Y5 0 "pool_name" (pV 0)) (pV 3) (pC (.int 0)))) (ja (pC (.int 0)) pN)))))
 jF)
 (jg (sIf (dPT (jh (p2 vk (pV 2) (pC (.str [98,97,99,107]))))) (yL (dP (pF (xX (Y5 0 "loans" (pV 0)) (pV 3) (Y5 0 "pool_name" (pV 0)) (pC (.int 0))))))
 jF)
 (yL (dP (pF (Y5 0 "cash" (pV 0))))))))))))
def jk:List D->Option D:=fnP 4 yr
def yR:FS:=(jg (jC (dP (pF (p2 jO (Y5 0 "owed" (pV 0)) (pV 3)))) (jd [0] 4))
 (jg (jC (dP (pCB zU (ja (pV 4) (ja (p2 jO (Y5 0 "levels" (pV 0)) (pV 2)) pN)))) (jd [0] 5))
 (jg (Jk 0 (JP 0 "levels" jK) (pV 2) (λm n=>m - n) (pV 5))
 (jg (Jk 0 (JP 0 "owed" jK) (pV 3) (λm n=>m - n) (pV 5))
 (jQ 0 (JP 0 "entries" jK) (yU (ja (pF (pV 1)) (ja (pC (.str [103,117,97,114,100])) (ja (pF (pV 3)) (ja (pF (pV 4)) (ja (pF (pV 5)) pN)))))))))))
def yn:List D->Option (D×D):=fnM 6 0 yR
def jy:FS:=(jg (jC (dP (jdF (p2 Qs (p2 jO (pV 2) (pV 4)) (pC (.int 0))) (p2 (QR true) (pV 4) (Y5 0 "served" (pV 0))))) (jd [] 6))
 (VQ 3 (yU (ja (pF (pV 4)) (ja (pIf (jh (pV 6)) (p2 jr (pV 5) (pC (.int 1))) (pC (.int 0))) pN)))))
def vN:FS:=(jg (jC (dP (pCB yq (ja (p2 jc (pV 1) (pC (.int 0))) pN))) (jd [] 2))
 (jg (jC (dP (vY pN)) (jd [] 3))
 (jg (J6 (pIt (pF (p2 jc (pV 1) (pC (.int 2))))) (gT 2 (gC (jd [] 4) (gC (jd [] 5) gN))) jy)
 (yL (jgn (vj (dP (vw (Y5 0 "sizes" (pV 0)))) (vj (dP (vw (Y5 0 "owed" (pV 0)))) (vj (dMv 3) (vj (dP (vw (Y5 0 "levels" (pV 0)))) (vj (dP (pF (p2 jc (pV 1) (pC (.int 4))))) jgo))))))))))
def jD:List D->Option D:=fnP 7 vN
def Jx:FS:=(jg (sIf (dPT (jh (p2 jf5 (pV 1) (pCB qy (ja (pV 0) pN))))) (yL (dP (pF (p2 jc (pV 0) (pV 1)))))
 jF)
 (yL (dP (pC (.int 0)))))
def v9:List D->Option D:=fnP 2 Jx
def Yc:FS:=(jg (jC (dP (p2 jn (p2 jr (p2 j9 (p2 jn (pV 0) (pC (.int 2147483647))) (pC (.int 48271))) (p2 j9 (p2 jr (p2 jr (p2 j9 (pV 1) (pV 1)) (p2 j9 (pC (.int 3)) (pV 1))) (pC (.int 7))) (pC (.int 69621)))) (pC (.int 2147483647)))) (jd [] 2))
 (yL (dP (p2 jn (p2 j9 (pV 2) (pV 2)) (pC (.int 2147483647))))))
def jt:List D->Option D:=fnP 3 Yc
def YC:FS:=(jg (sIf (dPT (jh (p2 vk (p2 jn (pV 1) (pC (.int 5))) (pC (.int 0))))) (yL (dP (pC (.int 1))))
 jF)
 (jg (sIf (dPT (jh (p2 vk (p2 jn (pV 1) (pC (.int 5))) (pC (.int 1))))) (yL (dP (pF (pV 2))))
 jF)
 (jg (sIf (dPT (jh (p2 vk (p2 jn (pV 1) (pC (.int 5))) (pC (.int 2))))) (yL (dP (p2 jr (pC (.int 1)) (p2 jn (pV 0) (pC (.int 7))))))
 jF)
 (jg (sIf (dPT (jh (p2 vk (p2 jn (pV 1) (pC (.int 5))) (pC (.int 3))))) (yL (dP (p2 jr (pC (.int 1)) (p2 jn (pV 0) (pV 2)))))
 jF)
 (yL (dP (p2 jr (pC (.int 1)) (p2 jn (p2 j9 (p2 j9 (p2 jr (p2 jn (pV 0) (pV 2)) (pC (.int 1))) (p2 jr (pV 1) (pC (.int 48271)))) (pC (.int 99999999999999997))) (pV 2)))))))))
def j7:List D->Option D:=fnP 3 YC
def kP:FS:=(jC (dP (p2 jn (p2 jr (p2 jr (p2 j9 (pV 1) (pC (.int 1000003))) (pV 2)) (pC (.int 1))) (pC (.int 2147483647)))) (jd [] 1))
def VE:FS:=(jg (jC (dP (pC (.int 0))) (jd [] 1))
 (jg (J6 (pIt (pF (pV 0))) (jd [] 2) kP)
 (yL (dP (pF (pV 1))))))
def qw:List D->Option D:=fnP 3 VE
def vV:FS:=(jg (jC (dP (pF (p2 jc (p2 jc (pV 1) (p2 jn (p2 jr (p2 jA (pV 0) (pC (.int 4))) (pV 4)) (pCB qy (ja (pV 1) pN)))) (pC (.int 0))))) (jd [] 5))
 (VQ 3 (yU (ja (pF (p2 jc (p2 jc (pV 2) (p2 jn (p2 jr (p2 jA (pV 0) (pC (.int 24))) (p2 j9 (pV 4) (pV 4))) (pCB qy (ja (pV 2) pN)))) (pC (.int 0)))) (ja (pF (pV 5)) pN)))))
def kJ:FS:=(jg (jC (dP (vY pN)) (jd [] 3))
 (jg (sIf (dPT (jh (p2 Kl (pV 2) (vY pN)))) (J6 (Jg (ja (pCB zU (ja (pCB qy (ja (pV 1) pN)) (ja (p2 jn (pV 0) (pC (.int 4))) pN))) pN)) (jd [] 4) vV)
 jF)
 (yL (dMv 3))))
def yX:List D->Option D:=fnP 6 kJ
def Jy:FS:=(jg (jC (dP (pCB Kn (ja (vm (Vs (pV 0)) (gT 2 (gC (jd [] 0) (gC (jd [] 1) gN))) qT (pF (pV 1)) [none,none]) pN))) (jd [] 2))
 (jg (sIf (dPT (jh (p2 Qs (pV 2) (pC (.int 10))))) (yL (dP (vm (Vs (pV 0)) (gT 2 (gC (jd [] 0) (gC (jd [] 1) gN))) qT (p2 vS (pC (.int 0)) (p2 jA (p2 vS (pC (.int 0)) (p2 j9 (pV 2) (pV 1))) (pC (.int 10)))) [none,none,some 1])))
 jF)
 (jg (jC (dP (vm (Vs (pV 0)) (gT 2 (gC (jd [] 0) (gC (jd [] 1) gN))) qT (p2 jA (p2 j9 (pV 2) (pV 1)) (pC (.int 10))) [none,none,some 1])) (jd [] 3))
 (jg (jC (dP (p2 vS (p2 jA (p2 j9 (pV 1) (pV 2)) (pC (.int 10))) (pCB Kn (ja (pV 3) pN)))) (jd [] 4))
 (yL (dP (vm (Jg (ja (pCB qy (ja (pV 3) pN)) pN)) (jd [] 0) qT (p2 jr (p2 jc (pV 1) (pV 0)) (pIf (jh (p2 jf5 (pV 0) (pV 2))) (pC (.int 1)) (pC (.int 0)))) [none,some 3,some 4])))))))
def vZ:List D->Option D:=fnP 5 Jy
def qr:FS:=(jg (jC (dP (jaT (QH (pC (.str [99,97,115,104])) (pF (pV 2)) (QH (pC (.str [115,105,122,101,115])) (pCB yq (ja (p2 jc (pV 1) (pC (.int 0))) pN)) (QH (pC (.str [111,119,101,100])) (pCB yq (ja (p2 jc (pV 1) (pC (.int 1))) pN)) (QH (pC (.str [108,101,118,101,108,115])) (pCB yq (ja (p2 jc (pV 1) (pC (.int 3))) pN)) prN)))))) (jd [] 4))
 (jg (ya 4 jK (pC (.str [108,111,97,110,115])) (pF (pV 3)))
 (jg (ya 4 jK (pC (.str [109,97,114,107,115])) (pCB yq (ja (p2 jc (pV 0) (pC (.int 2))) pN)))
 (jg (ya 4 jK (pC (.str [114,111,119,115])) (vY pN))
 (jg (ya 4 jK (pC (.str [109,111,118,101,115])) (vY pN))
 (jg (ya 4 jK (pC (.str [115,101,114,118,101,100])) (vY pN))
 (yL (dMv 4))))))))
def Jp:List D->Option D:=fnP 5 qr
def VB:FS:=(jg (jC (dP (pCB zU (ja (pV 1) (ja (p2 jO (pV 0) (pC (.str [99,97,115,104]))) pN)))) (jd [0] 2))
 (jg (ya 0 jK (pC (.str [99,97,115,104])) (p2 vS (p2 jO (pV 0) (pC (.str [99,97,115,104]))) (pV 2)))
 (yL (dP (pF (pV 2))))))
def yo:List D->Option (D×D):=fnM 3 0 VB
def Jo:FS:=(jg (jC (dP (pF (p2 jO (pV 0) (pC (.str [99,97,115,104]))))) (jd [0] 3))
 (jg (ya 0 jK (pC (.str [99,97,115,104])) (pC (.int 0)))
 (jQ 0 (Jm [114,111,119,115] jK) (yU (ja (pF (pV 1)) (ja (pC (.str [114,101,115,116])) (ja (pF (pV 2)) (ja (pF (pV 3)) (ja (pF (pV 3)) pN)))))))))
def qt:List D->Option (D×D):=fnM 4 0 Jo
def ye:FS:=(jg (jC (dP (jdF (p2 Qs (p2 jO (pCB yq (ja (p2 jc (pV 1) (pC (.int 0))) pN)) (pV 3)) (pC (.int 0))) (p2 (zE true) (pV 3) (p2 jO (pV 0) (pC (.str [115,101,114,118,101,100])))))) (jd [] 5))
 (VQ 2 (yU (ja (pF (pV 3)) (ja (pIf (jh (pV 5)) (p2 jr (pV 4) (pC (.int 1))) (pC (.int 0))) pN)))))
def JM:FS:=(jg (jC (dP (vY pN)) (jd [] 2))
 (jg (J6 (pIt (pF (p2 jc (pV 1) (pC (.int 2))))) (gT 2 (gC (jd [] 3) (gC (jd [] 4) gN))) ye)
 (jg (jC (dP (vm (Vs (p2 jc (pV 1) (pC (.int 0)))) (gT 2 (gC (jd [] 0) (gC (jd [] 1) gN))) qT (yU (ja (pF (pV 0)) (ja (pF (p2 jO (p2 jO (pV 2) (pC (.str [115,105,122,101,115]))) (pV 0))) pN))) [none,none,some 0])) (jd [] 6))
 (jg (jC (dP (vm (Vs (p2 jc (pV 1) (pC (.int 1)))) (gT 2 (gC (jd [] 0) (gC (jd [] 1) gN))) qT (yU (ja (pF (pV 0)) (ja (pF (p2 jO (p2 jO (pV 2) (pC (.str [111,119,101,100]))) (pV 0))) pN))) [none,none,some 0])) (jd [] 7))
 (sFz 6 (sFz 7 (sFz 2 (yL (dP (yU (ja (pF (pV 6)) (ja (pF (pV 7)) (ja (pF (pV 2)) (ja (vm (Vs (p2 jc (pV 1) (pC (.int 3)))) (gT 2 (gC (jd [] 0) (gC (jd [] 1) gN))) qT (yU (ja (pF (pV 0)) (ja (pF (p2 jO (p2 jO (pV 2) (pC (.str [108,101,118,101,108,115]))) (pV 0))) pN))) [none,none,some 0]) (ja (pF (p2 jc (pV 1) (pC (.int 4)))) pN)))))))))))))))
def vP:List D->Option D:=fnP 8 JM
def JL:FS:=(yL (dP (yU (ja (pCB Qa (ja (p2 jc (pV 0) (pC (.int 0))) pN)) (ja (pCB Qa (ja (p2 jc (pV 0) (pC (.int 1))) pN)) (ja (pCB Qa (ja (p2 jc (pV 0) (pC (.int 2))) pN)) (ja (pCB Qa (ja (p2 jc (pV 0) (pC (.int 3))) pN)) (ja (pF (p2 jc (pV 0) (pC (.int 4)))) pN))))))))
def vK:List D->Option D:=fnP 1 JL
def vp:FS:=(jg (jC (dP (pF (p2 jO (p2 jO (pV 0) (pC (.str [111,119,101,100]))) (p2 jc (pV 3) (pC (.int 1)))))) (jd [0] 4))
 (jg (jC (dP (pCB zU (ja (pV 4) (ja (p2 jO (p2 jO (pV 0) (pC (.str [108,101,118,101,108,115]))) (p2 jc (pV 3) (pC (.int 0)))) pN)))) (jd [0] 5))
 (jg (ya 0 (Jm [108,101,118,101,108,115] jK) (p2 jc (pV 3) (pC (.int 0))) (p2 vS (p2 jO (p2 jO (pV 0) (pC (.str [108,101,118,101,108,115]))) (p2 jc (pV 3) (pC (.int 0)))) (pV 5)))
 (jg (ya 0 (Jm [111,119,101,100] jK) (p2 jc (pV 3) (pC (.int 1))) (p2 vS (pV 4) (pV 5)))
 (jQ 0 (Jm [114,111,119,115] jK) (yU (ja (pF (pV 2)) (ja (pC (.str [103,117,97,114,100])) (ja (pF (p2 jc (pV 3) (pC (.int 1)))) (ja (pF (pV 4)) (ja (pF (pV 5)) pN)))))))))))
def Jc:FS:=(J6 (YW (ja (pF (pV 1)) pN)) (gT 2 (gC (jd [0] 2) (gC (jd [0] 3) gN))) vp)
def ve:List D->Option (D×D):=fnM 6 0 Jc
def QC:FS:=(jg (jC (dP (jH kh (ja (pV 0) pN))) (jd [] 2))
 (jg (sIf (dPT (jh (p2 Qs (pV 2) (pC (.int 10))))) (jg (jC (dP (vm (Vs (pV 0)) (jd [] 0) qT (p2 jA (p2 jr (p2 j9 (pV 1) (p2 jc (pV 0) (pC (.int 1)))) (pC (.int 9))) (pC (.int 10))) [none,some 1])) (jd [] 3))
 (yL (uQ 3 (ja (p2 vS (pCB Kn (ja (pV 3) pN)) (pV 1)) pN))))
 jF)
 (jg (jC (dP (vm (Vs (pV 0)) (jd [] 0) qT (p2 jA (p2 j9 (pV 1) (p2 jc (pV 0) (pC (.int 1)))) (pC (.int 10))) [none,some 1])) (jd [] 3))
 (jg (jC (dP (p2 vS (p2 jA (p2 j9 (pV 1) (pV 2)) (pC (.int 10))) (pCB Kn (ja (pV 3) pN)))) (jd [] 4))
 (sFz 3 (yL (dP (yU (ja (vm (YW (ja (pF (pV 3)) pN)) (gT 2 (gC (jd [] 0) (gC (jd [] 1) gN))) qT (pIf (jh (p2 jf5 (pV 0) (pV 2))) (p2 jr (pV 1) (pC (.int 1))) (pF (pV 1))) [none,none,some 4]) (ja (pC (.int 0)) pN))))))))))
def Ye:List D->Option D:=fnP 5 QC
def vB:FS:=(jg (qU 0 0 "pool_name" (pF (p2 jc (pV 1) (pC (.int 0)))))
 (jg (qU 0 0 "marks" (pCB yq (ja (p2 jc (pV 1) (pC (.int 2))) pN)))
 (jg (qU 0 0 "sizes" (pCB yq (ja (p2 jc (pV 2) (pC (.int 0))) pN)))
 (jg (qU 0 0 "owed" (pCB yq (ja (p2 jc (pV 2) (pC (.int 1))) pN)))
 (jg (qU 0 0 "levels" (pCB yq (ja (p2 jc (pV 2) (pC (.int 3))) pN)))
 (jg (qU 0 0 "loans" (jH yE (ja (pV 4) pN)))
 (jg (qU 0 0 "cash" (pF (pV 3)))
 (jg (qU 0 0 "served" (pC (.dK true [] [])))
 (jg (qU 0 0 "entries" (vY pN))
 (qU 0 0 "moves" (vY pN)))))))))))
def yF:List D->Option (D×D):=fnM 5 0 vB
def yM:FS:=(sIf (dPT (jh (p2 vk (pV 1) (pC (.str [112,97,121]))))) (Jk 0 (JP 0 "owed" jK) (pV 2) (λm n=>m - n) (pV 3))
 (sIf (dPT (jh (p2 vk (pV 1) (pC (.str [114,101,112,97,121]))))) (jg v8
 (jg v8
 v8))
 (sIf (dPT (jh (p2 vk (pV 1) (pC (.str [102,105,108,108]))))) v8
 (sIf (dPT (QY (jh (p2 (zE false) (pV 1) (yU (ja (pC (.str [108,101,110,100])) (ja (pC (.str [98,97,99,107])) pN))))) (jh (p2 Qs (pV 3) (pC (.int 0)))))) (jg (JR (jM yP 0 (JP 0 "loans" jK) (ja (pF (Y5 0 "pool_name" (pV 0))) (ja (pF (pV 1)) (ja (pF (pV 2)) (ja (pF (pV 3)) pN))))))
 (jQ 0 (JP 0 "moves" jK) (yU (ja (pF (pV 1)) (ja (pF (pV 2)) (ja (pF (pV 3)) pN))))))
 jF))))
def jx:List D->Option (D×D):=fnM 5 0 yM
def vg:FS:=(jg (jC (dP (vm (Jg (ja (pV 5) pN)) (jd [] 0) qT (pF (pV 1)) [none,some 3])) (jd [] 9))
 (jg (jC (dP (pF (p2 jc (pV 4) (p2 jn (p2 jr (p2 jA (pV 2) (pC (.int 4200))) (p2 j9 (pC (.int 3)) (pV 8))) (pC (.int 20)))))) (gIx [] 9 (pV 6)))
 (jg (jC (dP (pF (p2 jc (pV 4) (p2 jn (p2 jr (p2 jA (pV 2) (pC (.int 84000))) (p2 jA (pV 8) (pC (.int 20)))) (pC (.int 20)))))) (gIx [] 9 (p2 jn (p2 jr (pV 6) (pC (.int 1))) (pV 5))))
 (VQ 7 (pBM "str" wq (pC (.str [])) (ja (pV 9) pN))))))
def qL:FS:=(jg (jC (dP (jH jt (ja (pV 0) (ja (pC (.int 3)) pN)))) (jd [] 2))
 (jg (jC (dP (pF (p2 jc (pC (.str [97,98,99,100,101,102,103,104,105,106,107,108,109,110,112,113,114,115,116,117,118,119,120,121,122])) (p2 jn (pV 2) (pC (.int 25)))))) (jd [] 3))
 (jg (jC (dP (pC (.str [98,99,100,102,103,104,106,107,108,109,110,112,113,114,115,116,118,119,120,122]))) (jd [] 4))
 (jg (sIf (dPT (QY (jh (p2 vk (p2 jn (p2 jA (pV 2) (pC (.int 25))) (pC (.int 3))) (pC (.int 0)))) (jh (p2 jf5 (pV 1) (pC (.int 9)))))) (yL (dP (vm (Jg (ja (pV 1) pN)) (jd [] 0) qT (p2 j9 (pV 1) (p2 vS (pV 2) (pV 0))) [none,some 3,some 1])))
 jF)
 (jg (jC (dP (p2 jr (pC (.int 2)) (p2 jn (p2 jA (pV 2) (pC (.int 75))) (pC (.int 7))))) (jd [] 5))
 (jg (jC (dP (p2 jn (p2 jA (pV 2) (pC (.int 525))) (pV 5))) (jd [] 6))
 (jg (jC (dP (vY pN)) (jd [] 7))
 (jg (J6 (Jg (ja (pV 1) pN)) (jd [] 8) vg)
 (yL (dMv 7))))))))))
def jR:List D->Option D:=fnP 10 qL
def vX:FS:=(jg (jC (dP (jH jt (ja (pV 0) (ja (p2 jr (pC (.int 20)) (pV 4)) pN)))) (jd [] 5))
 (jg (jC (dP (jH j7 (ja (p2 jr (pV 0) (pV 4)) (ja (p2 jn (pV 5) (pC (.int 1009))) (ja (p2 jc (vY (ja (pC (.int 30)) (ja (p2 YM (pC (.int 10)) (pC (.int 12))) pN))) (p2 jn (p2 jA (pV 5) (pC (.int 1009))) (pC (.int 2)))) pN))))) (jd [] 6))
 (VQ 3 (yU (ja (pF (p2 jc (pV 1) (p2 jr (pC (.int 1)) (pV 4)))) (ja (pF (pV 6)) (ja (jH j7 (ja (p2 jr (pV 0) (pV 4)) (ja (p2 jn (p2 jA (pV 5) (pC (.int 2018))) (pC (.int 997))) (ja (p2 jc (vY (ja (pC (.int 9)) (ja (p2 YM (pC (.int 10)) (pC (.int 12))) pN))) (p2 jn (p2 jA (pV 2) (pC (.int 6))) (pC (.int 2)))) pN)))) pN)))))))
def JI:FS:=(jg (jC (dP (vY pN)) (jd [] 3))
 (jg (J6 (Jg (ja (p2 jr (pC (.int 1)) (p2 jn (pV 2) (pC (.int 6)))) pN)) (jd [] 4) vX)
 (yL (dMv 3))))
def vI:List D->Option D:=fnP 7 JI
def qu:FS:=(jg (jC (dP (pF (p2 jc (pV 5) (p2 jn (pV 0) (pCB qy (ja (pV 5) pN)))))) (jd [] 6))
 (jg (sIf (dPT (QY (jh (p2 vk (pV 6) (pC (.str [115,104,97,114,101])))) (jh (p2 Qs (pCB qy (ja (pV 3) pN)) (pC (.int 1)))))) (jg v8
 v8)
 jF)
 (jg (sIf (dPT (QY (jh (p2 vk (pV 6) (pC (.str [114,101,112,97,121])))) (jh (p2 Kl (pV 3) (vY pN))))) v8
 jF)
 (jg (sIf (dPT (QY (jh (p2 vk (pV 6) (pC (.str [102,105,108,108])))) (jh (p2 Kl (pV 2) (vY pN))))) v8
 jF)
 (jg (sIf (dPT (jh (p2 vk (pV 6) (pC (.str [108,101,110,100]))))) (yL (dP (yU (ja (pC (.str [108,101,110,100])) (ja (pF (p2 jc (pV 4) (p2 jn (p2 jA (pV 0) (pC (.int 9))) (pC (.int 2))))) (ja (jH j7 (ja (pV 0) (ja (p2 jn (p2 jA (pV 0) (pC (.int 18))) (pC (.int 1009))) (ja (p2 jc (vY (ja (pC (.int 9)) (ja (p2 YM (pC (.int 10)) (pC (.int 12))) pN))) (p2 jn (p2 jA (pV 0) (pC (.int 27))) (pC (.int 2)))) pN)))) pN))))))
 jF)
 (jg (sIf (dPT (jh (p2 vk (pV 6) (pC (.str [98,97,99,107]))))) (yL (dP (yU (ja (pC (.str [98,97,99,107])) (ja (pF (p2 jc (pV 4) (p2 jn (p2 jA (pV 0) (pC (.int 9))) (pC (.int 2))))) pN)))))
 jF)
 (yL (dP (yU (ja (pC (.str [112,97,121])) (ja (pF (p2 jc (p2 jc (pV 1) (p2 jn (p2 jA (pV 0) (pC (.int 9))) (pCB qy (ja (pV 1) pN)))) (pC (.int 0)))) pN)))))))))))
def vn:List D->Option D:=fnP 8 qu
def yZ:FS:=(jg (jC (dP (jH jt (ja (pV 0) (ja (p2 jr (pC (.int 200)) (pV 5)) pN)))) (jd [] 7))
 (jg (jC (dP (pF (p2 jc (vY (ja (pF (p2 jc (pV 6) (pC (.int 1)))) (ja (pC (.int 1)) (ja (p2 jr (pC (.int 1)) (p2 jn (p2 jA (pV 7) (pC (.int 35))) (p2 jc (pV 6) (pC (.int 1))))) pN)))) (p2 jn (p2 jA (pV 7) (pC (.int 5))) (pC (.int 3)))))) (jd [] 8))
 (jg (jC (dP (p2 jr (p2 jc (pV 6) (pC (.int 2))) (p2 jc (vY (ja (pC (.int 0)) (ja (p2 jn (p2 jA (pV 7) (pC (.int 7))) (p2 jr (p2 j9 (pC (.int 2)) (p2 jc (pV 6) (pC (.int 2)))) (pC (.int 1)))) (ja (p2 jn (p2 jA (pV 7) (pC (.int 15))) (p2 YM (pC (.int 10)) (pC (.int 13)))) pN)))) (p2 jn (p2 jA (pV 7) (pC (.int 15))) (pC (.int 3)))))) (jd [] 9))
 (jg (sIf (dPT (jh (p2 vk (p2 jn (pV 7) (pC (.int 5))) (pC (.int 0))))) (jg (jC (dP (pC (.int 0))) (jd [] 8))
 (jC (dP (pC (.int 0))) (jd [] 9)))
 jF)
 (jg (VQ 2 (yU (ja (pF (p2 jc (pV 6) (pC (.int 0)))) (ja (pF (pV 8)) pN))))
 (jg (VQ 3 (yU (ja (pF (p2 jc (pV 6) (pC (.int 0)))) (ja (pF (pV 9)) pN))))
 (VQ 4 (yU (ja (pF (p2 jc (pV 6) (pC (.int 0)))) (ja (p2 jn (p2 jA (pV 7) (pC (.int 45))) (pC (.int 4))) pN))))))))))
def vH:FS:=(jg (jC (dP (jH jt (ja (pV 0) (ja (p2 jr (pC (.int 210)) (pV 5)) pN)))) (jd [] 7))
 (VQ 10 (yU (ja (pF (p2 jc (pV 11) (pC (.int 0)))) (ja (pF (p2 jc (vY (ja (pC (.int 0)) (ja (pF (p2 jc (pV 11) (pC (.int 1)))) (ja (p2 jn (p2 jA (pV 7) (pC (.int 3))) (p2 jr (p2 jc (pV 11) (pC (.int 1))) (pC (.int 1)))) pN)))) (p2 jn (pV 7) (pC (.int 3))))) pN)))))
def Vd:FS:=(jg (jC (dP (vY pN)) (jd [] 2))
 (jg (jC (dP (vY pN)) (jd [] 3))
 (jg (jC (dP (vY pN)) (jd [] 4))
 (jg (J6 (YW (ja (pF (p2 jc (pV 1) (pC (.int 1)))) pN)) (gT 2 (gC (jd [] 5) (gC (jd [] 6) gN))) yZ)
 (jg (jC (dP (vY pN)) (jd [] 10))
 (jg (J6 (YW (ja (pF (p2 jc (pV 1) (pC (.int 2)))) pN)) (gT 2 (gC (jd [] 5) (gC (jd [] 11) gN))) vH)
 (sFz 2 (sFz 3 (sFz 4 (sFz 10 (yL (dP (yU (ja (pF (pV 2)) (ja (pF (pV 3)) (ja (pF (pV 4)) (ja (pF (pV 10)) (ja (p2 jn (jH jt (ja (pV 0) (ja (pC (.int 220)) pN))) (pC (.int 50))) pN))))))))))))))))))
def qi:List D->Option D:=fnP 12 Vd
def j5:FS:=(jg (jC (dP (jH jt (ja (pV 0) (ja (p2 jr (pC (.int 230)) (pV 4)) pN)))) (jd [] 6))
 (jg (sIf (dPT (jh (p2 vk (p2 jn (pV 6) (pC (.int 2))) (pC (.int 0))))) (VQ 3 (yU (ja (pF (p2 jc (pV 1) (pC (.int 0)))) (ja (pF (pV 5)) (ja (jH j7 (ja (pV 6) (ja (p2 jn (p2 jA (pV 6) (pC (.int 2))) (pC (.int 1009))) (ja (p2 jc (vY (ja (pC (.int 9)) (ja (p2 YM (pC (.int 10)) (pC (.int 12))) pN))) (p2 jn (p2 jA (pV 6) (pC (.int 11))) (pC (.int 2)))) pN)))) pN)))))
 jF)
 (sIf (dPT (jh (p2 vk (p2 jn (p2 jA (pV 6) (pC (.int 2))) (pC (.int 2))) (pC (.int 0))))) (VQ 3 (yU (ja (pF (pV 5)) (ja (pF (p2 jc (pV 1) (pC (.int 0)))) (ja (jH j7 (ja (pV 6) (ja (p2 jn (p2 jA (pV 6) (pC (.int 4))) (pC (.int 1009))) (ja (p2 jc (vY (ja (pC (.int 9)) (ja (p2 YM (pC (.int 10)) (pC (.int 12))) pN))) (p2 jn (p2 jA (pV 6) (pC (.int 13))) (pC (.int 2)))) pN)))) pN)))))
 jF)))
def YX:FS:=(jg (jC (dP (vY pN)) (jd [] 3))
 (jg (J6 (YW (ja (pF (pV 2)) pN)) (gT 2 (gC (jd [] 4) (gC (jd [] 5) gN))) j5)
 (yL (dP (pCB Yd (ja (pV 3) pN))))))
def ky:List D->Option D:=fnP 7 YX
def Vt:FS:=(jg (jC (dP (jH jt (ja (pV 0) (ja (pC (.int 240)) pN)))) (jd [] 3))
 (jg (jC (dP (p2 jr (pCB Kn (ja (vm (Vs (p2 jr (p2 jc (pV 2) (pC (.int 0))) (p2 jc (pV 2) (pC (.int 1))))) (gT 2 (gC (jd [] 0) (gC (jd [] 1) gN))) qT (pF (pV 1)) [none,none]) pN)) (pCB Kn (ja (vm (Vs (p2 jc (pV 1) (pC (.int 2)))) (gT 2 (gC (jd [] 0) (gC (jd [] 1) gN))) qT (pF (pV 1)) [none,none]) pN)))) (jd [] 4))
 (jg (jC (dP (pCB Kn (ja (vm (Vs (pSl (p2 jc (pV 2) (pC (.int 1))) oN (oS (p2 jr (pC (.int 1)) (p2 jn (p2 jA (pV 3) (pC (.int 6))) (pC (.int 6))))))) (gT 2 (gC (jd [] 0) (gC (jd [] 1) gN))) qT (pF (pV 1)) [none,none]) pN))) (jd [] 5))
 (yL (dP (pF (p2 jc (vY (ja (pC (.int 0)) (ja (p2 jr (pC (.int 1)) (p2 jn (p2 jA (pV 3) (pC (.int 6))) (pC (.int 9)))) (ja (pF (pV 5)) (ja (p2 j9 (pV 5) (p2 jr (pC (.int 1)) (p2 jn (p2 jA (pV 3) (pC (.int 36))) (pC (.int 3))))) (ja (p2 jn (p2 j9 (pV 3) (pV 3)) (p2 jr (pV 4) (pC (.int 2)))) (ja (p2 jr (p2 j9 (pV 4) (pC (.int 3))) (pV 3)) pN))))))) (p2 jn (pV 3) (pC (.int 6))))))))))
def qp:List D->Option D:=fnP 6 Vt
def yT:FS:=(xn 0 (Jm [114,111,119,115] jK) (jgn (vj (dP (pF (pV 4))) (vj (dP (pC (.str [112,97,114,116]))) (vj (dP (pF (p2 jc (pV 5) (pC (.int 0))))) (vj (dP (pF (p2 jc (pV 3) (pV 4)))) (vj (jM yo 0 jK (ja (pF (p2 jc (pV 3) (pV 4))) pN)) jgo)))))))
def vM:FS:=(jg (jC (dP (jH vZ (ja (pV 1) (ja (pV 2) pN)))) (jd [0] 3))
 (jg (J6 (YW (ja (pF (pV 1)) pN)) (gT 2 (gC (jd [0] 4) (gC (jd [0] 5) gN))) yT)
 (sIf (dPT (QY (jh (p2 Qs (pCB Kn (ja (vm (Vs (pV 1)) (jd [] 0) qT (pF (p2 jc (pV 0) (pC (.int 1)))) [none]) pN)) (pC (.int 10)))) (jh (p2 Qs (pV 2) (pC (.int 0)))))) (jQ 0 (Jm [114,111,119,115] jK) (yU (ja (p1 zw (pC (.int 1))) (ja (pC (.str [116,119,105,99,101])) (ja (pC (.str [])) (ja (pCB Kn (ja (pV 3) pN)) (ja (pF (pV 2)) pN)))))))
 jF)))
def yz:List D->Option (D×D):=fnM 6 0 vM
def Yu:FS:=(jg (jC (dP (pF (p2 jO (p2 jO (pV 0) (pC (.str [111,119,101,100]))) (pV 2)))) (jd [0] 3))
 (jg (jC (jM yo 0 jK (ja (pF (pV 3)) pN)) (jd [0] 4))
 (jg (ya 0 (Jm [111,119,101,100] jK) (pV 2) (p2 vS (pV 3) (pV 4)))
 (jg (jQ 0 (Jm [114,111,119,115] jK) (yU (ja (pF (pV 1)) (ja (pC (.str [112,97,121])) (ja (pF (pV 2)) (ja (pF (pV 3)) (ja (pF (pV 4)) pN)))))))
 (sIf (dPT (QY (jh (p2 vk (pV 4) (pV 3))) (jh (p2 Qs (pV 3) (pC (.int 0)))))) (jQ 0 (Jm [115,101,114,118,101,100] jK) (pF (pV 2)))
 jF)))))
def qX:List D->Option (D×D):=fnM 5 0 Yu
def yh:FS:=(sIf (dPT (QY (jh (p2 vk (pV 6) (p2 jc (pV 3) (pC (.int 0))))) (jh (p2 vk (pV 7) (p2 jc (pV 3) (pC (.int 1))))))) (jC (dP (p2 jr (pV 5) (pIf (jh (p2 vk (pV 6) (pC (.str [108,101,110,100])))) (pF (pV 8)) (p2 vS (pC (.int 0)) (pV 8))))) (jd [0,0] 5))
 jF)
def JC:FS:=(jg (jC (dP (yU (ja (pF (pV 1)) (ja (pF (p2 jc (pV 3) (pC (.int 1)))) pN)))) (jd [0] 4))
 (jg (sIf (dPT (jh (p2 vk (p2 jc (pV 3) (pC (.int 0))) (pC (.str [98,97,99,107]))))) (jC (dP (yU (ja (pF (p2 jc (pV 3) (pC (.int 1)))) (ja (pF (pV 1)) pN)))) (jd [0] 4))
 jF)
 (jg (jC (dP (pCB Kn (ja (vm (Vs (p2 jO (pV 0) (pC (.str [108,111,97,110,115])))) (gT 3 (gC (jd [] 0) (gC (jd [] 1) (gC (jd [] 2) gN)))) (jh (p2 vk (yU (ja (pF (pV 0)) (ja (pF (pV 1)) pN))) (pV 3))) (pF (pV 2)) [none,none,none,some 4]) pN))) (jd [0] 5))
 (jg (jce 0 [109,111,118,101,115] (gT 3 (gC (jd [0,0] 6) (gC (jd [0,0] 7) (gC (jd [0,0] 8) gN)))) yh)
 (jg (jC (dP (pF (pV 5))) (jd [0] 9))
 (jg (sIf (dPT (jh (p2 vk (p2 jc (pV 3) (pC (.int 0))) (pC (.str [108,101,110,100]))))) (jC (dP (pCB jgk (ja (pC (.int 0)) (ja (p2 vS (p2 jc (pV 3) (pC (.int 2))) (pV 5)) pN)))) (jd [0] 9))
 jF)
 (jg (jC (jM yo 0 jK (ja (pF (pV 9)) pN)) (jd [0] 10))
 (jg (jQ 0 (Jm [114,111,119,115] jK) (yU (ja (pF (pV 2)) (ja (pF (p2 jc (pV 3) (pC (.int 0)))) (ja (pF (p2 jc (pV 3) (pC (.int 1)))) (ja (pF (pV 9)) (ja (pF (pV 10)) pN)))))))
 (sIf (dPT (jh (p2 Qs (pV 10) (pC (.int 0))))) (jQ 0 (Jm [109,111,118,101,115] jK) (yU (ja (pF (p2 jc (pV 3) (pC (.int 0)))) (ja (pF (p2 jc (pV 3) (pC (.int 1)))) (ja (pF (pV 10)) pN)))))
 jF)))))))))
def kc:List D->Option (D×D):=fnM 11 0 JC
def yw:FS:=(jg (jC (dP (pF (p2 jc (p2 jc (pV 3) (pC (.int 0))) (pV 4)))) (jd [0] 6))
 (jg (jC (dP (pCB zU (ja (pV 6) (ja (Y5 0 "cash" (pV 0)) pN)))) (jd [0] 7))
 (jg (YA 0 jK 0 "cash" (λm n=>m - n) (pV 7))
 (jQ 0 (JP 0 "entries" jK) (yU (ja (pF (pV 4)) (ja (pC (.str [112,97,114,116])) (ja (pF (p2 jc (pV 5) (pC (.int 0)))) (ja (pF (pV 6)) (ja (pF (pV 7)) pN))))))))))
def yS:FS:=(jg (jC (dP (pF (Y5 0 "cash" (pV 0)))) (jd [0] 2))
 (jg (jC (dP (jH Ye (ja (pV 1) (ja (pV 2) pN)))) (jd [0] 3))
 (jg (J6 (YW (ja (pF (pV 1)) pN)) (gT 2 (gC (jd [0] 4) (gC (jd [0] 5) gN))) yw)
 (sIf (dPT (jh (p2 Qs (p2 jc (pV 3) (pC (.int 1))) (pC (.int 0))))) (jQ 0 (JP 0 "entries" jK) (yU (ja (p1 zw (pC (.int 1))) (ja (pC (.str [116,119,105,99,101])) (ja (pC (.str [])) (ja (pCB Kn (ja (p2 jc (pV 3) (pC (.int 0))) pN)) (ja (pF (pV 2)) pN)))))))
 jF))))
def jJ:List D->Option (D×D):=fnM 8 0 yS
def yd:FS:=(jg (jC (dP (pF (p2 jc (pV 2) (pC (.int 0))))) (jd [0] 3))
 (jg (jC (dP (pF (p2 jc (pV 2) (pC (.int 1))))) (jd [0] 4))
 (jg (jC (dP (JH jk 0 "need_of" (pV 0) (ja (pV 2) pN))) (jd [0] 5))
 (jg (jC (dP (pCB zU (ja (pV 5) (ja (Y5 0 "cash" (pV 0)) pN)))) (jd [0] 6))
 (jg (YA 0 jK 0 "cash" (λm n=>m - n) (pV 6))
 (jg (jQ 0 (JP 0 "entries" jK) (yU (ja (pF (pV 1)) (ja (pF (pV 3)) (ja (pF (pV 4)) (ja (pF (pV 5)) (ja (pF (pV 6)) pN)))))))
 (jg (JR (vb jx 0 0 "give" (ja (pF (pV 3)) (ja (pF (pV 4)) (ja (pF (pV 6)) pN)))))
 (sIf (dPT (QY (jh (p2 (zE false) (pV 3) (yU (ja (pC (.str [112,97,121])) (ja (pC (.str [114,101,112,97,121])) pN))))) (QY (jh (p2 vk (pV 6) (pV 5))) (jh (p2 Qs (pV 5) (pC (.int 0))))))) (ya 0 (JP 0 "served" jK) (pV 4) (pC (.bl true)))
 jF))))))))
def jq:List D->Option (D×D):=fnM 7 0 yd
def km:FS:=(jg (jC (dP (p2 jr (pC (.int 1)) (p2 jn (jH jt (ja (pV 1) (ja (p2 jr (p2 jr (pV 3) (pC (.int 40))) (pV 11)) pN))) (p2 jc (vY (ja (pC (.int 2)) (ja (pC (.int 3)) (ja (pC (.int 10)) pN)))) (p2 jn (p2 jA (pV 9) (pC (.int 6))) (pC (.int 3))))))) (jd [] 12))
 (VQ 10 (yU (ja (pF (p2 jc (p2 jc (pV 4) (p2 jn (p2 jr (p2 jA (pV 9) (pC (.int 18))) (pV 11)) (pCB qy (ja (pV 4) pN)))) (pC (.int 0)))) (ja (pF (pV 12)) pN)))))
def kt:FS:=(jg (jC (dP (jH jt (ja (p2 jr (pV 1) (jH v9 (ja (pV 0) (ja (p2 jr (pV 3) (pV 14)) pN)))) (ja (p2 jr (pV 3) (pV 14)) pN)))) (jd [] 15))
 (VQ 13 (jH vn (ja (pV 15) (ja (pV 4) (ja (pV 5) (ja (pV 6) (ja (pV 7) (ja (pV 8) pN)))))))))
def Yq:FS:=(jg (jC (dP (jH jt (ja (pV 1) (ja (pV 3) pN)))) (jd [] 9))
 (jg (jC (dP (vY pN)) (jd [] 10))
 (jg (J6 (Jg (ja (pCB zU (ja (pCB qy (ja (pV 4) pN)) (ja (p2 jc (vY (ja (pC (.int 0)) (ja (pC (.int 0)) (ja (pC (.int 1)) (ja (pC (.int 2)) (ja (pC (.int 3)) (ja (pC (.int 6)) pN))))))) (p2 jn (pV 9) (pC (.int 6)))) pN))) pN)) (jd [] 11) km)
 (jg (jC (dP (vY pN)) (jd [] 13))
 (jg (sIf (dPT (jh (p2 Kl (pV 8) (vY pN)))) (J6 (Jg (ja (p2 jc (vY (ja (pC (.int 2)) (ja (pC (.int 4)) (ja (pC (.int 8)) (ja (p2 jr (pC (.int 1)) (p2 jn (p2 jA (pV 9) (pC (.int 108))) (pC (.int 8)))) pN))))) (p2 jn (p2 jA (pV 9) (pC (.int 864))) (pC (.int 4)))) pN)) (jd [] 14) kt)
 jF)
 (jg (VQ 13 (yU (ja (pC (.str [114,101,115,116])) (ja (pF (p2 jc (p2 jc (pV 4) (p2 jn (p2 jA (pV 9) (pC (.int 3456))) (pCB qy (ja (pV 4) pN)))) (pC (.int 0)))) pN))))
 (sFz 10 (sFz 13 (yL (dP (yU (ja (pF (pV 2)) (ja (pF (pV 10)) (ja (pF (pV 13)) pN))))))))))))))
def ki:List D->Option D:=fnP 16 Yq
def yx:FS:=(jg (jC (dP (p2 jr (pCB qy (ja (p2 jc (pV 1) (pC (.int 1))) pN)) (pV 6))) (jd [] 8))
 (sIf (dPT (jh (p2 vk (p2 jc (pV 7) (pC (.int 0))) (pC (.str [114,101,115,116]))))) (JR (jM qt 5 jK (ja (pF (pV 8)) (ja (pF (p2 jc (pV 7) (pC (.int 1)))) pN))))
 (sIf (dPT (jh (p2 vk (p2 jc (pV 7) (pC (.int 0))) (pC (.str [112,97,121]))))) (JR (jM qX 5 jK (ja (pF (pV 8)) (ja (pF (p2 jc (pV 7) (pC (.int 1)))) pN))))
 (JR (jM kc 5 jK (ja (pF (p2 jc (pV 0) (pC (.int 0)))) (ja (pF (pV 8)) (ja (pF (pV 7)) pN))))))))
def K0:FS:=(jg (jC (dP (jH Jp (ja (pV 0) (ja (pV 2) (ja (pV 3) (ja (pV 4) pN)))))) (jd [] 5))
 (jg (JR (jM yz 5 jK (ja (pF (p2 jc (pV 1) (pC (.int 1)))) (ja (pF (pV 3)) pN))))
 (jg (J6 (YW (ja (pF (p2 jc (pV 1) (pC (.int 2)))) pN)) (gT 2 (gC (jd [] 6) (gC (jd [] 7) gN))) yx)
 (jg (JR (jM ve 5 jK (ja (pF (p2 jc (pV 0) (pC (.int 6)))) pN)))
 (sFz 5 (yL (dP (yU (ja (pF (p2 jO (pV 5) (pC (.str [114,111,119,115])))) (ja (jH vP (ja (pV 5) (ja (pV 2) pN))) (ja (pF (p2 jO (pV 5) (pC (.str [109,111,118,101,115])))) pN)))))))))))
def Jj:List D->Option D:=fnP 9 K0
def VP:FS:=(sIf (dPT (jh (p2 vk (p2 jc (pV 8) (pC (.int 0))) (pC (.str [115,104,97,114,101]))))) v8
 (JR (vb jq 6 0 "take_rule" (ja (pF (pV 7)) (ja (pF (pV 8)) pN)))))
def V8:FS:=(JR (vb yn 6 0 "take_guard" (ja (pF (pV 7)) (ja (pF (p2 jc (pV 9) (pC (.int 0)))) (ja (pF (p2 jc (pV 9) (pC (.int 1)))) pN)))))
def jdB:FS:=(jg (jC (dP (jH vi (ja (pV 0) (ja (pV 1) pN)))) (jd [] 5))
 (jg (jC (dP (wJ yF 0 (ja (pF (pV 0)) (ja (pF (pV 2)) (ja (pF (pV 3)) (ja (pF (pV 4)) pN)))))) (jd [] 6))
 (jg (JR (vb jJ 6 0 "take_parts" (ja (pF (p2 jc (pV 5) (pC (.int 1)))) pN)))
 (jg (J6 (jhd (ja (pF (p2 jc (pV 5) (pC (.int 2)))) pN) (pCB qy (ja (p2 jc (pV 5) (pC (.int 1))) pN))) (gT 2 (gC (jd [] 7) (gC (jd [] 8) gN))) VP)
 (jg (J6 (YW (ja (pF (p2 jc (pV 0) (pC (.int 6)))) pN)) (gT 2 (gC (jd [] 7) (gC (jd [] 9) gN))) V8)
 (yL (jgl 6 0 "entries" "moves" (JH jD 0 "book_behind" (pV 6) (ja (pV 2) pN)))))))))
def K2:List D->Option D:=fnP 10 jdB
def vF:FS:=(jg (jC (dP (jH j7 (ja (p2 jr (pV 1) (pV 7)) (ja (p2 jn (p2 jA (pV 4) (p2 jr (pC (.int 36)) (pV 7))) (pC (.int 1009))) (ja (p2 jc (vY (ja (pC (.int 9)) (ja (p2 YM (pC (.int 10)) (pC (.int 12))) pN))) (p2 jn (p2 jA (pV 4) (pC (.int 12))) (pC (.int 2)))) pN))))) (jd [] 8))
 (VQ 6 (yU (ja (pF (p2 jc (pV 3) (p2 jr (pC (.int 7)) (pV 7)))) (ja (pF (pV 8)) pN)))))
def vQ:FS:=(VQ 14 (jH ki (ja (pV 0) (ja (pV 1) (ja (p2 jc (pV 13) (pV 7)) (ja (p2 jr (pC (.int 3)) (p2 j9 (pC (.int 9)) (pV 7))) (ja (pV 5) (ja (pV 6) (ja (pV 11) (ja (pV 12) (ja (pV 2) pN)))))))))))
def Vq:FS:=(jg (jC (dP (jH jR (ja (pV 1) (ja (pC (.int 12)) pN)))) (jd [] 3))
 (jg (jC (dP (jH jt (ja (pV 1) (ja (pC (.int 1)) pN)))) (jd [] 4))
 (jg (jC (dP (jH vI (ja (pV 1) (ja (pV 3) (ja (pV 4) pN))))) (jd [] 5))
 (jg (jC (dP (vY pN)) (jd [] 6))
 (jg (J6 (Jg (ja (p2 jn (p2 jA (pV 4) (pC (.int 72))) (pC (.int 4))) pN)) (jd [] 7) vF)
 (jg (jC (dP (jH yX (ja (p2 jA (pV 4) (pC (.int 288))) (ja (pV 5) (ja (pV 6) pN))))) (jd [] 9))
 (jg (jC (dP (vm (Vs (pV 9)) (jd [] 0) qT (pF (p2 jc (pV 0) (pC (.int 1)))) [none])) (jd [] 10))
 (jg (jC (dP (vm (Vs (pV 5)) (jd [] 0) (jh (p2 (zE true) (p2 jc (pV 0) (pC (.int 0))) (pV 1))) (pF (p2 jc (pV 0) (pC (.int 0)))) [none,some 10])) (jd [] 11))
 (jg (jC (dP (pSl (pV 3) (oS (pC (.int 10))) oN)) (jd [] 12))
 (jg (jC (dP (jH jR (ja (p2 jr (pV 1) (pC (.int 1))) (ja (pC (.int 2)) pN)))) (jd [] 13))
 (jg (sFz 12 (sFz 11 (sFz 6 (sFz 5 (jC (dP (vY pN)) (jd [] 14))))))
 (jg (J6 (Jg (ja (pC (.int 2)) pN)) (jd [] 7) vQ)
 (jg (jC (dP (vm (Vs (pSl (pV 5) oN (oS (p2 jn (p2 jA (pV 4) (pC (.int 7))) (pC (.int 7)))))) (jd [] 0) qT (pF (p2 jc (pV 0) (pC (.int 0)))) [none])) (jd [] 15))
 (sFz 5 (sFz 6 (sFz 15 (sFz 14 (sFz 9 (yL (dP (yU (ja (pF (p2 jc (pV 3) (pC (.int 0)))) (ja (pF (pV 5)) (ja (pF (pV 6)) (ja (pF (pV 15)) (ja (pF (pV 14)) (ja (vY pN) (ja (pF (pV 9)) pN))))))))))))))))))))))))))))
def qm:List D->Option D:=fnP 16 Vq
def vf(yj:List D->Option D):FS:=(sIf (dPT (jfU (jh (jH yj (ja (p2 jc (pV 0) (pV 2)) (ja (p2 jc (pV 1) (pV 2)) pN)))))) (yL (dP (pC (.bl false))))
 jF)
def vt(yj:List D->Option D):FS:=(jg (sIf (dPT (jh (p2 wU (pV 1) (pC .non)))) (yL (dP (p2 wU (pV 0) (pC .non))))
 jF)
 (jg (sIf (dPT (jh (Km "bool" (pV 1)))) (yL (dP (jdF (Km "bool" (pV 0)) (p2 vk (pV 0) (pV 1)))))
 jF)
 (jg (sIf (dPT (jh (Km "int" (pV 1)))) (yL (dP (jdF (Km "int" (pV 0)) (jdF (jj5 (Km "bool" (pV 0))) (p2 vk (pV 0) (pV 1))))))
 jF)
 (jg (sIf (dPT (jh (Km "str" (pV 1)))) (yL (dP (jdF (Km "str" (pV 0)) (p2 vk (pV 0) (pV 1)))))
 jF)
 (jg (sIf (dPT (QY (jh (Km "tuple" (pV 1))) (jfU (jh (Km "tuple" (pV 0)))))) (yL (dP (pC (.bl false))))
 jF)
 (jg (sIf (dPT (QY (jh (Km "list" (pV 1))) (jfU (jh (Km "list" (pV 0)))))) (yL (dP (pC (.bl false))))
 jF)
 (jg (sIf (dPT (jh (p2 Kl (pCB qy (ja (pV 0) pN)) (pCB qy (ja (pV 1) pN))))) (yL (dP (pC (.bl false))))
 jF)
 (jg (J6 (Jg (ja (pCB qy (ja (pV 1) pN)) pN)) (jd [] 2) (vf yj))
 (yL (dP (pC (.bl true))))))))))))
def jS:Nat->List D->Option D
 | 0=>λ_=>none
 | n+1=>fnP 3 (vt (jS n))
def yj:List D->Option D:=jS 8
noncomputable def vz:FS:=(VQ 10 (pC (.int 7)))
def KO:FS:=(jg (jC (dP (jH qm (ja (pV 0) (ja (pV 1) (ja (pFz (vY (ja (pC (.str [108,101,110,100])) (ja (pC (.str [98,97,99,107])) (ja (pC (.str [112,97,121])) pN))))) pN))))) (jd [] 2))
 (jg (sFz 2 (jC (dP (pF (p2 jc (p2 jc (pV 2) (pC (.int 4))) (p2 jn (jH jt (ja (pV 1) (ja (pC (.int 2)) pN))) (pC (.int 2)))))) (jd [] 3)))
 (jg (jC (dP (jH qi (ja (pV 1) (ja (pV 2) pN)))) (jd [] 4))
 (jg (jC (dP (jH ky (ja (pV 1) (ja (pV 2) (ja (pFz (pSl (jH jR (ja (pV 1) (ja (pC (.int 12)) pN))) (oS (pC (.int 10))) oN)) pN))))) (jd [] 5))
 (jg (sFz 4 (jC (dP (jH qp (ja (pV 1) (ja (pV 2) (ja (pV 4) pN))))) (jd [] 6)))
 (jg (sFz 5 (jC (dP (vY (ja (jH vK (ja (pV 4) pN)) (ja (pCB Qa (ja (pV 5) pN)) pN)))) (jd [] 7)))
 (jg (jC (dP (jH K2 (ja (pV 2) (ja (p2 jc (pV 3) (pC (.int 0))) (ja (p2 jc (pV 7) (pC (.int 0))) (ja (pV 6) (ja (p2 jc (pV 7) (pC (.int 1))) pN))))))) (jd [] 8))
 (jg (jC (dP (jH Jj (ja (pV 2) (ja (pV 3) (ja (pV 4) (ja (pV 6) (ja (pV 5) pN))))))) (jd [] 9))
 (jg (sIf (dPT (jfU (jh (jH yj (ja (pV 8) (ja (pV 9) pN)))))) (yL (dP (pC (.bl false))))
 jF)
 (jg (wz (jiZ (vj (xB 8 (lIx 0 jK)) (vj (xB 8 (lIx 0 (lIx 1 jK))) (vj (xB 8 (lIx 1 (lIx 1 jK))) (vj (xB 8 (lIx 2 (lIx 1 jK))) (vj (xB 8 (lIx 3 (lIx 1 jK))) (vj (xB 8 (lIx 2 jK)) jgo))))))) (jd [] 10) vz)
 (jg (sFz 4 (sFz 5 (sIf (dPT (jh (p2 Kl (pV 7) (vY (ja (pF (pV 4)) (ja (pF (pV 5)) pN)))))) (yL (dP (pC (.bl false))))
 jF)))
 (yL (dP (jH yj (ja (pFz (jH K2 (ja (pV 2) (ja (p2 jc (pV 3) (pC (.int 0))) (ja (p2 jc (pV 7) (pC (.int 0))) (ja (pV 6) (ja (p2 jc (pV 7) (pC (.int 1))) pN))))))) (ja (pV 9) pN))))))))))))))))
def Jh:List D->Option D:=fnP 11 KO
def zK:FS:=(sIf (dPT (jfU (jh (jH Jh (ja (pV 0) (ja (jH jt (ja (pV 1) (ja (p2 jr (pC (.int 700)) (pV 2)) pN))) pN)))))) (yL (dP (pC (.bl false))))
 jF)
def jhk:FS:=(jg (jC (dP (jH qw (ja (pV 0) pN))) (jd [] 1))
 (jg (J6 (Jg (ja (pC (.int 4)) pN)) (jd [] 2) zK)
 (yL (dP (pC (.bl true))))))
def xZ:List D->Option D:=fnP 3 jhk
structure Txt(P:Program)(w:World)(K:PySem.W.Frag)(mg:Str->Option Value)(cl:Nat->Addr):Prop where
 C0:Cls K (cl 0)
 mk0:PySem.W.makesIn K (cl 0)=true
 kc0:PySem.W.keepIn K (.ref (cl 0))=true
 mg0:mg "Fall" = some (.ref (cl 0))
 N_owed:NoAttr K (cl 0) "owed"
 N_loans:NoAttr K (cl 0) "loans"
 N_pool_name:NoAttr K (cl 0) "pool_name"
 N_cash:NoAttr K (cl 0) "cash"
 N_levels:NoAttr K (cl 0) "levels"
 N_entries:NoAttr K (cl 0) "entries"
 N_served:NoAttr K (cl 0) "served"
 N_sizes:NoAttr K (cl 0) "sizes"
 N_marks:NoAttr K (cl 0) "marks"
 N_moves:NoAttr K (cl 0) "moves"
 n_bool:mg "bool" = none
 n_dict:mg "dict" = none
 n_enumerate:mg "enumerate" = none
 n_int:mg "int" = none
 n_isinstance:mg "isinstance" = none
 n_len:mg "len" = none
 n_list:mg "list" = none
 n_max:mg "max" = none
 n_min:mg "min" = none
 n_range:mg "range" = none
 n_sorted:mg "sorted" = none
 n_str:mg "str" = none
 n_sum:mg "sum" = none
 n_tuple:mg "tuple" = none
 h_tenths_of:kF K mg "tenths_of" (top 2) ["parts"] 1
 h_order_named:kF K mg "order_named" (top 4) ["pool","name","order"] 2
 h_loans_by_ends:kF K mg "loans_by_ends" (top 5) ["loans"] 1
 h_move_loan:kF K mg "move_loan" (top 6) ["coins_of","pool_name","kind","other","coins"] 5
 h_Fall_need_of:jbt K (cl 0) "need_of" "Fall.need_of" (qD (top 11) 3) ["self","rule","kind","name"] 2
 h_Fall_take_guard:jbt K (cl 0) "take_guard" "Fall.take_guard" (qD (top 11) 6) ["self","place","pot","claim","need","got"] 4
 h_Fall_book_behind:jbt K (cl 0) "book_behind" "Fall.book_behind" (qD (top 11) 7) ["self","book","sizes_ahead","runs","claim","days","missed"] 2
 h_law_cell:kF K mg "_law_cell" (top 13) ["_law_script","_law_k"] 2
 h_law_mixed:kF K mg "_law_mixed" (top 14) ["_law_cell_here","_law_k","_law_m"] 2
 h_law_coins:kF K mg "_law_coins" (top 16) ["_law_cell_here","_law_way","_law_most"] 3
 h_law_fold:kF K mg "_law_fold" (top 18) ["_law_script","_law_number","_law_cell_here"] 1
 h_law_guards:kF K mg "_law_guards" (top 20) ["_law_m","_law_claims_here","_law_pots","_law_guards_here","_law_j","_law_claim"] 3
 h_law_asks:kF K mg "_law_asks" (top 27) ["_law_parts","_law_came_here","_law_total","_law_asks_here","_law_odd"] 2
 h_law_till:kF K mg "_law_till" (top 28) ["_law_pool_here","_law_book_here","_law_came_here","_law_loans_here","_law_till_here"] 4
 h_law_take:kF K mg "_law_take" (top 29) ["_law_till_here","_law_need","_law_got"] 2
 h_law_rest:kF K mg "_law_rest" (top 32) ["_law_till_here","_law_place","_law_claim","_law_cash"] 3
 h_law_behind:kF K mg "_law_behind" (top 33) ["_law_till_here","_law_book_here","_law_runs","_law_claim","_law_days","_law_missed","_law_sizes","_law_owed"] 2
 h_law_copied:kF K mg "_law_copied" (top 34) ["_law_book_here"] 1
 h_law_guarded:kF K mg "_law_guarded" (top 36) ["_law_till_here","_law_guards_here","_law_k","_law_guard","_law_need","_law_got"] 2
 h_asked:kF K mg "asked" (top 1) ["parts","came","whole","asks","odd"] 2
 h_Fall___init__:jbt K (cl 0) "__init__" "Fall.__init__" (qD (top 11) 0) ["self","pool","book","came","loans"] 5
 h_Fall_give:jbt K (cl 0) "give" "Fall.give" (qD (top 11) 4) ["self","kind","name","coins","from_owed"] 4
 h_law_names:kF K mg "_law_names" (top 15) ["_law_cell_here","_law_many","_law_m","_law_base","_law_some","_law_size","_law_at","_law_out","_law_k","_law_signs"] 2
 h_law_claims:kF K mg "_law_claims" (top 19) ["_law_seed","_law_names_here","_law_m","_law_claims_here","_law_k","_law_n","_law_size"] 3
 h_law_rule:kF K mg "_law_rule" (top 21) ["_law_n","_law_claims_here","_law_pots","_law_free","_law_others","_law_kinds","_law_kind","_law_size"] 6
 h_law_book:kF K mg "_law_book" (top 24) ["_law_seed","_law_pool_here","_law_sizes","_law_owed","_law_runs","_law_k","_law_claim","_law_n","_law_size","_law_coins_here","_law_levels","_law_pot"] 2
 h_law_loans:kF K mg "_law_loans" (top 25) ["_law_seed","_law_pool_here","_law_others","_law_loans_here","_law_k","_law_other","_law_n"] 3
 h_law_came:kF K mg "_law_came" (top 26) ["_law_seed","_law_pool_here","_law_book_here","_law_n","_law_total","_law_some"] 3
 h_law_parted:kF K mg "_law_parted" (top 30) ["_law_till_here","_law_parts","_law_came_here","_law_asks_here","_law_k","_law_part"] 3
 h_law_pay:kF K mg "_law_pay" (top 31) ["_law_till_here","_law_place","_law_claim","_law_need","_law_got"] 3
 h_law_loan:kF K mg "_law_loan" (top 35) ["_law_till_here","_law_owner","_law_place","_law_rule_here","_law_pair","_law_now","_law_kind","_law_other","_law_coins_here","_law_need","_law_got"] 4
 h_Fall_take_parts:jbt K (cl 0) "take_parts" "Fall.take_parts" (qD (top 11) 1) ["self","parts","came","told","place","part","ask","got"] 2
 h_Fall_take_rule:jbt K (cl 0) "take_rule" "Fall.take_rule" (qD (top 11) 2) ["self","place","rule","kind","name","need","got"] 3
 h_law_order:kF K mg "_law_order" (top 22) ["_law_script","_law_seed","_law_name","_law_at","_law_claims_here","_law_pots","_law_free","_law_others","_law_kinds","_law_m","_law_parts","_law_j","_law_tenths","_law_rules","_law_k","_law_n"] 9
 h_law_due:kF K mg "_law_due" (top 37) ["_law_pool_here","_law_order_here","_law_book_here","_law_came_here","_law_loans_here","_law_till_here","_law_k","_law_rule_here","_law_place"] 5
 h_fell:kF K mg "fell" (top 10) ["pool","order","book","came","loans","rows","fall","place","rule","guard"] 5
 h_law_pool:kF K mg "_law_pool" (top 23) ["_law_script","_law_seed","_law_kinds","_law_names_here","_law_m","_law_claims_here","_law_pots","_law_k","_law_mark","_law_guards_here","_law_shut","_law_free","_law_others","_law_called","_law_orders","_law_eat"] 3
 h_law_alike:kF K mg "_law_alike" (top 17) ["_law_found","_law_due_here","_law_k"] 2
 h_law_one:kF K mg "_law_one" (top 38) ["_law_script","_law_seed","_law_pool_here","_law_order_here","_law_book_here","_law_loans_here","_law_came_here","_law_handed","_law_found","_law_due_here","_law_told"] 2
 h_law:kF K mg "law" (top 39) ["_law_script","_law_seed","_law_turn"] 1
section
variable {P:Program}{w:World}{K:PySem.W.Frag}{mg:Str->Option Value}{cl:Nat->Addr}(T:Txt P w K mg cl)
include T
set_option maxHeartbeats 40000000 in
theorem jgK:NP P w cl T.h_tenths_of 1 kh /\
 NP P w cl T.h_order_named 1 vi /\
 NP P w cl T.h_loans_by_ends 1 yE /\
 NM P w cl T.h_move_loan 1 yP /\
 OP P w cl mg T.h_Fall_need_of 1 jk /\
 OM P w cl mg T.h_Fall_take_guard 1 yn /\
 OP P w cl mg T.h_Fall_book_behind 1 jD /\
 NP P w cl T.h_law_cell 1 v9 /\
 NP P w cl T.h_law_mixed 1 jt /\
 NP P w cl T.h_law_coins 1 j7 /\
 NP P w cl T.h_law_fold 1 qw /\
 NP P w cl T.h_law_guards 1 yX /\
 NP P w cl T.h_law_asks 1 vZ /\
 NP P w cl T.h_law_till 1 Jp /\
 NM P w cl T.h_law_take 1 yo /\
 NM P w cl T.h_law_rest 1 qt /\
 NP P w cl T.h_law_behind 1 vP /\
 NP P w cl T.h_law_copied 1 vK /\
 NM P w cl T.h_law_guarded 1 ve /\
 NP P w cl T.h_asked 2 Ye /\
 OM P w cl mg T.h_Fall___init__ 2 yF /\
 OM P w cl mg T.h_Fall_give 2 jx /\
 NP P w cl T.h_law_names 2 jR /\
 NP P w cl T.h_law_claims 2 vI /\
 NP P w cl T.h_law_rule 2 vn /\
 NP P w cl T.h_law_book 2 qi /\
 NP P w cl T.h_law_loans 2 ky /\
 NP P w cl T.h_law_came 2 qp /\
 NM P w cl T.h_law_parted 2 yz /\
 NM P w cl T.h_law_pay 2 qX /\
 NM P w cl T.h_law_loan 2 kc /\
 OM P w cl mg T.h_Fall_take_parts 3 jJ /\
 OM P w cl mg T.h_Fall_take_rule 3 jq /\
 NP P w cl T.h_law_order 3 ki /\
 NP P w cl T.h_law_due 3 Jj /\
 NP P w cl T.h_fell 4 K2 /\
 NP P w cl T.h_law_pool 4 qm /\
 NP P w cl T.h_law_alike 8 yj /\
 NP P w cl T.h_law_one 9 Jh /\
 NP P w cl T.h_law 10 xZ:=by
 cases T
 repeat' refine jk2 ?_ λ_=>?_
 all_goals
  (first | refine okR (by assumption) (λ_=>rfl) (λj f fd S F _ base=>?_) _ | refine okN (by assumption) λf fd S F base=>?_ | refine okO (by assumption) λf fd S F base=>?_)
  (first | refine' jka F.fn S rfl λa A outer s H E b=>?_ | refine' jib F.fn S rfl λa A outer s H E b=>?_)
  apply Exists.intro
  repeat' first | exact rfl | (show QB _ _ _ _ _;first | apply jjK | apply qI | apply jkZ | apply jir | apply jkl | apply jei | apply QP.fzb | apply QK.ix | apply QP.bb) | (show QPs _ _ _ _ _;first | apply jfj | apply jh8) | (show QBs _ _ _ _ _;first | apply jeY | apply jg9) | (show QP _ _ _ _ _;first | ((with_reducible show QP _ _ _ _ (pCB Kn _));refine' Ys (u6 rfl) jiP ?_ jaL ?_) | ((with_reducible show QP _ _ _ _ (pCB yq _));refine' jbl (wg rfl) jdJ ?_ wy ?_) | ((with_reducible show QP _ _ _ _ (pCB zU _));refine' Ys (uy rfl) jhP ?_ uI ?_) | ((with_reducible show QP _ _ _ _ (pCB Qa _));refine' jbl Qm jfz ?_ JA ?_) | ((with_reducible show QP _ _ _ _ (pCB jgk _));refine' Ys (jam rfl) jhP ?_ jan ?_) | ((with_reducible show QP _ _ _ _ (pCB Yd _));refine' Ys Qg u4 ?_ Ky ?_) | ((with_reducible show QP _ _ _ _ (Km "bool" _));refine' jaV (T:="bool") (by decide) ?_ ?_ xR ?_) | ((with_reducible show QP _ _ _ _ (Km "int" _));refine' jaV (T:="int") (by decide) ?_ ?_ jaP ?_) | ((with_reducible show QP _ _ _ _ (Km "str" _));refine' jaV (T:="str") (by decide) ?_ ?_ uX ?_) | ((with_reducible show QP _ _ _ _ (Km "tuple" _));refine' jaV (T:="tuple") (by decide) ?_ ?_ zp ?_) | ((with_reducible show QP _ _ _ _ (Km "list" _));refine' jaV (T:="list") (by decide) ?_ ?_ JA ?_) | ((with_reducible show QP _ _ _ _ (pBM "str" wq _ _));refine' jlq PySem.F.plainAttrs_str PySem.F.slot_str_join PySem.F.type_str_join jfw jeS ?_ ?_) | apply qS | apply jj8 | apply jiL | apply jkv | apply jgW | apply jjQ | apply jko | apply jgt | apply jjc | apply jjS | apply jkD | apply jld | apply jfd | apply ji6 | apply jjY | apply jjl | apply jlb | apply jle | apply jkb | apply jcn | apply jjs | apply jgM | apply jd0 | apply jcb | apply jgb | apply jiQ | apply jii | apply jjp | apply QK.add | apply jj0 | apply QB.f) | (show QSs _ _ _ _ _ _;first | apply jf2 | apply jca | apply jeN) | (show QE _ _ _ _ _;first | apply jcu | apply jji | apply jlm | apply jfE | apply jh0 | apply jeR | apply jkd | apply jim | apply QP.d) | (show QS _ _ _ _ _ _;first | apply jhH | apply jjm | apply QS.fz | apply jhm | apply jgP | apply jfR | apply jc9 | apply jbR | apply jhr | apply jf8 | apply zo (hsw:=by with_unfolding_all rfl) | apply ux | apply jbW | apply u5 | apply je4 | apply jbE | apply jc7 | apply jdQ | apply jfc | apply jiW) | (show QT _ _ _ _ _;first | apply jgV | apply jhU | apply jix | apply QW.t) | (show QGs _ _ _ _ _ _;first | apply jbY | apply jd8) | (show QL _ _ _ _ _ _;first | apply jdg | apply jds | apply jgy | apply jjv) | (show QG _ _ _ _ _ _;first | apply jep | apply jdl | apply QK.g_tup) | (show QIb _ _ _ _ _ _;first | apply jew | apply QI.b') | (show QDs _ _ _ _ _;first | apply jen | apply jis) | (show QI _ _ _ _ _ _;first | apply jfC | apply jer | apply jgu | apply jjd) | (show QW _ _ _ _ _;first | apply jgO | apply jeX) | (show QPo _ _ _ _ _ _ _;first | apply jcS | apply jdW) | (show QO _ _ _ _ _;first | apply jfZ | apply jge) | apply jch | apply qkv | apply c_eq | apply jk9 | apply jk8 | apply jlr | apply jk6 | apply jlh | apply c_notin | apply QK.c_eq | apply QK.c_notin | exact Or.inl rfl | exact Or.inr rfl | exact Or.inr (Or.inl rfl) | exact Or.inr (Or.inr rfl) | exact λ_=>rfl | exact λ_ _=>rfl | exact λ_ _ _=>rfl | exact b.mono (by decide) | exact b.mono (by first | exact M8 _ | exact N6 (by decide) (Nat.le_add_right _ _)) | apply jdc | exact S.nd | (show BlockOk _ _ _ _;exact bkN S) | exact PassesOwn.never | exact jg2 | exact jiU | (intro _ _ _ _;first | show QP _ _ _ _ _ | show QG _ _ _ _ _ _ | show QIf _ _ _ _ _ | show QT _ _ _ _ _ | show QKv _ _ _ _ _ _) | exact⟨rfl,rfl,rfl,rfl⟩ | exact ndN (by decide +kernel) | decide +kernel | with_unfolding_all rfl | assumption | apply jaq | apply jb2 | apply jdN | apply jjX
end
def Cd(w:List Nat):Prop:=∀ c∈w,c < 1114112
noncomputable def kf(c k:Int):Int :=
 let m:=(c % 2147483647*48271+(k*k+3*k+7)*69621) % 2147483647
 m*m % 2147483647
theorem va(c k:Int):0<=kf c k:=N9 _ (by decide)
theorem jaI(c k:Int):kf c k < 2147483647:=N8 _ (by decide)
theorem jj7{k n:Int}(a:0<=k)(h1:k<=n):0<=k*k/\k*k<=n*n:=⟨Int.mul_nonneg a a,Int.mul_le_mul h1 h1 a (Int.le_trans a h1)⟩
theorem yk{c k:Int}(a:0<=k)(h1:k<=1000000):jt [.int c,.int k]=some (.int (kf c k)):=by
 have e:=jj7 a h1;have b:=N9 (c % 2147483647*48271+(k*k+3*k+7)*69621) (show(2147483647:Int)≠0 by decide);have d:=N8 (c % 2147483647*48271+(k*k+3*k+7)*69621) (show(0:Int) < 2147483647 by decide);simp(disch:=omega) [jt,jZ,Yc,yY,jI,kf]
noncomputable def abc:List Nat:=[97,98,99,100,101,102,103,104,105,106,107,108,109,110,112,113,114,115,116,117,118,119,120,121,122]
noncomputable def cons:List Nat:=[98,99,100,102,103,104,106,107,108,109,110,112,113,114,115,116,118,119,120,122]
theorem jgX{i:Int}(a:0<=i)(h1:i < 25):jc (.str abc) (.int i)=some (.str [abc.getD i.toNat 0]):=jkM (by decide) a (by have:abc.length=25:=rfl;omega)
theorem ul{i:Int}(a:0<=i)(h1:i < 20):jc (.str cons) (.int i)=some (.str [cons.getD i.toNat 0]):=jkM (by decide) a (by have:cons.length=20:=rfl;omega)
theorem jif(i:Nat):abc.getD i 0 < 1114112:=jaX (by decide) (by decide)
theorem VI(i:Nat):cons.getD i 0 < 1114112:=jaX (by decide) (by decide)
theorem jbh:∀ ws:List (List Nat),Kj [] ws=ws.flatten
 | []=>rfl
 | w::ws=>by rw[Vf];simp
theorem jeC:∀ X:List Nat,(X.map λc=>[c]).flatten=X
 | []=>rfl
 | c::X=>by rw[L4,List.flatten_cons,jeC X];rfl
theorem jbx(k b:Nat):(List.replicate k [b]).flatten=List.replicate k b:=by
 have:List.replicate k [b]=(List.replicate k b).map λc=>[c]:=by rw[List.map_replicate]
 rw[this,jeC]
theorem jfF{a s:Int}(h:0<=a)(b:0 < s):((a+1) % s).toNat=(a.toNat+1) % s.toNat:=by
 obtain⟨n,rfl⟩:∃ n:Nat,a=(n:Int):=⟨a.toNat,by omega⟩;obtain⟨m,rfl⟩:∃ m:Nat,s=(m:Int):=⟨s.toNat,by omega⟩;have e:((n:Int)+1) % (m:Int)=(((n+1) % m:Nat):Int):=by simp
 have e2:((((n+1) % m:Nat):Int)).toNat=(n+1) % m:=N7 _;rw[e,e2];rfl
def Tg(m s at_:Int)(i:Nat)(w:List Nat):Prop :=
 w[at_.toNat]?=some (cons.getD ((m / 4200+3*(0+(i:Int))) % 20).toNat 0)/\w[(at_.toNat+1) % s.toNat]?=some (cons.getD ((m / 84000+(0+(i:Int)) / 20) % 20).toNat 0)
theorem zV:∀ i,i < 20->∀ j,j < 20->cons.getD i 0=cons.getD j 0->i=j:=by decide
theorem Tg.inj{m s at_:Int}{i j:Nat}{w:List Nat}(hi:i < 30)(c:j < 30)(h1:Tg m s at_ i w)(h2:Tg m s at_ j w):i=j:=by
 have a:=h1.1.symm.trans h2.1;have b:=h1.2.symm.trans h2.2;injection a with a;injection b with b;have a:=zV _ (by omega) _ (by omega) a;have b:=zV _ (by omega) _ (by omega) b;clear h1 h2;generalize m / 4200=A at a;generalize m / 84000=B at b;have b':i / 20=j / 20:=by clear a;omega
 have d:i % 20=j % 20:=by clear b b';omega
 omega
theorem Tg.mk{m s at_:Int}{i:Nat}{bc:Nat}(e:2<=s)(f:0<=at_)(a:at_ < s):Tg m s at_ i (((List.replicate s.toNat bc).set at_.toNat (cons.getD ((m / 4200+3*(0+(i:Int))) % 20).toNat 0)).set ((at_.toNat+1) % s.toNat) (cons.getD ((m / 84000+(0+(i:Int)) / 20) % 20).toNat 0)):=by
 have b:at_.toNat < s.toNat:=by omega
 have c:(at_.toNat+1) % s.toNat < s.toNat:=Nat.mod_lt _ (by omega);have d:at_.toNat≠(at_.toNat+1) % s.toNat:=by
  generalize at_.toNat=n at *;generalize g:s.toNat=z at *;by_cases q:n+1=z
  ·rw[q,Nat.mod_self];omega
  ·rw[Nat.mod_eq_of_lt (by omega)];omega
 refine⟨?_,?_⟩
 ·rw[List.getElem?_set_ne (Ne.symm d),List.getElem?_set_self (by rw[List.length_replicate];exact b)]
 ·rw[List.getElem?_set_self (by rw[List.length_set,List.length_replicate];exact c)]
theorem wo{a0 a1:Option D}{m b s at_:Int}{bc:Nat}(u:bc < 1114112){out:List D}{i:Nat}{o9:Option D}(Q:0<=m)(R:2<=s)(F:s<=8)(S:0<=at_)(G:at_ < s)(hi:i < 100)(H:out.length<=100) :
  ∃(c1 c2:Nat) (o9':Option D),c1∈cons/\c2∈cons/\c1=cons.getD ((m / 4200+3*(0+(i:Int))) % 20).toNat 0/\c2=cons.getD ((m / 84000+(0+(i:Int)) / 20) % 20).toNat 0/\vg [a0,a1,some (.int m),some (.str [bc]),some (.str cons),some (.int s),some (.int at_),some (.lst true out),some (.int (0+(i:Int))),o9]=some (.nx [a0,a1,some (.int m),some (.str [bc]),some (.str cons),some (.int s),some (.int at_),some (.lst true (out++[.str (((List.replicate s.toNat bc).set at_.toNat c1).set ((at_+1) % s).toNat c2)])),some (.int (0+(i:Int))),o9']):=by
 have d:yO (jd [] 0) qT (pF (pV 1)) (kE 0 s.toNat) (jL [none,some 3] [a0,a1,some (.int m),some (.str [bc]),some (.str cons),some (.int s),some (.int at_),some (.lst true out),some (.int (0+(i:Int))),o9])=some ((List.range s.toNat).map λ_=>D.str [bc]):=by
  refine jW (l:=List.range s.toNat) (en:=λi=>.int (0+(i:Int))) rfl (λρ=>∃ o,ρ=[o,some (.str [bc])]) ?_ ⟨none,rfl⟩;rintro x t ρ ⟨o,rfl⟩;exact⟨_,rfl,rfl,_,rfl⟩
 have I:((List.range s.toNat).map λ_=>D.str [bc])=(List.replicate s.toNat [bc]).map D.str:=by
  rw[List.map_const',List.map_replicate,List.length_range]
 rw[I] at d;have J:=ul (i:=(m / 4200+3*(0+(i:Int))) % 20) (by omega) (by omega);have K:=ul (i:=(m / 84000+(0+(i:Int)) / 20) % 20) (by omega) (by omega);have T:=N9 (at_+1) (show s≠0 by omega);have U:=N8 (at_+1) (show 0 < s by omega);obtain⟨a,rfl⟩:∃ n:Nat,at_=(n:Int):=⟨at_.toNat,by omega⟩;obtain⟨f,v⟩:∃ n:Nat,((a:Int)+1) % s=(n:Int):=⟨(((a:Int)+1) % s).toNat,by omega⟩;have L:ixN s.toNat (a:Int)=some a:=jaK (by omega);have M:ixN s.toNat (f:Int)=some f:=jaK (by omega);have y:=yV (j:=s) (by omega) (by omega);have z:lim (kE 0 s.toNat).length=true:=jb (by rw[yG];omega);have A:((List.replicate s.toNat [bc]).map D.str).set a (.str [cons.getD ((m / 4200+3*(0+(i:Int))) % 20).toNat 0])=((List.replicate s.toNat [bc]).set a [cons.getD ((m / 4200+3*(0+(i:Int))) % 20).toNat 0]).map D.str:=by rw[List.map_set]
 have k:∀(l:List (List Nat)),(l.map D.str).set f (.str [cons.getD ((m / 84000+(0+(i:Int)) / 20) % 20).toNat 0])=(l.set f [cons.getD ((m / 84000+(0+(i:Int)) / 20) % 20).toNat 0]).map D.str:=λl=>by rw[List.map_set]
 have g:∀ w∈((List.replicate s.toNat [bc]).set a [cons.getD ((m / 4200+3*(0+(i:Int))) % 20).toNat 0]).set f [cons.getD ((m / 84000+(0+(i:Int)) / 20) % 20).toNat 0],w.length=1/\Cd w:=by
  intro w p;rcases List.mem_or_eq_of_mem_set p with p | rfl
  ·rcases List.mem_or_eq_of_mem_set p with p | rfl
   ·rw[List.eq_of_mem_replicate p];exact⟨rfl,λc d=>by rw[M7.mp d];exact u⟩
   ·exact⟨rfl,λc d=>by rw[M7.mp d];exact VI _⟩
  ·exact⟨rfl,λc d=>by rw[M7.mp d];exact VI _⟩
 have q:(((List.replicate s.toNat [bc]).set a [cons.getD ((m / 4200+3*(0+(i:Int))) % 20).toNat 0]).set f [cons.getD ((m / 84000+(0+(i:Int)) / 20) % 20).toNat 0]).length<=8:=by simp;omega
 generalize E:((List.replicate s.toNat [bc]).set a [cons.getD ((m / 4200+3*(0+(i:Int))) % 20).toNat 0]).set f [cons.getD ((m / 84000+(0+(i:Int)) / 20) % 20).toNat 0]=W at g q;have r:∀(l:List (List Nat)),(∀ w∈l,w.length=1/\Cd w)->(l.map List.length).sum=l.length/\l.flatten.length=l.length/\Cd l.flatten:=by
  intro l
  induction l with
  | nil=>intro _;exact⟨rfl,rfl,λc d=>by simp at d⟩
  | cons w l N =>
   intro h;have a1:=N λx t=>h x (by simp[t]);have O:=h w (by simp);refine⟨by simp only[L4,List.sum_cons,M0];omega,by simp only[List.flatten_cons,N3,M0];omega,?_⟩;intro c d;rw[List.flatten_cons,N1] at d;exact d.elim (O.2 c) (a1.2.2 c)
 have P:qM [] W=true:=by
  unfold qM;have:=r W g;simp only[List.length_nil,Nat.mul_zero];exact X4 (by omega)
 have t:W.flatten=((List.replicate s.toNat bc).set a (cons.getD ((m / 4200+3*(0+(i:Int))) % 20).toNat 0)).set f (cons.getD ((m / 84000+(0+(i:Int)) / 20) % 20).toNat 0):=by
  rw[<- E];have e:((List.replicate s.toNat [bc]).set a [cons.getD ((m / 4200+3*(0+(i:Int))) % 20).toNat 0]).set f [cons.getD ((m / 84000+(0+(i:Int)) / 20) % 20).toNat 0]=(((List.replicate s.toNat bc).set a (cons.getD ((m / 4200+3*(0+(i:Int))) % 20).toNat 0)).set f (cons.getD ((m / 84000+(0+(i:Int)) / 20) % 20).toNat 0)).map λc=>[c]:=by
   rw[List.map_set,List.map_set,List.map_replicate]
  rw[e];exact jeC _
 have B:(a:Int).toNat=a:=by omega
 have C:(((a:Int)+1) % s).toNat=f:=by omega
 refine⟨cons.getD ((m / 4200+3*(0+(i:Int))) % 20).toNat 0,cons.getD ((m / 84000+(0+(i:Int)) / 20) % 20).toNat 0,some (.lst true (W.map D.str)),J1 (by have:cons.length=20:=rfl;omega),J1 (by have:cons.length=20:=rfl;omega),rfl,rfl,?_⟩;rw[B,C,<- t,<- jbh];simp(disch:=omega) [vg,y,z,d,jI,jP,yY,J,K,L,M,v,A,k,E,P,jb,-Int.zero_add,-List.getD_eq_getElem?_getD,-List.map_set,-List.map_replicate]
theorem zO(c:Int){many:Nat}(h1:1<=many)(h2:many<=30):∃ ns:List (List Nat),jR [.int c,.int (many:Int)]=some (.lst true (ns.map D.str))/\ns.length=many/\(∀ w∈ns,Wd w)/\ns.Nodup:=by
 have V:=va c 3;have W:=jaI c 3;have F:=yk (c:=c) (k:=3) (by decide) (by decide);have p:=jgX (i:=kf c 3 % 25) (by omega) (by omega);have E:=jif (kf c 3 % 25).toNat
 generalize X:abc.getD (kf c 3 % 25).toNat 0=b at p E;have Q:([97,98,99,100,101,102,103,104,105,106,107,108,109,110,112,113,114,115,116,117,118,119,120,121,122]:List Nat)=abc:=rfl;have S:([98,99,100,102,103,104,106,107,108,109,110,112,113,114,115,116,118,119,120,122]:List Nat)=cons:=rfl;have H:Yw [.int (many:Int)]=some (kE 0 many):=by
  have:=yV (j:=(many:Int)) (by omega) (by omega);simpa using this
 have I:lim (kE 0 many).length=true:=jb (by rw[yG];omega);by_cases T:kf c 3 / 25 % 3=0/\many < 9
 ·refine⟨(List.range many).map λi=>List.replicate (many - i) b,?_,by simp,λw J=>?_,?_⟩
  ·have Y:yO (jd [] 0) qT (p2 j9 (pV 1) (p2 vS (pV 2) (pV 0))) (kE 0 many) [none,some (.str [b]),some (.int (many:Int))]=some (((List.range many).map λi=>List.replicate (many - i) b).map D.str):=by
    rw[U0];refine jW (l:=List.range many) (en:=λi=>.int (0+(i:Int))) rfl (λρ=>∃ o,ρ=[o,some (.str [b]),some (.int (many:Int))]) ?_ ⟨none,rfl⟩;rintro i hi ρ ⟨o,rfl⟩;have hi:=List.mem_range.mp hi;refine⟨[some (.int (0+(i:Int))),some (.str [b]),some (.int (many:Int))],rfl,?_,_,rfl⟩;have:=jhg (a:=[b]) (n:=(many:Int) - (0+(i:Int))) (by simp) (by omega) (by omega);rw[show((many:Int) - (0+(i:Int))).toNat=many - i by omega,jbx] at this;simp[this,-Int.zero_add]
   have K:(many:Int) < 9:=by omega
   unfold jR;rw[jZ];unfold qL;rw[Q,S];simp(disch:=omega) [F,p,jI,jP,T.1,K,H,I,jL,List.getElem?_cons_zero,Option.join,Y]
  ·obtain⟨i,_,rfl⟩:=M5.mp J;exact⟨by rw[List.length_replicate];omega,λc Z=>by rw[List.eq_of_mem_replicate Z];exact E⟩
  ·refine List.Pairwise.map _ (R:=λa b=>a < b/\b < many) ?_ ?_
   ·rintro x y ⟨h,h'⟩ z;have:=congrArg List.length z;rw[List.length_replicate,List.length_replicate] at this;omega
   ·rw[List.pairwise_iff_getElem];intro i j hi g r;rw[List.getElem_range,List.getElem_range];rw[List.length_range] at g;exact⟨r,g⟩
 ·have L:=N9 (kf c 3 / 525) (show(2+kf c 3 / 75 % 7)≠0 by omega);have U:=N8 (kf c 3 / 525) (show 0 < (2+kf c 3 / 75 % 7) by omega);obtain⟨ρ',e,out,M,t,rfl,u,v⟩:=jX (G:=jd [] 8) (f:=vg) (xs:=kE 0 many) (λi ρ=>∃(out:List (List Nat)) (M t:Option D),ρ=[some (.int c),some (.int (many:Int)),some (.int (kf c 3)),some (.str [b]),some (.str cons),some (.int (2+kf c 3 / 75 % 7)),some (.int (kf c 3 / 525 % (2+kf c 3 / 75 % 7))),some (.lst true (out.map D.str)),M,t]/\out.length=i/\∀(j:Nat) (w:List Nat),out[j]?=some w->Wd w/\Tg (kf c 3) (2+kf c 3 / 75 % 7) (kf c 3 / 525 % (2+kf c 3 / 75 % 7)) j w) (by
   rintro i x ρ hx ⟨out,M,t,rfl,u,v⟩;obtain⟨rfl,hi⟩:=vh hx;obtain⟨c1,c2,o9',hc1,hc2,A,B,p⟩:=wo (a0:=some (.int c)) (a1:=some (.int (many:Int))) (m:=kf c 3) (b:=0) (s:=2+kf c 3 / 75 % 7) (at_:=kf c 3 / 525 % (2+kf c 3 / 75 % 7)) (bc:=b) E (out:=out.map D.str) (i:=i) (o9:=t) V (by omega) (by omega) L U (by omega) (by rw[L0];omega);refine⟨_,_,rfl,.inl p,out++[_],_,_,by rw[N4];rfl,by simp[u],λj w g=>?_⟩;by_cases N:j < out.length
   ·rw[List.getElem?_append_left N] at g;exact v j w g
   ·have O:=(L8.mp g).1;have:j=out.length:=by simp at O;omega
    subst this;rw[List.getElem?_concat_length] at g;cases g;refine⟨⟨by simp;omega,λq C=>?_⟩,?_⟩
    ·rcases List.mem_or_eq_of_mem_set C with C | rfl
     ·rcases List.mem_or_eq_of_mem_set C with C | rfl
      ·rw[List.eq_of_mem_replicate C];exact E
      ·rw[A];exact VI _
     ·rw[B];exact VI _
    ·rw[u,jfF L (by omega),A,B];exact Tg.mk (by omega) L U) (ρ:=[some (.int c),some (.int (many:Int)),some (.int (kf c 3)),some (.str [b]),some (.str cons),some (.int (2+kf c 3 / 75 % 7)),some (.int (kf c 3 / 525 % (2+kf c 3 / 75 % 7))),some (.lst true []),none,none]) ⟨[],none,none,rfl,rfl,λj d g=>by simp at g⟩
  rw[yG] at u;refine⟨out,?_,u,λw J=>?_,?_⟩
  ·unfold jR;rw[jZ];unfold qL;rw[Q,S];by_cases P:kf c 3 / 25 % 3=0
   ·have K:¬ (many:Int) < 9:=λz=>T ⟨P,by omega⟩;simp(disch:=omega) [F,p,jI,jP,P,K,H,jb,e]
   ·simp(disch:=omega) [F,p,jI,jP,P,H,jb,e]
  ·obtain⟨j,g⟩:=List.mem_iff_getElem?.mp J;exact(v j w g).1
  ·unfold List.Nodup;rw[List.pairwise_iff_getElem];intro i j hi g r e;have:=(v i _ (X8 hi)).2.inj (by omega) (by omega) (e▸(v j _ (X8 g)).2);omega
theorem qk{c w most:Int}(d:0<=w)(b:w<=2000)(e:7<=most)(h1:most<=10 ^ 12):∃ v,j7 [.int c,.int w,.int most]=some (.int v)/\1<=v/\v<=most:=by
 have f:=N9 c (show most≠0 by omega);have a:0 < most:=by omega
 have g:=N8 c a;have g3:=N9 ((c % most+1)*(w+48271)*99999999999999997) (show most≠0 by omega);have g4:=N8 ((c % most+1)*(w+48271)*99999999999999997) a;have h:0<=(c % most+1)*(w+48271)/\(c % most+1)*(w+48271)<=10 ^ 12*60000:=⟨Int.mul_nonneg (by omega) (by omega),Int.mul_le_mul (by omega) (by omega) (by omega) (by omega)⟩;simp(disch:=omega) [j7,jZ,YC,yY,jI,jP]
 repeat' split
 all_goals simp
 all_goals omega
noncomputable abbrev W2:=List Nat×Int
noncomputable def e2(p:W2):D:=.tup [.str p.1,.int p.2]
noncomputable abbrev W3:=List Nat×Int×Int
noncomputable def e3(p:W3):D:=.tup [.str p.1,.int p.2.1,.int p.2.2]
noncomputable abbrev WG:=List Nat×List Nat
noncomputable def eG(p:WG):D:=.tup [.str p.1,.str p.2]
theorem yK(l:List W2):fzs (l.map e2)=l.map e2:=vJ λd hd=>by obtain⟨p,_,rfl⟩:=M5.mp hd;rfl
theorem ji(l:List W2):frzs (l.map e2)=true:=yN λd hd=>by obtain⟨p,_,rfl⟩:=M5.mp hd;rfl
theorem Ks(l:List W3):fzs (l.map e3)=l.map e3:=vJ λd hd=>by obtain⟨p,_,rfl⟩:=M5.mp hd;rfl
theorem qG(l:List W3):frzs (l.map e3)=true:=yN λd hd=>by obtain⟨p,_,rfl⟩:=M5.mp hd;rfl
theorem xI(l:List WG):fzs (l.map eG)=l.map eG:=vJ λd hd=>by obtain⟨p,_,rfl⟩:=M5.mp hd;rfl
theorem YD(l:List WG):frzs (l.map eG)=true:=yN λd hd=>by obtain⟨p,_,rfl⟩:=M5.mp hd;rfl
theorem YF{l:List W2}(h:∀ p∈l,Wd p.1)(n:Nat):kx (n+1) (l.map e2)=true:=jbd λd hd=>by
 obtain⟨p,a,rfl⟩:=M5.mp hd;show kx n [.str p.1,.int p.2]=true;simp[kx,qK (h p a).2]
theorem ix2{a b:Int}{i:Int}(h:0<=i)(h2:i < 2)(e:7<=a)(c:a<=10 ^ 12)(f:7<=b)(d:b<=10 ^ 12):∃ v,jc (.lst true [.int a,.int b]) (.int i)=some (.int v)/\7<=v/\v<=10 ^ 12:=by
 have:i=0 \/ i=1:=by omega
 rcases this with rfl | rfl
 ·exact⟨a,rfl,e,c⟩
 ·exact⟨b,rfl,f,d⟩
theorem QF:YM (.int 10) (.int 12)=some (.int 1000000000000):=rfl
theorem jcC{T:List W3}{i:Int}(h:0<=i)(h2:i < T.length):∃ t∈T,jc (.lst false (T.map e3)) (.int i)=some (e3 t):=by
 have a:i.toNat < T.length:=by omega
 refine⟨T[i.toNat],List.getElem_mem a,?_⟩;rw[jbs h (by rw[L0];exact h2),List.getElem?_map,X8 a];rfl
theorem jki{T:List W2}{i:Int}(h:0<=i)(h2:i < T.length):∃ t∈T,jc (.lst false (T.map e2)) (.int i)=some (e2 t):=by
 have a:i.toNat < T.length:=by omega
 refine⟨T[i.toNat],List.getElem_mem a,?_⟩;rw[jbs h (by rw[L0];exact h2),List.getElem?_map,X8 a];rfl
theorem i30{t:W3}:jc (e3 t) (.int 0)=some (.str t.1):=rfl
theorem i20{t:W2}:jc (e2 t) (.int 0)=some (.str t.1):=rfl
structure ClOk(t:W3):Prop where
 w:Wd t.1
 s0:1<=t.2.1
 s1:t.2.1<=10 ^ 12
 d0:1<=t.2.2
 d1:t.2.2<=10 ^ 12
theorem uk{c m:Int}{ns:List (List Nat)}(Q:0<=m)(R:ns.length=12)(J:∀ w∈ns,Wd w):∃ T:List W3,vI [.int c,.lst false (ns.map D.str),.int m]=some (.lst true (T.map e3))/\(∀ t∈T,ClOk t)/\T.map (·.1)=(ns.drop 1).take (1+m % 6).toNat/\T.length=(1+m % 6).toNat:=by
 obtain⟨S,e,T,v,y,z,rfl,g,u,A⟩:=jX (G:=jd [] 4) (f:=vX) (xs:=kE 0 (1+m % 6).toNat) (λi ρ=>∃(T:List W3) (v y z:Option D),ρ=[some (.int c),some (.lst false (ns.map D.str)),some (.int m),some (.lst true (T.map e3)),v,y,z]/\T.length=i/\T.map (·.1)=(ns.drop 1).take i/\∀ t∈T,ClOk t) (by
  rintro i x ρ K ⟨T,v,y,z,rfl,g,u,A⟩;obtain⟨rfl,hi⟩:=vh K;have I:=yk (c:=c) (k:=20+(0+(i:Int))) (by omega) (by omega);have L:=va c (20+(0+(i:Int)));generalize kf c (20+(0+(i:Int)))=n at I L;obtain⟨M,B,C,h⟩:=ix2 (a:=30) (b:=1000000000000) (i:=n / 1009 % 2) (by omega) (by omega) (by decide) (by decide) (by decide) (by decide);obtain⟨N,E,F,p⟩:=ix2 (a:=9) (b:=1000000000000) (i:=m / 6 % 2) (by omega) (by omega) (by decide) (by decide) (by decide) (by decide);obtain⟨s,O,s0,s1⟩:=qk (c:=c+(0+(i:Int))) (w:=n % 1009) (most:=M) (by omega) (by omega) C h;obtain⟨d,P,d0,d1⟩:=qk (c:=c+(0+(i:Int))) (w:=n / 2018 % 997) (most:=N) (by omega) (by omega) F p;have q:i+1 < ns.length:=by omega
  have en:=YZ (o:=false) (l:=ns) (i:=1+(0+(i:Int))) (by omega) (by omega);rw[show(1+(0+(i:Int))).toNat=i+1 by omega,List.getD_eq_getElem?_getD,X8 q,Option.getD_some] at en;refine⟨_,_,rfl,.inl ?_,T++[(ns[i+1],s,d)],some (.int (0+(i:Int))),some (.int n),some (.int s),rfl,by simp[g],?_,λt r=>?_⟩
  ·rw[N4];simp(disch:=first | omega | (simp;done) | (simp;omega)) [vX,I,jI,jP,QF,B,E,O,P,en,jb,e3,-Int.zero_add]
  ·rw[N4,u,List.take_succ_eq_append_getElem (by rw[List.length_drop];omega),List.getElem_drop];simp[Nat.add_comm]
  ·rcases N1.mp r with r | r
   ·exact A t r
   ·rw[M7.mp r];exact⟨J _ (List.getElem_mem q),s0,Int.le_trans s1 h,d0,Int.le_trans d1 p⟩) (ρ:=[some (.int c),some (.lst false (ns.map D.str)),some (.int m),some (.lst true []),none,none,none]) ⟨[],none,none,none,rfl,rfl,rfl,by simp⟩
 rw[yG] at g u;have H:=yV (j:=1+m % 6) (by omega) (by omega);refine⟨T,?_,A,u,g⟩;simp(disch:=first | omega | (simp;done) | (simp;omega)) [vI,jZ,JI,jI,H,e,jb]
theorem jd7{l:List W2}(h:∀ p∈l,Wd p.1):Kl (.lst false (l.map e2)) (.lst true [])=some (.bl (!l.isEmpty)):=by
 cases l with
 | nil=>rfl
 | cons q l=>exact jc1 (YF h 18) rfl
theorem jaS(a:Nat)(b:Int)(h:0<=b):∃ n:Nat,zU [.int (a:Int),.int b]=some (.int (n:Int))/\n<=a/\(n:Int)<=b:=by
 by_cases q:b < (a:Int)
 ·refine⟨b.toNat,?_,by omega,by omega⟩;show some (D.int (if b < (a:Int) then b else a))=_;rw[if_pos q,Int.toNat_of_nonneg h]
 ·refine⟨a,?_,M8 _,by omega⟩;show some (D.int (if b < (a:Int) then b else a))=_;rw[if_neg q]
theorem jbm{m:Int}{T:List W3}{M:List W2}(P:0<=m)(Q:0 < T.length)(s:T.length<=10)(v:∀ p∈M,Wd p.1)(w:M.length<=10):∃ G:List WG,yX [.int m,.lst false (T.map e3),.lst false (M.map e2)]=some (.lst true (G.map eG))/\(∀ g∈G,g.1∈M.map (·.1)/\g.2∈T.map (·.1))/\G.length<=10:=by
 have ne:=jd7 v;by_cases d:M=[]
 ·subst d;have ne:Kl (.lst false []) (.lst true [])=some (.bl false):=rfl;exact⟨[],by simp[yX,jZ,kJ,ne,jb],by simp,by simp⟩
 ·have y:0 < M.length:=List.length_pos_iff.mpr d;have h:M.isEmpty=false:=by cases M with | nil=>exact absurd rfl d | cons _ _=>rfl
  rw[h] at ne;obtain⟨n,en,R,S⟩:=jaS T.length (m % 4) (by omega);obtain⟨U,e,G,k,l,rfl,a,o⟩:=jX (G:=jd [] 4) (f:=vV) (xs:=kE 0 n) (λi ρ=>∃(G:List WG) (k l:Option D),ρ=[some (.int m),some (.lst false (T.map e3)),some (.lst false (M.map e2)),some (.lst true (G.map eG)),k,l]/\G.length=i/\∀ g∈G,g.1∈M.map (·.1)/\g.2∈T.map (·.1)) (by
   rintro i x ρ z ⟨G,k,l,rfl,a,o⟩;obtain⟨rfl,hi⟩:=vh z;have A:=N9 (m / 4+(0+(i:Int))) (show(T.length:Int)≠0 by omega);have B:=N8 (m / 4+(0+(i:Int))) (show 0 < (T.length:Int) by omega);obtain⟨t,C,E⟩:=jcC A B;have F:=N9 (m / 24+(0+(i:Int))*(0+(i:Int))) (show(M.length:Int)≠0 by omega);have H:=N8 (m / 24+(0+(i:Int))*(0+(i:Int))) (show 0 < (M.length:Int) by omega);obtain⟨u,I,J⟩:=jki F H;have K:0<=(0+(i:Int))*(0+(i:Int))/\(0+(i:Int))*(0+(i:Int))<=10*10:=⟨Int.mul_nonneg (by omega) (by omega),Int.mul_le_mul (by omega) (by omega) (by omega) (by omega)⟩;refine⟨_,_,rfl,.inl ?_,G++[(u.1,t.1)],some (.int (0+(i:Int))),some (.str t.1),rfl,by simp[a],λg b=>?_⟩
   ·rw[N4];have L:=i30 (t:=t);have N:=i20 (t:=u);have q:qy [.lst false (T.map e3)]=some (.int (T.length:Int)):=by simp
    have O:qy [.lst false (M.map e2)]=some (.int (M.length:Int)):=by simp
    have r:lim (G.map eG).length=true:=jb (by rw[L0];omega);generalize T.map e3=TT,M.map e2=MM,G.map eG=GG,e3 t=E3,e2 u=E2 at *;simp(disch:=first | omega | (simp;done) | (simp;omega)) [vV,jI,jP,yY,q,O,E,J,L,N,r,jb,eG,-Int.zero_add,-List.length_map]
   ·rcases N1.mp b with b | b
    ·exact o g b
    ·rw[M7.mp b];exact⟨M5.mpr ⟨u,I,rfl⟩,M5.mpr ⟨t,C,rfl⟩⟩) (ρ:=[some (.int m),some (.lst false (T.map e3)),some (.lst false (M.map e2)),some (.lst true []),none,none]) ⟨[],none,none,rfl,rfl,by simp⟩
  rw[yG] at a;have c:=yV (j:=(n:Int)) (by omega) (by omega);rw[N7] at c;refine⟨G,?_,o,by omega⟩;have q:qy [.lst false (T.map e3)]=some (.int (T.length:Int)):=by simp
  generalize T.map e3=TT,M.map e2=MM at *;simp(disch:=first | omega | (simp;done) | (simp;omega)) [yX,jZ,kJ,ne,q,jI,en,c,e,jb,-kC,-yu]
theorem ixL{l:List Int}{i:Int}(h:0<=i)(h2:i < l.length):∃ v∈l,jc (.lst true (l.map D.int)) (.int i)=some (.int v):=by
 have a:i.toNat < l.length:=by omega
 refine⟨l[i.toNat],List.getElem_mem a,?_⟩;rw[jbs h (by rw[L0];exact h2),List.getElem?_map,X8 a];rfl
noncomputable abbrev vD:List Nat:=[114,101,115,116]
noncomputable abbrev Vc:List Nat:=[112,97,121]
noncomputable abbrev jgs:List Nat:=[114,101,112,97,121]
noncomputable abbrev jkj:List Nat:=[102,105,108,108]
noncomputable abbrev y9:List Nat:=[108,101,110,100]
noncomputable abbrev yQ:List Nat:=[98,97,99,107]
abbrev kdD:D:=.lst false [.str y9,.str yQ,.str Vc]
inductive Ru where
 | one (k w:List Nat)
 | lend (w:List Nat) (j:Int)
def eRu:Ru->D
 | .one k w=>.tup [.str k,.str w]
 | .lend w j=>.tup [.str y9,.str w,.int j]
theorem vW(r:Ru):frz (eRu r)=true:=by cases r<;>rfl
theorem J0(l:List Ru):frzs (l.map eRu)=true:=yN λd hd=>by obtain⟨p,_,rfl⟩:=M5.mp hd;exact vW p
theorem zg(l:List Ru):fzs (l.map eRu)=l.map eRu:=vJ λd hd=>by obtain⟨p,_,rfl⟩:=M5.mp hd;exact vv _ (vW p)
inductive RuOk (C O:List (List Nat)):Ru->Prop
 | rest {w:List Nat}:w∈C->RuOk C O (.one vD w)
 | pay {w:List Nat}:w∈C->RuOk C O (.one Vc w)
 | back {w:List Nat}:w∈O->RuOk C O (.one yQ w)
 | lend {w:List Nat}{j:Int}:w∈O->RuOk C O (.lend w j)
theorem jdM{zs:List Int}{k:Int}(h:0<=k)(c:zs.length<=100):∃ v:Int,v9 [.lst false (zs.map D.int),.int k]=some (.int v):=by
 have a:qy [.lst false (zs.map D.int)]=some (.int (zs.length:Int)):=by simp
 by_cases q:k < (zs.length:Int)
 ·have b:k.toNat < zs.length:=by omega
  have ix:jc (.lst false (zs.map D.int)) (.int k)=some (.int zs[k.toNat]):=by
   rw[jbs h (by rw[L0];exact q),List.getElem?_map,X8 b];rfl
  refine⟨zs[k.toNat],?_⟩;generalize zs.map D.int=ZZ at *;simp[v9,jZ,Jx,a,q,ix,-yu]
 ·refine⟨0,?_⟩;generalize zs.map D.int=ZZ at *;simp[v9,jZ,Jx,a,q,-yu]
theorem jd2{n:Int}{T:List W3}{M:List W2}{F:List (List Nat)}{Ot:List (List Nat)}(L:Ot.length=2)(N:0<=n)(O:0 < T.length)(q:T.length<=10)(s:M.length<=10)(u:∀ p∈M,Wd p.1)(x:F.length<=10)(y:∀ w∈F,Wd w)(P:∀ w∈F,w∈T.map (·.1)):∃ r:Ru,vn [.int n,.lst false (T.map e3),.lst false (M.map e2),.lst false (F.map D.str),.lst false (Ot.map D.str),kdD]=some (eRu r)/\RuOk (T.map (·.1)) Ot r:=by
 have g:qy [.lst false (T.map e3)]=some (.int (T.length:Int)):=by simp
 have Q:qy [.lst false (M.map e2)]=some (.int (M.length:Int)):=by simp
 have h:qy [.lst false (F.map D.str)]=some (.int (F.length:Int)):=by simp
 have j:qy [kdD]=some (.int 3):=rfl;have z:=N9 (n / 9) (show(T.length:Int)≠0 by omega);have A:=N8 (n / 9) (show 0 < (T.length:Int) by omega);obtain⟨t,B,C⟩:=jcC z A;have E:=i30 (t:=t);have k:=YZ (o:=false) (l:=Ot) (i:=n / 9 % 2) (by omega) (by omega);have m:=J1 (l:=Ot) (i:=(n / 9 % 2).toNat) (d:=[]) (by omega);generalize Ot.getD (n / 9 % 2).toNat []=w at k m;have G:n % 3=0 \/ n % 3=1 \/ n % 3=2:=by omega
 rcases G with e | e | e
 ·have f:jc kdD (.int (n % 3))=some (.str y9):=by rw[e];rfl
  obtain⟨v,H,I,J⟩:=ix2 (a:=9) (b:=1000000000000) (i:=n / 27 % 2) (by omega) (by omega) (by decide) (by decide) (by decide) (by decide);obtain⟨c,K,R,S⟩:=qk (c:=n) (w:=n / 18 % 1009) (most:=v) (by omega) (by omega) I J;refine⟨.lend w c,?_,.lend m⟩;generalize T.map e3=TT,M.map e2=MM,F.map D.str=FF,Ot.map D.str=OO,e3 t=E3,kdD=KK at *;simp(disch:=first | omega | (simp;done) | (simp;omega)) [vn,jZ,qu,j,g,h,f,jI,jP,jb,eRu,k,QF,H,K,-yu]
 ·have f:jc kdD (.int (n % 3))=some (.str yQ):=by rw[e];rfl
  refine⟨.one yQ w,?_,.back m⟩;generalize T.map e3=TT,M.map e2=MM,F.map D.str=FF,Ot.map D.str=OO,e3 t=E3,kdD=KK at *;simp(disch:=first | omega | (simp;done) | (simp;omega)) [vn,jZ,qu,j,g,h,f,jI,jP,jb,eRu,k,-yu]
 ·have f:jc kdD (.int (n % 3))=some (.str Vc):=by rw[e];rfl
  refine⟨.one Vc t.1,?_,.pay (M5.mpr ⟨t,B,rfl⟩)⟩;generalize T.map e3=TT,M.map e2=MM,F.map D.str=FF,Ot.map D.str=OO,e3 t=E3,kdD=KK at *;simp(disch:=first | omega | (simp;done) | (simp;omega)) [vn,jZ,qu,j,g,h,f,jI,jP,jb,eRu,C,E,-yu]
theorem jct{zs:List Int}{Ot:List (List Nat)}{c a:Int}{nm:List Nat}{T:List W3}{M:List W2}{F:List (List Nat)}(hz:zs.length<=100)(hO:Ot.length=2)(ha:0<=a)(ha2:a<=1000)(hT:0 < T.length)(K:T.length<=10)(L:M.length<=10)(N:∀ p∈M,Wd p.1)(O:F.length<=10)(Q:∀ w∈F,Wd w)(hF:∀ w∈F,w∈T.map (·.1)):∃(P:List W2) (R:List Ru),ki [.lst false (zs.map D.int),.int c,.str nm,.int a,.lst false (T.map e3),.lst false (M.map e2),.lst false (F.map D.str),.lst false (Ot.map D.str),kdD]=some (.tup [.str nm,.lst false (P.map e2),.lst false (R.map eRu)])/\(∀ p∈P,p.1∈T.map (·.1)/\1<=p.2/\p.2<=10)/\P.length<=10/\R.length<=10/\∀ r∈R,RuOk (T.map (·.1)) Ot r:=by
 have g:=yk (c:=c) (k:=a) (by omega) (by omega);have m0:=va c a;generalize kf c a=m at g m0;obtain⟨v,hv,ev⟩:=ixL (l:=[0,0,1,2,3,6]) (i:=m % 6) (by omega) (by show m % 6 < 6;omega);have v0:0<=v:=by simp at hv;omega
 obtain⟨n,en,n1,n2⟩:=jaS T.length v v0;have lT:qy [.lst false (T.map e3)]=some (.int (T.length:Int)):=by simp
 obtain⟨ρ',e,P,b,d,rfl,h,S⟩:=jX (G:=jd [] 11) (f:=km) (xs:=kE 0 n) (λi ρ=>∃(P:List W2) (b d:Option D),ρ=[some (.lst false (zs.map D.int)),some (.int c),some (.str nm),some (.int a),some (.lst false (T.map e3)),some (.lst false (M.map e2)),some (.lst false (F.map D.str)),some (.lst false (Ot.map D.str)),some kdD,some (.int m),some (.lst true (P.map e2)),b,d,none,none,none]/\P.length=i/\∀ p∈P,p.1∈T.map (·.1)/\1<=p.2/\p.2<=10) (by
  rintro i x ρ U ⟨P,b,d,rfl,h,S⟩;obtain⟨rfl,hi⟩:=vh U;have g:=yk (c:=c) (k:=a+40+(0+(i:Int))) (by omega) (by omega);have k0:=va c (a+40+(0+(i:Int)));generalize kf c (a+40+(0+(i:Int)))=k at g k0;obtain⟨u,V,B⟩:=ixL (l:=[2,3,10]) (i:=m / 6 % 3) (by omega) (by show m / 6 % 3 < 3;omega);have u0:2<=u/\u<=10:=by simp at V;omega
  have r0:=N9 k (show u≠0 by omega);have r1:=N8 k (show 0 < u by omega);have W:=N9 (m / 18+(0+(i:Int))) (show(T.length:Int)≠0 by omega);have X:=N8 (m / 18+(0+(i:Int))) (show 0 < (T.length:Int) by omega);obtain⟨t,Y,Z⟩:=jcC W X;have k1:=i30 (t:=t);refine⟨_,_,rfl,.inl ?_,P++[(t.1,1+k % u)],some (.int (0+(i:Int))),some (.int (1+k % u)),rfl,by simp[h],λp C=>?_⟩
  ·rw[N4];have o:lim (P.map e2).length=true:=jb (by rw[L0];omega);generalize T.map e3=TT,P.map e2=PP,e3 t=E3 at *;simp only[List.map] at B;simp(disch:=first | omega | (simp;done) | (simp;omega)) [km,g,jI,jP,lT,Z,B,k1,o,jb,e2,-Int.zero_add]
  ·rcases N1.mp C with C | C
   ·exact S p C
   ·rw[M7.mp C];exact⟨M5.mpr ⟨t,Y,rfl⟩,by show 1<=1+k % u;omega,by show 1+k % u<=10;omega⟩) (ρ:=[some (.lst false (zs.map D.int)),some (.int c),some (.str nm),some (.int a),some (.lst false (T.map e3)),some (.lst false (M.map e2)),some (.lst false (F.map D.str)),some (.lst false (Ot.map D.str)),some kdD,some (.int m),some (.lst true []),none,none,none,none,none]) ⟨[],none,none,rfl,rfl,by simp⟩
 rw[yG] at h;have E:=yV (j:=(n:Int)) (by omega) (by omega);rw[N7] at E;obtain⟨u,V,B⟩:=ixL (l:=[2,4,8,1+m / 108 % 8]) (i:=m / 864 % 4) (by omega) (by show m / 864 % 4 < 4;omega);have u0:1<=u/\u<=8:=by simp at V;omega
 obtain⟨ρ'',e',R,s,z,rfl,A,hR⟩:=jX (G:=jd [] 14) (f:=kt) (xs:=kE 0 u.toNat) (λi ρ=>∃(R:List Ru) (s z:Option D),ρ=[some (.lst false (zs.map D.int)),some (.int c),some (.str nm),some (.int a),some (.lst false (T.map e3)),some (.lst false (M.map e2)),some (.lst false (F.map D.str)),some (.lst false (Ot.map D.str)),some kdD,some (.int m),some (.lst true (P.map e2)),b,d,some (.lst true (R.map eRu)),s,z]/\R.length=i/\∀ r∈R,RuOk (T.map (·.1)) Ot r) (by
  rintro i x ρ U ⟨R,s,z,rfl,A,hR⟩;obtain⟨rfl,hi⟩:=vh U;obtain⟨y,ey⟩:=jdM (zs:=zs) (k:=a+(0+(i:Int))) (by omega) hz;have g:=yk (c:=c+y) (k:=a+(0+(i:Int))) (by omega) (by omega);have k0:=va (c+y) (a+(0+(i:Int)));generalize kf (c+y) (a+(0+(i:Int)))=k at g k0;obtain⟨r,er,kr⟩:=jd2 (n:=k) hO k0 hT K L N O Q hF;refine⟨_,_,rfl,.inl ?_,R++[r],some (.int (0+(i:Int))),some (.int k),rfl,by simp[A],λq H=>?_⟩
  ·rw[N4,L4,List.map_nil];have o:lim (R.map eRu).length=true:=jb (by rw[L0];omega);have a1:=Ks T;have a2:=yK M;have a3:=yD F;have b1:=qG T;have b2:=ji M;have b3:=yi F;have c1:=vq zs;have c2:=qj zs;have g7:=yD Ot;have f7:=yi Ot;have fk:fz kdD=kdD:=rfl;have fk2:frz kdD=true:=rfl;have fr:frz (eRu r)=true:=vW r;generalize T.map e3=TT,M.map e2=MM,F.map D.str=FF,Ot.map D.str=OO,zs.map D.int=ZZ,R.map eRu=RR,eRu r=ER,kdD=KK at *;simp(disch:=first | omega | (simp;done) | (simp;omega)) [kt,ey,g,er,o,a1,a2,a3,b1,b2,b3,c1,c2,g7,f7,fk,fk2,fr,fz,fzs,frz,frzs,-Int.zero_add]
  ·rcases N1.mp H with H | H
   ·exact hR q H
   ·rw[M7.mp H];exact kr) (ρ:=[some (.lst false (zs.map D.int)),some (.int c),some (.str nm),some (.int a),some (.lst false (T.map e3)),some (.lst false (M.map e2)),some (.lst false (F.map D.str)),some (.lst false (Ot.map D.str)),some kdD,some (.int m),some (.lst true (P.map e2)),b,d,some (.lst true []),none,none]) ⟨[],none,none,rfl,rfl,by simp⟩
 rw[yG] at A;have I:=yV (j:=u) (by omega) (by omega);have W:=N9 (m / 3456) (show(T.length:Int)≠0 by omega);have X:=N8 (m / 3456) (show 0 < (T.length:Int) by omega);obtain⟨t,Y,Z⟩:=jcC W X;have k1:=i30 (t:=t);have fP:=yK P;have fP2:=ji P;have fR:=zg (R++[Ru.one vD t.1]);have fR2:=J0 (R++[Ru.one vD t.1]);have ne:Kl kdD (.lst true [])=some (.bl true):=rfl;have lR:lim (R.map eRu).length=true:=jb (by rw[L0];omega);have eR:R.map eRu++[.tup [.str vD,.str t.1]]=(R++[Ru.one vD t.1]).map eRu:=by rw[N4];rfl
 refine⟨P,R++[Ru.one vD t.1],?_,S,by omega,by simp;omega,λr J=>?_⟩
 ·simp only[List.map] at ev B;generalize T.map e3=TT,P.map e2=PP at *;generalize(R++[Ru.one vD t.1]).map eRu=R2 at *;generalize R.map eRu=RR,e3 t=E3,kdD=KK at *;simp(disch:=first | omega | (simp;done) | (simp;omega)) [ki,jZ,Yq,g,ne,lT,jI,jP,ev,en,E,e,B,I,e',Z,k1,lR,eR,fP,fP2,fR,fR2,fz,fzs,frz,frzs,jb,-kC,-yu,-List.length_append]
 ·rcases N1.mp J with J | J
  ·exact hR r J
  ·rw[M7.mp J];exact .rest (M5.mpr ⟨t,Y,rfl⟩)
structure OrdS where
 nm:List Nat
 parts:List W2
 rules:List Ru
def yH(x:OrdS):D:=.tup [.str x.nm,.lst false (x.parts.map e2),.lst false (x.rules.map eRu)]
structure OrdOk(C P:List (List Nat))(x:OrdS):Prop where
 w:Wd x.nm
 parts:∀ p∈x.parts,p.1∈C/\1<=p.2/\p.2<=10
 parts2:x.parts.length<=10
 rules:∀ r∈x.rules,RuOk C P r
 rules2:x.rules.length<=10
theorem kY{l:List D}(h:∀ d∈l,yB d=true):jN l=true:=by rw[vo];exact List.all_eq_true.mpr h
theorem vG(x:OrdS):frz (yH x)=true:=by
 have a:=ji x.parts;have b:=J0 x.rules;simp[yH,frz,frzs,a,b]
theorem jbf{sc kd x5:D}{c m:Int}{ns:List (List Nat)}(r:0<=m)(C:ns.length=12)(t:∀ w∈ns,Wd w):∃(M:List W2) (o7 o8:Option D),jY (jd [] 7) vF (kE 0 (m / 72 % 4).toNat) [some sc,some (.int c),some kd,some (.lst true (ns.map D.str)),some (.int m),some x5,some (.lst true []),none,none,none,none,none,none,none,none,none]=some (.nx [some sc,some (.int c),some kd,some (.lst true (ns.map D.str)),some (.int m),some x5,some (.lst true (M.map e2)),o7,o8,none,none,none,none,none,none,none])/\M.map (·.1)=(ns.drop 7).take (m / 72 % 4).toNat/\M.length=(m / 72 % 4).toNat/\∀ p∈M,Wd p.1/\1<=p.2/\p.2<=10 ^ 12:=by
 obtain⟨E,e,M,o7,o8,rfl,d,j,k⟩:=jX (G:=jd [] 7) (f:=vF) (xs:=kE 0 (m / 72 % 4).toNat) (λi ρ=>∃(M:List W2) (o7 o8:Option D),ρ=[some sc,some (.int c),some kd,some (.lst true (ns.map D.str)),some (.int m),some x5,some (.lst true (M.map e2)),o7,o8,none,none,none,none,none,none,none]/\M.length=i/\M.map (·.1)=(ns.drop 7).take i/\∀ p∈M,Wd p.1/\1<=p.2/\p.2<=10 ^ 12) (by
  rintro i x ρ u ⟨M,o7,o8,rfl,d,j,k⟩;obtain⟨rfl,hi⟩:=vh u;obtain⟨v,z,A,q⟩:=ix2 (a:=9) (b:=1000000000000) (i:=m / 12 % 2) (by omega) (by omega) (by decide) (by decide) (by decide) (by decide);have d0:=Int.ediv_nonneg r (show 0<=36+(0+(i:Int)) by omega);have dd:jA (.int m) (.int (36+(0+(i:Int))))=some (.int (m / (36+(0+(i:Int))))):=jP (by omega) (by omega);generalize m / (36+(0+(i:Int)))=y at d0 dd;obtain⟨s,B,s0,s1⟩:=qk (c:=c+(0+(i:Int))) (w:=y % 1009) (most:=v) (by omega) (by omega) A q;have g:i+7 < ns.length:=by omega
  have en:=YZ (o:=true) (l:=ns) (i:=7+(0+(i:Int))) (by omega) (by omega);rw[show(7+(0+(i:Int))).toNat=i+7 by omega,List.getD_eq_getElem?_getD,X8 g,Option.getD_some] at en;refine⟨_,_,rfl,.inl ?_,M++[(ns[i+7],s)],some (.int (0+(i:Int))),some (.int s),rfl,by simp[d],?_,λp h=>?_⟩
  ·rw[N4];have n:lim (M.map e2).length=true:=jb (by rw[L0];omega);generalize M.map e2=MM,ns.map D.str=NN at *;simp(disch:=first | omega | (simp;done) | (simp;omega)) [vF,jI,jP,dd,QF,z,B,en,n,jb,e2,-Int.zero_add]
  ·rw[N4,j,List.take_succ_eq_append_getElem (by rw[List.length_drop];omega),List.getElem_drop];simp[Nat.add_comm]
  ·rcases N1.mp h with h | h
   ·exact k p h
   ·rw[M7.mp h];exact⟨t _ (List.getElem_mem g),s0,Int.le_trans s1 q⟩) (ρ:=[some sc,some (.int c),some kd,some (.lst true (ns.map D.str)),some (.int m),some x5,some (.lst true []),none,none,none,none,none,none,none,none,none]) ⟨[],none,none,rfl,rfl,rfl,by simp⟩
 rw[yG] at d j;exact⟨M,o7,o8,e,j,d,k⟩
theorem jbe{x3 x4 x9 x10:D}{o7 o8:Option D}{c:Int}{zs:List Int}{T:List W3}{M:List W2}{F cl Ot:List (List Nat)}(N:0 < T.length)(j:T.length<=10)(hl:cl.length=2)(O:∀ w∈cl,Wd w)(Q:Ot.length=2)(S:zs.length<=100)(k:M.length<=10)(m:∀ p∈M,Wd p.1)(n:F.length<=10)(q:∀ w∈F,Wd w)(U:∀ w∈F,w∈T.map (·.1)):∃(os:List OrdS) (o7':Option D),jY (jd [] 7) vQ (kE 0 2) [some (.lst false (zs.map D.int)),some (.int c),some kdD,some x3,some x4,some (.lst false (T.map e3)),some (.lst false (M.map e2)),o7,o8,some x9,some x10,some (.lst false (F.map D.str)),some (.lst false (Ot.map D.str)),some (.lst true (cl.map D.str)),some (.lst true []),none]=some (.nx [some (.lst false (zs.map D.int)),some (.int c),some kdD,some x3,some x4,some (.lst false (T.map e3)),some (.lst false (M.map e2)),o7',o8,some x9,some x10,some (.lst false (F.map D.str)),some (.lst false (Ot.map D.str)),some (.lst true (cl.map D.str)),some (.lst true (os.map yH)),none])/\os.map (·.nm)=cl/\∀ x∈os,OrdOk (T.map (·.1)) Ot x:=by
 obtain⟨ρ',e,os,o7',rfl,d,b,r⟩:=jX (G:=jd [] 7) (f:=vQ) (xs:=kE 0 2) (λi ρ=>∃(os:List OrdS) (o7':Option D),ρ=[some (.lst false (zs.map D.int)),some (.int c),some kdD,some x3,some x4,some (.lst false (T.map e3)),some (.lst false (M.map e2)),o7',o8,some x9,some x10,some (.lst false (F.map D.str)),some (.lst false (Ot.map D.str)),some (.lst true (cl.map D.str)),some (.lst true (os.map yH)),none]/\os.length=i/\os.map (·.nm)=cl.take i/\∀ x∈os,OrdOk (T.map (·.1)) Ot x) (by
  rintro i x ρ V ⟨os,o7',rfl,d,b,r⟩;obtain⟨rfl,hi⟩:=vh V;have g:i < cl.length:=by omega
  have en:=YZ (o:=true) (l:=cl) (i:=0+(i:Int)) (by omega) (by omega);rw[show(0+(i:Int)).toNat=i by omega,List.getD_eq_getElem?_getD,X8 g,Option.getD_some] at en;obtain⟨P,R,L,W,s,t,u⟩:=jct (zs:=zs) (Ot:=Ot) (c:=c) (a:=3+9*(0+(i:Int))) (nm:=cl[i]) (T:=T) (M:=M) (F:=F) S Q (by omega) (by omega) N j k m n q U;have v:=Ks T;have y:=qG T;have X:=yK M;have z:=yD F;have Y:=ji M;have A:=yi F;have B:=yD Ot;have C:=yi Ot;have E:=qj zs;have fsc:=vq zs;have Z:fz kdD=kdD:=rfl;have H:frz kdD=true:=rfl;refine⟨_,_,rfl,.inl ?_,os++[⟨cl[i],P,R⟩],some (.int (0+(i:Int))),rfl,by simp[d],?_,λp h=>?_⟩
  ·rw[N4,L4,List.map_nil];have I:lim (os.map yH).length=true:=jb (by rw[L0];omega);have J:=vG ⟨cl[i],P,R⟩;have K:yH ⟨cl[i],P,R⟩=.tup [.str cl[i],.lst false (P.map e2),.lst false (R.map eRu)]:=rfl;rw[<- K] at L;generalize os.map yH=MM,cl.map D.str=NN,T.map e3=TT,M.map e2=MM2,F.map D.str=FF2,Ot.map D.str=OO2,zs.map D.int=ZZ,kdD=KK,yH ⟨cl[i],P,R⟩=EE at *;simp(disch:=first | omega | (simp;done) | (simp;omega)) [vQ,yY,en,L,I,jb,fz,fzs,v,y,frz,frzs,Y,A,C,fsc,X,z,B,E,Z,H,J,-Int.zero_add]
  ·rw[N4,b,List.take_succ_eq_append_getElem g];rfl
  ·rcases N1.mp h with h | h
   ·exact r p h
   ·rw[M7.mp h];exact⟨O _ (List.getElem_mem g),W,s,u,t⟩) (ρ:=[some (.lst false (zs.map D.int)),some (.int c),some kdD,some x3,some x4,some (.lst false (T.map e3)),some (.lst false (M.map e2)),o7,o8,some x9,some x10,some (.lst false (F.map D.str)),some (.lst false (Ot.map D.str)),some (.lst true (cl.map D.str)),some (.lst true []),none]) ⟨[],o7,rfl,rfl,rfl,by simp⟩
 rw[yG] at d b;rw[List.take_of_length_le (by omega)] at b;exact⟨os,o7',e,b,r⟩
structure PoolS where
 nm:List Nat
 told:List W3
 marks:List W2
 eats:List (List Nat)
 ords:List OrdS
 grds:List WG
 oth:List (List Nat)
noncomputable abbrev PoolS.C(p:PoolS):List (List Nat):=p.told.map (·.1)
noncomputable abbrev PoolS.P(p:PoolS):List (List Nat):=p.marks.map (·.1)
def yA(o:Bool)(p:PoolS):D:=.tup [.str p.nm,.lst false (p.told.map e3),.lst false (p.marks.map e2),.lst false (p.eats.map D.str),.lst false (p.ords.map yH),.lst o [],.lst false (p.grds.map eG)]
structure PoolOk(p:PoolS):Prop where
 nm:Wd p.nm
 told:∀ t∈p.told,ClOk t
 toldn:p.C.Nodup
 told1:0 < p.told.length
 told2:p.told.length<=10
 marks:∀ c∈p.marks,Wd c.1/\1<=c.2/\c.2<=10 ^ 12
 marksn:p.P.Nodup
 marks2:p.marks.length<=10
 ords:∀ x∈p.ords,OrdOk p.C p.oth x
 ordn:(p.ords.map (·.nm)).Nodup
 ord2:p.ords.length=2
 grds:∀ g∈p.grds,g.1∈p.P/\g.2∈p.C
 grds2:p.grds.length<=10
 nmo:p.nm∉p.oth
 otw:∀ w∈p.oth,Wd w
theorem Yg(l:List OrdS):frzs (l.map yH)=true:=yN λd hd=>by obtain⟨p,_,rfl⟩:=M5.mp hd;exact vG p
theorem jlo{ns:List (List Nat)}(c:ns.length=12)(b:ns.Nodup):ns.getD 0 []∉yC ns (some 10) none:=by
 rw[JD ns (by decide)];intro z;obtain⟨a,l,rfl⟩:∃ a l,ns=a::l:=by cases ns with | nil=>simp at c | cons a l=>exact⟨a,l,rfl⟩
 rw[List.nodup_cons] at b;exact b.1 (List.mem_of_mem_drop (show a∈List.drop 9 l from z))
theorem jf3{zs:List Int}{c:Int}{ns:List (List Nat)}(U:zs.length<=100)(en:jR [.int c,.int 12]=some (.lst true (ns.map D.str)))(q:ns.length=12)(a:∀ w∈ns,Wd w)(r:ns.Nodup):∃ p:PoolS,qm [.lst false (zs.map D.int),.int c,kdD]=some (yA true p)/\PoolOk p/\p.nm=ns.getD 0 []:=by
 have J:=yk (c:=c) (k:=1) (by decide) (by decide);have s:=va c 1;generalize kf c 1=m at J s;obtain⟨T,V,K,W,lT⟩:=uk (c:=c) s q a;obtain⟨M,L,N,eM,X,lM,u⟩:=jbf (sc:=.lst false (zs.map D.int)) (kd:=kdD) (x5:=.lst true (T.map e3)) (c:=c) s q a;obtain⟨G,v,Y,Z⟩:=jbm (m:=m / 288) (T:=T) (M:=M) (by omega) (by omega) (by omega) (λp y=>(u p y).1) (by omega);obtain⟨e,z,O,wc,nc⟩:=zO (c+1) (many:=2) (by decide) (by decide);have A:=yV (j:=m / 72 % 4) (by omega) (by omega);have P:yO (jd [] 0) qT (pF (p2 jc (pV 0) (pC (.int 1)))) (G.map eG) [none]=some (G.map λg=>.str g.2):=by
  refine jW (l:=G) (en:=eG) rfl (λρ=>∃ o,ρ=[o]) ?_ ⟨none,rfl⟩;rintro x Q ρ ⟨o,rfl⟩;exact⟨_,rfl,rfl,_,rfl⟩
 have B:(G.map λg=>D.str g.2)=(G.map (·.2)).map D.str:=by rw[U0];rfl
 have C:yO (jd [] 0) (jh (p2 (zE true) (p2 jc (pV 0) (pC (.int 0))) (pV 1))) (pF (p2 jc (pV 0) (pC (.int 0)))) (T.map e3) [none,some (.lst true ((G.map (·.2)).map D.str))]=some ((T.filter λt=>true != decide (t.1∈G.map (·.2))).map λt=>.str t.1):=by
  refine Vr (l:=T) (en:=e3) (λρ=>∃ o,ρ=[o,some (.lst true ((G.map (·.2)).map D.str))]) ?_ ⟨none,rfl⟩;rintro x Q ρ ⟨o,rfl⟩;have:=uW true true x.1 (G.map (·.2));generalize(G.map (·.2)).map D.str=SS at this;exact⟨[some (e3 x),some (.lst true SS)],rfl,by simp[i30,this],rfl,_,rfl⟩
 have R:frz (.lst false ((T.filter λt=>true != decide (t.1∈G.map (·.2))).map λt=>.str t.1))=true:=by
  show frzs _=true;exact yN λd hd=>by obtain⟨p,_,rfl⟩:=M5.mp hd;rfl
 rw[B] at P;have sO:=jai true ns (some 10) none;have E:((T.filter λt=>true != decide (t.1∈G.map (·.2))).map λt=>D.str t.1)=((T.filter λt=>true != decide (t.1∈G.map (·.2))).map (·.1)).map D.str:=by rw[U0];rfl
 rw[E] at C R;have b:∀ w∈(T.filter λt=>true != decide (t.1∈G.map (·.2))).map (·.1),w∈T.map (·.1):=λw a=>by
  obtain⟨t,H,rfl⟩:=M5.mp a;exact M5.mpr ⟨t,(List.mem_filter.mp H).1,rfl⟩
 have f:((T.filter λt=>true != decide (t.1∈G.map (·.2))).map (·.1)).length<=10:=by
  have:=List.length_filter_le (λt:W3=>true != decide (t.1∈G.map (·.2))) T;rw[L0];omega
 have h:∀ w∈(T.filter λt=>true != decide (t.1∈G.map (·.2))).map (·.1),Wd w:=λw a=>by
  obtain⟨t,H,rfl⟩:=M5.mp (b w a);exact(K t H).w
 generalize(T.filter λt=>true != decide (t.1∈G.map (·.2))).map (·.1)=FL at C R b f h;obtain⟨os,o7',eO,S,kO⟩:=jbe (x3:=.lst true (ns.map D.str)) (x4:=.int m) (o7:=L) (o8:=N) (x9:=.lst true (G.map eG)) (x10:=.lst true ((G.map (·.2)).map D.str)) (Ot:=yC ns (some 10) none) (c:=c) (zs:=zs) (T:=T) (M:=M) (F:=FL) (cl:=e) (by omega) (by omega) O wc (by rw[JD ns (by decide),List.length_drop];have:=q;simp;omega) U (by omega) (λp y=>(u p y).1) f h b;have n:Yw [.int 2]=some (kE 0 2):=rfl;have sE:jdA none (some (m / 7 % 7)) (.lst false (T.map e3))=some (.lst true ((yC T none (some (m / 7 % 7))).map e3)):=by rw[jjM (qG T),VG]
 have eE:yO (jd [] 0) qT (pF (p2 jc (pV 0) (pC (.int 0)))) ((yC T none (some (m / 7 % 7))).map e3) [none]=some (((yC T none (some (m / 7 % 7))).map (·.1)).map D.str):=by
  rw[U0];refine jW (l:=yC T none (some (m / 7 % 7))) (en:=e3) rfl (λρ=>∃ o,ρ=[o]) ?_ ⟨none,rfl⟩;rintro x Q ρ ⟨o,rfl⟩;exact⟨_,rfl,rfl,_,rfl⟩
 have lE:=xP T none (some (m / 7 % 7));have i0:jc (.lst true (ns.map D.str)) (.int 0)=some (.str (ns.getD 0 [])):=YZ (o:=true) (l:=ns) (i:=0) (by decide) (by omega);have lO:os.length=2:=by rw[<- O,<- S,L0]
 refine⟨⟨ns.getD 0 [],T,M,(yC T none (some (m / 7 % 7))).map (·.1),os,G,yC ns (some 10) none⟩,?_,{ nm:=a _ (J1 (by omega)),told:=K,toldn:=?_,told1:=?_,told2:=?_,marks:=u,marksn:=?_,marks2:=?_,ords:=kO,ordn:=?_,ord2:=lO,grds:=Y,grds2:=Z,nmo:=jlo q r,otw:=λw a=>(‹∀ w∈ns,Wd w› : ∀ w∈ns,Wd w) w (xh a) },rfl⟩
 rotate_left
 ·show(T.map (·.1)).Nodup;rw[W];exact(r.sublist (List.drop_sublist _ _)).sublist (List.take_sublist _ _)
 ·show 0 < T.length;omega
 ·show T.length<=10;omega
 ·show(M.map (·.1)).Nodup;rw[X];exact(r.sublist (List.drop_sublist _ _)).sublist (List.take_sublist _ _)
 ·show M.length<=10;omega
 ·show(os.map (·.nm)).Nodup;rw[S];exact nc
 have a1:=Ks T;have a2:=qG T;have a3:=yK M;have a4:=ji M;have a5:=xI G;have c1:jN (T.map e3)=true:=kY λd hd=>by obtain⟨p,_,rfl⟩:=M5.mp hd;rfl
 have c2:jN (G.map eG)=true:=kY λd hd=>by obtain⟨p,_,rfl⟩:=M5.mp hd;rfl
 have c3:jN (ns.map D.str)=true:=qF _;have c4:jN (e.map D.str)=true:=qF _;have a6:=YD G;have a7:=Yg os;have a8:fzs (os.map yH)=os.map yH:=vJ λd hd=>by obtain⟨p,_,rfl⟩:=M5.mp hd;exact vv _ (vG p)
 have l1:lim (T.map e3).length=true:=jb (by rw[L0];omega);have l2:lim (G.map eG).length=true:=jb (by rw[L0];omega);have l3:lim ((yC T none (some (m / 7 % 7))).map e3).length=true:=jb (by rw[L0];omega);have l4:lim (kE 0 (m / 72 % 4).toNat).length=true:=jb (by rw[yG];omega);have l5:lim (kE 0 2).length=true:=rfl;have l6:=qG (yC T none (some (m / 7 % 7)));have b1:=yi ns;have b2:=yD ns;have b3:=yi (yC ns (some 10) none);have b4:=yD (yC ns (some 10) none);have b5:=yi ((yC T none (some (m / 7 % 7))).map (·.1));have b6:=yD ((yC T none (some (m / 7 % 7))).map (·.1));have a9:=yD FL;have z1:=vq zs;have z2:=qj zs;have fk:fz kdD=kdD:=rfl;have I:frz kdD=true:=rfl;simp only[yA];replace z:jR [.int (c+1),.int 2]=some (.lst true (e.map D.str)):=z;generalize ns.getD 0 []=nm,zs.map D.int=ZZ,kdD=KK,kE 0 (m / 72 % 4).toNat=R1,kE 0 2=R2 at *;generalize((yC T none (some (m / 7 % 7))).map (·.1)).map D.str=EE at *;generalize(yC T none (some (m / 7 % 7))).map e3=E3 at *;generalize FL.map D.str=FF at *;generalize(G.map (·.2)).map D.str=SS at *;generalize(yC ns (some 10) none).map D.str=OO at *;generalize ns.map D.str=NN,T.map e3=TT,M.map e2=MM,G.map eG=GG,os.map yH=OS,e.map D.str=CL at *;simp(disch:=first | omega | (simp;done) | (simp;omega)) [qm,jZ,Vq,en,J,V,jI,jP,A,eM,v,P,C,sO,z,eO,n,sE,eE,i0,a1,a2,a3,a4,a5,a6,a7,a8,a9,z1,z2,fk,I,yB,jN,c1,c2,c3,c4,b1,b2,b3,b4,b5,b6,l1,l2,l3,l4,l5,l6,fz,fzs,frz,frzs,jb,jL,List.getElem?_cons_zero,Option.join]
structure BkS where
 S:List W2
 W:List W2
 R:List W2
 L:List W2
 z:Int
def jU(o:Bool)(b:BkS):D:=.tup [.lst o (b.S.map e2),.lst o (b.W.map e2),.lst o (b.R.map e2),.lst o (b.L.map e2),.int b.z]
def In(l:List W2)(m:Int):Prop:=∀ p∈l,0<=p.2/\p.2<=m
theorem In.snoc{l:List W2}{m:Int}(h:In l m){w:List Nat}{v:Int}(h1:0<=v)(h2:v<=m):In (l++[(w,v)]) m:=λp a=>by
 rcases N1.mp a with a | a
 ·exact h p a
 ·rw[M7.mp a];exact⟨h1,h2⟩
structure BkOk(p:PoolS)(b:BkS):Prop where
 S:b.S.map (·.1)=p.C
 W:b.W.map (·.1)=p.C
 R:b.R.map (·.1)=p.C
 L:b.L.map (·.1)=p.P
 s:In b.S (10 ^ 12)
 w:In b.W (10 ^ 14)
 r:In b.R 100
 l:In b.L (10 ^ 12)
theorem jjf{T:List W3}{i:Nat}{x:D}(b:(yf 0 (T.map e3))[i]?=some x):∃ h:i < T.length,x=.tup [.int (i:Int),e3 T[i]]:=by
 obtain⟨y,a,c⟩:=kI _ _ _ _ b;rw[List.getElem?_map] at a;have hi:i < T.length:=by
  by_cases h:i < T.length
  ·exact h
  ·rw[List.getElem?_eq_none (by omega)] at a;cases a
 rw[X8 hi] at a;cases a;exact⟨hi,by rw[c,Nat.zero_add]⟩
theorem ji5{T:List W2}{i:Nat}{x:D}(b:(yf 0 (T.map e2))[i]?=some x):∃ h:i < T.length,x=.tup [.int (i:Int),e2 T[i]]:=by
 obtain⟨y,a,c⟩:=kI _ _ _ _ b;rw[List.getElem?_map] at a;have hi:i < T.length:=by
  by_cases h:i < T.length
  ·exact h
  ·rw[List.getElem?_eq_none (by omega)] at a;cases a
 rw[X8 hi] at a;cases a;exact⟨hi,by rw[c,Nat.zero_add]⟩
theorem jgS:YM (.int 10) (.int 13)=some (.int 10000000000000):=rfl
theorem Yb{α:Type}{T:List (List Nat×α)}{M:List (List Nat)}{i:Nat}(hi:i < T.length)(h:M=(T.map (·.1)).take i):M++[T[i].1]=(T.map (·.1)).take (i+1):=by
 rw[h,List.take_succ_eq_append_getElem (by rw[L0];exact hi),List.getElem_map]
theorem jkA{x1:D}{c:Int}{T:List W3}(H:∀ t∈T,ClOk t)(Y:T.length<=10):∃(S W R:List W2) (o5 o6 o7 o8 o9:Option D),jY (gT 2 (gC (jd [] 5) (gC (jd [] 6) gN))) yZ (yf 0 (T.map e3)) [some (.int c),some x1,some (.lst true []),some (.lst true []),some (.lst true []),none,none,none,none,none,none,none]=some (.nx [some (.int c),some x1,some (.lst true (S.map e2)),some (.lst true (W.map e2)),some (.lst true (R.map e2)),o5,o6,o7,o8,o9,none,none])/\S.map (·.1)=T.map (·.1)/\W.map (·.1)=T.map (·.1)/\R.map (·.1)=T.map (·.1)/\In S (10 ^ 12)/\In W (10 ^ 14)/\In R 100:=by
 obtain⟨Z,e,S,W,R,o5,o6,o7,o8,o9,rfl,j,m,o,r,s,u⟩:=jX (G:=gT 2 (gC (jd [] 5) (gC (jd [] 6) gN))) (f:=yZ) (xs:=yf 0 (T.map e3)) (λi ρ=>∃(S W R:List W2) (o5 o6 o7 o8 o9:Option D),ρ=[some (.int c),some x1,some (.lst true (S.map e2)),some (.lst true (W.map e2)),some (.lst true (R.map e2)),o5,o6,o7,o8,o9,none,none]/\S.map (·.1)=(T.map (·.1)).take i/\W.map (·.1)=(T.map (·.1)).take i/\R.map (·.1)=(T.map (·.1)).take i/\In S (10 ^ 12)/\In W (10 ^ 14)/\In R 100) (by
  rintro i x ρ I ⟨S,W,R,o5,o6,o7,o8,o9,rfl,j,m,o,r,s,u⟩;obtain⟨hi,rfl⟩:=jjf I;have J:=H _ (List.getElem_mem hi);have t3:T[i]=(T[i].1,T[i].2.1,T[i].2.2):=rfl;have K:=Yb hi j;have L:=Yb hi m;have M:=Yb hi o;have lS:(S.map e2).length<=10:=by have:=congrArg List.length j;simp only[L0,X9] at this ⊢;omega
  have lW:(W.map e2).length<=10:=by have:=congrArg List.length m;simp only[L0,X9] at this ⊢;omega
  have lR:(R.map e2).length<=10:=by have:=congrArg List.length o;simp only[L0,X9] at this ⊢;omega
  generalize T[i]=t at *;obtain⟨b,ts,a⟩:=t;obtain⟨_,s0,s1,d0,d1⟩:=J;simp only at s0 s1 d0 d1;have v:=yk (c:=c) (k:=200+(i:Int)) (by omega) (by omega);have N:=va c (200+(i:Int));generalize kf c (200+(i:Int))=n at v N;have O:=N9 (n / 35) (show ts≠0 by omega);have P:=N8 (n / 35) (show 0 < ts by omega);have w:jn (.int (n / 35)) (.int ts)=some (.int (n / 35 % ts)):=jI (by omega);generalize n / 35 % ts=y1 at O P w;have Q:=N9 (n / 7) (show 2*a+1≠0 by omega);have U:=N8 (n / 7) (show 0 < 2*a+1 by omega);have y:jn (.int (n / 7)) (.int (2*a+1))=some (.int (n / 7 % (2*a+1))):=jI (by omega);generalize n / 7 % (2*a+1)=y2 at Q U y;obtain⟨p,z,d⟩:=ixL (l:=[ts,1,1+y1]) (i:=n / 5 % 3) (by omega) (by show n / 5 % 3 < 3;omega);obtain⟨q,A,g⟩:=ixL (l:=[0,y2,n / 15 % 10000000000000]) (i:=n / 15 % 3) (by omega) (by show n / 15 % 3 < 3;omega);have V:0<=p/\p<=10 ^ 12:=by simp at z;omega
  have X:0<=q/\q<=10 ^ 13:=by simp at A;omega
  have B:jc (e3 (b,ts,a)) (.int 0)=some (.str b):=rfl;have C:jc (e3 (b,ts,a)) (.int 1)=some (.int ts):=rfl;have E:jc (e3 (b,ts,a)) (.int 2)=some (.int a):=rfl;simp only[List.map] at d g;refine⟨_,_,rfl,.inl ?_,S++[(b,if n % 5=0 then 0 else p)],W++[(b,if n % 5=0 then 0 else a+q)],R++[(b,n / 45 % 4)],some (.int (i:Int)),some (e3 (b,ts,a)),some (.int n),some (.int (if n % 5=0 then 0 else p)),some (.int (if n % 5=0 then 0 else a+q)),rfl,by simpa using K,by simpa using L,by simpa using M,?_,?_,?_⟩
  ·rw[N4,N4,N4];generalize S.map e2=SS,W.map e2=WW,R.map e2=RR,e3 (b,ts,a)=E3 at *;by_cases F:n % 5=0
   ·simp(disch:=first | omega | (simp;done) | (simp;omega)) [yZ,v,jI,jP,yY,B,C,E,w,y,jgS,d,g,F,jb,e2]
   ·simp(disch:=first | omega | (simp;done) | (simp;omega)) [yZ,v,jI,jP,yY,B,C,E,w,y,jgS,d,g,F,jb,e2]
  ·exact r.snoc (by split<;>omega) (by split<;>omega)
  ·exact s.snoc (by split<;>omega) (by split<;>omega)
  ·exact u.snoc (by omega) (by omega)) (ρ:=[some (.int c),some x1,some (.lst true []),some (.lst true []),some (.lst true []),none,none,none,none,none,none,none]) ⟨[],[],[],none,none,none,none,none,rfl,rfl,rfl,rfl,λ_ h=>by simp at h,λ_ h=>by simp at h,λ_ h=>by simp at h⟩
 rw[j8,List.take_of_length_le (by simp)] at j m o;exact⟨S,W,R,o5,o6,o7,o8,o9,e,j,m,o,r,s,u⟩
theorem jjk{x1 x2 x3 x4:D}{o5 o6 o7 o8 o9:Option D}{c:Int}{M:List W2}(q:∀ t∈M,Wd t.1/\1<=t.2/\t.2<=10 ^ 12)(B:M.length<=10):∃(L:List W2) (o5' o7' o11:Option D),jY (gT 2 (gC (jd [] 5) (gC (jd [] 11) gN))) vH (yf 0 (M.map e2)) [some (.int c),some x1,some x2,some x3,some x4,o5,o6,o7,o8,o9,some (.lst true []),none]=some (.nx [some (.int c),some x1,some x2,some x3,some x4,o5',o6,o7',o8,o9,some (.lst true (L.map e2)),o11])/\L.map (·.1)=M.map (·.1)/\In L (10 ^ 12):=by
 obtain⟨C,e,L,o5',o7',o11,rfl,b,kL⟩:=jX (G:=gT 2 (gC (jd [] 5) (gC (jd [] 11) gN))) (f:=vH) (xs:=yf 0 (M.map e2)) (λi ρ=>∃(L:List W2) (o5' o7' o11:Option D),ρ=[some (.int c),some x1,some x2,some x3,some x4,o5',o6,o7',o8,o9,some (.lst true (L.map e2)),o11]/\L.map (·.1)=(M.map (·.1)).take i/\In L (10 ^ 12)) (by
  rintro i x ρ r ⟨L,o5',o7',o11,rfl,b,kL⟩;obtain⟨hi,rfl⟩:=ji5 r;have s:=q _ (List.getElem_mem hi);have u:=Yb hi b;have E:(L.map e2).length<=10:=by have:=congrArg List.length b;simp only[L0,X9] at this ⊢;omega
  generalize M[i]=t at *;obtain⟨a,ts⟩:=t;obtain⟨_,s0,s1⟩:=s;simp only at s0 s1;have o:=yk (c:=c) (k:=210+(i:Int)) (by omega) (by omega);have v:=va c (210+(i:Int));generalize kf c (210+(i:Int))=n at o v;have w:=N9 (n / 3) (show ts+1≠0 by omega);have y:=N8 (n / 3) (show 0 < ts+1 by omega);have p:jn (.int (n / 3)) (.int (ts+1))=some (.int (n / 3 % (ts+1))):=jI (by omega);generalize n / 3 % (ts+1)=y2 at w y p;obtain⟨d,m,g⟩:=ixL (l:=[0,ts,y2]) (i:=n % 3) (by omega) (by show n % 3 < 3;omega);have j:0<=d/\d<=10 ^ 12:=by simp at m;omega
  have z:jc (e2 (a,ts)) (.int 0)=some (.str a):=rfl;have A:jc (e2 (a,ts)) (.int 1)=some (.int ts):=rfl;simp only[List.map] at g;refine⟨_,_,rfl,.inl ?_,L++[(a,d)],some (.int (i:Int)),some (.int n),some (e2 (a,ts)),rfl,by simpa using u,kL.snoc j.1 j.2⟩;rw[N4,L4,List.map_nil,show e2 (a,d)=.tup [.str a,.int d] from rfl];generalize L.map e2=LL,e2 (a,ts)=E2 at *;simp(disch:=first | omega | (simp;done) | (simp;omega)) [vH,o,jI,jP,z,A,p,g,jb]) (ρ:=[some (.int c),some x1,some x2,some x3,some x4,o5,o6,o7,o8,o9,some (.lst true []),none]) ⟨[],o5,o7,none,rfl,rfl,λ_ h=>by simp at h⟩
 rw[j8,List.take_of_length_le (by simp)] at b;exact⟨L,o5',o7',o11,e,b,kL⟩
theorem jex{c:Int}{p:PoolS}(h:PoolOk p):∃ b:BkS,qi [.int c,yA false p]=some (jU false b)/\BkOk p b:=by
 obtain⟨S,W,R,d,e,f,g,i,o,q,r,s,t,u,v⟩:=jkA (x1:=yA false p) (c:=c) h.told h.told2;obtain⟨L,w,x,y,a,z,kL⟩:=jjk (x1:=yA false p) (x2:=.lst true (S.map e2)) (x3:=.lst true (W.map e2)) (x4:=.lst true (R.map e2)) (o5:=d) (o6:=e) (o7:=f) (o8:=g) (o9:=i) (c:=c) h.marks h.marks2;have j:=yk (c:=c) (k:=220) (by decide) (by decide);have A:=va c 220;generalize kf c 220=n at j A;have B:jc (yA false p) (.int 1)=some (.lst false (p.told.map e3)):=rfl;have C:jc (yA false p) (.int 2)=some (.lst false (p.marks.map e2)):=rfl;have D:=qG p.told;have E:=Ks p.told;have F:=yK p.marks;have G:=ji p.marks;have l:lim (p.told.map e3).length=true:=jb (by rw[L0];have:=h.told2;omega);have m:lim (p.marks.map e2).length=true:=jb (by rw[L0];have:=h.marks2;omega);have H:lim (yf 0 (p.told.map e3)).length=true:=by rw[j8];exact l
 have I:lim (yf 0 (p.marks.map e2)).length=true:=by rw[j8];exact m
 have J:=yK S;have K:=yK W;have M:=yK R;have N:=yK L;have O:=ji S;have P:=ji W;have Q:=ji R;have T:=ji L;refine⟨⟨S,W,R,L,n % 50⟩,?_,⟨q,r,s,z,t,u,v,kL⟩⟩;simp only[jU];generalize S.map e2=SS,W.map e2=WW,R.map e2=RR,L.map e2=LL,p.told.map e3=TT,p.marks.map e2=MM,yA false p=PP at *;simp(disch:=first | omega | (simp;done) | (simp;omega)) [qi,jZ,Vd,j,jI,B,C,D,G,E,F,l,m,H,I,o,a,J,K,M,N,O,P,Q,T,fz,fzs,frz,frzs,jb]
noncomputable abbrev EN:=List Nat×List Nat
abbrev LN:=List (EN×Int)
noncomputable def kL(r:EN×Int):List KA:=[.str r.1.1,.str r.1.2]
noncomputable def vL(r:EN×Int):D:=.int r.2
def dLn(o:Bool)(l:LN):D:=.dT o (l.map kL) (l.map vL)
noncomputable def vd:LN->EN->Option Int
 | [],_=>none
 | r::l,k=>if r.1=k then some r.2 else vd l k
noncomputable def jbu(l:LN)(k:EN)(v:Int):LN:=l.map λr=>(r.1,if r.1=k then v else r.2)
def Qp(l:LN)(k:EN)(v:Int):LN:=if k∈l.map (·.1) then jbu l k v else l++[(k,v)]
theorem jhF{a b c d:List Nat}:([KA.str a,KA.str b]=[KA.str c,KA.str d])=((a,b)=((c,d):EN)):=by simp
theorem jaM(r:EN×Int)(k:EN):(kL r=[KA.str k.1,KA.str k.2])=(r.1=k):=by
 obtain⟨⟨a,b⟩,n⟩:=r;obtain⟨c,d⟩:=k;exact jhF
theorem Yo(k:EN):∀ l:LN,Qh (l.map kL) (l.map vL) [.str k.1,.str k.2]=(vd l k).map D.int
 | []=>rfl
 | r::l=>by
  rw[L4,L4,Qh,vd];by_cases h:r.1=k
  ·rw[if_pos h,if_pos (by rw[jaM];exact h)];rfl
  ·rw[if_neg h,if_neg (by rw[jaM];exact h),Yo k l]
theorem ja0(k:EN)(v:Int):∀ l:LN,jbD (l.map kL) (l.map vL) [.str k.1,.str k.2] (.int v)=(jbu l k v).map vL
 | []=>rfl
 | r::l=>by
  rw[L4,L4,jbD,ja0 k v l];by_cases h:r.1=k
  ·rw[if_pos (by rw[jaM];exact h)];simp[jbu,h,vL]
  ·rw[if_neg (by rw[jaM];exact h)];simp[jbu,h,vL]
theorem uL(k:EN):∀ l:LN,([KA.str k.1,KA.str k.2]∈l.map kL)↔k∈l.map (·.1)
 | []=>by simp
 | r::l=>by
  rw[L4,L4,M4,M4,uL k l];have:=jaM r k;constructor
  ·rintro(h | h)
   ·exact .inl (this▸h.symm).symm
   ·exact .inr h
  ·rintro(h | h)
   ·exact .inl (this.symm▸h.symm:kL r=_).symm
   ·exact .inr h
theorem jfX(l:LN)(k:EN)(v:Int):(jbu l k v).map kL=l.map kL:=by unfold jbu;rw[U0];rfl
theorem Q3(k:EN)(v:Int)(l:LN):Kg (l.map kL) (l.map vL) [.str k.1,.str k.2] (.int v)=((Qp l k v).map kL,(Qp l k v).map vL):=by
 unfold Kg Qp;by_cases h:k∈l.map (·.1)
 ·rw[if_pos h,if_pos ((uL k l).mpr h),ja0,jfX]
 ·rw[if_neg h,if_neg λz=>h ((uL k l).mp z)];simp[kL,vL]
structure LnOk(N:List (List Nat))(l:LN):Prop where
 nd:(l.map (·.1)).Nodup
 mem:∀ r∈l,r.1.1∈N/\r.1.2∈N/\0<=r.2
noncomputable def eR(r:EN×Int):D:=.tup [.str r.1.1,.str r.1.2,.int r.2]
theorem qJ(l:LN):frzs (l.map eR)=true:=yN λd hd=>by obtain⟨p,_,rfl⟩:=M5.mp hd;rfl
theorem xz(l:LN):fzs (l.map eR)=l.map eR:=vJ λd hd=>by obtain⟨p,_,rfl⟩:=M5.mp hd;rfl
theorem uq(l:LN):jN (l.map eR)=true:=by
 rw[vo,List.all_map,List.all_eq_true];intro x _;rfl
theorem jaR(l:LN):yB (dLn true l)=true:=by
 have:jN (l.map vL)=true:=by rw[vo,List.all_map,List.all_eq_true];intro x _;rfl
 simp[dLn,yB,this]
theorem xp:∀(l a:LN),((a++l).map (·.1)).Nodup->(l.map λr=>(kL r,vL r)).foldl (λacc kv=>Kg acc.1 acc.2 kv.1 kv.2) (a.map kL,a.map vL)=((a++l).map kL,(a++l).map vL)
 | [],a,_=>by simp
 | r::l,a,h=>by
  have b:r.1∉a.map (·.1):=by
   rw[N4,U8] at h;intro z;exact h.2.2 _ z r.1 (by simp) rfl
  have e:Kg (a.map kL) (a.map vL) (kL r) (vL r)=((a++[r]).map kL,(a++[r]).map vL):=by
   have:=Q3 r.1 r.2 a;unfold Qp at this;rw[if_neg b] at this;exact this
  rw[L4,U9];show List.foldl _ (Kg (a.map kL) (a.map vL) (kL r) (vL r)) _=_;rw[e,xp l (a++[r]) (by simpa using h)];simp
theorem Qd:∀(l:LN) (o0 o1 o2:Option D),KP (gT 3 (gC (jd [] 0) (gC (jd [] 1) (gC (jd [] 2) gN)))) qT (jbw (pV 0) (pV 1)) (pV 2) (l.map eR) [o0,o1,o2]=some (l.map λr=>(kL r,vL r))
 | [],_,_,_=>rfl
 | r::l,o0,o1,o2=>by
  have a:=Qd l (some (.str r.1.1)) (some (.str r.1.2)) (some (.int r.2));have b:gT 3 (gC (jd [] 0) (gC (jd [] 1) (gC (jd [] 2) gN))) (eR r) [o0,o1,o2]=some [some (.str r.1.1),some (.str r.1.2),some (.int r.2)]:=rfl;rw[L4,KP,b,L3];simp[a,qT,kL,vL,vy]
theorem jfb{l:LN}(h:(l.map (·.1)).Nodup)(b:l.length<=1000):yE [.lst false (l.map eR)]=some (dLn true l):=by
 have e:=Qd l none none none;have d:jfM (l.map λr=>(kL r,vL r))=(l.map kL,l.map vL):=xp l [] (by simpa using h);have a:lim l.length=true:=jb (by omega);simp[yE,jZ,kQ,jL,e,d,qJ,a,dLn,-jht]
theorem xJ:∀ l:LN,∃ rs,wm (l.map eR)=some rs
 | []=>⟨[],rfl⟩
 | r::l=>by
  obtain⟨rs,e⟩:=xJ l;exact⟨(S r.1.1,S r.1.2,r.2)::rs,by show(wm (l.map eR)).bind _=_;rw[e];rfl⟩
noncomputable def jkT:D->EN
 | .tup [.str a,.str b,_]=>(a,b)
 | _=>([],[])
theorem je0{l:LN}(h:(l.map (·.1)).Nodup){rs:List ut}:∃ l':LN,Kv rs (l.map eR)=l'.map eR/\(l'.map (·.1)).Nodup/\(∀ r∈l',r∈l)/\l'.length=l.length:=by
 have p:=wT (rs:=rs) (l:=l.map eR);obtain⟨l',e,a⟩:=zX (f:=eR) (Q:=λr=>r∈l) (ys:=Kv rs (l.map eR)) λy b=>by
  obtain⟨r,c,rfl⟩:=M5.mp (p.mem_iff.mp b);exact⟨r,rfl,c⟩
 refine⟨l',e,?_,a,?_⟩
 ·rw[e] at p;have p2:=p.map jkT;rw[U0,U0] at p2;have d:(jkT ∘ eR)=λr:EN×Int=>r.1:=by funext r;rfl
  rw[d] at p2;exact p2.nodup_iff.mpr h
 ·have:=p.length_eq;rw[e,L0,L0] at this;exact this
def Qx(nm:List Nat)(os:List (List Nat))(r:EN×Int):Prop:=(∃ o∈os,r.1=(nm,o) \/ r.1=(o,nm))/\1<=r.2/\r.2<=10 ^ 12
theorem J8{nm:List Nat}{os:List (List Nat)}{l:LN}(d:(l.map (·.1)).Nodup)(g:∀ r∈l,Qx nm os r){q:EN×Int}(e:q.1∉l.map (·.1)):((l++[q]).map (·.1)).Nodup:=by
 rw[N4,U8];exact⟨d,by simp,λa f b c=>by simp at c;rintro rfl;exact e (c▸f)⟩
theorem wM{x1 x2:D}{nm:List Nat}{c:Int}{os:List (List Nat)}(N:jc x1 (.int 0)=some (.str nm))(hn:nm∉os)(hd:os.Nodup)(hl:os.length<=4):∃(l:LN) (o4 o5 o6:Option D),jY (gT 2 (gC (jd [] 4) (gC (jd [] 5) gN))) j5 (yf 0 (os.map D.str)) [some (.int c),some x1,some x2,some (.lst true []),none,none,none]=some (.nx [some (.int c),some x1,some x2,some (.lst true (l.map eR)),o4,o5,o6])/\(l.map (·.1)).Nodup/\(∀ r∈l,Qx nm os r)/\l.length<=8:=by
 obtain⟨ρ',e,l,o4,o5,o6,rfl,v,t,kl⟩:=jX (G:=gT 2 (gC (jd [] 4) (gC (jd [] 5) gN))) (f:=j5) (xs:=yf 0 (os.map D.str)) (λi ρ=>∃(l:LN) (o4 o5 o6:Option D),ρ=[some (.int c),some x1,some x2,some (.lst true (l.map eR)),o4,o5,o6]/\(l.map (·.1)).Nodup/\(∀ r∈l,Qx nm (os.take i) r)/\l.length<=2*i) (by
  rintro i x ρ hx ⟨l,o4,o5,o6,rfl,v,t,kl⟩;obtain⟨y,A,rfl⟩:=kI _ _ _ _ hx;rw[List.getElem?_map] at A;have hi:i < os.length:=by
   by_cases h:i < os.length
   ·exact h
   ·rw[List.getElem?_eq_none (by omega)] at A;cases A
  rw[X8 hi] at A;cases A;rw[Nat.zero_add];have u:os.take (i+1)=os.take i++[os[i]]:=List.take_succ_eq_append_getElem hi;have U:os[i]∉os.take i:=by
   have:=hd.sublist (List.take_sublist (i+1) os);rw[u,U8] at this;intro z;exact this.2.2 _ z _ (by simp) rfl
  have V:nm≠os[i]:=λz=>hn (z▸List.getElem_mem hi);have j:∀ r∈l,Qx nm (os.take (i+1)) r:=λr g=>by
   obtain⟨⟨o,O,h⟩,h2⟩:=t r g;exact⟨⟨o,by rw[u];exact List.mem_append_left _ O,h⟩,h2⟩
  have B:∀ q:EN×Int,q∈l->q.1≠(nm,os[i])/\q.1≠(os[i],nm):=λq C=>by
   obtain⟨⟨o,O,h⟩,h2⟩:=t q C;have E:o≠os[i]:=λz=>U (z▸O);have F:o≠nm:=λz=>hn (z▸List.mem_of_mem_take O);rcases h with h | h<;>rw[h]<;>constructor<;>intro z<;>injection z with z1 z2
   ·exact E z2
   ·exact F z2
   ·exact F z1
   ·exact E z1
  have H:os[i]∈os.take (i+1):=by rw[u];exact U2 _ (M7.mpr rfl)
  generalize os[i]=w at *;have I:=yk (c:=c) (k:=230+(i:Int)) (by omega) (by omega);have n0:=va c (230+(i:Int));generalize kf c (230+(i:Int))=n at I n0;obtain⟨v1,m,W,J⟩:=ix2 (a:=9) (b:=1000000000000) (i:=n / 11 % 2) (by omega) (by omega) (by decide) (by decide) (by decide) (by decide);obtain⟨v2,p,X,K⟩:=ix2 (a:=9) (b:=1000000000000) (i:=n / 13 % 2) (by omega) (by omega) (by decide) (by decide) (by decide) (by decide);obtain⟨s,P,s0,s1⟩:=qk (c:=n) (w:=n / 2 % 1009) (most:=v1) (by omega) (by omega) W J;obtain⟨d,Q,d0,d1⟩:=qk (c:=n) (w:=n / 4 % 1009) (most:=v2) (by omega) (by omega) X K;have Y:Qx nm (os.take (i+1)) ((nm,w),s):=⟨⟨w,H,.inl rfl⟩,s0,Int.le_trans s1 J⟩;have kb:Qx nm (os.take (i+1)) ((w,nm),d):=⟨⟨w,H,.inr rfl⟩,d0,Int.le_trans d1 K⟩;have na:(nm,w)∉l.map (·.1):=λz=>by obtain⟨q,C,e⟩:=M5.mp z;exact(B q C).1 e
  have nb:(w,nm)∉l.map (·.1):=λz=>by obtain⟨q,C,e⟩:=M5.mp z;exact(B q C).2 e
  have Z:(w,nm)∉(l++[((nm,w),s)]).map (·.1):=λz=>by
   rw[N4,N1] at z;rcases z with z | z
   ·exact nb z
   ·simp at z;exact V z.2
  have M:∀ L:LN,L.length<=2*i+1->lim (L.map eR).length=true:=λL h=>jb (by rw[L0];omega);have R:=M l (by omega);have lb:lim ((l.map eR).length+1)=true:=jb (by rw[L0];omega);have ea:eR ((nm,w),s)=.tup [.str nm,.str w,.int s]:=rfl;have eb:eR ((w,nm),d)=.tup [.str w,.str nm,.int d]:=rfl;by_cases S:n % 2=0<;>by_cases T:n / 2 % 2=0
  ·refine⟨_,_,rfl,.inl ?_,l++[((nm,w),s)]++[((w,nm),d)],some (.int (i:Int)),some (.str w),some (.int n),rfl,J8 (os:=os.take (i+1)) (J8 v t na) (λr g=>(N1.mp g).elim (j r) λz=>by rw[M7.mp z];exact Y) Z,λr g=>(N1.mp g).elim (λg=>(N1.mp g).elim (j r) λz=>by rw[M7.mp z];exact Y) λz=>by rw[M7.mp z];exact kb,by simp;omega⟩;rw[N4,N4,L4,L4,List.map_nil,ea,eb];generalize l.map eR=LL at *;simp(disch:=first | omega | (simp;done) | (simp;omega)) [j5,I,jI,jP,QF,N,S,T,m,p,P,Q,R,lb,jb]
  ·refine⟨_,_,rfl,.inl ?_,l++[((nm,w),s)],some (.int (i:Int)),some (.str w),some (.int n),rfl,J8 v t na,λr g=>(N1.mp g).elim (j r) λz=>by rw[M7.mp z];exact Y,by simp;omega⟩;rw[N4,L4,List.map_nil,ea];generalize l.map eR=LL at *;simp(disch:=first | omega | (simp;done) | (simp;omega)) [j5,I,jI,jP,QF,N,S,T,m,p,P,Q,R,jb]
  ·refine⟨_,_,rfl,.inl ?_,l++[((w,nm),d)],some (.int (i:Int)),some (.str w),some (.int n),rfl,J8 v t nb,λr g=>(N1.mp g).elim (j r) λz=>by rw[M7.mp z];exact kb,by simp;omega⟩;rw[N4,L4,List.map_nil,eb];generalize l.map eR=LL at *;simp(disch:=first | omega | (simp;done) | (simp;omega)) [j5,I,jI,jP,QF,N,S,T,m,p,P,Q,R,jb]
  ·refine⟨_,_,rfl,.inl ?_,l,some (.int (i:Int)),some (.str w),some (.int n),rfl,v,j,by omega⟩;simp(disch:=first | omega | (simp;done) | (simp;omega)) [j5,I,jI,jP,QF,N,S,T,m,p,P,Q,R,jb]) (ρ:=[some (.int c),some x1,some x2,some (.lst true []),none,none,none]) ⟨[],none,none,none,rfl,by simp,by simp,by simp⟩
 rw[j8,L0] at kl t;exact⟨l,o4,o5,o6,e,v,λr g=>by have:=t r g;rwa [List.take_of_length_le (M8 _)] at this,by omega⟩
theorem jbO{c:Int}{p:PoolS}{os:List (List Nat)}(h:p.nm∉os)(hd:os.Nodup)(i:os.length<=4):∃ l:LN,ky [.int c,yA false p,.lst false (os.map D.str)]=some (.lst true (l.map eR))/\(l.map (·.1)).Nodup/\l.length<=8/\∀ r∈l,Qx p.nm os r:=by
 obtain⟨l,v,w,x,e,j,k,y⟩:=wM (x1:=yA false p) (x2:=.lst false (os.map D.str)) (c:=c) rfl h hd i;obtain⟨g,m⟩:=xJ l;obtain⟨n,a,o,q,z⟩:=je0 (rs:=g) j;have b:lim (yf 0 (os.map D.str)).length=true:=jb (by rw[j8,L0];omega);have d:lim (os.map D.str).length=true:=jb (by rw[L0];omega);have f:(l.map eR).length < 64:=by rw[L0];omega
 have s:=yi os;have t:=yD os;refine⟨n,?_,o,by omega,λr u=>k r (q r u)⟩;generalize yA false p=PP,os.map D.str=OO,l.map eR=LL at *;simp(disch:=first | omega | (simp;done) | (simp;omega)) [ky,jZ,YX,s,t,e,m,a,b,d,f,jb]
theorem sq{f g:FS}{ρ ρ':Rh}{r:Option Out}(h:f ρ=some (.nx ρ'))(k:g ρ'=r):jg f g ρ=r:=by
 rw[jdp,h];exact k
theorem lpF{G:D->Rh->Option Rh}{f:FS}{x:D}{xs:List D}{ρ a:Rh}(h:(G x ρ).bind f=some (.nx a)):jY G f (x::xs) ρ=jY G f xs a:=by
 refine ob h λr b c=>?_;rw[qd,b,L3,c];rfl
theorem lpE{G:D->Rh->Option Rh}{f:FS}{x:D}{xs:List D}{ρ a b:Rh}(h:G x ρ=some a)(k:f a=some (.nx b)):jY G f (x::xs) ρ=jY G f xs b:=by
 rw[qd,h,L3,k];rfl
theorem jdE{b:Int}:∀(ns:List Int),(∀ x∈ns,0<=x/\x<=b)->0<=ns.sum/\ns.sum<=b*ns.length
 | [],_=>by simp
 | n::ns,h=>by
  have i:=jdE ns (λx a=>h x (by simp[a]));have j:=h n (by simp);simp only[List.sum_cons,M0];have:b*((ns.length+1:Nat):Int)=b*ns.length+b:=by push_cast;rw[Int.mul_add];omega
  omega
structure PtOk(p:W2):Prop where
 lo:1<=p.2
 hi:p.2<=10
noncomputable def ts(P:List W2):List Int:=P.map (·.2)
noncomputable def ups(c:Int)(P:List W2):List Int:=P.map λp=>(c*p.2+9) / 10
noncomputable def Y8(c:Int)(P:List W2):List Int:=P.map λp=>c*p.2 / 10
noncomputable def wQ(odd:Int):Nat->List Int->List Int
 | _,[]=>[]
 | k,x::l=>(if(k:Int) < odd then x+1 else x)::wQ odd (k+1) l
theorem xA(a:Int):∀(k:Nat) (l:List Int),(wQ a k l).length=l.length
 | _,[]=>rfl
 | k,x::l=>by rw[wQ,M0,M0,xA]
def je(P:List W2)(c:Int):List Int×Int:=if 10 < (ts P).sum then(ups c P,(ups c P).sum - c) else(wQ (c*(ts P).sum / 10 - (Y8 c P).sum) 0 (Y8 c P),0)
theorem jeH{P:List W2}(h:∀ p∈P,PtOk p):0<=(ts P).sum/\(ts P).sum<=10*P.length:=by
 induction P with
 | nil=>simp[ts]
 | cons p P c =>
  have a:=c λx d=>h x (by simp[d]);have b:=h p (by simp);have e:=b.lo;have f:=b.hi;simp only[ts,L4,List.sum_cons,M0] at a ⊢;omega
theorem jip{P:List W2}{c:Int}:c*(ts P).sum<=10*(ups c P).sum/\10*(ups c P).sum<=c*(ts P).sum+9*P.length:=by
 induction P with
 | nil=>simp[ts,ups]
 | cons p P a =>
  simp only[ts,ups,L4,List.sum_cons,M0,Int.mul_add] at a ⊢;omega
theorem KH(P:List W2):frzs (P.map e2)=true/\fzs (P.map e2)=P.map e2:=by
 refine⟨yN λd hd=>?_,vJ λd hd=>?_⟩
 all_goals obtain⟨p,a,rfl⟩:=M5.mp hd;rfl
theorem jbk{P:List W2}(b:P.length<=10):kh [.lst false (P.map e2)]=some (.int (ts P).sum):=by
 have a:yO (jd [] 0) qT (pF (p2 jc (pV 0) (pC (.int 1)))) (P.map e2) (jL [none] [some (.lst false (P.map e2))])=some (P.map λp=>D.int p.2):=by
  refine jW rfl (λρ=>∃ o,ρ=[o]) ?_ ⟨none,rfl⟩;rintro x c ρ ⟨o,rfl⟩;exact⟨_,rfl,rfl,_,rfl⟩
 have e:(P.map λp=>D.int p.2)=(ts P).map D.int:=by unfold ts;rw[U0];rfl
 rw[e] at a;simp(disch:=omega) [kh,jZ,Yi,(KH P).1,a,jb,-List.map_map]
theorem Qi(a:Int):∀(l:List Int) (k:Nat) (o0 o1:Option D),yO (gT 2 (gC (jd [] 0) (gC (jd [] 1) gN))) qT (pIf (jh (p2 jf5 (pV 0) (pV 2))) (p2 jr (pV 1) (pC (.int 1))) (pF (pV 1))) (yf k (l.map D.int)) [o0,o1,some (.int a)]=some ((wQ a k l).map D.int)
 | [],k,o0,o1=>rfl
 | x::l,k,o0,o1=>by
  have c:(gT 2 (gC (jd [] 0) (gC (jd [] 1) gN))) (.tup [.int (k:Int),.int x]) [o0,o1,some (.int a)]=some [some (.int k),some (.int x),some (.int a)]:=rfl;have b:=Qi a l (k+1) (some (.int k)) (some (.int x));rw[L4,yf,JE,c,L3];by_cases h:(k:Int) < a
  ·simp[h,b,wQ]
  ·simp[h,b,wQ]
theorem jc5{P:List W2}{c:Int}(n:P.length<=10)(a:∀ p∈P,PtOk p)(t:0<=c)(h1:c<=2 ^ 900):Ye [.lst false (P.map e2),.int c]=some (.tup [.lst true ((je P c).1.map D.int),.int (je P c).2]):=by
 have m:=jbk n;have u:=jeH a;have f:=KH P;have q:lim (P.map e2).length=true:=jb (by simp;omega);by_cases h:10 < (ts P).sum
 ·have b:yO (jd [] 0) qT (p2 jA (p2 jr (p2 j9 (pV 1) (p2 jc (pV 0) (pC (.int 1)))) (pC (.int 9))) (pC (.int 10))) (P.map e2) (jL [none,some 1] [some (.lst false (P.map e2)),some (.int c),some (.int (ts P).sum),none,none])=some (P.map λp=>D.int ((c*p.2+9) / 10)):=by
   refine jW rfl (λρ=>∃ o,ρ=[o,some (.int c)]) ?_ ⟨none,rfl⟩;rintro x d ρ ⟨o,rfl⟩;refine⟨[some (e2 x),some (.int c)],rfl,?_,_,rfl⟩;have g:jc (e2 x) (.int 1)=some (.int x.2):=rfl;have r:=(a x d).lo;have s:=(a x d).hi;simp(disch:=omega) [g,yY,jP]
  have e:(P.map λp=>D.int ((c*p.2+9) / 10))=(ups c P).map D.int:=by unfold ups;rw[U0];rfl
  rw[e] at b;have i:je P c=(ups c P,(ups c P).sum - c):=if_pos h;rw[i];simp(disch:=omega) [Ye,jZ,QC,f.1,f.2,m,h,b,jb,-List.map_map]
 ·have b:yO (jd [] 0) qT (p2 jA (p2 j9 (pV 1) (p2 jc (pV 0) (pC (.int 1)))) (pC (.int 10))) (P.map e2) (jL [none,some 1] [some (.lst false (P.map e2)),some (.int c),some (.int (ts P).sum),none,none])=some (P.map λp=>D.int (c*p.2 / 10)):=by
   refine jW rfl (λρ=>∃ o,ρ=[o,some (.int c)]) ?_ ⟨none,rfl⟩;rintro x d ρ ⟨o,rfl⟩;refine⟨[some (e2 x),some (.int c)],rfl,?_,_,rfl⟩;have g:jc (e2 x) (.int 1)=some (.int x.2):=rfl;have r:=(a x d).lo;have s:=(a x d).hi;simp(disch:=omega) [g,yY,jP]
  have e:(P.map λp=>D.int (c*p.2 / 10))=(Y8 c P).map D.int:=by unfold Y8;rw[U0];rfl
  rw[e] at b;have i:je P c=(wQ (c*(ts P).sum / 10 - (Y8 c P).sum) 0 (Y8 c P),0):=if_neg h;rw[i];have j:=Qi (c*(ts P).sum / 10 - (Y8 c P).sum) (Y8 c P) 0 none none;have k:jL [none,none,some 4] [some (.lst false (P.map e2)),some (.int c),some (.int (ts P).sum),some (.lst false ((Y8 c P).map D.int)),some (.int (c*(ts P).sum / 10 - (Y8 c P).sum))]=[none,none,some (.int (c*(ts P).sum / 10 - (Y8 c P).sum))]:=rfl;have l:lim (yf 0 ((Y8 c P).map D.int)).length=true:=jb (by rw[j8];simp[Y8];omega);simp(disch:=omega) [Ye,jZ,QC,f.1,f.2,m,h,b,jb,yY,jP,k,j,l,-List.map_map]
theorem xa{P:List W2}{c:Int}:(je P c).1.length=P.length:=by
 unfold je;split
 ·simp[ups]
 ·rw[xA];simp[Y8]
theorem kN(o:Bool)(l:List Int):Kn [.lst o (l.map D.int)]=some (.int l.sum):=by simp
theorem jiB{o o':Bool}{a b:List W2}(h:a.length+b.length<=100000):jr (.lst o (a.map e2)) (.lst o' (b.map e2))=some (.lst true ((a++b).map e2)):=by
 show(bif lim ((a.map e2).length+(b.map e2).length)&&(frzs (a.map e2)&&frzs (b.map e2)) then some (D.lst true (a.map e2++b.map e2)) else none)=_;rw[ji,ji,L0,L0,jb h,N4];rfl
theorem J2(l:List W2):yO (gT 2 (gC (jd [] 0) (gC (jd [] 1) gN))) qT (pF (pV 1)) (l.map e2) [none,none]=some ((ts l).map D.int):=by
 unfold ts;rw[U0];refine jW (l:=l) (en:=e2) rfl (λρ=>∃ o a,ρ=[o,a]) ?_ ⟨none,none,rfl⟩;rintro x b ρ ⟨o,a,rfl⟩;exact⟨_,rfl,rfl,_,_,rfl⟩
theorem In.sum{l:List W2}{m:Int}(h:In l m):0<=(ts l).sum/\(ts l).sum<=m*l.length:=by
 have:=jdE (b:=m) (ts l) λx a=>by obtain⟨p,c,rfl⟩:=M5.mp a;exact h p c
 rwa [show(ts l).length=l.length from L0 ..] at this
theorem BkOk.len{p:PoolS}{b:BkS}(h:PoolOk p)(k:BkOk p b):b.S.length<=10/\b.W.length<=10/\b.R.length<=10/\b.L.length<=10:=by
 have f:=h.told2;have g:=h.marks2;have a:=congrArg List.length k.S;have c:=congrArg List.length k.W;have d:=congrArg List.length k.R;have e:=congrArg List.length k.L;simp only[L0] at a c d e;omega
theorem je8{c:Int}{p:PoolS}{b:BkS}(h:PoolOk p)(k:BkOk p b):∃ v:Int,qp [.int c,yA false p,jU false b]=some (.int v)/\0<=v/\v<=10 ^ 20:=by
 have j:=yk (c:=c) (k:=240) (by decide) (by decide);have g:=va c 240;have u:=jaI c 240;generalize kf c 240=n at j g u;obtain⟨V,X,Y,Z⟩:=k.len h;have m2:=h.marks2;have x:In (b.S++b.W) (10 ^ 14):=λq d=>by
  rcases N1.mp d with d | d
  ·have:=k.s q d;exact⟨this.1,by omega⟩
  ·exact k.w q d
 have s1:=x.sum;have s2:=In.sum (l:=p.marks) (m:=10 ^ 12) λq d=>by have:=h.marks q d;exact⟨by omega,this.2.2⟩
 have s3:=In.sum (l:=yC b.W none (some (1+n / 6 % 6))) (m:=10 ^ 14) λq d=>k.w q (xh d);have l5:=xP b.W none (some (1+n / 6 % 6));have y:=J2 (b.S++b.W);have z:=J2 p.marks;have A:=J2 (yC b.W none (some (1+n / 6 % 6)));have B:=jiB (o:=false) (o':=false) (a:=b.S) (b:=b.W) (by omega);have C:jdA none (some (1+n / 6 % 6)) (.lst false (b.W.map e2))=some (.lst true ((yC b.W none (some (1+n / 6 % 6))).map e2)):=by rw[jjM (ji b.W),VG]
 have E:=ji (b.S++b.W);have F:=ji p.marks;have G:=ji (yC b.W none (some (1+n / 6 % 6)));have H:lim ((b.S++b.W).map e2).length=true:=jb (by rw[L0,N3];omega);have I:lim (p.marks.map e2).length=true:=jb (by rw[L0];omega);have J:lim ((yC b.W none (some (1+n / 6 % 6))).map e2).length=true:=jb (by rw[L0];omega);have K:=kN true (ts (b.S++b.W));have L:=kN true (ts p.marks);have M:=kN true (ts (yC b.W none (some (1+n / 6 % 6))));have N:jc (jU false b) (.int 0)=some (.lst false (b.S.map e2)):=rfl;have O:jc (jU false b) (.int 1)=some (.lst false (b.W.map e2)):=rfl;have P:jc (yA false p) (.int 2)=some (.lst false (p.marks.map e2)):=rfl;have b1:(10 ^ 14:Int)*((b.S++b.W).length:Int)<=10 ^ 14*20:=Int.mul_le_mul_of_nonneg_left (by rw[N3];omega) (by decide);have b2:(10 ^ 12:Int)*(p.marks.length:Int)<=10 ^ 12*10:=Int.mul_le_mul_of_nonneg_left (by omega) (by decide);have b3:(10 ^ 14:Int)*((yC b.W none (some (1+n / 6 % 6))).length:Int)<=10 ^ 14*10:=Int.mul_le_mul_of_nonneg_left (by omega) (by decide);generalize(ts (b.S++b.W)).sum=x1 at *;generalize(ts p.marks).sum=x2 at *;generalize(ts (yC b.W none (some (1+n / 6 % 6)))).sum=x3 at *;generalize(ts (b.S++b.W)).map D.int=y1 at *;generalize(ts p.marks).map D.int=y2 at *;generalize(ts (yC b.W none (some (1+n / 6 % 6)))).map D.int=y3 at *;generalize(b.S++b.W).map e2=z1 at *;generalize p.marks.map e2=z2 at *;generalize(yC b.W none (some (1+n / 6 % 6))).map e2=z3 at *;generalize b.S.map e2=w1,b.W.map e2=w2,yA false p=PP,jU false b=BB at *;have Q:0<=x1/\x1<=2000000000000000:=by omega
 have R:0<=x2/\x2<=10000000000000:=by omega
 have T:0<=x3/\x3<=1000000000000000:=by omega
 have r0:=N9 (n*n) (show x1+x2+2≠0 by omega);have r1:=N8 (n*n) (show 0 < x1+x2+2 by omega);have U:jn (.int (n*n)) (.int (x1+x2+2))=some (.int (n*n % (x1+x2+2))):=jI (by omega);have m1:0<=x3*(1+n / 36 % 3)/\x3*(1+n / 36 % 3)<=1000000000000000*3:=⟨Int.mul_nonneg (by omega) (by omega),Int.mul_le_mul (by omega) (by omega) (by omega) (by omega)⟩;have mm:0<=n*n:=Int.mul_nonneg g g;obtain⟨v,r,t⟩:=ixL (l:=[0,1+n / 6 % 9,x3,x3*(1+n / 36 % 3),n*n % (x1+x2+2),(x1+x2)*3+n]) (i:=n % 6) (by omega) (by show n % 6 < 6;omega);have e:j9 (.int x3) (.int (1+n / 36 % 3))=some (.int (x3*(1+n / 36 % 3))):=yY (by omega) (by omega);have f:j9 (.int n) (.int n)=some (.int (n*n)):=yY (by omega) (by omega);simp only[List.map] at t;generalize n*n % (x1+x2+2)=u1,x3*(1+n / 36 % 3)=u2 at *;generalize n*n=u3 at *;refine⟨v,?_,?_,?_⟩
 ·simp(disch:=first | omega | (simp;done) | (simp;omega)) [qp,jZ,Vt,j,jI,jP,yY,N,O,P,B,C,y,z,A,E,F,G,H,I,J,K,L,M,U,e,f,t,jL,List.getElem?_cons_zero,Option.join,jb,-kj]
 ·simp at r;omega
 ·simp at r;omega
theorem xq(a:Int):∀(l:List Int) (k:Nat),wQ a k l=(List.range l.length).map λi=>l.getD i 0+if((k+i:Nat):Int) < a then 1 else 0
 | [],k=>rfl
 | x::l,k=>by
  rw[wQ,xq a l (k+1),M0,List.range_succ_eq_map,L4,U0];congr 1
  ·simp only[List.getD_cons_zero,Nat.add_zero];split<;>omega
  ·refine List.map_congr_left λi _=>?_;simp only[Function.comp,List.getD_cons_succ];rw[show k+1+i=k+i.succ by omega]
theorem zj{P:List W2}{c:Int}(F:P.length<=10)(a:∀ p∈P,PtOk p)(G:0<=c)(h1:c<=2 ^ 900):vZ [.lst false (P.map e2),.int c]=some (.lst true ((je P c).1.map D.int)):=by
 have H:=jeH a;have t:=ji P;have u:=J2 P;have v:=kN true (ts P);have w:lim (P.map e2).length=true:=jb (by rw[L0];omega);by_cases h:10 < (ts P).sum
 ·have k:yO (gT 2 (gC (jd [] 0) (gC (jd [] 1) gN))) qT (p2 vS (pC (.int 0)) (p2 jA (p2 vS (pC (.int 0)) (p2 j9 (pV 2) (pV 1))) (pC (.int 10)))) (P.map e2) [none,none,some (.int c)]=some ((ups c P).map D.int):=by
   unfold ups;rw[U0];refine jW (l:=P) (en:=e2) rfl (λρ=>∃ o b,ρ=[o,b,some (.int c)]) ?_ ⟨none,none,rfl⟩;rintro x d ρ ⟨o,b,rfl⟩;refine⟨[some (.str x.1),some (.int x.2),some (.int c)],rfl,?_,_,_,rfl⟩;have A:=(a x d).lo;have B:=(a x d).hi;have e:0 - (0 - c*x.2) / 10=(c*x.2+9) / 10:=by generalize c*x.2=y;omega
   have m:j9 (.int c) (.int x.2)=some (.int (c*x.2)):=yY (by omega) (by omega);show _=some (D.int ((c*x.2+9) / 10));rw[<- e];generalize c*x.2=y at *;simp(disch:=omega) [m,jP]
  have n:je P c=(ups c P,(ups c P).sum - c):=if_pos h;rw[n];generalize(ups c P).map D.int=UU at *;generalize(ts P).map D.int=TT at *;generalize P.map e2=PP at *;simp(disch:=omega) [vZ,jZ,Jy,t,u,v,h,k,w,jL,List.getElem?_cons_zero,Option.join,jb,-kj]
 ·have k:yO (gT 2 (gC (jd [] 0) (gC (jd [] 1) gN))) qT (p2 jA (p2 j9 (pV 2) (pV 1)) (pC (.int 10))) (P.map e2) [none,none,some (.int c)]=some ((Y8 c P).map D.int):=by
   unfold Y8;rw[U0];refine jW (l:=P) (en:=e2) rfl (λρ=>∃ o b,ρ=[o,b,some (.int c)]) ?_ ⟨none,none,rfl⟩;rintro x d ρ ⟨o,b,rfl⟩;refine⟨[some (.str x.1),some (.int x.2),some (.int c)],rfl,?_,_,_,rfl⟩;have A:=(a x d).lo;have B:=(a x d).hi;have m:j9 (.int c) (.int x.2)=some (.int (c*x.2)):=yY (by omega) (by omega);show _=some (D.int (c*x.2 / 10));generalize c*x.2=y at *;simp(disch:=omega) [m,jP]
  have r:=kN true (Y8 c P);have n:je P c=(wQ (c*(ts P).sum / 10 - (Y8 c P).sum) 0 (Y8 c P),0):=if_neg h;rw[n];have m:j9 (.int c) (.int (ts P).sum)=some (.int (c*(ts P).sum)):=yY (by omega) (by omega);have I:(Y8 c P).length=P.length:=L0 ..;generalize Y8 c P=L at *;have hd:jA (.int (c*(ts P).sum)) (.int 10)=some (.int (c*(ts P).sum / 10)):=jP (by omega) (by omega);generalize c*(ts P).sum / 10=y at *;generalize c*(ts P).sum=z at *;have s:yO (jd [] 0) qT (p2 jr (p2 jc (pV 1) (pV 0)) (pIf (jh (p2 jf5 (pV 0) (pV 2))) (pC (.int 1)) (pC (.int 0)))) (kE 0 L.length) [none,some (.lst true (L.map D.int)),some (.int (y - L.sum))]=some ((wQ (y - L.sum) 0 L).map D.int):=by
   rw[xq,U0];generalize y - L.sum=odd;refine jW (l:=List.range L.length) (en:=λi=>.int (0+(i:Int))) rfl (λρ=>∃ o,ρ=[o,some (.lst true (L.map D.int)),some (.int odd)]) ?_ ⟨none,rfl⟩;rintro i hi ρ ⟨o,rfl⟩;have hi:=List.mem_range.mp hi;refine⟨[some (.int (0+(i:Int))),some (.lst true (L.map D.int)),some (.int odd)],rfl,?_,_,rfl⟩;have ix:jc (.lst true (L.map D.int)) (.int (0+(i:Int)))=some (.int (L.getD i 0)):=by
    rw[jbs (by omega) (by rw[L0];omega),List.getElem?_map,show(0+(i:Int)).toNat=i by omega,List.getD_eq_getElem?_getD,X8 hi];rfl
   show _=some (D.int (L.getD i 0+if((0+i:Nat):Int) < odd then 1 else 0));generalize L.getD i 0=g at *;rw[Nat.zero_add];rw[Int.zero_add] at ix ⊢;generalize L.map D.int=LL at *;by_cases q:(i:Int) < odd
   ·simp[ix,q]
   ·simp[ix,q]
  have f:=yV (j:=(L.length:Int)) (by omega) (by omega);rw[N7] at f;have C:lim (kE 0 L.length).length=true:=jb (by rw[yG];omega);have E:qy [.lst true (L.map D.int)]=some (.int (L.length:Int)):=by simp
  generalize(wQ (y - L.sum) 0 L).map D.int=BB at *;generalize L.map D.int=LL at *;generalize(ts P).map D.int=TT at *;generalize P.map e2=PP at *;simp(disch:=omega) [vZ,jZ,Jy,t,u,v,h,k,r,m,hd,f,s,w,C,E,jL,List.getElem?_cons_zero,Option.join,jb,-kj,-yu]
noncomputable def put(f:List Nat->Int)(w:List Nat)(v:Int):List Nat->Int:=λn=>if n=w then v else f n
noncomputable def NS:List Str:=["pool_name","marks","sizes","owed","levels","loans","cash","served","entries","moves"]
abbrev I10(o:Bool)(a0 a1 a2 a3 a4 a5 a6 a7 a8 a9:D):D:=.ins o 0 NS [a0,a1,a2,a3,a4,a5,a6,a7,a8,a9]
section
variable {a0 a1 a2 a3 a4 a5 a6 a7 a8 a9:D}
theorem jkF:Jr NS [a0,a1,a2,a3,a4,a5,a6,a7,a8,a9] "pool_name" = some a0:=rfl
theorem jk7:Jr NS [a0,a1,a2,a3,a4,a5,a6,a7,a8,a9] "owed" = some a3:=rfl
theorem jkY:Jr NS [a0,a1,a2,a3,a4,a5,a6,a7,a8,a9] "loans" = some a5:=rfl
theorem jkW:Jr NS [a0,a1,a2,a3,a4,a5,a6,a7,a8,a9] "cash" = some a6:=rfl
theorem jlp:Jr NS [a0,a1,a2,a3,a4,a5,a6,a7,a8,a9] "entries" = some a8:=rfl
theorem jln:Jr NS [a0,a1,a2,a3,a4,a5,a6,a7,a8,a9] "moves" = some a9:=rfl
theorem g3:JP 0 "owed" jK (I10 true a0 a1 a2 a3 a4 a5 a6 a7 a8 a9)=some (a3,λz=>I10 true a0 a1 a2 z a4 a5 a6 a7 a8 a9):=rfl
theorem g4:JP 0 "levels" jK (I10 true a0 a1 a2 a3 a4 a5 a6 a7 a8 a9)=some (a4,λz=>I10 true a0 a1 a2 a3 z a5 a6 a7 a8 a9):=rfl
theorem g7:JP 0 "served" jK (I10 true a0 a1 a2 a3 a4 a5 a6 a7 a8 a9)=some (a7,λz=>I10 true a0 a1 a2 a3 a4 a5 a6 z a8 a9):=rfl
theorem g8:JP 0 "entries" jK (I10 true a0 a1 a2 a3 a4 a5 a6 a7 a8 a9)=some (a8,λz=>I10 true a0 a1 a2 a3 a4 a5 a6 a7 z a9):=rfl
theorem g9:JP 0 "moves" jK (I10 true a0 a1 a2 a3 a4 a5 a6 a7 a8 a9)=some (a9,λz=>I10 true a0 a1 a2 a3 a4 a5 a6 a7 a8 z):=rfl
theorem jlg{z:D}:qx NS [a0,a1,a2,a3,a4,a5,a6,a7,a8,a9] "cash" z=(NS,[a0,a1,a2,a3,a4,a5,z,a7,a8,a9]):=rfl
variable {ρ:Rh}{i:Nat}{w:List Nat}
theorem jcr{pv:PF}{m n:Int}(a:pV i ρ=some (I10 true a0 a1 a2 a3 a4 a5 (.int m) a7 a8 a9))(b:pv ρ=some (.int n)) :
  YA i jK 0 "cash" (λm n=>m - n) pv ρ=some (.nx (ρ.set i (some (I10 true a0 a1 a2 a3 a4 a5 (.int (m - n)) a7 a8 a9)))):=by
 have e:(NS.length<=900)=True:=by simp[NS]
 unfold YA;rw[a];simp[jK,jkW,jlg,b,e]
theorem ud{L:Ln}{pk pv:PF}{t:D}{N:List (List Nat)}{f:List Nat->Int}{a:D->D}{g:Int->Int->Int}{n:Int}(c:pV i ρ=some t)(d:L t=some (dct true N f,a))(e:pk ρ=some (.str w))(h:pv ρ=some (.int n))(b:w∈N)(j:N.length<=1000) :
  Jk i L pk g pv ρ=some (.nx (ρ.set i (some (a (dct true N (put f w (g (f w) n))))))):=by
 rw[Jk,e,L3,show vy (.str w)=some (.str w) from rfl,L3,c,L3,d,L3,show jbv (dct true N f,a).1=some (N.map KA.str,N.map λn=>D.int (f n)) from rfl,L3,V0 f b,L3,show y4 (.int (f w))=some (f w) from rfl,L3,h,L3,show y4 (.int n)=some n from rfl,L3,jb (by rw[L0];omega),cond_true,xj b];rfl
noncomputable def dSv(o:Bool)(l:List (List Nat)):D:=.dK o (l.map KA.str) (l.map λ_=>D.bl true)
noncomputable def JV(l:List (List Nat))(w:List Nat):List (List Nat):=if w∈l then l else l++[w]
theorem jiI(l:List (List Nat))(w:List Nat):v5 (l.map KA.str) (l.map λ_=>D.bl true) (.str w) (.bl true)=((JV l w).map KA.str,(JV l w).map λ_=>D.bl true):=by
 have b:(KA.str w∈l.map KA.str)↔w∈l:=by simp
 have c:∀ l:List (List Nat),jbj (l.map KA.str) (l.map λ_=>D.bl true) (.str w) (.bl true)=l.map λ_=>D.bl true:=λl=>by
  induction l with
  | nil=>rfl
  | cons a l d=>rw[L4,L4,jbj,d];split<;>rfl
 unfold v5 JV;by_cases h:w∈l
 ·rw[if_pos h,if_pos (b.mpr h),c]
 ·rw[if_neg h,if_neg λz=>h (b.mp z)];simp
theorem jhb{pk:PF}{l:List (List Nat)}(a:pV i ρ=some (I10 true a0 a1 a2 a3 a4 a5 a6 (dSv true l) a8 a9))(b:pk ρ=some (.str w))(c:l.length<=1000) :
  ya i (JP 0 "served" jK) pk (pC (.bl true)) ρ=some (.nx (ρ.set i (some (I10 true a0 a1 a2 a3 a4 a5 a6 (dSv true (JV l w)) a8 a9)))):=by
 unfold ya;rw[show(pC (D.bl true)) ρ=some (.bl true) from rfl,L3,a,L3,g7,L3];show((pk ρ).bind λq=>_)=_;rw[b,L3];show(bif lim (l.map KA.str).length&&(true||_) then some (Out.nx (ρ.set i (some (I10 true a0 a1 a2 a3 a4 a5 a6 (.dK true (v5 (l.map KA.str) (l.map λ_=>D.bl true) (.str w) (.bl true)).1 (v5 (l.map KA.str) (l.map λ_=>D.bl true) (.str w) (.bl true)).2) a8 a9)))) else none)=_;rw[jb (by rw[L0];omega),jiI];rfl
variable {v u:Int}
theorem jcG(h:jO a3 (.str w)=some (.int v)):jk [I10 false a0 a1 a2 a3 a4 a5 a6 a7 a8 a9,.tup [.str Vc,.str w]]=some (.int v):=by
 simp[jk,jZ,yr,jk7,h,jhJ]
theorem u7{nm:List Nat}{l:LN}{j:Int}:jk [I10 false (.str nm) a1 a2 a3 a4 (dLn false l) a6 a7 a8 a9,.tup [.str y9,.str w,.int j]]=some (.int (if j - (vd l (nm,w)).getD 0 < 0 then 0 else j - (vd l (nm,w)).getD 0)):=by
 have a:KW (dLn false l) [.str nm,.str w] (.int 0)=some (.int ((vd l (nm,w)).getD 0)):=by
  show some ((Qh (l.map kL) (l.map vL) [.str nm,.str w]).getD (.int 0))=_;rw[Yo (nm,w) l];cases vd l (nm,w)<;>rfl
 generalize(vd l (nm,w)).getD 0=u at *;have b:jgk [.int (j - u),.int 0]=some (.int (if j - u < 0 then 0 else j - u)):=rfl;generalize dLn false l=X at a;simp[jk,jZ,yr,jkY,jkF,a,jhJ,b,-kC]
theorem jat{nm:List Nat}{l:LN}:jk [I10 false (.str nm) a1 a2 a3 a4 (dLn false l) a6 a7 a8 a9,.tup [.str yQ,.str w]]=some (.int ((vd l (w,nm)).getD 0)):=by
 have a:KW (dLn false l) [.str w,.str nm] (.int 0)=some (.int ((vd l (w,nm)).getD 0)):=by
  show some ((Qh (l.map kL) (l.map vL) [.str w,.str nm]).getD (.int 0))=_;rw[Yo (w,nm) l];cases vd l (w,nm)<;>rfl
 generalize(vd l (w,nm)).getD 0=u at a;generalize dLn false l=X at a;simp[jk,jZ,yr,jkY,jkF,a,jhJ]
theorem ur:jk [I10 false a0 a1 a2 a3 a4 a5 (.int v) a7 a8 a9,.tup [.str vD,.str w]]=some (.int v):=by
 simp[jk,jZ,yr,jkW,jhJ]
end
noncomputable abbrev MV:=List Nat×List Nat×Int
noncomputable def eM(m:MV):D:=.tup [.str m.1,.str m.2.1,.int m.2.2]
def mvF(nm:List Nat)(l:LN)(m:MV):LN:=if m.1=y9 then Qp l (nm,m.2.1) ((vd l (nm,m.2.1)).getD 0+m.2.2) else Qp l (m.2.1,nm) ((vd l (m.2.1,nm)).getD 0 - m.2.2)
structure MvOk(nm:List Nat)(N:List (List Nat))(c:Int)(l:LN)(m:MV):Prop where
 kd:m.1=y9 \/ (m.1=yQ/\m.2.2<=(vd l (m.2.1,nm)).getD 0)
 ot:m.2.1∈N
 po:0 < m.2.2
 hi:m.2.2<=c
theorem wS{l:LN}{k:EN}{c:Int}(h:0 < c)(h2:c<=(vd l k).getD 0):∃ v,vd l k=some v:=by
 cases e:vd l k with
 | some v=>exact⟨v,rfl⟩
 | none=>rw[e] at h2;simp at h2;omega
theorem jeK{nm:List Nat}{N:List (List Nat)}{l:LN}{m:MV}{c:Int}(i:l.length<=100)(k:MvOk nm N c l m):yP [dLn true l,.str nm,.str m.1,.str m.2.1,.int m.2.2]=some (.non,dLn true (mvF nm l m)):=by
 have a:lim l.length=true:=jb (by omega);rcases k.kd with e | ⟨e,e2⟩
 ·have b:=Yo (nm,m.2.1) l;have p1:=Q3 (nm,m.2.1) ((vd l (nm,m.2.1)).getD 0+m.2.2) l;have g:KW (dLn true l) [.str nm,.str m.2.1] (.int 0)=some (.int ((vd l (nm,m.2.1)).getD 0)):=by
   show some ((Qh (l.map kL) (l.map vL) [.str nm,.str m.2.1]).getD (.int 0))=_;rw[b];cases vd l (nm,m.2.1)<;>rfl
  have d:mvF nm l m=Qp l (nm,m.2.1) ((vd l (nm,m.2.1)).getD 0+m.2.2):=if_pos e;rw[d];have j:vy (.str nm)=some (.str nm):=rfl;have h:vy (.str m.2.1)=some (.str m.2.1):=rfl;have hd:jgm (dLn true l)=some (l.map kL,l.map vL):=rfl;simp only[dLn] at *;simp[yP,ku,qN,e,g,p1,a,JS]
 ·obtain⟨v,f⟩:=wS k.po e2;have b:=Yo (m.2.1,nm) l;rw[f] at b;have p1:=Q3 (m.2.1,nm) (v - m.2.2) l;have d:mvF nm l m=Qp l (m.2.1,nm) (v - m.2.2):=by unfold mvF;rw[if_neg (by rw[e];decide),f];rfl
  rw[d];simp only[dLn] at *;simp[yP,ku,qN,jbT,e,b,p1,a,JS]
def reN(nm:List Nat)(l:LN)(ms:List MV):LN:=ms.foldl (mvF nm) l
theorem jcD(nm:List Nat)(l:LN)(ms:List MV)(m:MV):reN nm l (ms++[m])=mvF nm (reN nm l ms) m:=by simp[reN]
theorem jcA(l:LN)(k:EN)(v:Int):(Qp l k v).length<=l.length+1:=by
 unfold Qp jbu;split<;>simp
theorem jas(nm:List Nat):∀(ms:List MV) (l:LN),(reN nm l ms).length<=l.length+ms.length
 | [],l=>M8 _
 | m::ms,l=>by
  have:=jas nm ms (mvF nm l m);have h:(mvF nm l m).length<=l.length+1:=by unfold mvF;split<;>exact jcA _ _ _
  rw[M0];show(reN nm (mvF nm l m) ms).length<=_;omega
structure En where
 pl:Int
 kd:List Nat
 nm:List Nat
 nd:Int
 gt:Int
noncomputable def e5(e:En):D:=.tup [.int e.pl,.str e.kd,.str e.nm,.int e.nd,.int e.gt]
structure Fl where
 sz:List Nat->Int
 ow:List Nat->Int
 lv:List Nat->Int
 ln:LN
 cash:Int
 sv:List (List Nat)
 en:List En
 mv:List MV
def nub(l:List (List Nat)):List (List Nat):=l.foldl JV []
theorem jb3(l:List (List Nat))(w:List Nat):nub (l++[w])=JV (nub l) w:=by unfold nub;rw[List.foldl_append];rfl
theorem uY{w:List Nat}:∀(l acc:List (List Nat)),w∈l.foldl JV acc↔w∈acc \/ w∈l
 | [],acc=>by simp
 | a::l,acc=>by
  rw[U9,uY l];unfold JV;by_cases h:a∈acc
  ·rw[if_pos h,M4];exact⟨λz=>z.imp id .inr,λz=>z.elim .inl λz=>z.elim (λq=>.inl (q▸h)) .inr⟩
  ·rw[if_neg h,N1,M7,M4,or_assoc]
theorem jeI{w:List Nat}{l:List (List Nat)}:w∈nub l↔w∈l:=by unfold nub;rw[uY];simp
theorem uO:∀(l acc:List (List Nat)),(l.foldl JV acc).length<=acc.length+l.length
 | [],acc=>by simp
 | a::l,acc=>by
  have:=uO l (JV acc a);have h:(JV acc a).length<=acc.length+1:=by unfold JV;split<;>simp
  rw[U9,M0];omega
def wV(p:PoolS)(o:Bool)(x:Fl)(l:LN):D:=I10 o (.str p.nm) (dct o p.P (fnOf p.marks)) (dct o p.C x.sz) (dct o p.C x.ow) (dct o p.P x.lv) (dLn o l) (.int x.cash) (dSv o (nub x.sv)) (.lst o (x.en.map e5)) (.lst o (x.mv.map eM))
abbrev jv(p:PoolS)(o:Bool)(x:Fl):D:=wV p o x (reN p.nm x.ln x.mv)
theorem jdo(o:Bool)(N:List (List Nat))(f:List Nat->Int):fz (dct o N f)=dct false N f:=by
 have:fzs (N.map λn=>D.int (f n))=N.map λn=>D.int (f n):=vJ λd hd=>by obtain⟨p,_,rfl⟩:=M5.mp hd;rfl
 simp[dct,fz,this]
theorem jgD(o:Bool)(l:LN):fz (dLn o l)=dLn false l:=by
 have:fzs (l.map vL)=l.map vL:=vJ λd hd=>by obtain⟨p,_,rfl⟩:=M5.mp hd;rfl
 simp[dLn,fz,this]
theorem jhE(o:Bool)(l:List (List Nat)):fz (dSv o l)=dSv false l:=by
 have:fzs (l.map λ_=>D.bl true)=l.map λ_=>D.bl true:=vJ λd hd=>by obtain⟨p,_,rfl⟩:=M5.mp hd;rfl
 unfold dSv;rw[fz,this]
theorem zR(l:List En):fzs (l.map e5)=l.map e5:=vJ λd hd=>by obtain⟨p,_,rfl⟩:=M5.mp hd;rfl
theorem Qt(l:List En):frzs (l.map e5)=true:=yN λd hd=>by obtain⟨p,_,rfl⟩:=M5.mp hd;rfl
theorem zN(l:List MV):fzs (l.map eM)=l.map eM:=vJ λd hd=>by obtain⟨p,_,rfl⟩:=M5.mp hd;rfl
theorem VT(l:List MV):frzs (l.map eM)=true:=yN λd hd=>by obtain⟨p,_,rfl⟩:=M5.mp hd;rfl
theorem jfD(p:PoolS)(o:Bool)(x:Fl):fz (jv p o x)=jv p false x:=by
 unfold jv wV I10;rw[fz];simp[fzs,jdo,jgD,jhE,fz,zR,zN]
section
variable {p:PoolS}{x:Fl}{ρ:Rh}{w:List Nat}
theorem ja2{i:Nat}{pv:PF}{n:Int}(a:pV i ρ=some (jv p true x))(b:pv ρ=some (.int n)) :
  YA i jK 0 "cash" (λm n=>m - n) pv ρ=some (.nx (ρ.set i (some (jv p true { x with cash:=x.cash - n })))):=jcr a b
theorem xl{i:Nat}{pv:PF}{e:En}(a:pV i ρ=some (jv p true x))(b:pv ρ=some (e5 e))(c:x.en.length<=1000) :
  jQ i (JP 0 "entries" jK) pv ρ=some (.nx (ρ.set i (some (jv p true { x with en:=x.en++[e] })))):=by
 rw[jQ,b,L3,a,L3];unfold jv wV;rw[g8,L3];rw[kg,L3,jb (by rw[L0];omega),cond_true,N4];rfl
theorem jks{i:Nat}{pv:PF}{m:MV}{l:LN}(a:pV i ρ=some (wV p true x l))(b:pv ρ=some (eM m))(c:x.mv.length<=1000) :
  jQ i (JP 0 "moves" jK) pv ρ=some (.nx (ρ.set i (some (wV p true { x with mv:=x.mv++[m] } l)))):=by
 rw[jQ,b,L3,a,L3];unfold wV;rw[g9,L3];rw[kg,L3,jb (by rw[L0];omega),cond_true,N4];rfl
theorem jiw{i:Nat}{pk pv:PF}{n:Int}(a:pV i ρ=some (jv p true x))(b:pk ρ=some (.str w))(c:pv ρ=some (.int n))(d:w∈p.C)(e:p.C.length<=1000) :
  Jk i (JP 0 "owed" jK) pk (λm n=>m - n) pv ρ=some (.nx (ρ.set i (some (jv p true { x with ow:=put x.ow w (x.ow w - n) })))):=ud (g:=λm n=>m - n) a g3 b c d e
theorem jh4{i:Nat}{pk pv:PF}{n:Int}(a:pV i ρ=some (jv p true x))(b:pk ρ=some (.str w))(c:pv ρ=some (.int n))(d:w∈p.P)(e:p.P.length<=1000) :
  Jk i (JP 0 "levels" jK) pk (λm n=>m - n) pv ρ=some (.nx (ρ.set i (some (jv p true { x with lv:=put x.lv w (x.lv w - n) })))):=ud (g:=λm n=>m - n) a g4 b c d e
theorem jj1{i:Nat}{pk:PF}(a:pV i ρ=some (jv p true x))(b:pk ρ=some (.str w))(c:x.sv.length<=1000) :
  ya i (JP 0 "served" jK) pk (pC (.bl true)) ρ=some (.nx (ρ.set i (some (jv p true { x with sv:=x.sv++[w] })))):=by
 rw[jhb a b (by have:=uO x.sv [];unfold nub;simp at this;omega),<- jb3];rfl
theorem jky{o:Bool}:Kw 0 "pool_name" (jv p o x)=some (.str p.nm):=rfl
theorem jkx{o:Bool}:Kw 0 "owed" (jv p o x)=some (dct o p.C x.ow):=rfl
theorem jju{o:Bool}:Kw 0 "levels" (jv p o x)=some (dct o p.P x.lv):=rfl
theorem zB{o:Bool}:Kw 0 "cash" (jv p o x)=some (.int x.cash):=rfl
theorem ji7{o:Bool}:Kw 0 "served" (jv p o x)=some (dSv o (nub x.sv)):=rfl
end
noncomputable def got(L s:Int):Int:=if s < L then s else L
noncomputable def sz'(N:List (List Nat))(f:List Nat->Int):List W2:=N.map λn=>(n,f n)
noncomputable abbrev xw:List Nat:=[103,117,97,114,100]
noncomputable abbrev jdK:List Nat:=[112,97,114,116]
noncomputable abbrev Kq:List Nat:=[116,119,105,99,101]
theorem ja5(l:List W2):jN (l.map e2)=true:=kY λd hd=>by obtain⟨p,_,rfl⟩:=M5.mp hd;rfl
theorem uh(o:Bool)(b:BkS):fz (jU o b)=jU false b:=by simp[jU,yK]
theorem JY(b:BkS):frz (jU false b)=true:=by simp[jU,ji]
theorem JF(b:BkS):yB (jU true b)=true:=by simp[jU,ja5]
def Jq(k:Nat)(q:W2)(a:Int)(x:Fl):Fl:={ x with cash:=x.cash - got a x.cash,en:=x.en++[⟨k,jdK,q.1,a,got a x.cash⟩] }
def jw:Nat->List W2->List Int->Fl->Fl
 | _,[],_,x=>x
 | _,_::_,[],x=>x
 | k,q::Q,a::A,x=>jw (k+1) Q A (Jq k q a x)
def twiceF(Q:List W2)(c:Int)(x:Fl):Fl:=if 0 < (je Q c).2 then{ x with en:=x.en++[⟨-1,Kq,[],(je Q c).1.sum,c⟩] } else x
def wG(k:Int)(w:List Nat)(x:Fl):Fl:={ x with cash:=0,en:=x.en++[⟨k,vD,w,x.cash,x.cash⟩] }
noncomputable def srv(b:Bool)(g nd:Int)(w:List Nat)(y:Fl):Fl:=if b=true/\g=nd/\0 < nd then{ y with sv:=y.sv++[w] } else y
def jbN(pl:Int)(w:List Nat)(x:Fl):Fl:=srv true (got (x.ow w) x.cash) (x.ow w) w { x with cash:=x.cash - got (x.ow w) x.cash,en:=x.en++[⟨pl,Vc,w,x.ow w,got (x.ow w) x.cash⟩],ow:=put x.ow w (x.ow w - got (x.ow w) x.cash) }
def lnW(p:PoolS)(x:Fl)(k:EN):Int:=(vd (reN p.nm x.ln x.mv) k).getD 0
def jkm(p:PoolS)(w:List Nat)(j:Int)(x:Fl):Int:=if j - lnW p x (p.nm,w) < 0 then 0 else j - lnW p x (p.nm,w)
def Jf(pl:Int)(kd w:List Nat)(nd:Int)(x:Fl):Fl:={ x with cash:=x.cash - got nd x.cash,en:=x.en++[⟨pl,kd,w,nd,got nd x.cash⟩],mv:=if 0 < got nd x.cash then x.mv++[(kd,w,got nd x.cash)] else x.mv }
def vE(p:PoolS)(pl:Int)(r:Ru)(x:Fl):Fl:=match r with
 | .one k w=>if k=vD then wG pl w x else if k=yQ then Jf pl yQ w (lnW p x (w,p.nm)) x else jbN pl w x
 | .lend w j=>Jf pl y9 w (jkm p w j x) x
def qB(p:PoolS):Int->List Ru->Fl->Fl
 | _,[],x=>x
 | k,r::R,x=>qB p (k+1) R (vE p k r x)
theorem jiA(b:Bool)(g nd:Int)(w:List Nat)(y:Fl):(srv b g nd w y).en=y.en/\(srv b g nd w y).mv=y.mv/\(srv b g nd w y).lv=y.lv/\(srv b g nd w y).sv.length<=y.sv.length+1:=by
 unfold srv;split
 ·exact⟨rfl,rfl,rfl,by simp⟩
 ·exact⟨rfl,rfl,rfl,by omega⟩
theorem zT(pl:Int)(kd w:List Nat)(nd:Int)(x:Fl):(Jf pl kd w nd x).en.length=x.en.length+1/\(Jf pl kd w nd x).mv.length<=x.mv.length+1/\(Jf pl kd w nd x).sv.length<=x.sv.length+1/\(Jf pl kd w nd x).ln=x.ln:=by
 refine⟨by simp[Jf],?_,by simp[Jf],rfl⟩;show(if 0 < got nd x.cash then x.mv++[(kd,w,got nd x.cash)] else x.mv).length<=_;split<;>simp
theorem V4(p:PoolS)(pl:Int)(r:Ru)(x:Fl):(vE p pl r x).en.length=x.en.length+1/\(vE p pl r x).mv.length<=x.mv.length+1/\(vE p pl r x).sv.length<=x.sv.length+1/\(vE p pl r x).ln=x.ln:=by
 cases r with
 | lend w j=>exact zT _ _ _ _ _
 | one k w =>
  unfold vE;dsimp only;split
  ·exact⟨by simp[wG],by simp[wG],by simp[wG],rfl⟩
  split
  ·exact zT _ _ _ _ _
  ·have:=jiA true (got (x.ow w) x.cash) (x.ow w) w;exact⟨by unfold jbN;rw[(this _).1];simp,by unfold jbN;rw[(this _).2.1];simp,by unfold jbN;exact(this _).2.2.2,by unfold jbN srv;split<;>rfl⟩
theorem kU(p:PoolS):∀(k:Int) (R:List Ru) (x:Fl),(qB p k R x).en.length=x.en.length+R.length/\(qB p k R x).mv.length<=x.mv.length+R.length
 | _,[],x=>⟨rfl,M8 _⟩
 | k,r::R,x=>by
  have h:=V4 p k r x;have t:=kU p (k+1) R (vE p k r x);rw[qB,M0];exact⟨by omega,by omega⟩
def vR(k:Nat)(g:WG)(x:Fl):Fl:={ x with lv:=put x.lv g.1 (x.lv g.1 - got (x.ow g.2) (x.lv g.1)),ow:=put x.ow g.2 (x.ow g.2 - got (x.ow g.2) (x.lv g.1)),en:=x.en++[⟨k,xw,g.2,x.ow g.2,got (x.ow g.2) (x.lv g.1)⟩] }
def yI:Nat->List WG->Fl->Fl
 | _,[],x=>x
 | k,g::G,x=>yI (k+1) G (vR k g x)
def yb(b:BkS)(c:Int)(ln:LN):Fl:=⟨fnOf b.S,fnOf b.W,fnOf b.L,ln,c,[],[],[]⟩
def Ju(p:PoolS)(o:OrdS)(b:BkS)(c:Int)(ln:LN):Fl:=yI 0 p.grds (qB p o.parts.length o.rules (twiceF o.parts c (jw 0 o.parts (je o.parts c).1 (yb b c ln))))
def qC(S:List W2)(sv:List (List Nat))(R:List W2):List W2:=R.map λq=>(q.1,if 0 < fnOf S q.1/\q.1∉sv then q.2+1 else 0)
def jo(p:PoolS)(b:BkS)(x:Fl):BkS:=⟨sz' p.C x.sz,sz' p.C x.ow,qC b.S x.sv b.R,sz' p.P x.lv,b.z⟩
theorem v7:∀(k:Nat) (Q:List W2) (A:List Int) (x:Fl),(jw k Q A x).en.length<=x.en.length+Q.length
 | _,[],_,x=>M8 _
 | _,_::_,[],x=>by rw[jw];omega
 | k,q::Q,a::A,x=>by
  have:=v7 (k+1) Q A (Jq k q a x);have e:(Jq k q a x).en.length=x.en.length+1:=by simp[Jq]
  rw[jw,M0];omega
theorem twiceF_en(Q:List W2)(c:Int)(x:Fl):(twiceF Q c x).en.length<=x.en.length+1:=by
 unfold twiceF;split
 ·simp
 ·omega
section
variable {p:PoolS}{x:Fl}{w:List Nat}
theorem J3{m:List D->Option (D×D)}{mn:Str}{pa:PAf}{ρ:Rh}{i:Nat}{ds:List D}(a:pV i ρ=some (jv p true x))(b:pa ρ=some ds)(c:frzs ds=true)
  (d:∀ a0 a1 a2 a3 a4 a5 a6 a7 a8 a9:D,Jr NS [a0,a1,a2,a3,a4,a5,a6,a7,a8,a9] mn=none):vb m i 0 mn pa ρ=(m (jv p true x::ds)).bind λr=>some (r.1,ρ.set i (some r.2)):=by
 rw[vb,b,L3,a,L3];show(bif true&&(frzs ds&&(Jr NS _ mn).isNone) then _ else none)=_;rw[d,c];rfl
theorem jaG{m:List D->Option D}{mn:Str}{po:PF}{pa:PAf}{ρ:Rh}{ds:List D}{o:Bool}{r:D}(a:po ρ=some (jv p o x))(b:pa ρ=some ds)
  (c:∀ a0 a1 a2 a3 a4 a5 a6 a7 a8 a9:D,Jr NS [a0,a1,a2,a3,a4,a5,a6,a7,a8,a9] mn=none) (e:m (jv p false x::fzs ds)=some r) (f:yB r=true):JH m 0 mn po pa ρ=some r:=by
 rw[JH,a,L3];show(bif true&&(Jr NS _ mn).isNone then(pa ρ).bind λds=>(m (fzs (jv p o x::ds))).bind λd=>bif frzs (jv p o x::ds)||yB d then some d else none else none)=_;rw[c,b,L3,fzs,jfD,e,L3,f,Bool.or_true];rfl
theorem VC{ts:D}{a1 a2:Option D}{B:List Int}(c:jc ts (.int 0)=some (.lst true (B.map D.int))):∀{Q:List W2}{A:List Int}{s:Nat}{x:Fl}{o4 o5 o6 o7:Option D},A=B.drop s->A.length=Q.length->x.en.length+Q.length<=900 ->
  ∃ o4' o5' o6' o7':Option D,jY (gT 2 (gC (jd [0] 4) (gC (jd [0] 5) gN))) yw (yf s (Q.map e2)) [some (jv p true x),a1,a2,some ts,o4,o5,o6,o7]=some (.nx [some (jv p true (jw s Q A x)),a1,a2,some ts,o4',o5',o6',o7'])
 | [],A,s,x,o4,o5,o6,o7,_,_,_=>⟨o4,o5,o6,o7,by rw[jw];rfl⟩
 | r::Q,[],s,x,o4,o5,o6,o7,_,f,_=>by simp at f
 | r::Q,a::A,s,x,o4,o5,o6,o7,b,f,g=>by
  rw[M0] at g;simp only[M0] at f;have d:s < B.length:=by
   by_cases h:s < B.length
   ·exact h
   ·rw[List.drop_eq_nil_of_le (by omega)] at b;cases b
  rw[List.drop_eq_getElem_cons d] at b;injection b with ha b;have i:jc (.lst true (B.map D.int)) (.int (s:Int))=some (.int a):=by
   rw[jbs (by omega) (by rw[L0];omega),N7,List.getElem?_map,X8 d,ha];rfl
  have j:zU [.int a,.int x.cash]=some (.int (got a x.cash)):=rfl;have k:(Jq s r a x).en.length=x.en.length+1:=by simp[Jq]
  obtain⟨o4',o5',o6',o7',e⟩:=VC c (a1:=a1) (a2:=a2) (Q:=Q) (A:=A) (s:=s+1) (x:=Jq s r a x) (o4:=some (.int s)) (o5:=some (e2 r)) (o6:=some (.int a)) (o7:=some (.int (got a x.cash))) b (by omega) (by omega);refine⟨o4',o5',o6',o7',?_⟩;have l:jc (e2 r) (.int 0)=some (.str r.1):=rfl;have m:=zB (p:=p) (x:=x) (o:=true);rw[L4,yf,lpF ?_,e,jw];show yw [some (jv p true x),a1,a2,some ts,some (.int s),some (e2 r),o6,o7]=_;apply sq (ρ':=[some (jv p true x),a1,a2,some ts,some (.int s),some (e2 r),some (.int a),o7]) (by generalize jv p true x=X at *;simp[c,i]);apply sq (ρ':=[some (jv p true x),a1,a2,some ts,some (.int s),some (e2 r),some (.int a),some (.int (got a x.cash))]) (by generalize jv p true x=X at *;simp[m,j,-kC]);apply sq (by exact ja2 (x:=x) rfl rfl);exact xl (x:={ x with cash:=x.cash - got a x.cash }) (e:=⟨s,jdK,r.1,a,got a x.cash⟩) rfl (by simp[jb,e5,l]) (by show x.en.length<=1000;omega)
theorem jbB{Q:List W2}(d:0<=x.cash)(u:x.cash<=2 ^ 900)(v:∀ q∈Q,PtOk q)(f:Q.length<=10)(w:x.en.length<=100) :
  jJ [jv p true x,.lst false (Q.map e2)]=some (.non,jv p true (twiceF Q x.cash (jw 0 Q (je Q x.cash).1 x))):=by
 have h:=jc5 (P:=Q) (c:=x.cash) f v d u;have y:=xa (P:=Q) (c:=x.cash);obtain⟨j,k,l,m,e⟩:=VC (p:=p) (ts:=.tup [.lst true ((je Q x.cash).1.map D.int),.int (je Q x.cash).2]) (a1:=some (.lst false (Q.map e2))) (a2:=some (.int x.cash)) (B:=(je Q x.cash).1) rfl (Q:=Q) (A:=(je Q x.cash).1) (s:=0) (x:=x) (o4:=none) (o5:=none) (o6:=none) (o7:=none) rfl y (by omega);have a:=zB (p:=p) (x:=x) (o:=true);have z:jc (.tup [.lst true ((je Q x.cash).1.map D.int),.int (je Q x.cash).2]) (.int 0)=some (.lst true ((je Q x.cash).1.map D.int)):=rfl;have n:jc (.tup [.lst true ((je Q x.cash).1.map D.int),.int (je Q x.cash).2]) (.int 1)=some (.int (je Q x.cash).2):=rfl;have C:=v7 0 Q (je Q x.cash).1 x;have r:=ji Q;have t:=yK Q;by_cases b:0 < (je Q x.cash).2
 ·have E:=xl (p:=p) (x:=jw 0 Q (je Q x.cash).1 x) (ρ:=[some (jv p true (jw 0 Q (je Q x.cash).1 x)),some (.lst false (Q.map e2)),some (.int x.cash),some (.tup [.lst true ((je Q x.cash).1.map D.int),.int (je Q x.cash).2]),j,k,l,m]) (i:=0) (pv:=yU (ja (p1 zw (pC (.int 1))) (ja (pC (.str [116,119,105,99,101])) (ja (pC (.str [])) (ja (pCB Kn (ja (p2 jc (pV 3) (pC (.int 0))) pN)) (ja (pF (pV 2)) pN)))))) (e:=⟨-1,Kq,[],(je Q x.cash).1.sum,x.cash⟩) rfl (by simp[jb,e5,z]) (by omega);rw[twiceF,if_pos b];generalize jv p true { jw 0 Q (je Q x.cash).1 x with en:=(jw 0 Q (je Q x.cash).1 x).en++[⟨-1,Kq,[],(je Q x.cash).1.sum,x.cash⟩] }=X2,jv p true (jw 0 Q (je Q x.cash).1 x)=X1,jv p true x=X at *;generalize g:D.tup [.lst true ((je Q x.cash).1.map D.int),.int (je Q x.cash).2]=TT at *;simp[jJ,ku,yS,a,h,r,t,e,n,b,E,JS,-jQ]
 ·rw[twiceF,if_neg b];generalize jv p true (jw 0 Q (je Q x.cash).1 x)=X1,jv p true x=X at *;generalize g:D.tup [.lst true ((je Q x.cash).1.map D.int),.int (je Q x.cash).2]=TT at *;simp[jJ,ku,yS,a,h,r,t,e,n,b,JS,-jQ]
theorem jb7(c:Int):got c c=c:=by unfold got;split<;>rfl
theorem jbb{c:Int}:jx [jv p true x,.str vD,.str w,.int c]=some (.non,jv p true x):=by
 generalize jv p true x=X;have a:zE false (.str vD) (.tup [.str [108,101,110,100],.str [98,97,99,107]])=some (.bl false):=rfl;simp[jx,ku,yM,a,JS,jb]
theorem jc0{c:Int}(b:w∈p.C)(d:p.C.length<=1000):jx [jv p true x,.str Vc,.str w,.int c]=some (.non,jv p true { x with ow:=put x.ow w (x.ow w - c) }):=by
 have a:=jiw (p:=p) (x:=x) (ρ:=[some (jv p true x),some (.str Vc),some (.str w),some (.int c),none]) (i:=0) (pk:=pV 2) (pv:=pV 3) rfl rfl rfl b d;generalize jv p true { x with ow:=put x.ow w (x.ow w - c) }=Y,jv p true x=X at *;simp[jx,ku,yM,a,JS]
theorem J7{d:D}{kw:List Nat}{pl nd:Int}{y:Fl}{b:Bool}(k:jc d (.int 0)=some (.str kw))(l:jc d (.int 1)=some (.str w))(fd:fz d=d)
  (j:jk [jv p false x,d]=some (.int nd))
  (give:jx [jv p true { x with cash:=x.cash - got nd x.cash,en:=x.en++[⟨pl,kw,w,nd,got nd x.cash⟩] },.str kw,.str w,.int (got nd x.cash)]=some (.non,jv p true y))
  (h:zE false (.str kw) (.tup [.str [112,97,121],.str [114,101,112,97,121]])=some (.bl b)) (t:x.en.length<=1000) (u:y.sv.length<=1000) :
  jq [jv p true x,.int pl,d]=some (.non,jv p true (if b=true/\got nd x.cash=nd/\0 < nd then{ y with sv:=y.sv++[w] } else y)):=by
 have m:zU [.int nd,.int x.cash]=some (.int (got nd x.cash)):=rfl;generalize B:got nd x.cash=g at *;have q:=zB (p:=p) (x:=x) (o:=true);have a:∀ r:Rh,JH jk 0 "need_of" (pV 0) (ja (pV 2) pN) (some (jv p true x)::some (.int pl)::some d::r)=some (.int nd):=λr=>jaG (x:=x) rfl (ds:=[d]) (by simp) (λ_ _ _ _ _ _ _ _ _ _=>rfl) (by rw[show fzs [d]=[d] by rw[fzs,fd];rfl];exact j) rfl;have c:=ja2 (p:=p) (x:=x) (ρ:=[some (jv p true x),some (.int pl),some d,some (.str kw),some (.str w),some (.int nd),some (.int g)]) (i:=0) (pv:=pV 6) (n:=g) rfl rfl;have e:=xl (p:=p) (x:={ x with cash:=x.cash - g }) (ρ:=[some (jv p true { x with cash:=x.cash - g }),some (.int pl),some d,some (.str kw),some (.str w),some (.int nd),some (.int g)]) (i:=0) (pv:=yU (ja (pF (pV 1)) (ja (pF (pV 3)) (ja (pF (pV 4)) (ja (pF (pV 5)) (ja (pF (pV 6)) pN)))))) (e:=⟨pl,kw,w,nd,g⟩) rfl (by simp[jb,e5]) t;dsimp only at e;have f:vb jx 0 0 "give" (ja (pF (pV 3)) (ja (pF (pV 4)) (ja (pF (pV 6)) pN))) [some (jv p true { x with cash:=x.cash - g,en:=x.en++[⟨pl,kw,w,nd,g⟩] }),some (.int pl),some d,some (.str kw),some (.str w),some (.int nd),some (.int g)]=some (.non,[some (jv p true y),some (.int pl),some d,some (.str kw),some (.str w),some (.int nd),some (.int g)]):=by
  rw[J3 (x:={ x with cash:=x.cash - g,en:=x.en++[⟨pl,kw,w,nd,g⟩] }) rfl (ds:=[.str kw,.str w,.int g]) (by simp) rfl (λ_ _ _ _ _ _ _ _ _ _=>rfl),give];rfl
 have s:=jj1 (p:=p) (x:=y) (ρ:=[some (jv p true y),some (.int pl),some d,some (.str kw),some (.str w),some (.int nd),some (.int g)]) (i:=0) (pk:=pV 4) (w:=w) rfl rfl u;have A:jv p true (if b=true/\g=nd/\0 < nd then{ y with sv:=y.sv++[w] } else y)=if b=true/\g=nd/\0 < nd then jv p true { y with sv:=y.sv++[w] } else jv p true y:=by split<;>rfl
 rw[A];generalize jv p true { y with sv:=y.sv++[w] }=Y2,jv p true y=Y,jv p true { x with cash:=x.cash - g,en:=x.en++[⟨pl,kw,w,nd,g⟩] }=X3,jv p true { x with cash:=x.cash - g }=X2,jv p true x=X at *;cases b with
 | false=>simp[jq,ku,yd,k,l,a,q,m,c,e,f,s,h,JS,jb,-kC,-jQ,-JH,-vb]
 | true =>
  by_cases v:g=nd
  ·subst v;by_cases z:0 < g
   ·simp[jq,ku,yd,k,l,a,q,m,c,e,f,s,h,z,JS,jb,-kC,-jQ,-JH,-vb]
   ·simp[jq,ku,yd,k,l,a,q,m,c,e,f,s,h,z,JS,jb,-kC,-jQ,-JH,-vb]
  ·simp[jq,ku,yd,k,l,a,q,m,c,e,f,s,h,v,JS,jb,-kC,-jQ,-JH,-vb]
theorem jfY{kw:List Nat}(h:kw=y9 \/ kw=yQ):zE false (.str kw) (.tup [.str [108,101,110,100],.str [98,97,99,107]])=some (.bl true):=by
 rcases h with rfl | rfl<;>rfl
theorem jem{m:MV}{N:List (List Nat)}{c:Int}(k:MvOk p.nm N c (reN p.nm x.ln x.mv) m)(j:(reN p.nm x.ln x.mv).length<=100)(n:x.mv.length<=1000):jx [jv p true x,.str m.1,.str m.2.1,.int m.2.2]=some (.non,jv p true { x with mv:=x.mv++[m] }):=by
 have q:=jky (p:=p) (x:=x) (o:=true);have f:=jeK j k;have d:m.1=y9 \/ m.1=yQ:=k.kd.imp id (·.1);have po:=k.po;have a:∀ r:Rh,jM yP 0 (JP 0 "loans" jK) (ja (pF (Y5 0 "pool_name" (pV 0))) (ja (pF (pV 1)) (ja (pF (pV 2)) (ja (pF (pV 3)) pN)))) (some (jv p true x)::some (.str m.1)::some (.str m.2.1)::some (.int m.2.2)::r)=some (.non,some (wV p true x (mvF p.nm (reN p.nm x.ln x.mv) m))::some (.str m.1)::some (.str m.2.1)::some (.int m.2.2)::r):=by
  intro r;have s:JP 0 "loans" jK (jv p true x)=some (dLn true (reN p.nm x.ln x.mv),λz=>I10 true (.str p.nm) (dct true p.P (fnOf p.marks)) (dct true p.C x.sz) (dct true p.C x.ow) (dct true p.P x.lv) z (.int x.cash) (dSv true (nub x.sv)) (.lst true (x.en.map e5)) (.lst true (x.mv.map eM))):=rfl;have g:wV p true x (mvF p.nm (reN p.nm x.ln x.mv) m)=I10 true (.str p.nm) (dct true p.P (fnOf p.marks)) (dct true p.C x.sz) (dct true p.C x.ow) (dct true p.P x.lv) (dLn true (mvF p.nm (reN p.nm x.ln x.mv) m)) (.int x.cash) (dSv true (nub x.sv)) (.lst true (x.en.map e5)) (.lst true (x.mv.map eM)):=rfl;rw[g];generalize jv p true x=X,dLn true (reN p.nm x.ln x.mv)=A,dLn true (mvF p.nm (reN p.nm x.ln x.mv) m)=B at *;unfold jM;simp[q,s,f]
 have b:=jks (p:=p) (x:=x) (l:=mvF p.nm (reN p.nm x.ln x.mv) m) (ρ:=[some (wV p true x (mvF p.nm (reN p.nm x.ln x.mv) m)),some (.str m.1),some (.str m.2.1),some (.int m.2.2),none]) (i:=0) (pv:=yU (ja (pF (pV 1)) (ja (pF (pV 2)) (ja (pF (pV 3)) pN)))) (m:=m) rfl (by simp[jb,eM]) n;have t:wV p true { x with mv:=x.mv++[m] } (mvF p.nm (reN p.nm x.ln x.mv) m)=jv p true { x with mv:=x.mv++[m] }:=by show _=wV p true _ (reN p.nm x.ln (x.mv++[m]));rw[jcD]
 rw[t] at b;have h:=jfY d;have u:(m.1==Vc)=false:=by rcases d with e | e<;>rw[e]<;>rfl
 have v:(m.1==jgs)=false:=by rcases d with e | e<;>rw[e]<;>rfl
 have w:(m.1==jkj)=false:=by rcases d with e | e<;>rw[e]<;>rfl
 generalize jv p true { x with mv:=x.mv++[m] }=Y2,wV p true x (mvF p.nm (reN p.nm x.ln x.mv) m)=Y,jv p true x=X,m.1=kw at *;simp[jx,ku,yM,a,b,h,po,u,v,w,JS,jb,-jQ]
theorem jck{kw:List Nat}{c:Int}(h:kw=y9 \/ kw=yQ)(b:¬ 0 < c):jx [jv p true x,.str kw,.str w,.int c]=some (.non,jv p true x):=by
 generalize jv p true x=X;rcases h with rfl | rfl
 ·have a:=jfY (kw:=y9) (.inl rfl);simp[jx,ku,yM,a,b,JS,jb]
 ·have a:=jfY (kw:=yQ) (.inr rfl);simp[jx,ku,yM,a,b,JS,jb]
theorem jb8(h:PoolOk p){pl:Int}{r:Ru}(s:RuOk p.C p.oth r)(t:x.en.length<=900)(u:x.sv.length<=900)(v:x.mv.length<=50)(z:x.ln.length<=50):jq [jv p true x,.int pl,eRu r]=some (.non,jv p true (vE p pl r x)):=by
 have A:=jas p.nm x.mv x.ln;have a:∀{kd w:List Nat}{nd:Int},(kd=y9 \/ (kd=yQ/\nd=lnW p x (w,p.nm)))->jc (eRu r) (.int 0)=some (.str kd)->jc (eRu r) (.int 1)=some (.str w)->jk [jv p false x,eRu r]=some (.int nd)->jq [jv p true x,.int pl,eRu r]=some (.non,jv p true (Jf pl kd w nd x)):=λ{kd w nd} j n o f=>by
  have g:zE false (.str kd) (.tup [.str [112,97,121],.str [114,101,112,97,121]])=some (.bl false):=by rcases j with rfl | ⟨rfl,_⟩<;>rfl
  have k:kd=y9 \/ kd=yQ:=j.imp id (·.1);have D:got nd x.cash<=nd:=by unfold got;split<;>omega
  by_cases q:0 < got nd x.cash
  ·have l:=jem (p:=p) (N:=[w]) (c:=got nd x.cash) (x:={ x with cash:=x.cash - got nd x.cash,en:=x.en++[⟨pl,kd,w,nd,got nd x.cash⟩] }) (m:=(kd,w,got nd x.cash)) ⟨j.imp id λh=>⟨h.1,by show got nd x.cash<=(vd (reN p.nm x.ln x.mv) (w,p.nm)).getD 0;have:=h.2;unfold lnW at this;omega⟩,by simp,q,Int.le_refl _⟩ (by show(reN p.nm x.ln x.mv).length<=100;omega) (by show x.mv.length<=1000;omega);have e:=J7 (p:=p) (x:=x) (w:=w) (d:=eRu r) (kw:=kd) (pl:=pl) (nd:=nd) (b:=false) n o (vv _ (vW r)) f l g (by omega) (by show x.sv.length<=1000;omega);rw[e,if_neg (by simp)];unfold Jf;rw[if_pos q]
  ·have l:jx [jv p true { x with cash:=x.cash - got nd x.cash,en:=x.en++[⟨pl,kd,w,nd,got nd x.cash⟩] },.str kd,.str w,.int (got nd x.cash)]=some (.non,jv p true { x with cash:=x.cash - got nd x.cash,en:=x.en++[⟨pl,kd,w,nd,got nd x.cash⟩] }):=jck k q;have e:=J7 (p:=p) (x:=x) (w:=w) (d:=eRu r) (kw:=kd) (pl:=pl) (nd:=nd) (b:=false) n o (vv _ (vW r)) f l g (by omega) (by show x.sv.length<=1000;omega);rw[e,if_neg (by simp)];unfold Jf;rw[if_neg q]
 have B:p.C.length<=1000:=by have:=h.told2;rw[L0];omega
 have E:p.P.length<=1000:=by have:=h.marks2;rw[L0];omega
 cases s with
 | rest i =>
  rename_i w;have e:=J7 (p:=p) (x:=x) (w:=w) (d:=eRu (.one vD w)) (kw:=vD) (pl:=pl) (nd:=x.cash) (y:={ x with cash:=x.cash - got x.cash x.cash,en:=x.en++[⟨pl,vD,w,x.cash,got x.cash x.cash⟩] }) (b:=false) rfl rfl rfl ur jbb rfl (by omega) (by show x.sv.length<=1000;omega);rw[e,if_neg (by simp),jb7,Int.sub_self];rfl
 | pay i =>
  rename_i w;have e:=J7 (p:=p) (x:=x) (w:=w) (d:=eRu (.one Vc w)) (kw:=Vc) (pl:=pl) (nd:=x.ow w) (b:=true) rfl rfl rfl (jcG (kB i)) (jc0 i B) rfl (by omega) (by show x.sv.length<=1000;omega);rw[e];rfl
 | back i =>
  rename_i w;exact a (.inr ⟨rfl,rfl⟩) rfl rfl jat
 | lend i =>
  exact a (.inl rfl) rfl rfl u7
theorem Vx(h:PoolOk p){a0 a1 a2 a3 a4 a5 a9:Option D}:∀{R:List Ru}{s:Int}{x:Fl}{o7 o8:Option D},(∀ r∈R,RuOk p.C p.oth r)->x.en.length+R.length<=900->x.sv.length+R.length<=900->x.mv.length+R.length<=50->x.ln.length<=50 ->
  ∃ o7' o8':Option D,jY (gT 2 (gC (jd [] 7) (gC (jd [] 8) gN))) VP (JT s (R.map eRu)) [a0,a1,a2,a3,a4,a5,some (jv p true x),o7,o8,a9]=some (.nx [a0,a1,a2,a3,a4,a5,some (jv p true (qB p s R x)),o7',o8',a9])
 | [],s,x,o7,o8,_,_,_,_,_=>⟨o7,o8,rfl⟩
 | r::R,s,x,o7,o8,j,b,c,f,a=>by
  rw[M0] at b c f;have k:=j r (by simp);have ex:=jb8 h (pl:=s) k (x:=x) (by omega) (by omega) (by omega) a;have g:=V4 p s r x;obtain⟨o7',o8',e⟩:=Vx h (a0:=a0) (a1:=a1) (a2:=a2) (a3:=a3) (a4:=a4) (a5:=a5) (a9:=a9) (R:=R) (s:=s+1) (x:=vE p s r x) (o7:=some (.int s)) (o8:=some (eRu r)) (λd hd=>j d (by simp[hd])) (by omega) (by omega) (by omega) (by rw[g.2.2.2];exact a);refine⟨o7',o8',?_⟩;obtain⟨kw,l,ns⟩:∃ kw,jc (eRu r) (.int 0)=some (.str kw)/\(kw==[115,104,97,114,101])=false:=by cases k<;>exact⟨_,rfl,rfl⟩
  have fr:frz (eRu r)=true:=vW r;have m:=J3 (p:=p) (x:=x) (m:=jq) (mn:="take_rule") (pa:=ja (pF (pV 7)) (ja (pF (pV 8)) pN)) (ρ:=[a0,a1,a2,a3,a4,a5,some (jv p true x),some (.int s),some (eRu r),a9]) (i:=6) (ds:=[.int s,eRu r]) rfl (by simp[fr]) (by simp[fr]) (λ_ _ _ _ _ _ _ _ _ _=>rfl);rw[ex,L3] at m;rw[L4,JT,lpF ?_,e,qB];show(some _).bind _=_;generalize jv p true (vE p s r x)=X1,jv p true x=X,eRu r=RR at *;simp[VP,l,ns,m,-vb]
theorem jcR(h:PoolOk p){pl:Nat}{g:WG}(h1:g.1∈p.P)(h2:g.2∈p.C)(d:x.en.length<=900) :
  yn [jv p true x,.int pl,.str g.1,.str g.2]=some (.non,jv p true (vR pl g x)):=by
 have i:p.C.length<=1000:=by have:=h.told2;rw[L0];omega
 have j:p.P.length<=1000:=by have:=h.marks2;rw[L0];omega
 have k:zU [.int (x.ow g.2),.int (x.lv g.1)]=some (.int (got (x.ow g.2) (x.lv g.1))):=rfl;unfold vR;generalize got (x.ow g.2) (x.lv g.1)=y at *;obtain⟨po,a⟩:=g;simp only at *
 let b:Fl:={ x with lv:=put x.lv po (x.lv po - y) }
 let c:Fl:={ b with ow:=put x.ow a (x.ow a - y) }
 let l:Fl:={ c with en:=x.en++[⟨pl,xw,a,x.ow a,y⟩] }
 have m:=jkx (p:=p) (x:=x) (o:=true);have n:=kB (o:=true) (f:=x.ow) h2;have q:=jju (p:=p) (x:=x) (o:=true);have r:=kB (o:=true) (f:=x.lv) h1;show((yR [some (jv p true x),some (.int pl),some (.str po),some (.str a),none,none]).bind (JS 0))=_;have e:yR [some (jv p true x),some (.int pl),some (.str po),some (.str a),none,none]=some (.nx [some (jv p true l),some (.int pl),some (.str po),some (.str a),some (.int (x.ow a)),some (.int y)]):=by
  apply sq (ρ':=[some (jv p true x),some (.int pl),some (.str po),some (.str a),some (.int (x.ow a)),none]) (by generalize jv p true x=X at *;generalize dct true p.C x.ow=D1 at *;simp[m,n]);apply sq (ρ':=[some (jv p true x),some (.int pl),some (.str po),some (.str a),some (.int (x.ow a)),some (.int y)]) (by generalize jv p true x=X at *;generalize dct true p.P x.lv=D2 at *;simp[q,r,k,-kC]);apply sq (by exact jh4 (x:=x) rfl rfl rfl h1 j);apply sq (by exact jiw (x:=b) rfl rfl rfl h2 i);exact xl (x:=c) (e:=⟨pl,xw,a,x.ow a,y⟩) rfl (by simp[jb,e5]) (by show x.en.length<=1000;omega)
 rw[e];rfl
theorem Ym(h:PoolOk p){a0 a1 a2 a3 a4 a5 a8:Option D}:∀{G:List WG}{s:Nat}{x:Fl}{o7 o9:Option D},(∀ g∈G,g.1∈p.P/\g.2∈p.C)->x.en.length+G.length<=900 ->
  ∃ o7' o9':Option D,jY (gT 2 (gC (jd [] 7) (gC (jd [] 9) gN))) V8 (yf s (G.map eG)) [a0,a1,a2,a3,a4,a5,some (jv p true x),o7,a8,o9]=some (.nx [a0,a1,a2,a3,a4,a5,some (jv p true (yI s G x)),o7',a8,o9'])
 | [],s,x,o7,o9,_,_=>⟨o7,o9,rfl⟩
 | g::G,s,x,o7,o9,a,b=>by
  rw[M0] at b;have ex:=jcR h (x:=x) (pl:=s) (a g (by simp)).1 (a g (by simp)).2 (by omega);have c:(vR s g x).en.length=x.en.length+1:=by simp[vR]
  obtain⟨o7',o9',e⟩:=Ym h (a0:=a0) (a1:=a1) (a2:=a2) (a3:=a3) (a4:=a4) (a5:=a5) (a8:=a8) (G:=G) (s:=s+1) (x:=vR s g x) (o7:=some (.int s)) (o9:=some (eG g)) (λg d=>a g (by simp[d])) (by omega);refine⟨o7',o9',?_⟩;have f:jc (eG g) (.int 0)=some (.str g.1):=rfl;have j:jc (eG g) (.int 1)=some (.str g.2):=rfl;have m:=J3 (p:=p) (x:=x) (m:=yn) (mn:="take_guard") (pa:=ja (pF (pV 7)) (ja (pF (p2 jc (pV 9) (pC (.int 0)))) (ja (pF (p2 jc (pV 9) (pC (.int 1)))) pN))) (ρ:=[a0,a1,a2,a3,a4,a5,some (jv p true x),some (.int s),a8,some (eG g)]) (i:=6) (ds:=[.int s,.str g.1,.str g.2]) rfl (by simp[f,j]) rfl (λ_ _ _ _ _ _ _ _ _ _=>rfl);rw[ex,L3] at m;rw[L4,yf,lpF ?_,e,yI];show(some _).bind _=_;generalize jv p true (vR s g x)=X1,jv p true x=X at *;simp[V8,m,-vb]
theorem KQ{f:Str}{v:D}:∀{ns:List Str}{l:List D},f∉ns->ns.length=l.length->qx ns l f v=(ns++[f],l++[v])
 | [],[],_,_=>rfl
 | [],_::_,_,e=>by simp at e
 | _::_,[],_,e=>by simp at e
 | n::ns,x::l,h,e=>by rw[qx,if_neg λz=>h (by simp[z]),KQ (λz=>h (by simp[z])) (by simpa using e)];rfl
theorem vU{f:Str}{pv:PF}{r:Rh}{ns:List Str}{l:List D}{v:D}(a:pv (some (.ins true 0 ns l)::r)=some v)(h:f∉ns/\ns.length<=900:=by decide)(e:ns.length=l.length:=by rfl):qU 0 0 f pv (some (.ins true 0 ns l)::r)=some (.nx (some (.ins true 0 (ns++[f]) (l++[v]))::r)):=by
 rw[qU,a,L3];show(bif (0==0)&&decide (ns.length<=900) then some (Out.nx (some (D.ins true 0 (qx ns l f v).1 (qx ns l f v).2)::r)) else none)=_;rw[KQ h.1 e,X4 h.2];rfl
theorem jdH(h:PoolOk p){b:BkS}{c:Int}{ln:LN}(k:BkOk p b)(g:(ln.map (·.1)).Nodup)(a:ln.length<=1000) :
  yF [.ins true 0 [] [],yA false p,jU false b,.int c,.lst false (ln.map eR)]=some (.non,jv p true ⟨fnOf b.S,fnOf b.W,fnOf b.L,ln,c,[],[],[]⟩):=by
 have x:=h.marks2;obtain⟨y,z,_,A⟩:=k.len h;have d:=k.S;have e:=k.W;have f:=k.L;have i:yq [.lst false (p.marks.map e2)]=some (dct true p.P (fnOf p.marks)):=yt h.marksn (by omega);have j:yq [.lst false (b.S.map e2)]=some (dct true p.C (fnOf b.S)):=by rw[<- d];exact yt (by rw[d];exact h.toldn) (by omega)
 have l:yq [.lst false (b.W.map e2)]=some (dct true p.C (fnOf b.W)):=by rw[<- e];exact yt (by rw[e];exact h.toldn) (by omega)
 have m:yq [.lst false (b.L.map e2)]=some (dct true p.P (fnOf b.L)):=by rw[<- f];exact yt (by rw[f];exact h.marksn) (by omega)
 have n:=jfb g a;have o:=jaR ln;have q:jc (jU false b) (.int 0)=some (.lst false (b.S.map e2)):=rfl;have r:jc (jU false b) (.int 1)=some (.lst false (b.W.map e2)):=rfl;have s:jc (jU false b) (.int 3)=some (.lst false (b.L.map e2)):=rfl;have t:jc (yA false p) (.int 0)=some (.str p.nm):=rfl;have u:jc (yA false p) (.int 2)=some (.lst false (p.marks.map e2)):=rfl;unfold jv;generalize jU false b=BK,yA false p=PP at *;show _=some (D.non,D.ins true 0 NS [.str p.nm,dct true p.P (fnOf p.marks),dct true p.C (fnOf b.S),dct true p.C (fnOf b.W),dct true p.P (fnOf b.L),dLn true ln,.int c,.dK true [] [],.lst true [],.lst true []]);generalize dct true p.P (fnOf p.marks)=a1,dct true p.C (fnOf b.S)=a2,dct true p.C (fnOf b.W)=a3,dct true p.P (fnOf b.L)=a4,dLn true ln=a5 at *;have w:vB [some (.ins true 0 [] []),some PP,some BK,some (.int c),some (.lst false (ln.map eR))]=some (.nx [some (.ins true 0 NS [.str p.nm,a1,a2,a3,a4,a5,.int c,.dK true [] [],.lst true [],.lst true []]),some PP,some BK,some (.int c),some (.lst false (ln.map eR))]):=by
  unfold vB;apply sq (by exact vU (v:=.str p.nm) (by simp[t]));apply sq (by exact vU (v:=a1) (by simp[u,i]));apply sq (by exact vU (v:=a2) (by simp[q,j]));apply sq (by exact vU (v:=a3) (by simp[r,l]));apply sq (by exact vU (v:=a4) (by simp[s,m]));apply sq (by exact vU (v:=a5) (by simp[n,o,xz]));apply sq (by exact vU (v:=.int c) (by simp));apply sq (by exact vU (v:=.dK true [] []) rfl);apply sq (by exact vU (v:=.lst true []) (by simp[lim]));exact vU (v:=.lst true []) (by simp[lim])
 exact congrArg (Option.bind · (JS 0)) w
end
section
variable {p:PoolS}{x:Fl}{c:Int}
theorem Vo{a0:Option D}{o:OrdS}:∀{os:List OrdS}{o2:Option D},(os.map (·.nm)).Nodup->o∈os ->
  ∃ r,jY (jd [] 2) yg (os.map yH) [a0,some (.str o.nm),o2]=some (.rt (yH o) r)
 | [],o2,_,h=>by simp at h
 | q::os,o2,b,h=>by
  have c:jc (yH q) (.int 0)=some (.str q.nm):=rfl;have d:=vG q;rw[L4,List.nodup_cons] at b;by_cases z:q.nm=o.nm
  ·have e:q=o:=by
    rcases M4.mp h with h | h
    ·exact h.symm
    ·exact absurd (M5.mpr ⟨o,h,z.symm⟩) b.1
   refine⟨[a0,some (.str o.nm),some (yH q)],?_⟩;have a:(q.nm==o.nm)=true:=by simp[z]
   rw[L4,qd,<- e];rw[<- e] at a;generalize yH q=X at *;simp[yg,c,a,d]
  ·have a:(q.nm==o.nm)=false:=U1.mpr z;have f:o∈os:=(M4.mp h).resolve_left λy=>z (by rw[y]);obtain⟨r,e⟩:=Vo (a0:=a0) (os:=os) (o2:=some (yH q)) b.2 f;refine⟨r,?_⟩;have g:yg [a0,some (.str o.nm),some (yH q)]=some (.nx [a0,some (.str o.nm),some (yH q)]):=by
    generalize yH q=X at *;simp[yg,c,a]
   rw[L4,lpE ?_ g,e];rfl
theorem xK(l:List OrdS):fzs (l.map yH)=l.map yH:=vJ λd hd=>by obtain⟨p,_,rfl⟩:=M5.mp hd;exact vv _ (vG p)
theorem jc4(h:PoolOk p){o:OrdS}(a:o∈p.ords):vi [yA false p,.str o.nm]=some (yH o):=by
 obtain⟨r,e⟩:=Vo (a0:=some (yA false p)) (o:=o) (os:=p.ords) (o2:=none) h.ordn a;have b:jc (yA false p) (.int 4)=some (.lst false (p.ords.map yH)):=rfl;have c:=Yg p.ords;have d:=xK p.ords;generalize yA false p=PP at *;simp[vi,jZ,qV,b,c,d,e]
theorem jjg(o:Bool)(w:List Nat)(l:List (List Nat)):QR true (.str w) (dSv o l)=some (.bl (!decide (w∈l))):=by
 show some (D.bl (true != (Kk (l.map KA.str) (l.map λ_=>D.bl true) (.str w)).isSome))=_;have:(Kk (l.map KA.str) (l.map λ_=>D.bl true) (.str w)).isSome=decide (w∈l):=by
  induction l with
  | nil=>rfl
  | cons a l b =>
   rw[L4,L4,Kk];by_cases e:a=w
   ·rw[if_pos (by rw[e])];simp[e]
   ·rw[if_neg λz=>e (by cases z;rfl),b];simp[Ne.symm e]
 rw[this];cases decide (w∈l)<;>rfl
theorem YH{NC:List (List Nat)}{S:List W2}(d:NC.length<=1000){a1:Option D}{X:D}{sv:List (List Nat)}(b:Kw 0 "served" X=some (dSv false (nub sv))):∀{R:List W2}{acc:List W2}{o4 o5 o6:Option D},(∀ q∈R,q.1∈NC)->acc.length+R.length<=1000 ->
  ∃ o4' o5' o6':Option D,jY (gT 2 (gC (jd [] 4) (gC (jd [] 5) gN))) jy (R.map e2) [some X,a1,some (dct true NC (fnOf S)),some (.lst true (acc.map e2)),o4,o5,o6]=some (.nx [some X,a1,some (dct true NC (fnOf S)),some (.lst true ((acc++qC S sv R).map e2)),o4',o5',o6'])
 | [],acc,o4,o5,o6,_,_=>⟨o4,o5,o6,by simp[qC]⟩
 | q::R,acc,o4,o5,o6,k,m=>by
  rw[M0] at m;have c:=jjg false q.1 (nub sv);rw[show decide (q.1∈nub sv)=decide (q.1∈sv) from decide_eq_decide.mpr jeI] at c;have g:=kB (o:=true) (f:=fnOf S) (k q (by simp));have h:∃ o6':Option D,jy [some X,a1,some (dct true NC (fnOf S)),some (.lst true (acc.map e2)),some (.str q.1),some (.int q.2),o6]=some (.nx [some X,a1,some (dct true NC (fnOf S)),some (.lst true ((acc++[(q.1,if 0 < fnOf S q.1/\q.1∉sv then q.2+1 else 0)]).map e2)),some (.str q.1),some (.int q.2),o6']):=by
   generalize dct true NC (fnOf S)=DD,dSv false (nub sv)=SS at *;by_cases i:0 < fnOf S q.1
   ·by_cases l:q.1∈sv
    ·exact⟨some (.bl false),by simp(disch:=first | omega | (simp;done) | (simp;omega)) [jy,g,b,c,i,l,jb,e2]⟩
    ·exact⟨some (.bl true),by simp(disch:=first | omega | (simp;done) | (simp;omega)) [jy,g,b,c,i,l,jb,e2]⟩
   ·exact⟨some (.bl false),by simp(disch:=first | omega | (simp;done) | (simp;omega)) [jy,g,b,c,i,jb,e2]⟩
  obtain⟨o6',j⟩:=h;obtain⟨o4',o5',a,e⟩:=YH d b (a1:=a1) (S:=S) (R:=R) (acc:=acc++[(q.1,if 0 < fnOf S q.1/\q.1∉sv then q.2+1 else 0)]) (o4:=some (.str q.1)) (o5:=some (.int q.2)) (o6:=o6') (λr n=>k r (by simp[n])) (by simp;omega);refine⟨o4',o5',a,?_⟩;rw[L4,lpE ?_ j,e]
  ·rw[List.append_assoc];rfl
  ·rfl
theorem JB{o:Bool}{M:List (List Nat)}{f:List Nat->Int}{po:PF}{ρ:Rh}(h:po ρ=some (dct o M f)):vw po ρ=some (.lst true ((sz' M f).map e2)):=by
 unfold vw;rw[h];show(bif frzs (M.map λn=>D.int (f n)) then some (D.lst true (((M.map KA.str).zip (M.map λn=>D.int (f n))).map λp=>D.tup [kaD p.1,p.2])) else none)=_;rw[jcE,jbn];simp[sz',e2]
theorem jcQ(h:PoolOk p){b:BkS}(k:BkOk p b):jD [jv p false x,jU false b]=some (jU true (jo p b x)):=by
 have v:=h.told2;obtain⟨w,y,A,B⟩:=k.len h;have a:=k.S;have c:=k.R;have d:yq [.lst false (b.S.map e2)]=some (dct true p.C (fnOf b.S)):=by rw[<- a];exact yt (by rw[a];exact h.toldn) (by omega)
 obtain⟨f,g,i,e⟩:=YH (NC:=p.C) (S:=b.S) (X:=jv p false x) (sv:=x.sv) (by rw[L0];omega) ji7 (a1:=some (jU false b)) (R:=b.R) (acc:=[]) (o4:=none) (o5:=none) (o6:=none) (λq j=>by rw[<- c];exact M5.mpr ⟨q,j,rfl⟩) (by simp;omega);rw[List.nil_append,List.map_nil] at e;have l:jc (jU false b) (.int 0)=some (.lst false (b.S.map e2)):=rfl;have m:jc (jU false b) (.int 2)=some (.lst false (b.R.map e2)):=rfl;have n:jc (jU false b) (.int 4)=some (.int b.z):=rfl;have s:∀ r:Rh,vw (Y5 0 "sizes" (pV 0)) (some (jv p false x)::r)=some (.lst true ((sz' p.C x.sz).map e2)):=λr=>JB (o:=false) rfl;have t:∀ r:Rh,vw (Y5 0 "owed" (pV 0)) (some (jv p false x)::r)=some (.lst true ((sz' p.C x.ow).map e2)):=λr=>JB (o:=false) rfl;have u:∀ r:Rh,vw (Y5 0 "levels" (pV 0)) (some (jv p false x)::r)=some (.lst true ((sz' p.P x.lv).map e2)):=λr=>JB (o:=false) rfl;show _=some (D.tup [.lst true ((sz' p.C x.sz).map e2),.lst true ((sz' p.C x.ow).map e2),.lst true ((qC b.S x.sv b.R).map e2),.lst true ((sz' p.P x.lv).map e2),.int b.z]);generalize jU false b=BK,jv p false x=X,dct true p.C (fnOf b.S)=DD at *;generalize(qC b.S x.sv b.R).map e2=RR at *;simp(disch:=first | omega | (simp;done) | (simp;omega)) [jD,jZ,vN,l,m,n,d,ji,yK,e,s,t,u,jb,-vw]
theorem jgA{x:Fl}{i:Nat}{pe:PF}{ρ:Rh}{r:D}(a:pV i ρ=some (jv p true x))(b:pe ρ=some r):jgl i 0 "entries" "moves" pe ρ=some (.tup [.lst true (x.en.map e5),r,.lst true (x.mv.map eM)],ρ.set i none):=by
 rw[jgl,a,L3];have c:K3 (jv p true x)=some (0,NS,[.str p.nm,dct true p.P (fnOf p.marks),dct true p.C x.sz,dct true p.C x.ow,dct true p.P x.lv,dLn true (reN p.nm x.ln x.mv),.int x.cash,dSv true (nub x.sv),.lst true (x.en.map e5),.lst true (x.mv.map eM)]):=rfl;rw[c,L3];dsimp only;rw[jlp,jln,b];rfl
theorem V9(p:PoolS):frz (yA false p)=true:=by
 have a:=qG p.told;have b:=ji p.marks;have c:=YD p.grds;have d:=Yg p.ords;have e:=yi p.eats;simp[yA,frz,frzs,a,b,c,d,e]
theorem kZ:∀(k:Nat) (Q:List W2) (A:List Int) (x:Fl),(jw k Q A x).mv=x.mv
 | _,[],_,x=>rfl
 | _,_::_,[],x=>rfl
 | k,q::Q,a::A,x=>by rw[jw,kZ];rfl
theorem kK:∀(k:Nat) (Q:List W2) (A:List Int) (x:Fl),(jw k Q A x).ln=x.ln
 | _,[],_,x=>rfl
 | _,_::_,[],x=>rfl
 | k,q::Q,a::A,x=>by rw[jw,kK];rfl
theorem twiceF_mv(Q:List W2)(c:Int)(x:Fl):(twiceF Q c x).mv=x.mv:=by unfold twiceF;split<;>rfl
theorem twiceF_ln(Q:List W2)(c:Int)(x:Fl):(twiceF Q c x).ln=x.ln:=by unfold twiceF;split<;>rfl
theorem YL:∀(k:Nat) (Q:List W2) (A:List Int) (x:Fl),(jw k Q A x).sv=x.sv
 | _,[],_,x=>rfl
 | _,_::_,[],x=>rfl
 | k,q::Q,a::A,x=>by rw[jw,YL];rfl
theorem twiceF_sv(Q:List W2)(c:Int)(x:Fl):(twiceF Q c x).sv=x.sv:=by unfold twiceF;split<;>rfl
theorem jdZ(h:PoolOk p){o:OrdS}(B:o∈p.ords){b:BkS}(k:BkOk p b){ln:LN}(K:(ln.map (·.1)).Nodup)(n:ln.length<=50)(r:0<=c)(hc:c<=10 ^ 20) :
  K2 [yA false p,.str o.nm,jU false b,.int c,.lst false (ln.map eR)]=some (.tup [.lst true ((Ju p o b c ln).en.map e5),jU true (jo p b (Ju p o b c ln)),.lst true ((Ju p o b c ln).mv.map eM)]):=by
 have en:=jc4 h B;have g:=h.ords o B;have C:=jdH h k (c:=c) K (by omega);have D:=jbB (p:=p) (x:=yb b c ln) (Q:=o.parts) r (by show c<=2 ^ 900;omega) (λq E=>⟨(g.parts q E).2.1,(g.parts q E).2.2⟩) g.parts2 (U4 _);have l1:(yb b c ln).en.length=0:=rfl;have M:(yb b c ln).cash=c:=rfl;rw[M] at D;have l2:=v7 0 o.parts (je o.parts c).1 (yb b c ln);have l3:=twiceF_en o.parts c (jw 0 o.parts (je o.parts c).1 (yb b c ln));have pl:=g.parts2;have gl:=h.grds2;have N:(⟨fnOf b.S,fnOf b.W,fnOf b.L,ln,c,[],[],[]⟩:Fl)=yb b c ln:=rfl;rw[N] at C;unfold Ju;generalize a:twiceF o.parts c (jw 0 o.parts (je o.parts c).1 (yb b c ln))=x1 at *;have O:x1.sv.length=0:=by rw[<- a,twiceF_sv,YL];rfl
 have hR:=g.rules2;have P:x1.mv.length=0:=by rw[<- a,twiceF_mv,kZ];rfl
 have t:x1.ln.length<=50:=by rw[<- a,twiceF_ln,kK];exact n
 obtain⟨u,l,v⟩:=Vx h (a0:=some (yA false p)) (a1:=some (.str o.nm)) (a2:=some (jU false b)) (a3:=some (.int c)) (a4:=some (.lst false (ln.map eR))) (a5:=some (yH o)) (a9:=none) (R:=o.rules) (s:=(o.parts.length:Int)) (x:=x1) (o7:=none) (o8:=none) g.rules (by omega) (by omega) (by omega) t;have l4:=(kU p (o.parts.length:Int) o.rules x1).1;clear a;generalize qB p (o.parts.length:Int) o.rules x1=x2,yb b c ln=x0 at *;obtain⟨F,H,w⟩:=Ym h (a0:=some (yA false p)) (a1:=some (.str o.nm)) (a2:=some (jU false b)) (a3:=some (.int c)) (a4:=some (.lst false (ln.map eR))) (a5:=some (yH o)) (a8:=l) (G:=p.grds) (s:=0) (x:=x2) (o7:=u) (o9:=none) h.grds (by omega);generalize yI 0 p.grds x2=x3 at *;have T:=jcQ (x:=x3) h k;have I:jc (yH o) (.int 1)=some (.lst false (o.parts.map e2)):=rfl;have U:jc (yH o) (.int 2)=some (.lst false (o.rules.map eRu)):=rfl;have V:jc (yA false p) (.int 6)=some (.lst false (p.grds.map eG)):=rfl;have d:=V9 p;have X:=vv _ d;have Y:=vG o;have e:=JY b;have y:=vv _ e;have J:=J3 (p:=p) (x:=x0) (m:=jJ) (mn:="take_parts") (pa:=ja (pF (p2 jc (pV 5) (pC (.int 1)))) pN) (ρ:=[some (yA false p),some (.str o.nm),some (jU false b),some (.int c),some (.lst false (ln.map eR)),some (yH o),some (jv p true x0),none,none,none]) (i:=6) (ds:=[.lst false (o.parts.map e2)]) rfl (by simp[I,ji]) (by simp[ji]) (λ_ _ _ _ _ _ _ _ _ _=>rfl);rw[D,L3] at J;have z:=J0 o.rules;have A:=zg o.rules;have j:∀ ρ:Rh,ja (pF (p2 jc (pV 5) (pC (.int 2)))) pN ρ=some [.lst false (o.rules.map eRu)]->pCB qy (ja (p2 jc (pV 5) (pC (.int 1))) pN) ρ=some (.int (o.parts.length:Int))->jhd (ja (pF (p2 jc (pV 5) (pC (.int 2)))) pN) (pCB qy (ja (p2 jc (pV 5) (pC (.int 1))) pN)) ρ=some (JT (o.parts.length:Int) (o.rules.map eRu)):=by
  intro ρ Z q2;unfold jhd;rw[Z,q2];show(bif Vp (o.parts.length:Int) then some (JT _ (fzs (o.rules.map eRu))) else none)=_;rw[Ko (by omega) (by omega),A];rfl
 have h1:=j [some (yA false p),some (.str o.nm),some (jU false b),some (.int c),some (.lst false (ln.map eR)),some (yH o),some (jv p true x1),none,none,none] (by simp[U,z]) (by simp[I]);have mm:=jaG (p:=p) (x:=x3) (o:=true) (m:=jD) (mn:="book_behind") (po:=pV 6) (pa:=ja (pV 2) pN) (ρ:=[some (yA false p),some (.str o.nm),some (jU false b),some (.int c),some (.lst false (ln.map eR)),some (yH o),some (jv p true x3),F,l,H]) (ds:=[jU false b]) rfl (by simp) (λ_ _ _ _ _ _ _ _ _ _=>rfl) (by rw[show fzs [jU false b]=[jU false b] by rw[fzs,y];rfl];exact T) (JF _);have m3:=jgA (p:=p) (x:=x3) (i:=6) (pe:=JH jD 0 "book_behind" (pV 6) (ja (pV 2) pN)) (ρ:=[some (yA false p),some (.str o.nm),some (jU false b),some (.int c),some (.lst false (ln.map eR)),some (yH o),some (jv p true x3),F,l,H]) rfl mm;have f:wJ yF 0 (ja (pF (pV 0)) (ja (pF (pV 2)) (ja (pF (pV 3)) (ja (pF (pV 4)) pN)))) [some (yA false p),some (.str o.nm),some (jU false b),some (.int c),some (.lst false (ln.map eR)),some (yH o),none,none,none,none]=some (jv p true x0):=by
  rw[wJ];have:ja (pF (pV 0)) (ja (pF (pV 2)) (ja (pF (pV 3)) (ja (pF (pV 4)) pN))) [some (yA false p),some (.str o.nm),some (jU false b),some (.int c),some (.lst false (ln.map eR)),some (yH o),none,none,none,none]=some [yA false p,jU false b,.int c,.lst false (ln.map eR)]:=by simp[d,e,qJ]
  rw[this,L3,C];simp[d,e,qJ]
 generalize jU true (jo p b x3)=BR,jU false b=BK,jv p true x3=X3,jv p true x2=X2,jv p true x1=X1,jv p true x0=X0,yA false p=PP,yH o=OO at *;simp[K2,jZ,jdB,en,X,d,Y,f,J,h1,v,V,YD,xI,w,m3,-vb,-wJ,-jgl,-JH]
end
noncomputable abbrev TN:List KA:=[.str [99,97,115,104],.str [115,105,122,101,115],.str [111,119,101,100],.str [108,101,118,101,108,115],.str [108,111,97,110,115],.str [109,97,114,107,115],.str [114,111,119,115],.str [109,111,118,101,115],.str [115,101,114,118,101,100]]
abbrev T9(o:Bool)(a0 a1 a2 a3 a4 a5 a6 a7 a8:D):D:=.dK o TN [a0,a1,a2,a3,a4,a5,a6,a7,a8]
section
variable {o:Bool}{a0 a1 a2 a3 a4 a5 a6 a7 a8 d:D}{ρ:Rh}{i:Nat}
theorem k0:jO (T9 o a0 a1 a2 a3 a4 a5 a6 a7 a8) (.str [99,97,115,104])=some a0:=rfl
theorem y2:Jm [111,119,101,100] jK (T9 true a0 a1 a2 a3 a4 a5 a6 a7 a8)=some (a2,λz=>T9 true a0 a1 z a3 a4 a5 a6 a7 a8):=rfl
theorem y3:Jm [108,101,118,101,108,115] jK (T9 true a0 a1 a2 a3 a4 a5 a6 a7 a8)=some (a3,λz=>T9 true a0 a1 a2 z a4 a5 a6 a7 a8):=rfl
theorem y6:Jm [114,111,119,115] jK (T9 true a0 a1 a2 a3 a4 a5 a6 a7 a8)=some (a6,λz=>T9 true a0 a1 a2 a3 a4 a5 z a7 a8):=rfl
theorem y8:Jm [115,101,114,118,101,100] jK (T9 true a0 a1 a2 a3 a4 a5 a6 a7 a8)=some (a8,λz=>T9 true a0 a1 a2 a3 a4 a5 a6 a7 z):=rfl
theorem jgG{pv:PF}{l:List D}(a:pV i ρ=some (T9 true a0 a1 a2 a3 a4 a5 a6 a7 (.lst true l)))(b:pv ρ=some d)(c:l.length<=1000) :
  jQ i (Jm [115,101,114,118,101,100] jK) pv ρ=some (.nx (ρ.set i (some (T9 true a0 a1 a2 a3 a4 a5 a6 a7 (.lst true (l++[d])))))):=by
 rw[jQ,b,L3,a,L3,y8,L3,kg,L3,jb (by omega)];rfl
theorem y7:Jm [109,111,118,101,115] jK (T9 true a0 a1 a2 a3 a4 a5 a6 a7 a8)=some (a7,λz=>T9 true a0 a1 a2 a3 a4 a5 a6 z a8):=rfl
theorem jgQ{pv:PF}{l:List D}(a:pV i ρ=some (T9 true a0 a1 a2 a3 a4 a5 a6 (.lst true l) a8))(b:pv ρ=some d)(c:l.length<=1000) :
  jQ i (Jm [109,111,118,101,115] jK) pv ρ=some (.nx (ρ.set i (some (T9 true a0 a1 a2 a3 a4 a5 a6 (.lst true (l++[d])) a8)))):=by
 rw[jQ,b,L3,a,L3,y7,L3,kg,L3,jb (by omega)];rfl
theorem xf{pv:PF}(a:pV i ρ=some (T9 true a0 a1 a2 a3 a4 a5 a6 a7 a8))(b:pv ρ=some d)(c:frz d=true) :
  ya i jK (pC (.str [99,97,115,104])) pv ρ=some (.nx (ρ.set i (some (T9 true d a1 a2 a3 a4 a5 a6 a7 a8)))):=by
 rw[ya,b,L3,a];show(bif lim 9&&(frz d||false) then _ else none)=_;rw[c];rfl
theorem Yp{ks:List KA}{l:List D}{pv:PF}{k:List Nat}(b:pV i ρ=some (.dK true ks l))(c:pv ρ=some d)(a:KA.str k∉ks)(f:lim ks.length=true) :
  ya i jK (pC (.str k)) pv ρ=some (.nx (ρ.set i (some (.dK true (ks++[.str k]) (l++[d]))))):=by
 rw[ya,c,L3,b];show(bif lim ks.length&&(frz d||!decide (KA.str k∈ks)) then some (Out.nx (ρ.set i (some (.dK true (v5 ks l (.str k) d).1 (v5 ks l (.str k) d).2)))) else none)=_;have e:v5 ks l (.str k) d=(ks++[.str k],l++[d]):=by unfold v5;rw[if_neg a]
 rw[f,X5 a,e];simp
theorem jbq{L:Ln}{pk pv:PF}{t:D}{N:List (List Nat)}{f:List Nat->Int}{a:D->D}{v:Int}{w:List Nat}(b:pV i ρ=some t)(c:L t=some (dct true N f,a))(d:pk ρ=some (.str w))(e:pv ρ=some (.int v))(g:w∈N)(h:N.length<=1000) :
  ya i L pk pv ρ=some (.nx (ρ.set i (some (a (dct true N (put f w v)))))):=by
 rw[ya,e,L3,b,L3,c,L3,jci,L3,d,L3,show vy (.str w)=some (.str w) from rfl,L3];dsimp only;rw[xj g,jb (by rw[L0];omega),show frz (.int v)=true from rfl];rfl
theorem jcw{pv:PF}{l:List D}(a:pV i ρ=some (T9 true a0 a1 a2 a3 a4 a5 (.lst true l) a7 a8))(b:pv ρ=some d)(c:l.length<=1000) :
  jQ i (Jm [114,111,119,115] jK) pv ρ=some (.nx (ρ.set i (some (T9 true a0 a1 a2 a3 a4 a5 (.lst true (l++[d])) a7 a8)))):=by
 rw[jQ,b,L3,a,L3,y6,L3,kg,L3,jb (by omega)];rfl
theorem jay{c a:Int}:yo [T9 true (.int c) a1 a2 a3 a4 a5 a6 a7 a8,.int a]=some (.int (got a c),T9 true (.int (c - got a c)) a1 a2 a3 a4 a5 a6 a7 a8):=by
 have e:zU [.int a,.int c]=some (.int (got a c)):=rfl;generalize got a c=g at *;have b:=k0 (o:=true) (a0:=.int c) (a1:=a1) (a2:=a2) (a3:=a3) (a4:=a4) (a5:=a5) (a6:=a6) (a7:=a7) (a8:=a8);have s:=xf (ρ:=[some (T9 true (.int c) a1 a2 a3 a4 a5 a6 a7 a8),some (.int a),some (.int g)]) (i:=0) (d:=.int (c - g)) (pv:=p2 vS (p2 jO (pV 0) (pC (.str [99,97,115,104]))) (pV 2)) rfl (by generalize T9 true (.int c) a1 a2 a3 a4 a5 a6 a7 a8=X at *;simp[b]) rfl;generalize T9 true (.int (c - g)) a1 a2 a3 a4 a5 a6 a7 a8=Y,T9 true (.int c) a1 a2 a3 a4 a5 a6 a7 a8=X at *;simp[yo,ku,VB,b,e,s,JS,-kC]
end
def jl(p:PoolS)(o:Bool)(x:Fl):D:=T9 o (.int x.cash) (dct o p.C x.sz) (dct o p.C x.ow) (dct o p.P x.lv) (.lst false (x.ln.map eR)) (dct o p.P (fnOf p.marks)) (.lst o (x.en.map e5)) (.lst o (x.mv.map eM)) (.lst o (x.sv.map D.str))
section
variable {p:PoolS}{x:Fl}{c:Int}{ρ:Rh}{i:Nat}
theorem jfP{pv:PF}{n:Int}(a:pV i ρ=some (jl p true x))(b:pv ρ=some (.int n)):ya i jK (pC (.str [99,97,115,104])) pv ρ=some (.nx (ρ.set i (some (jl p true { x with cash:=n })))):=xf a b rfl
theorem KI{pv:PF}{e:En}(a:pV i ρ=some (jl p true x))(b:pv ρ=some (e5 e))(c:x.en.length<=1000):jQ i (Jm [114,111,119,115] jK) pv ρ=some (.nx (ρ.set i (some (jl p true { x with en:=x.en++[e] })))):=by
 rw[jcw a b (by rw[L0];exact c),<- List.map_singleton,<- N4];rfl
theorem jkk{pk pv:PF}{w:List Nat}{v:Int}(a:pV i ρ=some (jl p true x))(b:pk ρ=some (.str w))(c:pv ρ=some (.int v))(d:w∈p.P)(e:p.P.length<=1000):ya i (Jm [108,101,118,101,108,115] jK) pk pv ρ=some (.nx (ρ.set i (some (jl p true { x with lv:=put x.lv w v })))):=jbq a y3 b c d e
theorem jhC{pk pv:PF}{w:List Nat}{v:Int}(a:pV i ρ=some (jl p true x))(b:pk ρ=some (.str w))(c:pv ρ=some (.int v))(d:w∈p.C)(e:p.C.length<=1000):ya i (Jm [111,119,101,100] jK) pk pv ρ=some (.nx (ρ.set i (some (jl p true { x with ow:=put x.ow w v })))):=jbq a y2 b c d e
theorem jkw{pv:PF}{w:List Nat}(a:pV i ρ=some (jl p true x))(b:pv ρ=some (.str w))(c:x.sv.length<=1000):jQ i (Jm [115,101,114,118,101,100] jK) pv ρ=some (.nx (ρ.set i (some (jl p true { x with sv:=x.sv++[w] })))):=by
 rw[jgG a b (by rw[L0];exact c),<- List.map_singleton,<- N4];rfl
theorem xH{a:Int}:yo [jl p true x,.int a]=some (.int (got a x.cash),jl p true { x with cash:=x.cash - got a x.cash }):=jay
theorem jkh{pv:PF}{m:MV}(a:pV i ρ=some (jl p true x))(b:pv ρ=some (eM m))(c:x.mv.length<=1000):jQ i (Jm [109,111,118,101,115] jK) pv ρ=some (.nx (ρ.set i (some (jl p true { x with mv:=x.mv++[m] })))):=by
 rw[jgQ a b (by rw[L0];exact c),<- List.map_singleton,<- N4];rfl
theorem jcO{o:Bool}:jO (jl p o x) (.str [108,111,97,110,115])=some (.lst false (x.ln.map eR)):=rfl
theorem jga{o:Bool}:jO (jl p o x) (.str [99,97,115,104])=some (.int x.cash):=rfl
theorem jjw{o:Bool}:jO (jl p o x) (.str [115,105,122,101,115])=some (dct o p.C x.sz):=rfl
theorem jeW{o:Bool}:jO (jl p o x) (.str [111,119,101,100])=some (dct o p.C x.ow):=rfl
theorem jh2{o:Bool}:jO (jl p o x) (.str [108,101,118,101,108,115])=some (dct o p.P x.lv):=rfl
theorem jf0{o:Bool}:jO (jl p o x) (.str [114,111,119,115])=some (.lst o (x.en.map e5)):=rfl
theorem jkc{o:Bool}:jO (jl p o x) (.str [109,111,118,101,115])=some (.lst o (x.mv.map eM)):=rfl
theorem jjn{o:Bool}:jO (jl p o x) (.str [115,101,114,118,101,100])=some (.lst o (x.sv.map D.str)):=rfl
theorem jap(o:Bool):fz (jl p o x)=jl p false x:=by
 unfold jl;rw[fz];simp[fzs,jdo,fz,zR,zN,xz]
theorem jdT(h:PoolOk p){b:BkS}(k:BkOk p b){ln:LN}:Jp [yA false p,jU false b,.int c,.lst false (ln.map eR)]=some (jl p true (yb b c ln)):=by
 have u:=h.marks2;obtain⟨v,w,_,x⟩:=k.len h;have a:=k.S;have e:=k.W;have f:=k.L;have g:yq [.lst false (p.marks.map e2)]=some (dct true p.P (fnOf p.marks)):=yt h.marksn (by omega);have i:yq [.lst false (b.S.map e2)]=some (dct true p.C (fnOf b.S)):=by rw[<- a];exact yt (by rw[a];exact h.toldn) (by omega)
 have j:yq [.lst false (b.W.map e2)]=some (dct true p.C (fnOf b.W)):=by rw[<- e];exact yt (by rw[e];exact h.toldn) (by omega)
 have l:yq [.lst false (b.L.map e2)]=some (dct true p.P (fnOf b.L)):=by rw[<- f];exact yt (by rw[f];exact h.marksn) (by omega)
 have m:jc (jU false b) (.int 0)=some (.lst false (b.S.map e2)):=rfl;have n:jc (jU false b) (.int 1)=some (.lst false (b.W.map e2)):=rfl;have o:jc (jU false b) (.int 3)=some (.lst false (b.L.map e2)):=rfl;have q:jc (yA false p) (.int 2)=some (.lst false (p.marks.map e2)):=rfl;have r:=qJ ln;show _=some (T9 true (.int c) (dct true p.C (fnOf b.S)) (dct true p.C (fnOf b.W)) (dct true p.P (fnOf b.L)) (.lst false (ln.map eR)) (dct true p.P (fnOf p.marks)) (.lst true []) (.lst true []) (.lst true []));generalize jU false b=BK,yA false p=PP,dct true p.P (fnOf p.marks)=a1,dct true p.C (fnOf b.S)=a2,dct true p.C (fnOf b.W)=a3,dct true p.P (fnOf b.L)=a4,ln.map eR=LL at *;have s:qr [some PP,some BK,some (.int c),some (.lst false LL),none]=some (.rt (T9 true (.int c) a2 a3 a4 (.lst false LL) a1 (.lst true []) (.lst true []) (.lst true [])) [some PP,some BK,some (.int c),some (.lst false LL),none]):=by
  unfold qr;apply sq (ρ':=[some PP,some BK,some (.int c),some (.lst false LL),some (.dK true [.str [99,97,115,104],.str [115,105,122,101,115],.str [111,119,101,100],.str [108,101,118,101,108,115]] [.int c,a2,a3,a4])]) (by
   have:jaT (QH (pC (.str [99,97,115,104])) (pF (pV 2)) (QH (pC (.str [115,105,122,101,115])) (pCB yq (ja (p2 jc (pV 1) (pC (.int 0))) pN)) (QH (pC (.str [111,119,101,100])) (pCB yq (ja (p2 jc (pV 1) (pC (.int 1))) pN)) (QH (pC (.str [108,101,118,101,108,115])) (pCB yq (ja (p2 jc (pV 1) (pC (.int 3))) pN)) prN)))) [some PP,some BK,some (.int c),some (.lst false LL),none]=some (.dK true [.str [99,97,115,104],.str [115,105,122,101,115],.str [111,119,101,100],.str [108,101,118,101,108,115]] [.int c,a2,a3,a4]):=by
    rw[Q9];have t:QH (pC (.str [99,97,115,104])) (pF (pV 2)) (QH (pC (.str [115,105,122,101,115])) (pCB yq (ja (p2 jc (pV 1) (pC (.int 0))) pN)) (QH (pC (.str [111,119,101,100])) (pCB yq (ja (p2 jc (pV 1) (pC (.int 1))) pN)) (QH (pC (.str [108,101,118,101,108,115])) (pCB yq (ja (p2 jc (pV 1) (pC (.int 3))) pN)) prN))) [some PP,some BK,some (.int c),some (.lst false LL),none]=some ([.str [99,97,115,104],.str [115,105,122,101,115],.str [111,119,101,100],.str [108,101,118,101,108,115]],[.int c,a2,a3,a4]):=by
     simp[QH,prN,vy,m,n,o,i,j,l]
    rw[t];rfl
   simp[this,-Q9])
  apply sq (by exact Yp (d:=.lst false LL) rfl (by simp[r]) (by decide) (by decide));apply sq (by exact Yp (d:=a1) rfl (by simp[q,g]) (by decide) (by decide));apply sq (by exact Yp (d:=.lst true []) rfl (by simp[lim]) (by decide) (by decide));apply sq (by exact Yp (d:=.lst true []) rfl (by simp[lim]) (by decide) (by decide));apply sq (by exact Yp (d:=.lst true []) rfl (by simp[lim]) (by decide) (by decide));rfl
 show(qr [some PP,some BK,some (.int c),some (.lst false LL),none]).bind Out.val=_;rw[s];rfl
theorem jkU:∀ Q:List W2,(Q.map λ_=>(0:Int)).sum=0
 | []=>rfl
 | q::Q=>by rw[L4,List.sum_cons,jkU Q];rfl
theorem tw_iff{Q:List W2}(d:∀ q∈Q,PtOk q)(a:0<=c):0 < (je Q c).2↔10 < (ts Q).sum/\0 < c:=by
 unfold je;by_cases h:10 < (ts Q).sum
 ·rw[if_pos h];show 0 < (ups c Q).sum - c↔_;have u:=jip (P:=Q) (c:=c);by_cases b:0 < c
  ·have:c*11<=c*(ts Q).sum:=Int.mul_le_mul_of_nonneg_left (by omega) a;exact⟨λ_=>⟨h,b⟩,λ_=>by omega⟩
  ·have e:c=0:=by omega
   subst e;have:(ups 0 Q).sum=0:=by
    unfold ups;have:(Q.map λp=>(0*p.2+9) / 10)=Q.map λ_=>(0:Int):=List.map_congr_left λp _=>by rw[Int.zero_mul];rfl
    rw[this];exact jkU Q
   rw[this];exact⟨λz=>by omega,λz=>by omega⟩
 ·rw[if_neg h];exact⟨λz=>by omega,λz=>absurd z.1 h⟩
theorem Yz{a1 a2:Option D}{B:List Int}:∀{Q:List W2}{A:List Int}{s:Nat}{x:Fl}{o4 o5:Option D},A=B.drop s->A.length=Q.length->x.en.length+Q.length<=900 ->
  ∃ o4' o5':Option D,jY (gT 2 (gC (jd [0] 4) (gC (jd [0] 5) gN))) yT (yf s (Q.map e2)) [some (jl p true x),a1,a2,some (.lst true (B.map D.int)),o4,o5]=some (.nx [some (jl p true (jw s Q A x)),a1,a2,some (.lst true (B.map D.int)),o4',o5'])
 | [],A,s,x,o4,o5,_,_,_=>⟨o4,o5,by rw[jw];rfl⟩
 | r::Q,[],s,x,o4,o5,_,f,_=>by simp at f
 | r::Q,a::A,s,x,o4,o5,b,f,i=>by
  rw[M0] at i;simp only[M0] at f;have d:s < B.length:=by
   by_cases h:s < B.length
   ·exact h
   ·rw[List.drop_eq_nil_of_le (by omega)] at b;cases b
  rw[List.drop_eq_getElem_cons d] at b;injection b with ha b;have j:jc (.lst true (B.map D.int)) (.int (s:Int))=some (.int a):=by
   rw[jbs (by omega) (by rw[L0];omega),N7,List.getElem?_map,X8 d,ha];rfl
  have k:(Jq s r a x).en.length=x.en.length+1:=by simp[Jq]
  obtain⟨o4',o5',e⟩:=Yz (a1:=a1) (a2:=a2) (B:=B) (Q:=Q) (A:=A) (s:=s+1) (x:=Jq s r a x) (o4:=some (.int s)) (o5:=some (e2 r)) b (by omega) (by omega);refine⟨o4',o5',?_⟩;have l:jc (e2 r) (.int 0)=some (.str r.1):=rfl;rw[L4,yf,lpF ?_,e,jw];show yT [some (jl p true x),a1,a2,some (.lst true (B.map D.int)),some (.int s),some (e2 r)]=_;unfold yT xn;have m:pV 0 [some (jl p true x),a1,a2,some (.lst true (B.map D.int)),some (.int s),some (e2 r)]=some (jl p true x):=rfl;rw[m,L3];unfold jl;rw[y6,L3,kg,L3,jb (by rw[L0];omega),cond_true];refine jiu λz=>?_;have n:=jay (c:=x.cash) (a:=a) (a1:=dct true p.C x.sz) (a2:=dct true p.C x.ow) (a3:=dct true p.P x.lv) (a4:=.lst false (x.ln.map eR)) (a5:=dct true p.P (fnOf p.marks)) (a6:=.tok z) (a7:=.lst true (x.mv.map eM)) (a8:=.lst true (x.sv.map D.str));have o:=y6 (a0:=.int (x.cash - got a x.cash)) (a1:=dct true p.C x.sz) (a2:=dct true p.C x.ow) (a3:=dct true p.P x.lv) (a4:=.lst false (x.ln.map eR)) (a5:=dct true p.P (fnOf p.marks)) (a6:=.tok z) (a7:=.lst true (x.mv.map eM)) (a8:=.lst true (x.sv.map D.str));have q:(Jq s r a x).en.map e5=x.en.map e5++[.tup [.int s,.str jdK,.str r.1,.int a,.int (got a x.cash)]]:=by simp[Jq,e5]
  show _=some (Out.nx [some (T9 true (.int (x.cash - got a x.cash)) (dct true p.C x.sz) (dct true p.C x.ow) (dct true p.P x.lv) (.lst false (x.ln.map eR)) (dct true p.P (fnOf p.marks)) (.lst true ((Jq s r a x).en.map e5)) (.lst true (x.mv.map eM)) (.lst true (x.sv.map D.str))),a1,a2,some (.lst true (B.map D.int)),some (.int s),some (e2 r)]);rw[q];generalize x.en.map e5=EE,B.map D.int=BB,e2 r=RR,got a x.cash=g at *;have t:jeQ (.tok z)=some z:=rfl;dsimp only;generalize u:T9 true (.int x.cash) (dct true p.C x.sz) (dct true p.C x.ow) (dct true p.P x.lv) (.lst false (x.ln.map eR)) (dct true p.P (fnOf p.marks)) (.tok z) (.lst true (x.mv.map eM)) (.lst true (x.sv.map D.str))=X at *;generalize v:T9 true (.int (x.cash - g)) (dct true p.C x.sz) (dct true p.C x.ow) (dct true p.P x.lv) (.lst false (x.ln.map eR)) (dct true p.P (fnOf p.marks)) (.tok z) (.lst true (x.mv.map eM)) (.lst true (x.sv.map D.str))=Y at *;simp(disch:=first | omega | (simp;done) | (simp;omega)) [jM,jK,j,l,n,o,t,jb]
end
section
variable {p:PoolS}{x:Fl}{c:Int}
theorem jdd(l:List W2):yO (jd [] 0) qT (pF (p2 jc (pV 0) (pC (.int 1)))) (l.map e2) [none]=some ((ts l).map D.int):=by
 unfold ts;rw[U0];refine jW (l:=l) (en:=e2) rfl (λρ=>∃ o,ρ=[o]) ?_ ⟨none,rfl⟩;rintro x a ρ ⟨o,rfl⟩;exact⟨_,rfl,rfl,_,rfl⟩
theorem jbc{Q:List W2}(b:0<=c)(C:c<=2 ^ 900)(f:∀ q∈Q,PtOk q)(g:Q.length<=10)(E:x.en.length<=100) :
  yz [jl p true x,.lst false (Q.map e2),.int c]=some (.non,jl p true (twiceF Q c (jw 0 Q (je Q c).1 x))):=by
 have h:=zj (P:=Q) (c:=c) g f b C;have F:=xa (P:=Q) (c:=c);obtain⟨v,w,e⟩:=Yz (p:=p) (a1:=some (.lst false (Q.map e2))) (a2:=some (.int c)) (B:=(je Q c).1) (Q:=Q) (A:=(je Q c).1) (s:=0) (x:=x) (o4:=none) (o5:=none) rfl F (by omega);have G:=v7 0 Q (je Q c).1 x;have j:=ji Q;have k:=yK Q;have K:=jeH f;have l:=jdd Q;have m:=kN true (ts Q);have H:=kN true (je Q c).1;have n:lim (Q.map e2).length=true:=jb (by rw[L0];omega);have o:lim (yf 0 (Q.map e2)).length=true:=jb (by rw[j8,L0];omega);have r:=vq (je Q c).1;have t:=zc (je Q c).1;have y:=tw_iff f b;by_cases d:0 < (je Q c).2
 ·have a:=y.mp d;have I:=KI (p:=p) (x:=jw 0 Q (je Q c).1 x) (ρ:=[some (jl p true (jw 0 Q (je Q c).1 x)),some (.lst false (Q.map e2)),some (.int c),some (.lst true ((je Q c).1.map D.int)),v,w]) (i:=0) (pv:=yU (ja (p1 zw (pC (.int 1))) (ja (pC (.str [116,119,105,99,101])) (ja (pC (.str [])) (ja (pCB Kn (ja (pV 3) pN)) (ja (pF (pV 2)) pN)))))) (e:=⟨-1,Kq,[],(je Q c).1.sum,c⟩) rfl (by simp[jb,e5]) (by omega);rw[twiceF,if_pos d];generalize jl p true { jw 0 Q (je Q c).1 x with en:=(jw 0 Q (je Q c).1 x).en++[⟨-1,Kq,[],(je Q c).1.sum,c⟩] }=X2,jl p true (jw 0 Q (je Q c).1 x)=X1,jl p true x=X at *;generalize(je Q c).1.map D.int=AA at *;generalize(ts Q).map D.int=TT at *;generalize Q.map e2=QQ at *;simp[yz,ku,vM,h,j,k,e,l,m,a.1,a.2,I,n,o,r,t,jL,List.getElem?_cons_zero,Option.join,JS,-jQ,-kj]
 ·have a:=λz=>d (y.mpr z);rw[twiceF,if_neg d];generalize jl p true (jw 0 Q (je Q c).1 x)=X1,jl p true x=X at *;generalize(je Q c).1.map D.int=AA at *;generalize(ts Q).map D.int=TT at *;generalize Q.map e2=QQ at *;by_cases u:10 < (ts Q).sum
  ·have J:¬ 0 < c:=λz=>a ⟨u,z⟩;simp[yz,ku,vM,h,j,k,e,l,m,u,J,n,o,r,t,jL,List.getElem?_cons_zero,Option.join,JS,-jQ,-kj]
  ·simp[yz,ku,vM,h,j,k,e,l,m,u,n,o,r,t,jL,List.getElem?_cons_zero,Option.join,JS,-jQ,-kj]
theorem jda{pl:Int}{w:List Nat}(a:x.en.length<=1000):qt [jl p true x,.int pl,.str w]=some (.non,jl p true (wG pl w x)):=by
 have b:=jga (p:=p) (x:=x) (o:=true);have e:Jo [some (jl p true x),some (.int pl),some (.str w),none]=some (.nx [some (jl p true (wG pl w x)),some (.int pl),some (.str w),some (.int x.cash)]):=by
  apply sq (ρ':=[some (jl p true x),some (.int pl),some (.str w),some (.int x.cash)]) (by generalize jl p true x=X at *;simp[b]);apply sq (by exact jfP (x:=x) (n:=0) rfl rfl);exact KI (x:={ x with cash:=0 }) (e:=⟨pl,vD,w,x.cash,x.cash⟩) rfl (by simp[jb,e5]) a
 show(Jo [some (jl p true x),some (.int pl),some (.str w),none]).bind (JS 0)=_;rw[e];rfl
theorem jfu{pl:Int}{w:List Nat}(j:w∈p.C)(q:p.C.length<=1000)(d:x.en.length<=1000)(h:x.sv.length<=1000):qX [jl p true x,.int pl,.str w]=some (.non,jl p true (jbN pl w x)):=by
 have r:=jeW (p:=p) (x:=x) (o:=true);have s:=kB (o:=true) (f:=x.ow) j;have t:=xH (p:=p) (x:=x) (a:=x.ow w);unfold jbN;generalize got (x.ow w) x.cash=g at *;generalize u:x.ow w=nd at *
 let c:Fl:={ x with cash:=x.cash - g }
 let k:Fl:={ c with ow:=put x.ow w (nd - g) }
 let l:Fl:={ k with en:=x.en++[⟨pl,Vc,w,nd,g⟩] }
 have b:∀ y:Fl,y.sv.length<=1000->(sIf (dPT (QY (jh (p2 vk (pV 4) (pV 3))) (jh (p2 Qs (pV 3) (pC (.int 0)))))) (jQ 0 (Jm [115,101,114,118,101,100] jK) (pF (pV 2))) jF) [some (jl p true (y)),some (.int pl),some (.str w),some (.int nd),some (.int g)]=some (.nx [some (jl p true (srv true g nd w y)),some (.int pl),some (.str w),some (.int nd),some (.int g)]):=λy z=>by
  have sv:=jkw (p:=p) (x:=y) (ρ:=[some (jl p true (y)),some (.int pl),some (.str w),some (.int nd),some (.int g)]) (i:=0) (pv:=pF (pV 2)) (w:=w) rfl (by simp) z;unfold srv;have A:jl p true (if true=true/\g=nd/\0 < nd then{ y with sv:=y.sv++[w] } else y)=if true=true/\g=nd/\0 < nd then jl p true { y with sv:=y.sv++[w] } else jl p true y:=by split<;>rfl
  rw[A];generalize jl p true { y with sv:=y.sv++[w] }=Y2,jl p true y=Y at *;by_cases m:g=nd
  ·subst m;by_cases n:0 < g
   ·simp[sv,n,-jQ]
   ·simp[n,-jQ]
  ·simp[m,-jQ]
 have e:Yu [some (jl p true x),some (.int pl),some (.str w),none,none]=some (.nx [some (jl p true (srv true g nd w l)),some (.int pl),some (.str w),some (.int nd),some (.int g)]):=by
  apply sq (ρ':=[some (jl p true x),some (.int pl),some (.str w),some (.int nd),none]) (by generalize jl p true x=X at *;generalize dct true p.C x.ow=D1 at *;simp[r,s]);apply sq (ρ':=[some (jl p true c),some (.int pl),some (.str w),some (.int nd),some (.int g)]) (by show(jM yo 0 jK (ja (pF (pV 3)) pN) [some (jl p true x),some (.int pl),some (.str w),some (.int nd),none]).bind _=_;generalize jl p true x=X at *;generalize jl p true c=X1 at *;simp[jM,jK,t]);apply sq (by exact jhC (x:=c) (v:=nd - g) rfl rfl (by simp) j q);apply sq (by exact KI (x:=k) (e:=⟨pl,Vc,w,nd,g⟩) rfl (by simp[jb,e5]) d);exact b l h
 show(Yu [some (jl p true x),some (.int pl),some (.str w),none,none]).bind (JS 0)=_;rw[e];rfl
noncomputable def jcq(l:LN)(k:EN):Int:=((l.filter λr=>decide (r.1=k)).map (·.2)).sum
theorem KJ{k:EN}:∀{l:LN},k∉l.map (·.1)->jcq l k=0
 | [],_=>rfl
 | r::l,h=>by
  rw[L4,M4,not_or] at h;unfold jcq;rw[List.filter_cons,if_neg (by simp;exact Ne.symm h.1)];exact KJ h.2
theorem VF{k:EN}:∀{l:LN},(l.map (·.1)).Nodup->jcq l k=(vd l k).getD 0
 | [],_=>rfl
 | r::l,h=>by
  rw[L4,List.nodup_cons] at h;rw[vd];unfold jcq;rw[List.filter_cons];by_cases e:r.1=k
  ·rw[if_pos (by simp[e]),if_pos e,L4,List.sum_cons];have:=KJ (k:=k) (l:=l) (e▸h.1);unfold jcq at this;rw[this];simp
  ·rw[if_neg (by simp[e]),if_neg e];exact VF h.2
theorem K1{k k':EN}{v:Int}:∀{l:LN},vd (jbu l k v) k'=if k=k'/\k∈l.map (·.1) then some v else vd l k'
 | []=>by simp[jbu,vd]
 | r::l=>by
  have b:=K1 (k:=k) (k':=k') (v:=v) (l:=l);show vd ((r.1,if r.1=k then v else r.2)::jbu l k v) k'=_;rw[vd,vd,b];by_cases e:r.1=k'
  ·by_cases q:k=k'
   ·subst q;simp[e]
   ·have n:¬ r.1=k:=λz=>q (z.symm.trans e);have c:¬ k'=k:=λz=>q z.symm;simp[e,q,c]
  ·by_cases q:k=k'
   ·subst q;rw[if_neg e,if_neg e];by_cases a:k∈l.map (·.1)
    ·rw[if_pos ⟨rfl,a⟩,if_pos ⟨rfl,L5 _ a⟩]
    ·rw[if_neg λz=>a z.2,if_neg λz=>(M4.mp z.2).elim (λy=>e y.symm) a]
   ·simp[e,q]
theorem zL{k k':EN}{v:Int}:∀{l:LN},k∉l.map (·.1)->vd (l++[(k,v)]) k'=if k=k' then some v else vd l k'
 | [],_=>by simp[vd]
 | r::l,h=>by
  rw[L4,M4,not_or] at h;rw[List.cons_append,vd,vd,zL h.2];by_cases e:r.1=k'
  ·rw[if_pos e,if_pos e,if_neg λz=>h.1 (z.trans e.symm)]
  ·rw[if_neg e,if_neg e]
theorem Jb(l:LN)(k k':EN)(v:Int):(vd (Qp l k v) k').getD 0=if k=k' then v else(vd l k').getD 0:=by
 unfold Qp;by_cases h:k∈l.map (·.1)
 ·rw[if_pos h,K1];by_cases q:k=k'
  ·rw[if_pos ⟨q,h⟩,if_pos q];rfl
  ·rw[if_neg λz=>q z.1,if_neg q]
 ·rw[if_neg h,zL h];split<;>rfl
def mvD(kd w:List Nat)(m:MV):Int:=if m.1=kd/\m.2.1=w then(if m.1=y9 then m.2.2 else 0 - m.2.2) else 0
def mvS(kd w:List Nat):List MV->Int->Int
 | [],n=>n
 | m::ms,n=>mvS kd w ms (n+mvD kd w m)
def ji4(nm:List Nat)(ms:List MV):Prop:=∀ m∈ms,(m.1=y9 \/ m.1=yQ)/\m.2.1≠nm
theorem xu{nm w:List Nat}:∀{ms:List MV}{l:LN}{n:Int},ji4 nm ms->n=(vd l (nm,w)).getD 0->mvS y9 w ms n=(vd (reN nm l ms) (nm,w)).getD 0
 | [],l,n,_,h=>h
 | m::ms,l,n,b,h=>by
  have c:=b m (by simp);rw[mvS];show _=(vd (reN nm (mvF nm l m) ms) (nm,w)).getD 0;refine xu (λq d=>b q (by simp[d])) ?_;rcases c.1 with e | e
  ·have a:mvF nm l m=Qp l (nm,m.2.1) ((vd l (nm,m.2.1)).getD 0+m.2.2):=if_pos e;rw[a,Jb];unfold mvD;by_cases q:m.2.1=w
   ·rw[if_pos ⟨e,q⟩,if_pos e,if_pos (by rw[q]),h,q]
   ·rw[if_neg λz=>q z.2,if_neg λz=>q (by injection z),h,Int.add_zero]
  ·have ne:¬ m.1=y9:=by rw[e];decide
   have a:mvF nm l m=Qp l (m.2.1,nm) ((vd l (m.2.1,nm)).getD 0 - m.2.2):=if_neg ne;rw[a,Jb];unfold mvD;rw[if_neg λz=>ne z.1,if_neg λz=>c.2 (by injection z),h,Int.add_zero]
theorem xb{nm w:List Nat}(b:w≠nm):∀{ms:List MV}{l:LN}{n:Int},ji4 nm ms->n=(vd l (w,nm)).getD 0->mvS yQ w ms n=(vd (reN nm l ms) (w,nm)).getD 0
 | [],l,n,_,h=>h
 | m::ms,l,n,c,h=>by
  have d:=c m (by simp);rw[mvS];show _=(vd (reN nm (mvF nm l m) ms) (w,nm)).getD 0;refine xb b (λq f=>c q (by simp[f])) ?_;rcases d.1 with e | e
  ·have ne:¬ m.1=yQ:=by rw[e];decide
   have a:mvF nm l m=Qp l (nm,m.2.1) ((vd l (nm,m.2.1)).getD 0+m.2.2):=if_pos e;rw[a,Jb];unfold mvD;rw[if_neg λz=>ne z.1,if_neg λz=>b (by injection z with z1 z2;exact z1.symm),h,Int.add_zero]
  ·have ne:¬ m.1=y9:=by rw[e];decide
   have a:mvF nm l m=Qp l (m.2.1,nm) ((vd l (m.2.1,nm)).getD 0 - m.2.2):=if_neg ne;rw[a,Jb];unfold mvD;by_cases q:m.2.1=w
   ·rw[if_pos ⟨e,q⟩,if_neg ne,if_pos (by rw[q]),h,q];omega
   ·rw[if_neg λz=>q z.2,if_neg λz=>q (by injection z),h,Int.add_zero]
theorem jeM{a b c d:List Nat}(h1:Wd a)(h2:Wd b)(e:Wd c)(f:Wd d):vk (.tup [.str a,.str b]) (.tup [.str c,.str d])=some (.bl (decide ((a,b)=(c,d)))):=by
 rw[jdU (by simp[kx,qK h1.2,qK h2.2]) (by simp[kx,qK e.2,qK f.2])];congr 2;show(a==c&&(b==d&&true))=_;by_cases g:a=c<;>by_cases h:b=d<;>simp[g,h]
theorem ub{l:LN}{k:EN}(d:∀ r∈l,Wd r.1.1/\Wd r.1.2)(h1:Wd k.1)(h2:Wd k.2):yO (gT 3 (gC (jd [] 0) (gC (jd [] 1) (gC (jd [] 2) gN)))) (jh (p2 vk (yU (ja (pF (pV 0)) (ja (pF (pV 1)) pN))) (pV 3))) (pF (pV 2)) (l.map eR) [none,none,none,some (.tup [.str k.1,.str k.2])]=some (((l.filter λr=>decide (r.1=k)).map (·.2)).map D.int):=by
 rw[U0];refine Vr (l:=l) (en:=eR) (out:=λr=>.int r.2) (λρ=>∃ a b c,ρ=[a,b,c,some (.tup [.str k.1,.str k.2])]) ?_ ⟨none,none,none,rfl⟩;rintro r f ρ ⟨a,b,c,rfl⟩;have w:=d r f;have e:=jeM w.1 w.2 h1 h2;refine⟨[some (.str r.1.1),some (.str r.1.2),some (.int r.2),some (.tup [.str k.1,.str k.2])],rfl,?_,rfl,_,_,_,rfl⟩;show _=some (decide ((r.1.1,r.1.2)=(k.1,k.2)));generalize D.tup [.str k.1,.str k.2]=KK at *;simp[e,jb]
theorem jaw{a1 a2 a4 a9 a10:Option D}{c:D}{kd w:List Nat}(d:jc c (.int 0)=some (.str kd))(f:jc c (.int 1)=some (.str w)):∀{ms:List MV}{n:Int}{o6 o7 o8:Option D},∃ o6' o7' o8':Option D,jY (gT 3 (gC (jd [0,0] 6) (gC (jd [0,0] 7) (gC (jd [0,0] 8) gN)))) yh (ms.map eM) [none,a1,a2,some c,a4,some (.int n),o6,o7,o8,a9,a10]=some (.nx [none,a1,a2,some c,a4,some (.int (mvS kd w ms n)),o6',o7',o8',a9,a10])
 | [],n,o6,o7,o8=>⟨o6,o7,o8,rfl⟩
 | m::ms,n,o6,o7,o8=>by
  obtain⟨o6',o7',o8',e⟩:=jaw (a1:=a1) (a2:=a2) (a4:=a4) (a9:=a9) (a10:=a10) d f (ms:=ms) (n:=n+mvD kd w m) (o6:=some (.str m.1)) (o7:=some (.str m.2.1)) (o8:=some (.int m.2.2));refine⟨o6',o7',o8',?_⟩;have l:yh [none,a1,a2,some c,a4,some (.int n),some (.str m.1),some (.str m.2.1),some (.int m.2.2),a9,a10]=some (.nx [none,a1,a2,some c,a4,some (.int (n+mvD kd w m)),some (.str m.1),some (.str m.2.1),some (.int m.2.2),a9,a10]):=by
   unfold mvD;by_cases a:m.1=kd
   ·by_cases g:m.2.1=w
    ·rw[if_pos ⟨a,g⟩];by_cases i:m.1=y9
     ·have b:kd=y9:=a.symm.trans i;simp[yh,d,f,a,g,b]
     ·have b:(kd==[108,101,110,100])=false:=U1.mpr λz=>i (a.trans z);have h:¬ kd=y9:=λz=>i (a.trans z);simp[yh,d,f,a,g,b,h]
    ·rw[if_neg λz=>g z.2];have j:(m.2.1==w)=false:=U1.mpr g;simp[yh,d,f,a,j]
   ·rw[if_neg λz=>a z.1];have k:(m.1==kd)=false:=U1.mpr a;simp[yh,d,f,k]
  rw[L4,lpE ?_ l,e,mvS];rfl
theorem jeb{g:D->Rh->Option Rh}{f:FS}{r:Rh}:jce 0 [109,111,118,101,115] g f (some (jl p true x)::r)=(jY g f (x.mv.map eM) (none::r)).bind λo=>(jkI o).bind λρ'=>some (.nx (ρ'.set 0 (some (jl p true x)))):=by
 show(bif frzs (x.mv.map eM) then _ else none)=_;rw[VT];rfl
theorem zW{b:D}{kd w:List Nat}{k:EN}{now nd pl:Int}(l:jc b (.int 0)=some (.str kd))(u:jc b (.int 1)=some (.str w))(fr:frz b=true)(s:(kd=yQ/\k=(w,p.nm)/\nd=now) \/ (kd=y9/\k=(p.nm,w)/\∃ j,jc b (.int 2)=some (.int j)/\nd=if j - now < 0 then 0 else j - now))(T:Wd w)(I:Wd p.nm)(J:∀ r∈x.ln,Wd r.1.1/\Wd r.1.2)(v:mvS kd w x.mv (jcq x.ln k)=now)(A:x.en.length<=1000)(B:x.mv.length<=1000)(K:x.ln.length<=1000):kc [jl p true x,.str p.nm,.int pl,b]=some (.non,jl p true (Jf pl kd w nd x)):=by
 have F:Wd k.1/\Wd k.2:=by rcases s with⟨_,e,_⟩ | ⟨_,e,_⟩<;>rw[e]<;>exact⟨by assumption,by assumption⟩
 have L:=ub J F.1 F.2;have lo:=jcO (p:=p) (x:=x) (o:=true);have M:=qJ x.ln;have N:lim (x.ln.map eR).length=true:=jb (by rw[L0];omega);have G:=kN true ((x.ln.filter λr=>decide (r.1=k)).map (·.2));have C:((x.ln.filter λr=>decide (r.1=k)).map (·.2)).sum=jcq x.ln k:=rfl;rw[C] at G;obtain⟨d,f,h,H⟩:=jaw (a1:=some (.str p.nm)) (a2:=some (.int pl)) (a4:=some (.tup [.str k.1,.str k.2])) (a9:=none) (a10:=none) l u (ms:=x.mv) (n:=jcq x.ln k) (o6:=none) (o7:=none) (o8:=none);rw[v] at H;have O:=xH (p:=p) (x:=x) (a:=nd);have P:(sIf (dPT (jh (p2 vk (p2 jc (pV 3) (pC (.int 0))) (pC (.str [98,97,99,107]))))) (jC (dP (yU (ja (pF (p2 jc (pV 3) (pC (.int 1)))) (ja (pF (pV 1)) pN)))) (jd [0] 4)) jF) [some (jl p true x),some (.str p.nm),some (.int pl),some b,some (.tup [.str p.nm,.str w]),none,none,none,none,none,none]=some (.nx [some (jl p true x),some (.str p.nm),some (.int pl),some b,some (.tup [.str k.1,.str k.2]),none,none,none,none,none,none]):=by
  rcases s with⟨t,e2,_⟩ | ⟨t,e2,_⟩
  ·subst t;subst e2;generalize jl p true x=X at *;simp[l,u,jb]
  ·subst t;subst e2;generalize jl p true x=X at *;simp[l]
 have Q:(sIf (dPT (jh (p2 vk (p2 jc (pV 3) (pC (.int 0))) (pC (.str [108,101,110,100]))))) (jC (dP (pCB jgk (ja (pC (.int 0)) (ja (p2 vS (p2 jc (pV 3) (pC (.int 2))) (pV 5)) pN)))) (jd [0] 9)) jF) [some (jl p true x),some (.str p.nm),some (.int pl),some b,some (.tup [.str k.1,.str k.2]),some (.int now),d,f,h,some (.int now),none]=some (.nx [some (jl p true x),some (.str p.nm),some (.int pl),some b,some (.tup [.str k.1,.str k.2]),some (.int now),d,f,h,some (.int nd),none]):=by
  rcases s with⟨t,_,e3⟩ | ⟨t,_,j,R,e3⟩
  ·subst t;subst e3;generalize jl p true x=X at *;simp[l]
  ·subst t;have S:jgk [.int 0,.int (j - now)]=some (.int nd):=by
    show some (D.int (if 0 < j - now then j - now else 0))=_;rw[e3];congr 2;split<;>split<;>omega
   generalize jl p true x=X at *;simp[l,R,S,-kC]
 unfold Jf;generalize got nd x.cash=g at *
 let y:Fl:={ x with cash:=x.cash - g }
 let c:Fl:={ y with en:=x.en++[⟨pl,kd,w,nd,g⟩] }
 have z:(sIf (dPT (jh (p2 Qs (pV 10) (pC (.int 0))))) (jQ 0 (Jm [109,111,118,101,115] jK) (yU (ja (pF (p2 jc (pV 3) (pC (.int 0)))) (ja (pF (p2 jc (pV 3) (pC (.int 1)))) (ja (pF (pV 10)) pN))))) jF) [some (jl p true c),some (.str p.nm),some (.int pl),some b,some (.tup [.str k.1,.str k.2]),some (.int now),d,f,h,some (.int nd),some (.int g)]=some (.nx [some (jl p true { c with mv:=if 0 < g then x.mv++[(kd,w,g)] else x.mv }),some (.str p.nm),some (.int pl),some b,some (.tup [.str k.1,.str k.2]),some (.int now),d,f,h,some (.int nd),some (.int g)]):=by
  have mv:=jkh (p:=p) (x:=c) (m:=(kd,w,g)) (ρ:=[some (jl p true c),some (.str p.nm),some (.int pl),some b,some (.tup [.str k.1,.str k.2]),some (.int now),d,f,h,some (.int nd),some (.int g)]) (i:=0) (pv:=yU (ja (pF (p2 jc (pV 3) (pC (.int 0)))) (ja (pF (p2 jc (pV 3) (pC (.int 1)))) (ja (pF (pV 10)) pN)))) rfl (by generalize jl p true c=X at *;simp[l,u,eM,jb]) B;by_cases q:0 < g
  ·have E:jl p true { c with mv:=if 0 < g then x.mv++[(kd,w,g)] else x.mv }=jl p true { c with mv:=c.mv++[(kd,w,g)] }:=by rw[if_pos q]
   rw[E];generalize jl p true { c with mv:=c.mv++[(kd,w,g)] }=Y2,jl p true c=Y at *;simp[q,mv,-jQ]
  ·have E:jl p true { c with mv:=if 0 < g then x.mv++[(kd,w,g)] else x.mv }=jl p true c:=by rw[if_neg q]
   rw[E];generalize jl p true c=Y at *;simp[q,-jQ]
 have e:JC [some (jl p true x),some (.str p.nm),some (.int pl),some b,none,none,none,none,none,none,none]=some (.nx [some (jl p true { c with mv:=if 0 < g then x.mv++[(kd,w,g)] else x.mv }),some (.str p.nm),some (.int pl),some b,some (.tup [.str k.1,.str k.2]),some (.int now),d,f,h,some (.int nd),some (.int g)]):=by
  apply sq (ρ':=[some (jl p true x),some (.str p.nm),some (.int pl),some b,some (.tup [.str p.nm,.str w]),none,none,none,none,none,none]) (by generalize jl p true x=X at *;simp[u,jb]);apply sq P;apply sq (ρ':=[some (jl p true x),some (.str p.nm),some (.int pl),some b,some (.tup [.str k.1,.str k.2]),some (.int (jcq x.ln k)),none,none,none,none,none]) (by generalize jl p true x=X at *;generalize D.tup [.str k.1,.str k.2]=KK at *;generalize((x.ln.filter λr=>decide (r.1=k)).map (·.2)).map D.int=II at *;generalize x.ln.map eR=LL at *;simp[lo,M,N,L,G,jL,List.getElem?_cons_zero,Option.join,-kj]);apply sq (ρ':=[some (jl p true x),some (.str p.nm),some (.int pl),some b,some (.tup [.str k.1,.str k.2]),some (.int now),d,f,h,none,none]) (by rw[jeb,H];rfl);apply sq (ρ':=[some (jl p true x),some (.str p.nm),some (.int pl),some b,some (.tup [.str k.1,.str k.2]),some (.int now),d,f,h,some (.int now),none]) (by generalize jl p true x=X at *;simp);apply sq Q;apply sq (ρ':=[some (jl p true y),some (.str p.nm),some (.int pl),some b,some (.tup [.str k.1,.str k.2]),some (.int now),d,f,h,some (.int nd),some (.int g)]) (by show(jM yo 0 jK (ja (pF (pV 9)) pN) [some (jl p true x),some (.str p.nm),some (.int pl),some b,some (.tup [.str k.1,.str k.2]),some (.int now),d,f,h,some (.int nd),none]).bind _=_;generalize jl p true x=X at *;generalize jl p true y=X1 at *;simp[jM,jK,O]);apply sq (by exact KI (x:=y) (e:=⟨pl,kd,w,nd,g⟩) rfl (by generalize jl p true y=X1 at *;simp[jb,e5,l,u]) A);exact z
 show(JC [some (jl p true x),some (.str p.nm),some (.int pl),some b,none,none,none,none,none,none,none]).bind (JS 0)=_;rw[e];rfl
structure LnI(p:PoolS)(x:Fl):Prop where
 nd:(x.ln.map (·.1)).Nodup
 w:∀ r∈x.ln,Wd r.1.1/\Wd r.1.2
 l:x.ln.length<=50
 m:ji4 p.nm x.mv
theorem xm{pl nd:Int}{kd w:List Nat}(h:LnI p x)(b:kd=y9 \/ kd=yQ)(c:w≠p.nm):LnI p (Jf pl kd w nd x):=by
 refine⟨h.nd,h.w,h.l,?_⟩;show ji4 p.nm (if 0 < got nd x.cash then x.mv++[(kd,w,got nd x.cash)] else x.mv);split
 ·intro m a;rcases N1.mp a with a | a
  ·exact h.m m a
  ·rw[M7.mp a];exact⟨b,c⟩
 ·exact h.m
theorem jc6(b:PoolOk p){pl:Int}{r:Ru}(c:RuOk p.C p.oth r)(h:LnI p x):LnI p (vE p pl r x):=by
 cases c with
 | rest a=>exact⟨h.nd,h.w,h.l,h.m⟩
 | pay a =>
  rename_i w;have e:vE p pl (.one Vc w) x=jbN pl w x:=rfl;rw[e];unfold jbN srv;split<;>exact⟨h.nd,h.w,h.l,h.m⟩
 | back a=>exact xm h (.inr rfl) λz=>b.nmo (z▸a)
 | lend a=>exact xm h (.inl rfl) λz=>b.nmo (z▸a)
theorem YU(h:PoolOk p){a2 a3 a4:Option D}{o:OrdS}:∀{R:List Ru}{s:Nat}{x:Fl}{o6 o7 o8:Option D},(∀ r∈R,RuOk p.C p.oth r)->x.en.length+R.length<=900->x.sv.length+R.length<=900->x.mv.length+R.length<=900->LnI p x ->
  ∃ o6' o7' o8':Option D,jY (gT 2 (gC (jd [] 6) (gC (jd [] 7) gN))) yx (yf s (R.map eRu)) [some (yA false p),some (yH o),a2,a3,a4,some (jl p true x),o6,o7,o8]=some (.nx [some (yA false p),some (yH o),a2,a3,a4,some (jl p true (qB p ((o.parts.length:Int)+(s:Int)) R x)),o6',o7',o8'])
 | [],s,x,o6,o7,o8,_,_,_,_,_=>⟨o6,o7,o8,rfl⟩
 | r::R,s,x,o6,o7,o8,y,n,q,t,a=>by
  rw[M0] at n q t;have A:=y r (by simp);have B:=V4 p ((o.parts.length:Int)+(s:Int)) r x;have E:p.C.length<=1000:=by have:=h.told2;rw[L0];omega
  have H:p.P.length<=1000:=by have:=h.marks2;rw[L0];omega
  obtain⟨o6',o7',o8',e⟩:=YU h (a2:=a2) (a3:=a3) (a4:=a4) (o:=o) (R:=R) (s:=s+1) (x:=vE p ((o.parts.length:Int)+(s:Int)) r x) (o6:=some (.int (s:Int))) (o7:=some (eRu r)) (o8:=some (.int ((o.parts.length:Int)+(s:Int)))) (λd hd=>y d (by simp[hd])) (by omega) (by omega) (by omega) (jc6 h A a);refine⟨o6',o7',o8',?_⟩;have F:(o.parts.length:Int)+((s+1:Nat):Int)=(o.parts.length:Int)+(s:Int)+1:=by omega
  rw[F] at e;have G:yx [some (yA false p),some (yH o),a2,a3,a4,some (jl p true x),some (.int (s:Int)),some (eRu r),o8]=some (.nx [some (yA false p),some (yH o),a2,a3,a4,some (jl p true (vE p ((o.parts.length:Int)+(s:Int)) r x)),some (.int (s:Int)),some (eRu r),some (.int ((o.parts.length:Int)+(s:Int)))]):=by
   have i:jc (yH o) (.int 1)=some (.lst false (o.parts.map e2)):=rfl;have lo:qy [.lst false (o.parts.map e2)]=some (.int (o.parts.length:Int)):=by simp
   cases A with
   | rest b =>
    rename_i w;have c:qt [jl p true x,.int ((o.parts.length:Int)+(s:Int)),.str w]=some (.non,jl p true (vE p ((o.parts.length:Int)+(s:Int)) (.one vD w) x)):=jda (by omega);have f:jc (eRu (.one vD w)) (.int 0)=some (.str vD):=rfl;have u:jc (eRu (.one vD w)) (.int 1)=some (.str w):=rfl;generalize yA false p=PQ, yH o=OO,jl p true (vE p ((o.parts.length:Int)+(s:Int)) (.one vD w) x)=X1,jl p true x=X,eRu (.one vD w)=RR,o.parts.map e2=QQ at *;simp[yx,i,lo,f,u,c,jM,jK,-yu]
   | pay b =>
    rename_i w;have c:qX [jl p true x,.int ((o.parts.length:Int)+(s:Int)),.str w]=some (.non,jl p true (vE p ((o.parts.length:Int)+(s:Int)) (.one Vc w) x)):=jfu b E (by omega) (by omega);have f:jc (eRu (.one Vc w)) (.int 0)=some (.str Vc):=rfl;have u:jc (eRu (.one Vc w)) (.int 1)=some (.str w):=rfl;generalize yA false p=PQ, yH o=OO,jl p true (vE p ((o.parts.length:Int)+(s:Int)) (.one Vc w) x)=X1,jl p true x=X,eRu (.one Vc w)=RR,o.parts.map e2=QQ at *;simp[yx,i,lo,f,u,c,jM,jK,-yu]
   | back b =>
    rename_i w;have g:w≠p.nm:=λz=>h.nmo (z▸b);have c:kc [jl p true x,.str p.nm,.int ((o.parts.length:Int)+(s:Int)),eRu (.one yQ w)]=some (.non,jl p true (vE p ((o.parts.length:Int)+(s:Int)) (.one yQ w) x)):=zW (k:=(w,p.nm)) (now:=lnW p x (w,p.nm)) rfl rfl (vW _) (.inl ⟨rfl,rfl,rfl⟩) (h.otw w b) h.nm a.w (xb g a.m (VF a.nd)) (by omega) (by omega) (by have:=a.l;omega);have f:jc (eRu (.one yQ w)) (.int 0)=some (.str yQ):=rfl;have v:jc (yA false p) (.int 0)=some (.str p.nm):=rfl;have fr:=vW (.one yQ w);generalize yA false p=PQ,yH o=OO,jl p true (vE p ((o.parts.length:Int)+(s:Int)) (.one yQ w) x)=X1,jl p true x=X,eRu (.one yQ w)=RR,o.parts.map e2=QQ at *;simp[yx,i,lo,f,v,c,fr,jM,jK,-yu]
   | lend b =>
    rename_i w j;have g:w≠p.nm:=λz=>h.nmo (z▸b);have c:kc [jl p true x,.str p.nm,.int ((o.parts.length:Int)+(s:Int)),eRu (.lend w j)]=some (.non,jl p true (vE p ((o.parts.length:Int)+(s:Int)) (.lend w j) x)):=zW (k:=(p.nm,w)) (now:=lnW p x (p.nm,w)) rfl rfl (vW _) (.inr ⟨rfl,rfl,j,rfl,rfl⟩) (h.otw w b) h.nm a.w (xu a.m (VF a.nd)) (by omega) (by omega) (by have:=a.l;omega);have f:jc (eRu (.lend w j)) (.int 0)=some (.str y9):=rfl;have v:jc (yA false p) (.int 0)=some (.str p.nm):=rfl;have fr:=vW (.lend w j);generalize yA false p=PQ,yH o=OO,jl p true (vE p ((o.parts.length:Int)+(s:Int)) (.lend w j) x)=X1,jl p true x=X,eRu (.lend w j)=RR,o.parts.map e2=QQ at *;simp[yx,i,lo,f,v,c,fr,jM,jK,-yu]
  rw[L4,yf,lpE ?_ G,e]
  ·rfl
  ·rfl
theorem JK(h:PoolOk p){a1:Option D}:∀{G:List WG}{s:Nat}{x:Fl}{o2 o3 o4 o5:Option D},(∀ g∈G,g.1∈p.P/\g.2∈p.C)->x.en.length+G.length<=900 ->
  ∃ o2' o3' o4' o5':Option D,jY (gT 2 (gC (jd [0] 2) (gC (jd [0] 3) gN))) vp (yf s (G.map eG)) [some (jl p true x),a1,o2,o3,o4,o5]=some (.nx [some (jl p true (yI s G x)),a1,o2',o3',o4',o5'])
 | [],s,x,o2,o3,o4,o5,_,_=>⟨o2,o3,o4,o5,rfl⟩
 | g::G,s,x,o2,o3,o4,o5,a,b=>by
  rw[M0] at b;have n:(vR s g x).en.length=x.en.length+1:=by simp[vR]
  obtain⟨o2',o3',o4',o5',e⟩:=JK h (a1:=a1) (G:=G) (s:=s+1) (x:=vR s g x) (o2:=some (.int s)) (o3:=some (eG g)) (o4:=some (.int (x.ow g.2))) (o5:=some (.int (got (x.ow g.2) (x.lv g.1)))) (λg q=>a g (by simp[q])) (by omega);refine⟨o2',o3',o4',o5',?_⟩;have c:=(a g (by simp)).1;have d:=(a g (by simp)).2;have r:p.C.length<=1000:=by have:=h.told2;rw[L0];omega
  have t:p.P.length<=1000:=by have:=h.marks2;rw[L0];omega
  have i:jc (eG g) (.int 0)=some (.str g.1):=rfl;have j:jc (eG g) (.int 1)=some (.str g.2):=rfl;rw[L4,yf,lpF ?_,e,yI];show vp [some (jl p true x),a1,some (.int s),some (eG g),o4,o5]=_;have u:zU [.int (x.ow g.2),.int (x.lv g.1)]=some (.int (got (x.ow g.2) (x.lv g.1))):=rfl;unfold vR;generalize got (x.ow g.2) (x.lv g.1)=y at *
  let k:Fl:={ x with lv:=put x.lv g.1 (x.lv g.1 - y) }
  let w:Fl:={ k with ow:=put x.ow g.2 (x.ow g.2 - y) }
  have z:=jeW (p:=p) (x:=x) (o:=true);have A:=kB (o:=true) (f:=x.ow) d;have l:=jh2 (p:=p) (x:=x) (o:=true);have m:=kB (o:=true) (f:=x.lv) c;apply sq (ρ':=[some (jl p true x),a1,some (.int s),some (eG g),some (.int (x.ow g.2)),o5]) (by generalize jl p true x=X at *;generalize dct true p.C x.ow=D1 at *;generalize eG g=GG at *;simp[z,A,j]);apply sq (ρ':=[some (jl p true x),a1,some (.int s),some (eG g),some (.int (x.ow g.2)),some (.int y)]) (by generalize jl p true x=X at *;generalize dct true p.P x.lv=D2 at *;generalize eG g=GG at *;simp[l,m,i,u,-kC]);apply sq (by exact jkk (x:=x) (v:=x.lv g.1 - y) rfl rfl (by generalize jl p true x=X at *;generalize dct true p.P x.lv=D2 at *;generalize eG g=GG at *;simp[l,m,i]) c t);apply sq (by exact jhC (x:=k) (v:=x.ow g.2 - y) rfl rfl (by simp) d r);exact KI (x:=w) (e:=⟨s,xw,g.2,x.ow g.2,y⟩) rfl (by simp[jb,e5,j]) (by show x.en.length<=1000;omega)
theorem x8(h:PoolOk p)(a:x.en.length<=800):ve [jl p true x,.lst false (p.grds.map eG)]=some (.non,jl p true (yI 0 p.grds x)):=by
 have l:=h.grds2;obtain⟨b,c,d,f,e⟩:=JK h (a1:=some (.lst false (p.grds.map eG))) (G:=p.grds) (s:=0) (x:=x) (o2:=none) (o3:=none) (o4:=none) (o5:=none) h.grds (by omega);have g:=YD p.grds;have i:=xI p.grds;have j:lim (yf 0 (p.grds.map eG)).length=true:=jb (by rw[j8,L0];omega);have k:lim (p.grds.map eG).length=true:=jb (by rw[L0];omega);generalize jl p true x=X,jl p true (yI 0 p.grds x)=Y,p.grds.map eG=GG at *;simp[ve,ku,Jc,g,i,k,j,e,JS]
end
section
variable {p:PoolS}{x:Fl}{c:Int}
theorem VY{X:D}{k:List Nat}{o:Bool}{N:List (List Nat)}{f:List Nat->Int}(b:jO X (.str k)=some (dct o N f)){l:List W2}(a:l.map (·.1)=N):yO (gT 2 (gC (jd [] 0) (gC (jd [] 1) gN))) qT (yU (ja (pF (pV 0)) (ja (pF (p2 jO (p2 jO (pV 2) (pC (.str k))) (pV 0))) pN))) (l.map e2) [none,none,some X]=some ((sz' N f).map e2):=by
 have e:(sz' N f).map e2=l.map λq=>e2 (q.1,f q.1):=by rw[<- a];unfold sz';rw[U0,U0];rfl
 rw[e];refine jW (l:=l) (en:=e2) rfl (λρ=>∃ o c,ρ=[o,c,some X]) ?_ ⟨none,none,rfl⟩;rintro q d ρ ⟨h,i,rfl⟩;have g:=kB (o:=o) (f:=f) (show q.1∈N by rw[<- a];exact M5.mpr ⟨q,d,rfl⟩);refine⟨[some (.str q.1),some (.int q.2),some X],rfl,?_,_,_,rfl⟩;generalize dct o N f=DD at *;simp[b,g,jb,e2]
theorem Vi{X BK:D}{sv:List (List Nat)}{S:List W2}{NC:List (List Nat)}(b:jO X (.str [115,101,114,118,101,100])=some (.lst false (sv.map D.str)))(c:jc BK (.int 0)=some (.lst false (S.map e2)))(d:yq [.lst false (S.map e2)]=some (dct true NC (fnOf S))):∀{R:List W2}{acc:List W2}{o3 o4 o5:Option D},(∀ q∈R,q.1∈NC)->acc.length+R.length<=1000 ->
  ∃ o3' o4' o5':Option D,jY (gT 2 (gC (jd [] 3) (gC (jd [] 4) gN))) ye (R.map e2) [some X,some BK,some (.lst true (acc.map e2)),o3,o4,o5,none,none]=some (.nx [some X,some BK,some (.lst true ((acc++qC S sv R).map e2)),o3',o4',o5',none,none])
 | [],acc,o3,o4,o5,_,_=>⟨o3,o4,o5,by simp[qC]⟩
 | q::R,acc,o3,o4,o5,l,n=>by
  rw[M0] at n;have g:=uW true false q.1 sv;have h:=kB (o:=true) (f:=fnOf S) (l q (by simp));have i:∃ o5':Option D,ye [some X,some BK,some (.lst true (acc.map e2)),some (.str q.1),some (.int q.2),o5,none,none]=some (.nx [some X,some BK,some (.lst true ((acc++[(q.1,if 0 < fnOf S q.1/\q.1∉sv then q.2+1 else 0)]).map e2)),some (.str q.1),some (.int q.2),o5',none,none]):=by
   generalize dct true NC (fnOf S)=DD,sv.map D.str=SS at *;by_cases j:0 < fnOf S q.1
   ·by_cases m:q.1∈sv
    ·exact⟨some (.bl false),by simp(disch:=first | omega | (simp;done) | (simp;omega)) [ye,c,d,h,b,g,j,m,jb,e2]⟩
    ·exact⟨some (.bl true),by simp(disch:=first | omega | (simp;done) | (simp;omega)) [ye,c,d,h,b,g,j,m,jb,e2]⟩
   ·exact⟨some (.bl false),by simp(disch:=first | omega | (simp;done) | (simp;omega)) [ye,c,d,h,b,g,j,jb,e2]⟩
  obtain⟨o5',k⟩:=i;obtain⟨o3',o4',a,e⟩:=Vi b c d (R:=R) (acc:=acc++[(q.1,if 0 < fnOf S q.1/\q.1∉sv then q.2+1 else 0)]) (o3:=some (.str q.1)) (o4:=some (.int q.2)) (o5:=o5') (λr p=>l r (by simp[p])) (by simp;omega);refine⟨o3',o4',a,?_⟩;rw[L4,lpE ?_ k,e]
  ·rw[List.append_assoc];rfl
  ·rfl
def Kf(b:BkS):D:=.tup [.lst false (b.S.map e2),.lst false (b.W.map e2),.lst false (b.R.map e2),.lst true (b.L.map e2),.int b.z]
theorem wj(h:PoolOk p){b:BkS}(k:BkOk p b):vP [jl p false x,jU false b]=some (Kf (jo p b x)):=by
 have O:=h.told2;obtain⟨Q,T,U,V⟩:=k.len h;have c:=k.S;have o:=k.R;have r:yq [.lst false (b.S.map e2)]=some (dct true p.C (fnOf b.S)):=by rw[<- c];exact yt (by rw[c];exact h.toldn) (by omega)
 have f:jc (jU false b) (.int 0)=some (.lst false (b.S.map e2)):=rfl;have s:jc (jU false b) (.int 1)=some (.lst false (b.W.map e2)):=rfl;have t:jc (jU false b) (.int 2)=some (.lst false (b.R.map e2)):=rfl;have g:jc (jU false b) (.int 3)=some (.lst false (b.L.map e2)):=rfl;have i:jc (jU false b) (.int 4)=some (.int b.z):=rfl;obtain⟨u,v,w,e⟩:=Vi (X:=jl p false x) (BK:=jU false b) (sv:=x.sv) (S:=b.S) (NC:=p.C) jjn f r (R:=b.R) (acc:=[]) (o3:=none) (o4:=none) (o5:=none) (λq y=>by rw[<- o];exact M5.mpr ⟨q,y,rfl⟩) (by simp;omega);rw[List.nil_append,List.map_nil] at e;have A:=VY (X:=jl p false x) (jjw) c;have B:=VY (X:=jl p false x) (jeW) k.W;have g3:=VY (X:=jl p false x) (jh2) k.L;have E:lim (b.S.map e2).length=true:=jb (by rw[L0];omega);have F:lim (b.W.map e2).length=true:=jb (by rw[L0];omega);have j:lim (b.L.map e2).length=true:=jb (by rw[L0];omega);have G:lim (b.R.map e2).length=true:=jb (by rw[L0];omega);show _=some (D.tup [.lst false ((sz' p.C x.sz).map e2),.lst false ((sz' p.C x.ow).map e2),.lst false ((qC b.S x.sv b.R).map e2),.lst true ((sz' p.P x.lv).map e2),.int b.z]);have H:=ji b.S;have I:=ji b.W;have l:=ji b.L;have J:=ji b.R;have K:=yK b.R;have m:=ji (sz' p.C x.sz);have M:=yK (sz' p.C x.sz);have n:=ji (sz' p.C x.ow);have N:=yK (sz' p.C x.ow);have a:=ji (qC b.S x.sv b.R);have d:=yK (qC b.S x.sv b.R);generalize jU false b=BK,jl p false x=X at *;generalize(qC b.S x.sv b.R).map e2=RR at *;generalize(sz' p.C x.sz).map e2=Z1 at *;generalize(sz' p.C x.ow).map e2=Z2 at *;generalize(sz' p.P x.lv).map e2=Z3 at *;generalize b.S.map e2=Y1,b.W.map e2=Y2,b.L.map e2=Y3,b.R.map e2=Y4 at *;simp(disch:=first | omega | (simp;done) | (simp;omega)) [vP,jZ,JM,f,s,t,g,i,e,A,B,g3,E,F,j,G,H,I,l,J,K,m,M,n,N,a,d,fz,fzs,jL,List.getElem?_cons_zero,Option.join,jb,-yU];simp(disch:=first | omega | (simp;done) | (simp;omega)) [g,i,g3,j,l,m,n,a,jL,List.getElem?_cons_zero,Option.join,jb]
end
section
variable {p:PoolS}{c:Int}
theorem jhA(h:PoolOk p){o:OrdS}(G:o∈p.ords){b:BkS}(k:BkOk p b){ln:LN}(H:(ln.map (·.1)).Nodup)(i:∀ r∈ln,Wd r.1.1/\Wd r.1.2)(j:ln.length<=50)(l:0<=c)(hc:c<=10 ^ 20) :
  Jj [yA false p,yH o,jU false b,.int c,.lst false (ln.map eR)]=some (.tup [.lst false ((Ju p o b c ln).en.map e5),Kf (jo p b (Ju p o b c ln)),.lst false ((Ju p o b c ln).mv.map eM)]):=by
 have a:=h.ords o G;have I:=jdT h k (c:=c) (ln:=ln);have J:=jbc (p:=p) (x:=yb b c ln) (c:=c) (Q:=o.parts) l (by omega) (λq E=>⟨(a.parts q E).2.1,(a.parts q E).2.2⟩) a.parts2 (U4 _);have l1:(yb b c ln).en.length=0:=rfl;have l2:=v7 0 o.parts (je o.parts c).1 (yb b c ln);have l3:=twiceF_en o.parts c (jw 0 o.parts (je o.parts c).1 (yb b c ln));have pl:=a.parts2;have gl:=h.grds2;unfold Ju;have K:(twiceF o.parts c (jw 0 o.parts (je o.parts c).1 (yb b c ln))).mv.length=0:=by rw[twiceF_mv,kZ];rfl
 have n:LnI p (twiceF o.parts c (jw 0 o.parts (je o.parts c).1 (yb b c ln))):=by
  refine⟨?_,?_,?_,?_⟩
  ·rw[twiceF_ln,kK];exact H
  ·rw[twiceF_ln,kK];exact i
  ·rw[twiceF_ln,kK];exact j
  ·rw[twiceF_mv,kZ];exact λm L=>by cases L
 have M:(twiceF o.parts c (jw 0 o.parts (je o.parts c).1 (yb b c ln))).sv.length=0:=by rw[twiceF_sv,YL];rfl
 generalize twiceF o.parts c (jw 0 o.parts (je o.parts c).1 (yb b c ln))=x1 at *;have hR:=a.rules2;obtain⟨N,O,P,d⟩:=YU h (a2:=some (jU false b)) (a3:=some (.int c)) (a4:=some (.lst false (ln.map eR))) (o:=o) (R:=o.rules) (s:=0) (x:=x1) (o6:=none) (o7:=none) (o8:=none) a.rules (by omega) (by omega) (by omega) n;rw[show(o.parts.length:Int)+((0:Nat):Int)=(o.parts.length:Int) by omega] at d;have l4:=(kU p (o.parts.length:Int) o.rules x1).1;generalize qB p (o.parts.length:Int) o.rules x1=x2 at *;have S:yB (jl p true (yb b c ln))=false \/ True:=.inr trivial;generalize yb b c ln=x0 at *;have T:=x8 (p:=p) (x:=x2) h (by omega);generalize yI 0 p.grds x2=x3 at *;have U:=wj (x:=x3) h k;have V:jc (yH o) (.int 1)=some (.lst false (o.parts.map e2)):=rfl;have W:jc (yH o) (.int 2)=some (.lst false (o.rules.map eRu)):=rfl;have X:jc (yA false p) (.int 6)=some (.lst false (p.grds.map eG)):=rfl;have t:=J0 o.rules;have u:=zg o.rules;have e:lim (o.rules.map eRu).length=true:=jb (by rw[L0];omega);have v:lim (yf 0 (o.rules.map eRu)).length=true:=by rw[j8];exact e
 have f:=V9 p;have Y:=vv _ f;have Z:=vG o;have g:=JY b;have w:=vv _ g;have y:=qJ ln;have z:=xz ln;have g1:=YD p.grds;have A:=ji o.parts;have F:=jap (p:=p) (x:=x3) true;have B:=jap (p:=p) (x:=x3) false;have rX:frz (jl p false x3)=true:=by rw[<- F];exact uj _
 have lr:=jf0 (p:=p) (x:=x3) (o:=false);have lm:=jkc (p:=p) (x:=x3) (o:=false);have C:=Qt x3.en;have D:=VT x3.mv;generalize Kf (jo p b x3)=BR,jU false b=BK,jl p true x3=X3,jl p false x3=X3f,jl p true x2=X2,jl p true x1=X1,jl p true x0=X0,yA false p=PP,yH o=OO,o.parts.map e2=QQ,p.grds.map eG=GG,o.rules.map eRu=RU,ln.map eR=LL,x3.en.map e5=EE,x3.mv.map eM=MM at *;simp[Jj,jZ,K0,I,Y,f,Z,g,w,y,z,g1,A,V,W,t,u,e,v,X,J,d,T,F,B,rX,lr,lm,C,D,U,jM,jK,jb]
end
def alk(n:Nat)(d:D):Prop:=jS n [d,d]=some (.bl true)
theorem Jv(n:Nat)(i:Int):alk (n+1) (.int i):=by
 unfold alk jS;have a:wU (.int i) .non=some (.bl false):=rfl;simp[jZ,vt,Q8,a]
theorem xv{n:Nat}{d:D}{l:List D}(m:∀(i:Nat) (x:D),l[i]?=some x->jc d (.int (0+(i:Int)))=some x)(j:frzs l=true)(h:∀ x∈l,alk n x):∃ o2,jY (jd [] 2) (vf (jS n)) (kE 0 l.length) [some d,some d,none]=some (.nx [some d,some d,o2]):=by
 obtain⟨p,e,o2,rfl⟩:=jX (G:=jd [] 2) (f:=vf (jS n)) (xs:=kE 0 l.length) (λi ρ=>∃ o2,ρ=[some d,some d,o2]) (by
  rintro i x ρ a ⟨o2,rfl⟩;obtain⟨rfl,hi⟩:=vh a;have o:l[i]?=some l[i]:=X8 hi;have b:=m i _ o;have k:=List.getElem_mem hi;have c:fz l[i]=l[i]:=vv _ (by rw[JX] at j;exact List.all_eq_true.mp j _ k);have g:jS n [l[i],l[i]]=some (.bl true):=h _ k;refine⟨_,_,rfl,.inl ?_,some (.int (0+(i:Int))),rfl⟩;simp[vf,b,c,g,-Int.zero_add]) (ρ:=[some d,some d,none]) ⟨none,rfl⟩
 exact⟨o2,e⟩
theorem Qy{n:Nat}{o:Bool}{l:List D}(c:frzs l=true)(g:l.length<=1000)(h:∀ x∈l,alk n x):alk (n+1) (.lst o l):=by
 unfold alk jS;obtain⟨k,e⟩:=xv (d:=.lst o l) (λi x b=>by rw[jbs (by omega) (by have:=(L8.mp b).1;omega),show(0+(i:Int)).toNat=i by omega];exact b) c h;have f:wU (.lst o l) .non=some (.bl false):=rfl;have a:Yw [.int (l.length:Int)]=some (kE 0 l.length):=by
  have:=yV (j:=(l.length:Int)) (by omega) (by omega);simpa using this
 simp[jZ,vt,Q8,f,a,e]
theorem Yl{n:Nat}{l:List D}(c:frzs l=true)(g:l.length<=1000)(h:∀ x∈l,alk n x):alk (n+1) (.tup l):=by
 unfold alk jS;obtain⟨k,e⟩:=xv (d:=.tup l) (λi x b=>by rw[jhJ (by omega) (by have:=(L8.mp b).1;omega),show(0+(i:Int)).toNat=i by omega];exact b) c h;have f:wU (.tup l) .non=some (.bl false):=rfl;have a:Yw [.int (l.length:Int)]=some (kE 0 l.length):=by
  have:=yV (j:=(l.length:Int)) (by omega) (by omega);simpa using this
 simp[jZ,vt,Q8,f,a,e]
theorem YE(n:Nat)(i:List Nat):alk (n+1) (.str i):=by
 unfold alk jS;have a:wU (.str i) .non=some (.bl false):=rfl;simp[jZ,vt,Q8,a]
theorem Vj:∀(k:Nat) (G:List WG) (x:Fl),(yI k G x).en.length=x.en.length+G.length
 | _,[],x=>rfl
 | k,g::G,x=>by
  have:=Vj (k+1) G (vR k g x);have e:(vR k g x).en.length=x.en.length+1:=by simp[vR]
  rw[yI,M0];omega
theorem Vg:∀(k:Nat) (G:List WG) (x:Fl),(yI k G x).mv=x.mv
 | _,[],x=>rfl
 | k,g::G,x=>by rw[yI,Vg];rfl
theorem jfe{p:PoolS}{o:OrdS}{b:BkS}{c:Int}{ln:LN}(h:PoolOk p)(a:o∈p.ords):(Ju p o b c ln).mv.length<=10:=by
 unfold Ju;rw[Vg];have t:=(kU p (o.parts.length:Int) o.rules (twiceF o.parts c (jw 0 o.parts (je o.parts c).1 (yb b c ln)))).2;rw[twiceF_mv,kZ] at t;have e:(yb b c ln).mv.length=0:=rfl;have d:=(h.ords o a).rules2;omega
theorem jeG{p:PoolS}{o:OrdS}{b:BkS}{c:Int}{ln:LN}(h:PoolOk p)(a:o∈p.ords):(Ju p o b c ln).en.length<=100:=by
 have d:=v7 0 o.parts (je o.parts c).1 (yb b c ln);have e:=twiceF_en o.parts c (jw 0 o.parts (je o.parts c).1 (yb b c ln));have f:(yb b c ln).en.length=0:=rfl;have pl:=(h.ords o a).parts2;have g:=h.grds2;unfold Ju;rw[Vj];have i:=(h.ords o a).rules2;rw[(kU p _ _ _).1];omega
theorem xg(n:Nat)(l:List W2)(a:l.length<=100):alk (n+3) (.lst false (l.map e2)):=by
 refine Qy (ji l) (by rw[L0];omega) λd hd=>?_;obtain⟨q,_,rfl⟩:=M5.mp hd;refine Yl rfl (by simp) λd hd=>?_;simp only[M4,List.not_mem_nil,or_false] at hd;rcases hd with rfl | rfl
 ·exact YE _ _
 ·exact Jv _ _
def jdk(x:Fl)(b:BkS):D:=.tup [.lst false (x.en.map e5),jU false b,.lst false (x.mv.map eM)]
theorem jcX{x:Fl}{b:BkS}(h1:x.en.length<=100)(h2:x.mv.length<=10)(e:b.S.length<=10)(f:b.W.length<=10)(g:b.R.length<=10)(h:b.L.length<=10):yj [jdk x b,jdk x b]=some (.bl true):=by
 show alk 8 _;refine Yl (n:=7) (by have a:=Qt x.en;have b':=JY b;have c:=VT x.mv;simp[frzs,frz,a,b',c]) (by simp) λd hd=>?_;simp only[M4,List.not_mem_nil,or_false] at hd;rcases hd with rfl | rfl | rfl
 ·refine Qy (n:=6) (Qt x.en) (by rw[L0];omega) λd hd=>?_;obtain⟨q,_,rfl⟩:=M5.mp hd;refine Yl (n:=5) rfl (by simp) λd hd=>?_;simp only[M4,List.not_mem_nil,or_false] at hd;rcases hd with rfl | rfl | rfl | rfl | rfl
  ·exact Jv _ _
  ·exact YE _ _
  ·exact YE _ _
  ·exact Jv _ _
  ·exact Jv _ _
 ·refine Yl (n:=6) (by simp[frzs,frz,ji]) (by simp) λd hd=>?_;simp only[M4,List.not_mem_nil,or_false] at hd;rcases hd with rfl | rfl | rfl | rfl | rfl
  ·exact xg 3 _ (by omega)
  ·exact xg 3 _ (by omega)
  ·exact xg 3 _ (by omega)
  ·exact xg 3 _ (by omega)
  ·exact Jv _ _
 ·refine Qy (n:=6) (VT x.mv) (by rw[L0];omega) λd hd=>?_;obtain⟨q,_,rfl⟩:=M5.mp hd;refine Yl (n:=5) rfl (by simp) λd hd=>?_;simp only[M4,List.not_mem_nil,or_false] at hd;rcases hd with rfl | rfl | rfl
  ·exact YE _ _
  ·exact YE _ _
  ·exact Jv _ _
theorem Qk{a0 a1 a2 a3 a4 a5 a6 a7 a8 a9:Option D}:∀{l:List (List D)}{o:Option D},(∀ x∈l,x.length<=1000)->∃ o',jY (jd [] 10) vz (l.map (D.lst true)) [a0,a1,a2,a3,a4,a5,a6,a7,a8,a9,o]=some (.nx [a0,a1,a2,a3,a4,a5,a6,a7,a8,a9,o'])
 | [],o,_=>⟨o,rfl⟩
 | x::l,o,h=>by
  obtain⟨o',e⟩:=Qk (a0:=a0) (a1:=a1) (a2:=a2) (a3:=a3) (a4:=a4) (a5:=a5) (a6:=a6) (a7:=a7) (a8:=a8) (a9:=a9) (l:=l) (o:=some (.lst true (x++[.int 7]))) λy a=>h y (by simp[a]);refine⟨o',?_⟩;have b:vz [a0,a1,a2,a3,a4,a5,a6,a7,a8,a9,some (.lst true x)]=some (.nx [a0,a1,a2,a3,a4,a5,a6,a7,a8,a9,some (.lst true (x++[.int 7]))]):=by
   have:=h x (by simp);simp(disch:=omega) [vz,jb]
  rw[L4,lpE ?_ b,e];rfl
theorem ue{fe:FE}{g:D->Rh->Option Rh}{f:FS}{ρ a:Rh}{l:List D}(h:fe ρ=some (.lst true l,a)):wz fe g f ρ=jY g f l a:=by
 unfold wz;rw[h]
theorem ja8(b:BkS):vK [jU false b]=some (jU true b):=by
 have a:jc (jU false b) (.int 0)=some (.lst false (b.S.map e2)):=rfl;have c:jc (jU false b) (.int 1)=some (.lst false (b.W.map e2)):=rfl;have d:jc (jU false b) (.int 2)=some (.lst false (b.R.map e2)):=rfl;have e:jc (jU false b) (.int 3)=some (.lst false (b.L.map e2)):=rfl;have f:jc (jU false b) (.int 4)=some (.int b.z):=rfl;show _=some (D.tup [.lst true (b.S.map e2),.lst true (b.W.map e2),.lst true (b.R.map e2),.lst true (b.L.map e2),.int b.z]);have g:=ji b.S;have h:=ji b.W;have i:=ji b.R;have j:=ji b.L;generalize jU false b=BB at *;simp[vK,jZ,JL,a,c,d,e,f,g,h,i,j,jb]
theorem wX{p:PoolS}{b:BkS}(h:PoolOk p)(k:BkOk p b)(o:Bool)(n:Nat):okE (n+3) (jU o b)=true:=by
 have w:∀{l:List W2}{C:List (List Nat)},l.map (·.1)=C->(∀ c∈C,Wd c)->∀ q∈l,Wd q.1:=λe a q g=>a _ (e▸M5.mpr ⟨q,g,rfl⟩);have d:∀ c∈p.C,Wd c:=λc a=>by obtain⟨t,f,rfl⟩:=M5.mp a;exact(h.told t f).w
 have i:∀ c∈p.P,Wd c:=λc a=>by obtain⟨t,f,rfl⟩:=M5.mp a;exact(h.marks t f).1
 have j:okE (n+2) (.lst o (b.S.map e2))=true:=YF (w k.S d) n;have m:okE (n+2) (.lst o (b.W.map e2))=true:=YF (w k.W d) n;have r:okE (n+2) (.lst o (b.R.map e2))=true:=YF (w k.R d) n;have s:okE (n+2) (.lst o (b.L.map e2))=true:=YF (w k.L i) n;show kx (n+2) [.lst o (b.S.map e2),.lst o (b.W.map e2),.lst o (b.R.map e2),.lst o (b.L.map e2),.int b.z]=true;simp[kx,j,m,r,s]
theorem jhW{zs:List Int}(c:Int)(hz:zs.length<=100):Jh [.lst false (zs.map D.int),.int c]=some (.bl true):=by
 obtain⟨ns,N,hl,t,K⟩:=zO c (many:=12) (by decide) (by decide);have en:jR [.int c,.int 12]=some (.lst true (ns.map D.str)):=N;obtain⟨p,ep,h,O⟩:=jf3 hz en hl t K;have em:=yk (c:=c) (k:=2) (by decide) (by decide);have m0:=va c 2;generalize kf c 2=m at em m0;have o2:=h.ord2;have u:(m % 2).toNat < p.ords.length:=by omega
 have eo:jc (.lst false (p.ords.map yH)) (.int (m % 2))=some (yH p.ords[(m % 2).toNat]):=by
  rw[jbs (by omega) (by rw[L0];omega),List.getElem?_map,X8 u];rfl
 have A:=List.getElem_mem u;generalize p.ords[(m % 2).toNat]=o at eo A;obtain⟨b,eb,k⟩:=jex (c:=c) h;have hd:ns.drop 10 ⊆ ns:=λw t=>List.mem_of_mem_drop t;have Q:(yC ns (some 10) none).Nodup:=xU K;have i:yC ns (some 10) none=ns.drop 10:=JD ns (by decide);have T:p.nm∉yC ns (some 10) none:=by
  rw[i,O];intro z;obtain⟨a,l,rfl⟩:∃ a l,ns=a::l:=by cases ns with | nil=>simp at hl | cons a l=>exact⟨a,l,rfl⟩
  rw[List.nodup_cons] at K;exact K.1 (List.mem_of_mem_drop (show a∈List.drop 9 l from z))
 obtain⟨ln,el,l1,l2,l3⟩:=jbO (c:=c) (p:=p) T Q (by rw[i,List.length_drop];omega);have es:=jai true ns (some 10) none;obtain⟨v,ev,v0,v1⟩:=je8 (c:=c) h k;have ec:=ja8 b;have ef:=jdZ h A k (ln:=ln) l1 (by omega) v0 v1;have U:∀ r∈ln,Wd r.1.1/\Wd r.1.2:=λr V=>by
  obtain⟨⟨w,s,X⟩,_⟩:=l3 r V;have ww:Wd w:=t w (i▸s|>List.mem_of_mem_drop);have wn:Wd p.nm:=h.nm;rcases X with e | e<;>rw[e]<;>exact⟨by assumption,by assumption⟩
 have ed:=jhA h A k (ln:=ln) l1 U (by omega) v0 v1;have fe:=jeG (b:=b) (c:=v) (ln:=ln) h A;have fm:=jfe (p:=p) (o:=o) (b:=b) (c:=v) (ln:=ln) h A;obtain⟨lS,lW,lR,lV⟩:=k.len h;have t2:=h.told2;have m2:=h.marks2;generalize Ju p o b v ln=x at *;have ea:=jcX (x:=x) (b:=jo p b x) fe fm (by show(sz' p.C x.sz).length<=10;simp[sz'];omega) (by show(sz' p.C x.ow).length<=10;simp[sz'];omega) (by show(qC b.S x.sv b.R).length<=10;simp[qC];omega) (by show(sz' p.P x.lv).length<=10;simp[sz'];omega);have Y:fz (yA true p)=yA false p:=by
  have j:=Ks p.told;have n:=yK p.marks;have q:=xI p.grds;have a4:=xK p.ords;have a5:=yD p.eats;simp[yA,fz,fzs,j,n,q,a4,a5]
 have B:=V9 p;have fp:=vv _ B;have fo:=vG o;have Z:=vv _ fo;have E:=JY b;have F:=vv _ E;have G:=uh true b;have hbc:=JF b;have fl1:=qJ ln;have H:=xz ln;have fl3:=uq ln;have j4:jc (yA false p) (.int 4)=some (.lst false (p.ords.map yH)):=rfl;have i0:jc (yH o) (.int 0)=some (.str o.nm):=rfl;have b1:=yi (yC ns (some 10) none);have b2:=yD (yC ns (some 10) none);have c3:jN (ns.map D.str)=true:=qF _;have fsc:=vq zs;have fsz:=qj zs;have fk:kdD=.lst false [.str y9,.str yQ,.str Vc]:=rfl;have f1:fz (.tup [.lst true (x.en.map e5),jU true (jo p b x),.lst true (x.mv.map eM)])=jdk x (jo p b x):=by
  have j:=zR x.en;have n:=zN x.mv;have q:=uh true (jo p b x);simp[jdk,fz,fzs,j,n,q]
 have f2:fz (.tup [.lst false (x.en.map e5),Kf (jo p b x),.lst false (x.mv.map eM)])=jdk x (jo p b x):=by
  have j:=zR x.en;have n:=zN x.mv;have q:fz (Kf (jo p b x))=jU false (jo p b x):=by simp[Kf,jU,fz,fzs,yK]
  simp[jdk,fz,fzs,j,n,q]
 have f3:yB (.tup [.lst true (x.en.map e5),jU true (jo p b x),.lst true (x.mv.map eM)])=true:=by
  have j:jN (x.en.map e5)=true:=kY λd hd=>by obtain⟨p,_,rfl⟩:=M5.mp hd;rfl
  have n:jN (x.mv.map eM)=true:=kY λd hd=>by obtain⟨p,_,rfl⟩:=M5.mp hd;rfl
  have q:=JF (jo p b x);simp[yB,jN,j,n,q]
 have f4:frz (jdk x (jo p b x))=true:=by rw[<- f1];exact uj _
 have f5:=vv _ f4;have hne:Kl (.lst true [jU true b,.lst true (ln.map eR)]) (.lst true [jU false b,.lst false (ln.map eR)])=some (.bl false):=by
  have kR:kx 18 (ln.map eR)=true:=jbd λd hd=>by
   obtain⟨r,V,rfl⟩:=M5.mp hd;obtain⟨⟨w,s,X⟩,_⟩:=l3 r V;have ww:Wd w:=t w (i▸s|>List.mem_of_mem_drop);have wn:Wd p.nm:=h.nm;have w1:Wd r.1.1/\Wd r.1.2:=by rcases X with e | e<;>rw[e]<;>exact⟨by assumption,by assumption⟩
   show kx 17 [.str r.1.1,.str r.1.2,.int r.2]=true;simp[kx,qK w1.1.2,qK w1.2.2]
  have q1:=wX h k true 16;have q2:=wX h k false 16;refine jgc ?_ ?_ ?_
  ·show(okE 19 (jU true b)&&(kx 18 (ln.map eR)&&true))=true;rw[q1,kR];rfl
  ·show(okE 19 (jU false b)&&(kx 18 (ln.map eR)&&true))=true;rw[q2,kR];rfl
  ·simp[fz,fzs,G,F,H]
 obtain⟨o10,et⟩:=Qk (a0:=some (.lst false (zs.map D.int))) (a1:=some (.int c)) (a2:=some (yA false p)) (a3:=some (yH o)) (a4:=some (jU false b)) (a5:=some (.lst false (ln.map eR))) (a6:=some (.int v)) (a7:=some (.lst true [jU true b,.lst true (ln.map eR)])) (a8:=some (.tup [.dead,.tup [.dead,.dead,.dead,.dead,.int (jo p b x).z],.dead])) (a9:=some (.tup [.lst false (x.en.map e5),Kf (jo p b x),.lst false (x.mv.map eM)])) (l:=[x.en.map e5,(jo p b x).S.map e2,(jo p b x).W.map e2,(jo p b x).R.map e2,(jo p b x).L.map e2,x.mv.map eM]) (o:=none) (by
  intro y hy;have z1:(sz' p.C x.sz).length<=10:=by simp[sz'];omega
  have z2:(sz' p.C x.ow).length<=10:=by simp[sz'];omega
  have z3:(qC b.S x.sv b.R).length<=10:=by simp[qC];omega
  have z4:(sz' p.P x.lv).length<=10:=by simp[sz'];omega
  simp only[M4,List.not_mem_nil,or_false,jo] at hy;rcases hy with rfl | rfl | rfl | rfl | rfl | rfl<;>rw[L0]<;>omega)
 have I:∀ M:Option D,jiZ (vj (xB 8 (lIx 0 jK)) (vj (xB 8 (lIx 0 (lIx 1 jK))) (vj (xB 8 (lIx 1 (lIx 1 jK))) (vj (xB 8 (lIx 2 (lIx 1 jK))) (vj (xB 8 (lIx 3 (lIx 1 jK))) (vj (xB 8 (lIx 2 jK)) jgo)))))) [some (.lst false (zs.map D.int)),some (.int c),some (yA false p),some (yH o),some (jU false b),some (.lst false (ln.map eR)),some (.int v),some (.lst true [jU true b,.lst true (ln.map eR)]),some (.tup [.lst true (x.en.map e5),jU true (jo p b x),.lst true (x.mv.map eM)]),M,none]=some (.lst true ([x.en.map e5,(jo p b x).S.map e2,(jo p b x).W.map e2,(jo p b x).R.map e2,(jo p b x).L.map e2,x.mv.map eM].map (D.lst true)),[some (.lst false (zs.map D.int)),some (.int c),some (yA false p),some (yH o),some (jU false b),some (.lst false (ln.map eR)),some (.int v),some (.lst true [jU true b,.lst true (ln.map eR)]),some (.tup [.dead,.tup [.dead,.dead,.dead,.dead,.int (jo p b x).z],.dead]),M,none]):=λM=>rfl;have J:=ue (g:=jd [] 10) (f:=vz) (I (some (.tup [.lst false (x.en.map e5),Kf (jo p b x),.lst false (x.mv.map eM)])));rw[et] at J;clear et I;generalize D.tup [.dead,.tup [.dead,.dead,.dead,.dead,.int (jo p b x).z],.dead]=DD,D.tup [.lst true (x.en.map e5),jU true (jo p b x),.lst true (x.mv.map eM)]=F1,D.tup [.lst false (x.en.map e5),Kf (jo p b x),.lst false (x.mv.map eM)]=F2,jdk x (jo p b x)=F3,jU true b=BT,jU false b=BF,yA true p=PT,yA false p=PF',yH o=OO,p.ords.map yH=OS at *;generalize(yC ns (some 10) none).map D.str=CC at *;generalize ns.map D.str=NN,ln.map eR=LL,zs.map D.int=ZZ at *;have h7a:jc (.lst true [BT,.lst true LL]) (.int 0)=some BT:=rfl;have h7b:jc (.lst true [BT,.lst true LL]) (.int 1)=some (.lst true LL):=rfl;simp(disch:=first | omega | (simp;done) | (simp;omega)) [Jh,jZ,KO,ep,Y,em,jI,j4,eo,fo,Z,eb,en,es,el,ev,ec,ef,ed,ea,fp,B,E,F,G,hbc,fl1,H,fl3,i0,b1,b2,c3,fsc,fsz,f1,f2,f3,f4,f5,J,hne,h7a,h7b,fz,fzs,frz,frzs,yB,jN,jb]
theorem jd4(ns:List Int)(g:ns.length<=63):∃ s:Int,qw [.lst false (ns.map D.int)]=some (.int s):=by
 obtain⟨h,e,s,a,rfl,_⟩:=jX (G:=jd [] 2) (f:=kP) (xs:=ns.map D.int) (λi ρ=>∃(s:Int) (a:Option D),ρ=[some (.lst false (ns.map D.int)),some (.int s),a]/\0<=s/\s < 2147483647) (by
  rintro i x ρ b ⟨s,a,rfl,s0,s1⟩;rw[List.getElem?_map] at b;obtain⟨y,j,rfl⟩:=Option.map_eq_some_iff.mp b;refine⟨_,_,rfl,.inl ?_,(s*1000003+y+1) % 2147483647,some (.int y),rfl,N9 _ (by decide),N8 _ (by decide)⟩;simp(disch:=omega) [kP,yY,jI]) (ρ:=[some (.lst false (ns.map D.int)),some (.int 0),none]) ⟨0,none,rfl,by decide,by decide⟩
 have c:=vq ns;have d:=qj ns;refine⟨s,?_⟩;generalize ns.map D.int=NN at *;simp[qw,jZ,VE,c,d,e]
theorem jcx(ns:List Int)(h:ns.length<=63)(o:∀ x∈ns,Builtin.Int.intBits x<=2 ^ 20):xZ [.lst false (ns.map D.int)]=some (.bl true):=by
 obtain⟨s,j⟩:=jd4 ns h;have d:=vq ns;have g:fzs (ns.map D.int)=ns.map D.int:=qj ns;obtain⟨p,e,a,rfl⟩:=jX (G:=jd [] 2) (f:=zK) (xs:=kE 0 4) (λi ρ=>∃ a:Option D,ρ=[some (.lst false (ns.map D.int)),some (.int s),a]) (by
  rintro i x ρ l ⟨a,rfl⟩;obtain⟨rfl,hi⟩:=vh l;have m:=yk (c:=s) (k:=700+(0+(i:Int))) (by omega) (by omega);have n:=jhW (zs:=ns) (kf s (700+(0+(i:Int)))) (by omega);refine⟨_,_,rfl,.inl ?_,some (.int (0+(i:Int))),rfl⟩;generalize ns.map D.int=NN at *;simp[zK,m,n,fz,d,g,-Int.zero_add]) (ρ:=[some (.lst false (ns.map D.int)),some (.int s),none]) ⟨none,rfl⟩
 have b:Yw [.int 4]=some (kE 0 4):=rfl;generalize ns.map D.int=NN at *;simp[xZ,jZ,jhk,j,fz,d,g,b,e,lim]
end K27
set_option maxHeartbeats 0
namespace K27
open PySem L2 QD
theorem all_mk{l:PySem.W.OpenLaw}{w:World}{K:PySem.W.Frag}{mg:Str->Option Value}{fa a:Addr}(hfa:mg "law" = some (.ref fa))(_:PySem.W.nsIn K mainGlobals "Fall" = some (some (.ref a)))(T:Txt l.prog w K mg λ_=>a):∃ fd:FuncData,(∀(s:Shared) (v:Value),BindsTo s fd ⟨[v],[]⟩ [("_law_script",v)])/\∀ base:Heap,K.In base->base.Ns mainGlobals mg->FnOk l.prog w K mg base CX0 10 fa fd ["_law_script"] (λvs H Q E=>∀ C:Addr,spP ⟨K,λ_=>C⟩ xZ 1 vs H Q E):=by
 obtain⟨f',fd',F',G'⟩:=(jgK T).2.2.2.2.2.2.2.2.2.2.2.2.2.2.2.2.2.2.2.2.2.2.2.2.2.2.2.2.2.2.2.2.2.2.2.2.2.2.2;cases hfa.symm.trans F'.mgf;obtain⟨⟨oc,od,kV,doc,pm,an,cdv,ct,osl,rfl,_,_⟩,_⟩:=F'.fn;exact⟨_,λs v=>.of_eq rfl,λbase _ _=>(G' base).imp λvs H Q E h=>h a⟩
theorem walk{l:PySem.W.OpenLaw}{q:Program}{loose:List Str}{XP:(Str->Option Value)->Heap->Prop}{YP:World->Heap->Prop}{d:DefRec}{K:Params->PySem.W.Frag}(hn:l.most=some 63)(hdf:d.params.defaults=[])
  (hY:∀(w:World) (h:Heap),YP w h->(K w.params).In h)
  (F:∀(w:World) (mg:Str->Option Value) (fa:Addr) (h:Heap),(K w.params).In h->h.Ns mainGlobals mg->mg d.name=some (.ref fa) ->
   ∃ fd:FuncData,(∀(s:Shared) (u:Value),BindsTo s fd ⟨[u],[]⟩ [("_law_script",u)])/\∀ base:Heap,(K w.params).In base->base.Ns mainGlobals mg->FnOk l.prog w (K w.params) mg base CX0 10 fa fd ["_law_script"] (λvs H Q E=>∀ C:Addr,spP ⟨K w.params,λ_=>C⟩ xZ 1 vs H Q E)) :
  PySem.W.WalkO q loose XP YP l.row.toRowW d [] (λf vs=>PySem.call f vs) :=
 L2.walk_ofB (n:=63) (k:=10) (x:="_law_script") (CX:=λ_=>CX0) (sp:=λw=>(λvs H Q E=>∀ C:Addr,spP ⟨K w.params,λ_=>C⟩ xZ 1 vs H Q E)) hn (by decide) hdf ⟨rfl,by decide,by decide⟩ hY F (λ_ H a ns hl hb _ hS=>λC=>jgZ (jcx ns hl hb) hS) λ_ _ _ _ _ z=>z
end K27
namespace PySem.W.Fast
def tw4768535534384113287:=0
def tw14301470076473105168:=0
def tw12385998105023305378:=0
def tw11048082836906404426:=0
def tw2438961378065060572:=0
def tw11183281086251915430:=0
def tw1871892589837383320:=0
def tw9401338669828819411:=0
def tw2906036243535457089:=0
def tw4185203006717869503:=0
def tw1791233333756329262:=0
def tw18224712192344847430:=0
def tw9252303341260949416:=0
def tw704418478076015920:=0
def tw11966562137276748457:=0
def tw14197792497434075819:=0
def tw11961079396075547415:=0
def tw17286899722965420059:=0
def tw9002137558441917989:=0
def tw6586760931238145162:=0
def tw10431775576157631704:=0
def tw1560494633281193979:=0
def tw8753436873840362226:=0
def tw6318265025916913554:=0
def tw10772298919956966278:=0
def tw3745197649844328298:=0
def tw5862928211105367216:=0
def tw3100553792102436509:=0
def tw5006797728944220396:=0
def tw7973945855097582674:=0
def tw7808868356999621875:=0
def tw5161659113935067260:=0
def tw9099637943157162821:=0
def tw9069060553444544684:=0
def tw7501714042909139487:=0
def tw3878087488406612586:=0
def tw6631646543690711788:=0
def tw930324037003342009:=0
def tw9285017875861542052:=0
def tw11021844372524208695:=0
def tw6926388333943126501:=0
def tw1593661853975274595:=0
def tw10578081802073421833:=0
def tw3107233506240922197:=0
def tw14744616611554563683:=0
def tw14712741809721924268:=0
def tw7646235798915721611:=0
def tw14566950691056670476:=0
def tw15265383012657620276:=0
def tw9818989072941560146:=0
def tw14718970714554658139:=0
def tw2406065966949936885:=0
def tw4618106667377767292:=0
def tw3421546528737290900:=0
def tw3764808540046716586:=0
def tw2141956887054734418:=0
def tw3457857902831718415:=0
def tw16313635134198553319:=0
def tw17069187660483885297:=0
def tw15191067026846097647:=0
def tw18124821716027022367:=0
def tw1973462449700487793:=0
def tw5944658954719792882:=0
def tw7463783747263394940:=0
def tw7684488359303432464:=0
def tw13790742459136141804:=0
def tw13643831163442626887:=0
def tw918710244697934830:=0
def tw5666113607601503730:=0
def tw18041744561751593375:=0
def tw718665442273722090:=0
def tw13245026370293302644:=0
def tw5844230162387389042:=0
def tw595985668488677047:=0
def tw1334375913736969760:=0
def tw5880935832839732357:=0
def tw15879607888894099665:=0
def tw16320217576555818091:=0
def tw11791309713600205995:=0
def tw2674037758782093634:=0
def tw3399016073232781885:=0
def tw17754603811227295916:=0
def tw9081360631314427782:=0
def tw7643499872870346414:=0
def tw3915699302519555635:=0
def tw10562514384065453818:=0
def tw5399295811343037729:=0
def tw291366642103546688:=0
def tw1076944126620182558:=0
def tw216881579777186009:=0
def tw3836829937191842503:=0
def tw14339843234819326979:=0
def tw17390529390541531798:=0
def tw7657943418475801281:=0
def tw3439690166746113437:=0
def tw16569147569646091312:=0
def tw16885137753615613692:=0
def tw3317042327438608476:=0
def tw8709705246037070714:=0
def tw6476000922994072625:=0
end PySem.W.Fast
set_option maxHeartbeats 0
open PySem PySem.W PyProof.Rows
set_option maxRecDepth 100000 in
set_option maxHeartbeats 0 in
theorem PySem.Challenge.cw_tranchefall_k27_lends_and_backs_holds : PySem.Challenge.rw_tranchefall_k27_lends_and_backs.Holds := by
 w_on;o_law;k_head;(case hw=>w_witness2)
 k_fill
 refine K27.walk (l:=PySem.Challenge.rw_tranchefall_k27_lends_and_backs) rfl rfl (λw h Y=>PySem.W.kIn_of Y) ?F
 case F =>
  intro w mg fa h KX G hmg;refine' K27.all_mk hmg ?c ?t
  (case c=>k_is)
  case t =>
   constructor
   all_goals first
    | ((first | refine⟨QD.fsc,QD.hasF KX G (by k_is) (by k_is) (by k_is) (by k_is) ?_⟩ | refine⟨QD.fsc,QD.hasM (by k_is) (by k_is) (by k_is) (by k_is) (by k_is) ?_⟩);first | exact λ_ _ _ _ _ _ us hl=>(match us,hl with | [_],_=>rfl) | exact λ_ _ _ _ _ _ us hl=>(match us,hl with | [_,_],_=>rfl) | exact λ_ _ _ _ _ _ us hl=>(match us,hl with | [_,_,_],_=>rfl) | exact λ_ _ _ _ _ _ us hl=>(match us,hl with | [_,_,_,_],_=>rfl) | exact λ_ _ _ _ _ _ us hl=>(match us,hl with | [_,_,_,_,_],_=>rfl) | exact λ_ _ _ _ _ _ us hl=>(match us,hl with | [_,_,_,_,_,_],_=>rfl) | exact λ_ _ _ _ _ _ us hl=>(match us,hl with | [_,_,_,_,_,_,_,_,_],_=>rfl))
    | exact PySem.W.mg_none_of KX G (by k_is) | exact PySem.W.mg_of KX G (by k_is) | exact⟨by k_is,by k_is,by k_is,by k_is⟩ | k_is | (show PySem.W.findIn _ _ _=_;k_is)
