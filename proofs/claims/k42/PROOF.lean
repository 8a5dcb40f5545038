import PyProof.Rows.All
import Wide.All
import OpenK.AllK
import Wide.FinOn
import Lean
import PyProof.EqAt
import PyProof.EqKinds
import PyProof.TupleCall
import KE.KItemsList
import KE.KRevIter
import PyProof.CollectIter
import PyProof.DictWalks
import PyProof.WalksMore
import PyProof.SumWalkG
import KE.KSortTup
import PyProof.Draws
import PySem.Challenge.RW_tranchefall_k42_steps_of_pays
set_option Elab.async false
set_option linter.all false
set_option maxRecDepth 100000
section
open PySem PySem.Spec PyProof.Rows
abbrev L1:=@List.length_map
abbrev L3:=@wpAny_bind
abbrev L4:=@Option.bind_some
abbrev L5:=@List.map_cons
abbrev L6:=@List.mem_cons_of_mem
abbrev L7:=@List.mem_cons_self
abbrev L8:=@Heap.get?_push_of_some
abbrev L9:=@List.getElem?_eq_some_iff
abbrev M0:=@Bool.and_eq_true
abbrev M3:=@List.length_cons
abbrev M4:=@Bool.false_ne_true
abbrev M5:=@List.mem_cons
abbrev M6:=@List.mem_map
abbrev M7:=@wpAny_pure
abbrev M8:=@List.mem_singleton
abbrev M9:=@Nat.le_refl
abbrev N0:=@List.append_nil
abbrev N1:=@Heap.lt_size
abbrev N3:=@List.mem_append
abbrev N4:=@List.size_toArray
abbrev N5:=@List.length_append
abbrev N6:=@List.map_append
abbrev N7:=@Nat.ne_of_lt
abbrev N8:=@Nat.le_trans
abbrev N9:=@Int.toNat_natCast
abbrev U0:=@Int.emod_lt_of_pos
abbrev U1:=@Int.emod_nonneg
abbrev U2:=@List.map_map
abbrev U3:=@beq_eq_false_iff_ne
abbrev U4:=@List.mem_append_right
abbrev U5:=@Nat.lt_of_lt_of_le
abbrev U6:=@Nat.zero_le
abbrev U7:=@wpAny_field
abbrev U8:=@List.zip_cons_cons
abbrev U9:=@List.count_append
abbrev X1:=@List.nodup_append
abbrev X2:=@List.foldl_cons
abbrev X4:=@decide_eq_true
abbrev X5:=@decide_eq_false
abbrev X6:=@of_decide_eq_true
abbrev X7:=@Option.some.inj
abbrev X8:=@List.nil_append
abbrev X9:=@List.getElem?_eq_getElem
abbrev E1:=@List.length_take
abbrev E2:=@Heap.get?_push_size
abbrev E3:=@Nat.lt_of_le_of_lt
end
namespace L2
open PySem PySem.Spec PyProof.Rows
noncomputable abbrev Key:=Sum Int Str
noncomputable def jaH:Key->Value->Bool
 | .inl k,v=>Value.isInt k v
 | .inr x,v=>Value.isStrOf x v
noncomputable def jnJ(w:World):Key->Int
 | .inl k=>hashInt k
 | .inr x=>hashStr w x
theorem yW:∀{k:Key}{v:Value},jaH k v=true->(∃ i t,k=Sum.inl i/\v=Value.int i t) \/ (∃ x t,k=Sum.inr x/\v=Value.str x t)
 | .inl i,v,h=>by
  obtain⟨t,e⟩:=Value.isInt_shape (k:=i) (v:=v) h;exact .inl ⟨i,t,rfl,e⟩
 | .inr x,v,h=>by
  obtain⟨t,e⟩:=Value.isStrOf_shape (x:=x) (v:=v) h;exact .inr ⟨x,t,rfl,e⟩
theorem jfm(i:Int)(t:Tok):jaH (.inl i) (.int i t)=true:=by simp[jaH,Value.isInt]
theorem jec(x:Str)(t:Tok):jaH (.inr x) (.str x t)=true:=by simp[jaH,Value.isStrOf]
theorem jl3(a b:Int):decide ((Sum.inl a:Key)=Sum.inl b)=(a==b):=by
 by_cases e:a=b
 ·subst e;simp
 ·have h:¬ (Sum.inl a:Key)=Sum.inl b:=λq=>e (Sum.inl.inj q);rw[X5 h];exact(U3.mpr e).symm
theorem jkd(a b:Str):decide ((Sum.inr a:Key)=Sum.inr b)=decide (a=b):=by
 by_cases e:a=b
 ·subst e;simp
 ·have h:¬ (Sum.inr a:Key)=Sum.inr b:=λq=>e (Sum.inr.inj q);rw[X5 h,X5 e]
theorem jkC(a:Int)(b:Str):decide ((Sum.inl a:Key)=Sum.inr b)=false:=X5 (λq=>nomatch q)
theorem jkB(a:Str)(b:Int):decide ((Sum.inr a:Key)=Sum.inl b)=false:=X5 (λq=>nomatch q)
noncomputable def yp(prog:Program)(w:World):PySem.KeyKind prog w Key where
 is:=jaH
 hash:=jnJ w
 inj:=λv a b ha hb=>by
  rcases yW ha with⟨i,t,rfl,rfl⟩ | ⟨x,t,rfl,rfl⟩
  ·rcases yW hb with⟨j,u,rfl,e⟩ | ⟨y,u,rfl,e⟩
   ·injection e with e1 _;rw[e1]
   ·exact nomatch e
  ·rcases yW hb with⟨j,u,rfl,e⟩ | ⟨y,u,rfl,e⟩
   ·exact nomatch e
   ·injection e with e1 _;rw[e1]
 byValue:=λk v h=>by
  rcases yW h with⟨i,t,rfl,rfl⟩ | ⟨x,t,rfl,rfl⟩<;>rfl
 pyHash:=λhv h=>by
  rcases yW hv with⟨i,t,rfl,rfl⟩ | ⟨x,t,rfl,rfl⟩
  ·exact wpAny_pyHash_int h
  ·exact wpAny_pyHash_str h
 eqBool:=λhu hv h=>by
  rcases yW hu with⟨i,t,rfl,rfl⟩ | ⟨x,t,rfl,rfl⟩
  ·rcases yW hv with⟨j,u,rfl,rfl⟩ | ⟨y,u,rfl,rfl⟩
   ·rw[jl3] at h;exact wpAny_eqBool_int h
   ·rw[jkC] at h;exact SeqAt.EqAt.int_str i t y u _ _ _ _ h
  ·rcases yW hv with⟨j,u,rfl,rfl⟩ | ⟨y,u,rfl,rfl⟩
   ·rw[jkB] at h;exact SeqAt.EqAt.str_int x t j u _ _ _ _ h
   ·rw[jkd] at h;exact wpAny_eqBool_str h
 «strs»:=λk x t v h=>by
  rcases yW h with⟨i,u,rfl,e⟩ | ⟨y,u,rfl,e⟩
  ·exact nomatch e
  ·injection e with e1 _;subst e1;cases v<;>rfl
theorem jcX(prog:Program)(w:World)(k:Key)(v:Value):(yp prog w).is k v=jaH k v:=rfl
theorem jbe(prog:Program)(w:World)(i:Int)(t:Tok):(yp prog w).is (.inl i) (.int i t)=true:=jfm i t
theorem jbl(prog:Program)(w:World)(x:Str)(t:Tok):(yp prog w).is (.inr x) (.str x t)=true:=jec x t
inductive V where
 | non | bl (b:Bool) | int (i:Int) | str (x:Str) | byt (b:Array UInt8) | flt (b:UInt64) | ref (a:Addr) | ty (n:String)
 deriving DecidableEq
def RelV:V->Value->Prop
 | .non,u=>u=Value.none
 | .bl b,u=>u=Value.bool b
 | .int i,u=>∃ t,u=Value.int i t
 | .str x,u=>∃ t,u=Value.str x t
 | .byt b,u=>∃ t,u=Value.bytes b t
 | .flt b,u=>∃ t,u=Value.float b t
 | .ref a,u=>u=Value.ref a
 | .ty n,u=>u=Value.type n
abbrev Vals:List V->List Value->Prop:=Paired RelV
theorem Vals.length{xs:List V}{us:List Value}(r:Vals xs us):xs.length=us.length:=Paired.length r
theorem Vals.get:∀{xs:List V}{us:List Value}{i:Nat}{x:V},Vals xs us->xs[i]?=some x->∃ u,us[i]?=some u/\RelV x u
 | _,_,_,_,.nil,e=>by simp at e
 | _,_,0,_,.cons r _,e=>by simp at e;subst e;exact⟨_,rfl,r⟩
 | _,_,i+1,x,.cons _ t,e=>by
  obtain⟨u,a,b⟩:=Vals.get (i:=i) (x:=x) t (by simpa using e);exact⟨u,by simpa using a,b⟩
theorem Vals.append:∀{xs ys:List V}{us ws:List Value},Vals xs us->Vals ys ws->Vals (xs++ys) (us++ws)
 | _,_,_,_,.nil,s=>s
 | _,_,_,_,.cons r t,s=>.cons r (Vals.append t s)
theorem Vals.take:∀{xs:List V}{us:List Value}(n:Nat),Vals xs us->Vals (xs.take n) (us.take n)
 | _,_,0,_=>.nil
 | _,_,_+1,.nil=>.nil
 | _,_,n+1,.cons r t=>.cons r (Vals.take n t)
theorem Vals.drop:∀{xs:List V}{us:List Value}(n:Nat),Vals xs us->Vals (xs.drop n) (us.drop n)
 | _,_,0,r=>r
 | _,_,_+1,.nil=>.nil
 | _,_,n+1,.cons _ t=>Vals.drop n t
def RelO:Option V->Option Value->Prop
 | some v,some u=>RelV v u
 | none,none=>True
 | _,_=>False
def KV{κ:Type}:List (κ×V)->List (κ×Value)->Prop:=Paired λ(p:κ×V) (q:κ×Value)=>p.1=q.1/\RelV p.2 q.2
noncomputable def kV:Key->V
 | .inl i=>.int i
 | .inr x=>.str x
inductive HO where
  | lst (xs:List V)
  | tup (xs:List V)
  | dK (kvs:List (Key×V)) | dT (kvs:List (List Key×V))
  | set (S:Int->Bool) (n:Nat)
  | ins (C dx:Addr) (fs:List (Str×V))
  | own (x:Addr)
  | xd (fs:List (Str×V))
  | met (f x:Addr)
  | rng (lo hi:Int)
  | frz (o:Obj) (u:HO)
  | tbl (ps:Array Value)
  | ext (φ:Heap->Prop)
noncomputable abbrev Hp:=Addr->Option HO
noncomputable def upd(H:Hp)(a:Addr)(o:HO):Hp:=λb=>if b=a then some o else H b
theorem jy{H:Hp}{a:Addr}{o:HO}:upd H a o a=some o:=by unfold upd;rw[if_pos rfl]
theorem jm{H:Hp}{a b:Addr}{o:HO}(h:b≠a):upd H a o b=H b:=by unfold upd;rw[if_neg h]
theorem jms{H:Hp}{a b:Addr}{o u:HO}(h:H a=some o)(h':H b=some u)(d:o≠u):a≠b:=by
 intro e;subst e;rw[h] at h';exact d (X7 h')
theorem JS{H:Hp}{a b:Addr}{o:HO}(h:H a=some o)(h':H b=none):a≠b:=by
 intro e;subst e;rw[h] at h';cases h'
def IsTupN(h:Heap)(a:Addr)(its:Array Value):Prop:=IsTup h a its/\∃ o,h.get? a=some o/\o.dict=none
theorem IsTupN.new(h:Heap)(its:Array Value):IsTupN (h.push { cls:=.type "tuple",data:=.seq its }) h.objs.size its:=⟨IsTup.new h its,_,E2 _ rfl,rfl⟩
theorem IsTupN.lt{h:Heap}{a:Addr}{its:Array Value}(x:IsTupN h a its):a < h.objs.size:=x.1.lt
section
variable (P:Program)(w:World)
def ObjOk(H:Hp)(h:Heap)(a:Addr):HO->Prop
 | .lst xs=>xs.length<=sizeLine/\∃(its:List Value) (n:Nat),Vals xs its/\h.get? a=some { cls:=.type "list",data:=.seq its.toArray n }
 | .tup xs=>xs.length<=sizeLine/\∃ its:List Value,Vals xs its/\IsTupN h a its.toArray
 | .dK kvs=>kvs.length<=sizeLine/\(a==sysModules)=false/\∃ vs,KV kvs vs/\h.DictOf (yp P w) a vs
 | .dT kvs=>kvs.length<=sizeLine/\(a==sysModules)=false/\∃ xs:List (List Key×Addr×Value),
   Paired (λ(p:List Key×V) (q:List Key×Addr×Value)=>p.1=q.1/\H q.2.1=some (.tup (p.1.map kV))/\RelV p.2 q.2.2) kvs xs /\
   ∃ o es ep,h.get? a=some o/\o.ExactDict/\o.data=.dict es ep/\es.toList=xs.map (entryOfKey (tupleKind (yp P w)))/\(xs.map (·.1)).Nodup
 | .set S n=>h.SetOf (intKind P w) a S n
 | .ins C dx fs=>H dx=some (.own a)/\fs.length<=1000/\dx≠a/\h.get? a=some (PySem.W.instObj C dx) /\
   ∃ mA,h.Ns1 dx mA/\(∀ f,RelO (fs.lookup f) (mA f))/\PySem.Within mA (fs.map (·.1))
 | .own _=>∃ o,h.get? a=some o
 | .xd fs=>∃ mA,h.Ns1 a mA/\∀ f,RelO (fs.lookup f) (mA f)
 | .rng lo hi=>∃ t u v,h.get? a=some { cls:=.type "range",data:=.fields #[.int lo t,.int hi u,.int 1 v] }
 | .frz o u=>h.get? a=some o/\ObjOk H h a u
 | .tbl ps=>h.get? a=some { cls:=.none,data:=.fields ps }
 | .met f x=>h.get? a=some (PySem.W.methodObj (.ref f) (.ref x))
 | .ext φ=>φ h/\(∃ o,h.get? a=some o)/\∀ h1 h2:Heap,φ h1->(∀ o,h1.get? a=some o->h2.get? a=some o)->φ h2
def HOk(H:Hp)(h:Heap):Prop:=∀ a o,H a=some o->ObjOk P w H h a o
end
section
variable {P:Program}{w:World}{H H':Hp}{h h':Heap}{a:Addr}{o:HO}
theorem ObjOk.lt(x:ObjOk P w H h a o):a < h.objs.size:=by
 cases o with
 | lst c=>obtain⟨_,_,_,_,e⟩:=x;exact N1 e
 | tup c=>obtain⟨_,_,_,p⟩:=x;exact p.lt
 | dK b=>obtain⟨_,_,_,_,o,_,_,e,_⟩:=x;exact N1 e
 | dT b=>obtain⟨_,_,_,_,o,_,_,e,_⟩:=x;exact N1 e
 | set S n=>obtain⟨o,_,_,_,e,_⟩:=x;exact N1 e
 | ins C d fs=>obtain⟨_,_,_,e,_⟩:=x;exact N1 e
 | own y=>obtain⟨_,e⟩:=x;exact N1 e
 | xd fs=>obtain⟨_,⟨_,_,_,e,_⟩,_⟩:=x;exact N1 e
 | rng g i=>obtain⟨_,_,_,e⟩:=x;exact N1 e
 | frz ob u=>obtain⟨e,_⟩:=x;exact N1 e
 | tbl j=>exact N1 (show h.get? a=some _ from x)
 | met f y=>exact N1 (show h.get? a=some _ from x)
 | ext φ=>obtain⟨_,⟨_,e⟩,_⟩:=x;exact N1 e
theorem Paired.mapP{α β:Type}{F G:α->β->Prop}:∀{l₁:List α}{l₂:List β},Paired F l₁ l₂->(∀ a b,F a b->G a b)->Paired G l₁ l₂
 | _,_,.nil,_=>.nil
 | _,_,.cons r t,f=>.cons (f _ _ r) (Paired.mapP t f)
theorem ObjOk.stay(x:ObjOk P w H h a o)(k:∀ b u,(b=a \/ H b=some (.own a))->h.get? b=some u->h'.get? b=some u)
  (E:∀ b,H b=some (.own a)->H' b=some (.own a)) (F:∀ b xs,H b=some (.tup xs)->H' b=some (.tup xs)):ObjOk P w H' h' a o:=by
 induction o with
 | lst xs=>obtain⟨z,j,n,r,e⟩:=x;exact⟨z,j,n,r,k _ _ (.inl rfl) e⟩
 | tup xs=>obtain⟨z,j,r,⟨ob,e,c⟩,l,m,G⟩:=x;exact⟨z,j,r,⟨ob,k _ _ (.inl rfl) e,c⟩,l,k _ _ (.inl rfl) m,G⟩
 | dK s=>obtain⟨z,y,I,r,ob,g,i,e,c⟩:=x;exact⟨z,y,I,r,ob,g,i,k _ _ (.inl rfl) e,c⟩
 | dT s =>
  obtain⟨z,y,xs,r,ob,g,i,e,c⟩:=x;exact⟨z,y,xs,Paired.mapP r λp q z=>⟨z.1,F _ _ z.2.1,z.2.2⟩,ob,g,i,k _ _ (.inl rfl) e,c⟩
 | set S n=>obtain⟨ob,g,i,t,e,c⟩:=x;exact⟨ob,g,i,t,k _ _ (.inl rfl) e,c⟩
 | ins C K fs =>
  obtain⟨d,z,ne,e,A,⟨od,g,i,m,c⟩,r⟩:=x;exact⟨E _ d,z,ne,k _ _ (.inl rfl) e,A,⟨od,g,i,k _ _ (.inr d) m,c⟩,r⟩
 | own y=>obtain⟨ob,e⟩:=x;exact⟨ob,k _ _ (.inl rfl) e⟩
 | xd fs=>obtain⟨A,⟨od,g,i,e,c⟩,r⟩:=x;exact⟨A,⟨od,g,i,k _ _ (.inl rfl) e,c⟩,r⟩
 | rng L M=>obtain⟨t,u,v,e⟩:=x;exact⟨t,u,v,k _ _ (.inl rfl) e⟩
 | frz ob u J=>obtain⟨e,q⟩:=x;exact⟨k _ _ (.inl rfl) e,J q⟩
 | tbl B =>
  have e:h.get? a=some { cls:=.none,data:=.fields B }:=x;show h'.get? a=some { cls:=.none,data:=.fields B };exact k a _ (.inl rfl) e
 | met f y =>
  have e:h.get? a=some (PySem.W.methodObj (.ref f) (.ref y)):=x;show h'.get? a=some (PySem.W.methodObj (.ref f) (.ref y));exact k a _ (.inl rfl) e
 | ext φ=>obtain⟨p,⟨o,e⟩,D⟩:=x;exact⟨D _ _ p λo q=>k _ _ (.inl rfl) q,⟨o,k _ _ (.inl rfl) e⟩,D⟩
theorem HOk.lt(x:HOk P w H h)(e:H a=some o):a < h.objs.size:=(x a o e).lt
theorem HOk.fresh(x:HOk P w H h)(e:h.objs.size<=a):H a=none:=by
 cases q:H a with
 | none=>rfl
 | some u=>exact absurd (U5 (x.lt q) e) (Nat.lt_irrefl _)
theorem HOk.kept(x:HOk P w H h)(k:∀ b u,h.get? b=some u->h'.get? b=some u):HOk P w H h':=λa o e =>
 (x a o e).stay (λb u _ q=>k b u q) (λ_ q=>q) λ_ _ q=>q
theorem HOk.laid(x:HOk P w H h)(k:∀ b u,h.get? b=some u->h'.get? b=some u)(g:h.objs.size<=a)(new:ObjOk P w (upd H a o) h' a o):HOk P w (upd H a o) h':=λb u e=>by
 have d:=x.fresh g;by_cases f:b=a
 ·subst f;rw[jy] at e;cases e;exact new
 ·rw[jm f] at e;exact(x b u e).stay (λc v _ q=>k c v q) (λc q=>by rw[jm (JS q d)];exact q) λc i q=>by rw[jm (JS q d)];exact q
end
def Rd(H:Hp)(a:Addr)(u:HO):Prop:=H a=some u \/ ∃ o,H a=some (.frz o u)
theorem Rd.ok{P:Program}{w:World}{H:Hp}{h:Heap}{a:Addr}{u:HO}(r:Rd H a u)(x:HOk P w H h):ObjOk P w H h a u:=by
 rcases r with r | ⟨o,r⟩
 ·exact x a u r
 ·obtain⟨_,q⟩:=x a _ r;exact q
def Mut:Option HO->Prop
 | some (.lst _)=>True
 | some (.dK _)=>True
 | some (.dT _)=>True
 | some (.set _ _)=>True
 | some (.ins _ _ _)=>True
 | some (.ext _)=>True
 | _=>False
section
variable {P:Program}{w:World}{H:Hp}{h h':Heap}{x e:Addr}{o':HO}
theorem HOk.write(ok:HOk P w H h)(g:Mut (H x))(n:e=x \/ H e=some (.own x))(k:∀ b u,b≠e->h.get? b=some u->h'.get? b=some u)(m:∃ u,h'.get? e=some u)
  (new:ObjOk P w (upd H x o') h' x o'):HOk P w (upd H x o') h':=λb u q=>by
 have d:∀ c y,H c=some (.own y)->c≠x:=λc y r z=>by subst z;rw[r] at g;exact g
 have f:∀ c i,H c=some (.tup i)->c≠x:=λc i r z=>by subst z;rw[r] at g;exact g
 by_cases j:b=x
 ·subst j;rw[jy] at q;cases q;exact new
 ·rw[jm j] at q;by_cases a:b=e
  ·have o:H b=some (.own x):=by
    rcases n with z | z
    ·exact absurd (a.trans z) j
    ·rw[a];exact z
   rw[q] at o;cases o;obtain⟨v,p⟩:=m;exact⟨v,by rw[a];exact p⟩
  ·refine(ok b u q).stay (λc v l r=>k c v ?_ r) (λc r=>by rw[jm (d c b r)];exact r) λc i r=>by rw[jm (f c i r)];exact r
   rcases l with rfl | l
   ·exact a
   ·rintro rfl;rcases n with z | z
    ·exact d c b l z
    ·rw[l] at z;cases z;exact j rfl
end
structure Un(fs ex:List Addr)(H H':Hp)(h h':Heap):Prop where
 keep:∀ b o,h.get? b=some o->H b=none->b∉fs->b∉ex->h'.get? b=some o
 slot:∀ b o,h.get? b=some o->H b=none->b∈fs->b∉ex->∃ sl,h'.get? b=some { o with slots:=sl }
 free:∀ b o,h.get? b=some o->H b=none->b∉ex->H' b=none
 there:∀ b o,h.get? b=some o->b∉ex->∃ o',h'.get? b=some o'
 tups:∀ b xs,H b=some (.tup xs)->H' b=some (.tup xs)
 frzs:∀ b o u,H b=some (.frz o u)->H' b=some (.frz o u)
 tbls:∀ b ps,H b=some (.tbl ps)->∃ more,H' b=some (.tbl (ps++more))
section
variable {fs fs' ex ex':List Addr}{H H1 H2:Hp}{h h1 h2 h':Heap}{a x e:Addr}{o:HO}
theorem Un.any(u:Un fs ex H H1 h h1){b:Addr}{ob:Obj}(q:h.get? b=some ob)(n:H b=none)(a:b∉ex):∃ sl,h1.get? b=some { ob with slots:=sl }:=by
 by_cases c:b∈fs
 ·exact u.slot b ob q n c a
 ·exact⟨ob.slots,u.keep b ob q n c a⟩
theorem Un.kept(k:∀ b u,h.get? b=some u->h'.get? b=some u):Un fs ex H H h h' :=
 ⟨λb ob q _ _ _=>k b ob q,λb ob q _ _ _=>⟨ob.slots,k b ob q⟩,λ_ _ _ n _=>n,λb ob q _=>⟨ob,k b ob q⟩,λ_ _ q=>q,λ_ _ _ q=>q,λ_ a q=>⟨#[],by rw[q];simp⟩⟩
theorem Un.refl:Un fs ex H H h h:=Un.kept λ_ _ q=>q
theorem Un.laid(k:∀ b u,h.get? b=some u->h'.get? b=some u)(c:h.objs.size<=a)(hn:H a=none):Un fs ex H (upd H a o) h h' where
 keep:=λb u q _ _ _=>k b u q
 slot:=λb u q _ _ _=>⟨u.slots,k b u q⟩
 free:=λb u q n _=>by rw[jm (N7 (U5 (N1 q) c))];exact n
 there:=λb u q _=>⟨u,k b u q⟩
 tups:=λb d q=>by rw[jm (JS q hn)];exact q
 frzs:=λb u d q=>by rw[jm (JS q hn)];exact q
 tbls:=λb e q=>⟨#[],by rw[jm (JS q hn),q];simp⟩
theorem Un.write(c:Mut (H x))(j:e=x \/ H e=some (.own x))(k:∀ b u,b≠e->h.get? b=some u->h'.get? b=some u)(d:∃ u,h'.get? e=some u):Un fs ex H (upd H x o) h h':=by
 have g:∀ b,H b=none->b≠x:=λb n z=>by subst z;rw[n] at c;exact c
 have i:∀ b,H b=none->b≠e:=λb n z=>by
  subst z;rcases j with r | r
  ·exact g b n r
  ·rw[n] at r;cases r
 have f:∀ b u,H b=some u->¬ Mut (some u)->b≠x:=λb u q nm z=>by subst z;rw[q] at c;exact nm c
 refine⟨λb u q n _ _=>k b u (i b n) q,λb u q n _ _=>⟨u.slots,k b u (i b n) q⟩,λb u q n _=>by rw[jm (g b n)];exact n,λb u q _=>?_,
  λb l q=>by rw[jm (f b _ q λz=>z)];exact q,λb u l q=>by rw[jm (f b _ q λz=>z)];exact q,λb m q=>⟨#[],by rw[jm (f b _ q λz=>z),q];simp⟩⟩
 by_cases a:b=e
 ·subst a;exact d
 ·exact⟨u,k b u a q⟩
end
noncomputable def trk(h:Heap)(H:Hp):List Addr:=(List.range h.objs.size).filter λa=>(H a).isSome
noncomputable def jgq(h:Heap)(H:Hp):Heap:=PySem.W.hideAll h (trk h H)
theorem jeL(h:Heap)(H:Hp):(jgq h H).objs.size=h.objs.size:=PySem.W.hideAll_size _ _
theorem jfD{h:Heap}{H:Hp}{b:Addr}{o:Obj}(e:h.get? b=some o)(n:H b=none):(jgq h H).get? b=some o :=
 PySem.W.hideAll_get _ e λa=>by
  have q:(H b).isSome=true:=(List.mem_filter.mp a).2;rw[n] at q;simp at q
theorem jib{h:Heap}{H:Hp}{b:Addr}{o:Obj}(e:(jgq h H).get? b=some o):h.get? b=some o/\H b=none:=by
 have a:h.get? b=some o:=PySem.W.of_hideAll (trk h H) e;refine⟨a,?_⟩;cases q:H b with
 | none=>rfl
 | some x =>
  have c:b∈trk h H:=List.mem_filter.mpr ⟨List.mem_range.mpr (N1 a),by simp[q]⟩;have z:(jgq h H).get? b=none:=PySem.W.hideAll_none (trk h H) c;rw[z] at e;cases e
noncomputable def jjO(g h:Heap)(L:Addr):List (Addr×Obj):=(List.range h.objs.size).filterMap λa=>if a=L \/ (g.get? a).isSome=true then none else(h.get? a).map λo=>(a,o)
noncomputable def rest(g h:Heap)(L d:Addr):List (Addr×Obj):=(jjO g h L).filter λp=>decide (p.1≠d)
structure Mod(K:PySem.W.Frag)(mg:Str->Option Value)(base:Heap):Prop where
 kin:K.In base
 glob:base.Ns mainGlobals mg
 blt:∃ mb,base.Ns builtinsNs mb/\∀ x:Str,x≠"__name__"->mb x=bootBuiltins x
 nolimit:base.NoLimit
structure Cx where
 prog:Program
 w:World
 K:PySem.W.Frag
 mg:Str->Option Value
 base:Heap
 A:Around
 N:List Str
 s₀:Shared
 H₀:Hp
 env:Env
 outer:List Env
 stack:List Env
 ex:List Addr
 fn:Str->Bool
 calm:Bool
 pn:List (Addr×Obj)
 xe:Value->Shared->Prop
noncomputable def frs(l:List Env):List Addr:=l.filterMap (·.frame)
noncomputable abbrev Cx.fs(X:Cx):List Addr:=frs X.outer
def Vis(sc:Scope)(x:Str):Prop:=sc.names.lookup x=some .local \/ sc.names.lookup x=some .cell \/ sc.names.lookup x=some .free
def Loc(sc:Scope)(x:Str):Prop:=sc.names.lookup x=some .local \/ sc.names.lookup x=some .cell
def jnL(env:Env)(h:Heap)(m:Str->Option Value)(x:Str)(u:Value):Prop :=
 (env.kindOf x=some .local/\m x=some u) \/ ((env.kindOf x=some .cell \/ env.kindOf x=some .free)/\∃ c,env.cells.lookup x=some c/\h.IsCell c (some u))
structure Cx.Ok(X:Cx):Prop where
 mod:Mod X.K X.mg X.base
 kind:X.env.scope.kind=.function
 glob:X.env.globals=mainGlobals
 blt:X.env.builtins=builtinsNs
 above:X.s₀.heap.objs.size<=X.env.locals
 inj:∀ x y c,X.env.cells.lookup x=some c->X.env.cells.lookup y=some c->x=y
 has:∀ x,(X.env.kindOf x=some .cell \/ X.env.kindOf x=some .free)->∃ c,X.env.cells.lookup x=some c
 cab:∀ x c,X.fn x=true->X.env.cells.lookup x=some c->X.s₀.heap.objs.size<=c
 hd:X.calm=true->X.A.handled=none
 frames:X.A.frames=some X.stack
 stk:X.stack=X.outer \/ (X.stack=X.env::X.outer/\X.env.frame=some X.env.locals)
 exf:∀ b∈X.ex,b≠X.env.locals/\∀ x c,X.env.cells.lookup x=some c->c≠b
 bs:∀ b o,X.base.get? b=some o->X.s₀.heap.get? b=some o/\X.H₀ b=none
 bsz:X.base.objs.size<=X.s₀.heap.objs.size
 noex:∀ b o,X.base.get? b=some o->b∉X.ex
 exfs:∀ b∈X.ex,b∉X.fs
 funs:X.s₀.heap.FunFrames X.base X.outer
 frf:∀ b∈X.fs,X.H₀ b=none
structure Inv(X:Cx)(pins:List (Addr×Obj))(σ:List (Option V))(H:Hp)(s:Shared):Prop where
 ok:X.Ok
 os:s.os=X.s₀.os
 bare:AllBare s.gens
 base:Un X.fs X.ex X.H₀ H X.s₀.heap s.heap
 loc:∃ m,s.heap.Ns X.env.locals m/\∀(i:Nat) (x:Str) (v:V),X.N[i]?=some x->σ[i]?=some (some v)->Vis X.env.scope x->∃ u,RelV v u/\jnL X.env s.heap m x u
 cell:∀ x c,X.env.cells.lookup x=some c->∃ v,s.heap.IsCell c v
 free:H X.env.locals=none
 freeC:∀ x c,X.env.cells.lookup x=some c->H c=none
 pin:∀ p∈X.pn++pins,s.heap.get? p.1=some p.2/\H p.1=none/\p.1≠X.env.locals/\p.1∉X.fs/\∀ v,p.2.data≠.cell v
 hok:HOk X.prog X.w H s.heap
 len:σ.length=X.N.length
section
variable {X:Cx}{pins:List (Addr×Obj)}{σ:List (Option V)}{H H':Hp}{s:Shared}{h':Heap}
theorem Cx.Ok.nofr(ok:X.Ok){b:Addr}{o:Obj}(e:X.base.get? b=some o):b∉X.fs:=λa=>by
 have:=(ok.funs.mem a).1;rw[e] at this;cases this
theorem Inv.bs(I:Inv X pins σ H s):∀ b o,X.base.get? b=some o->s.heap.get? b=some o/\H b=none:=λb o e =>
 ⟨I.base.keep b o (I.ok.bs b o e).1 (I.ok.bs b o e).2 (I.ok.nofr e) (I.ok.noex b o e),I.base.free b o (I.ok.bs b o e).1 (I.ok.bs b o e).2 (I.ok.noex b o e)⟩
theorem Inv.bk(I:Inv X pins σ H s):∀ b o,X.base.get? b=some o->s.heap.get? b=some o:=λb o e=>(I.bs b o e).1
theorem Inv.mod(I:Inv X pins σ H s):Mod X.K X.mg X.base:=I.ok.mod
theorem Inv.kIn(I:Inv X pins σ H s):X.K.In s.heap:=I.ok.mod.kin.keeps I.bk
theorem Inv.lt(I:Inv X pins σ H s):X.env.locals < s.heap.objs.size:=let ⟨_,hn,_⟩:=I.loc;hn.lt
theorem Inv.sz(I:Inv X pins σ H s):X.s₀.heap.objs.size<=s.heap.objs.size:=N8 I.ok.above (Nat.le_of_lt I.lt)
theorem Inv.nofs(I:Inv X pins σ H s){a:Addr}(h:s.heap.objs.size<=a):a∉X.fs:=λb=>by
 obtain⟨_,o,c,_⟩:=I.ok.funs.mem b;exact absurd (U5 (N1 c) (N8 I.sz h)) (Nat.lt_irrefl _)
theorem Inv.cne(I:Inv X pins σ H s):∀ x c,X.env.cells.lookup x=some c->c≠X.env.locals:=λx c e z=>by
 obtain⟨v,o,d,hd⟩:=I.cell x c e;obtain⟨m,⟨f,g,h,a,b,_⟩,_⟩:=I.loc;rw[z,a] at d;cases d;rw[b] at hd;cases hd
theorem Inv.funs(I:Inv X pins σ H s):s.heap.FunFrames X.base X.outer:=by
 have all:∀(l:List Env),(∀ b∈frs l,b∈X.fs)->X.s₀.heap.FunFrames X.base l->s.heap.FunFrames X.base l:=by
  intro l
  induction l with
  | nil=>intro _ _;trivial
  | cons env r g =>
   intro f h;obtain⟨i,⟨L,o,a,j,k,hd⟩,m⟩:=h;have c:L∈X.fs:=f L (by unfold frs;rw[List.filterMap_cons,a];exact L7);obtain⟨sl,e⟩:=I.base.slot L o k (I.ok.frf L c) c λz=>I.ok.exfs L z c;exact⟨i,⟨L,_,a,j,e,hd⟩,g (λb d=>f b (by unfold frs;rw[List.filterMap_cons,a];exact L6 _ d)) m⟩
 exact all X.outer (λ_ d=>d) I.ok.funs
theorem Inv.stack(I:Inv X pins σ H s):s.heap.FunFrames X.base X.stack:=by
 rcases I.ok.stk with e | ⟨e,a⟩
 ·rw[e];exact I.funs
 ·rw[e];obtain⟨m,b,_⟩:=I.loc;refine .cons (by rw[I.ok.kind];decide) a b ?_ I.funs;exact Heap.get?_none_of_le (N8 I.ok.bsz I.ok.above)
theorem Inv.stkSub(I:Inv X pins σ H s):∀ b∈frs X.stack,b∈X.env.locals::X.fs:=λb a=>by
 rcases I.ok.stk with e | ⟨e,c⟩
 ·rw[e] at a;exact L6 _ a
 ·rw[e] at a;unfold frs at a;rw[List.filterMap_cons,c] at a;exact a
theorem Inv.stkFree(I:Inv X pins σ H s):∀ b∈frs X.stack,H b=none:=λb a=>by
 rcases M5.mp (I.stkSub b a) with e | a
 ·rw[e];exact I.free
 ·obtain⟨_,o,c,_⟩:=I.ok.funs.mem a;exact I.base.free b o c (I.ok.frf b a) λz=>I.ok.exfs b z a
theorem Inv.step{g':Array GenState}{t':Nat}{d':Drawn}{ch:List Addr}(I:Inv X pins σ H s)
  (f:∀ b∈ch,(b∈X.ex \/ X.s₀.heap.objs.size<=b)/\b≠X.env.locals/\(∀ x c,X.env.cells.lookup x=some c->c≠b)/\∀ p∈X.pn++pins,p.1≠b)
  (keep:∀ b o,b≠X.env.locals->b∉X.fs->b∉ch->s.heap.get? b=some o->H b=none->h'.get? b=some o)
  (slot:∀ b o,b≠X.env.locals->b∈X.fs->b∉ch->s.heap.get? b=some o->H b=none->∃ sl,h'.get? b=some { o with slots:=sl }) (free:∀ b o,b∉ch->s.heap.get? b=some o->H b=none->H' b=none)
  (there:∀ b o,b∉ch->s.heap.get? b=some o->∃ o',h'.get? b=some o')
  (tups:∀ b xs,H b=some (.tup xs)->H' b=some (.tup xs)) (frzs:∀ b o u,H b=some (.frz o u)->H' b=some (.frz o u)) (tbls:∀ b ps,H b=some (.tbl ps)->∃ more,H' b=some (.tbl (ps++more)))
  (ns:∀ m,s.heap.Ns X.env.locals m->h'.Ns X.env.locals m) (hok:HOk X.prog X.w H' h') (J:AllBare g') :
  Inv X pins σ H' { s with heap:=h',gens:=g',drawn:=d',toks:=t' }:=by
 have B:∀ b o,X.s₀.heap.get? b=some o->b≠X.env.locals:=λb o e=>N7 (U5 (N1 e) I.ok.above);have j:∀ b o,X.s₀.heap.get? b=some o->b∉X.ex->b∉ch:=λb o e a y=>by
  rcases(f b y).1 with z | z
  ·exact a z
  ·exact absurd (U5 (N1 e) z) (Nat.lt_irrefl _)
 have g:∀ x c,X.env.cells.lookup x=some c->∀ v,s.heap.IsCell c v->h'.IsCell c v:=λx c e v ⟨o,A,hd⟩=>by
  have h:c∉ch:=λz=>(f c z).2.2.1 x c e rfl;by_cases E:c∈X.fs
  ·obtain⟨sl,q⟩:=slot c o (I.cne x c e) E h A (I.freeC x c e);exact⟨_,q,hd⟩
  ·exact⟨o,keep c o (I.cne x c e) E h A (I.freeC x c e),hd⟩
 refine⟨I.ok,I.os,J,⟨λb o e n y a=>?_,λb o e n y a=>?_,λb o e n a=>?_,λb o e a=>?_,λb xs e=>tups b xs (I.base.tups b xs e),λb o xs e=>frzs b o xs (I.base.frzs b o xs e),λb ps e=>?_⟩,?_,λx c e=>?_,?_,λx c e=>?_,λp F=>?_,hok,I.len⟩
 ·exact keep b o (B b o e) y (j b o e a) (I.base.keep b o e n y a) (I.base.free b o e n a)
 ·obtain⟨sl,t⟩:=I.base.slot b o e n y a;obtain⟨D,C⟩:=slot b _ (B b o e) y (j b o e a) t (I.base.free b o e n a);exact⟨D,C⟩
 ·obtain⟨o',t⟩:=I.base.there b o e a;exact free b o' (j b o e a) t (I.base.free b o e n a)
 ·obtain⟨o',t⟩:=I.base.there b o e a;exact there b o' (j b o e a) t
 ·obtain⟨K,t⟩:=I.base.tbls b ps e;obtain⟨L,C⟩:=tbls b _ t;exact⟨K++L,by rw[C,Array.append_assoc]⟩
 ·obtain⟨m,M,N⟩:=I.loc;refine⟨m,ns m M,λi x v t C O=>?_⟩;obtain⟨u,r,l⟩:=N i x v t C O;refine⟨u,r,?_⟩;rcases l with l | ⟨k,c,e,z⟩
  ·exact .inl l
  ·exact .inr ⟨k,c,e,g x c e _ z⟩
 ·obtain⟨v,z⟩:=I.cell x c e;exact⟨v,g x c e v z⟩
 ·obtain⟨m,⟨o,_,_,A,_⟩,_⟩:=I.loc;exact free _ o (λz=>(f _ z).2.1 rfl) A I.free
 ·obtain⟨v,o,A,hd⟩:=I.cell x c e;exact free c o (λz=>(f c z).2.2.1 x c e rfl) A (I.freeC x c e)
 ·obtain⟨e,n,ne,G,d⟩:=I.pin p F;have h:p.1∉ch:=λz=>(f p.1 z).2.2.2 p F rfl;exact⟨keep p.1 p.2 ne G h e n,free p.1 p.2 h e n,ne,G,d⟩
theorem Inv.un{t':Nat}(I:Inv X pins σ H s)(u:Un X.fs [] H H' s.heap h')(hok:HOk X.prog X.w H' h'):Inv X pins σ H' { s with heap:=h',toks:=t' }:=by
 obtain⟨m,⟨o,k,l,g,r⟩,_⟩:=id I.loc;obtain⟨sl,h⟩:=u.any g I.free (by simp);exact I.step (g':=s.gens) (d':=s.drawn) (ch:=[]) (λ_ z=>nomatch z) (λb o _ c _ e n=>u.keep b o e n c (by simp)) (λb o _ c _ e n=>u.slot b o e n c (by simp)) (λb o _ e n=>u.free b o e n (by simp)) (λb o _ e=>u.there b o e (by simp)) u.tups u.frzs u.tbls (λp i=>by
  obtain⟨q,d,f,a,j⟩:=i;rw[g] at a;cases a;exact⟨_,d,f,h,j⟩) hok I.bare
theorem Inv.call{g':Array GenState}{t':Nat}{d':Drawn}{ch:List Addr}(I:Inv X pins σ H s)(u:Un (frs X.stack) ch H H' s.heap h')(hok:HOk X.prog X.w H' h')(k:AllBare g')
  (d:∀ b∈ch,(b∈X.ex \/ X.s₀.heap.objs.size<=b)/\b≠X.env.locals/\(∀ x c,X.env.cells.lookup x=some c->c≠b)/\∀ p∈X.pn++pins,p.1≠b) :
  Inv X pins σ H' { s with heap:=h',gens:=g',drawn:=d',toks:=t' }:=by
 obtain⟨m,⟨o,v,y,j,r⟩,_⟩:=id I.loc;obtain⟨sl,g⟩:=u.any j I.free λz=>(d _ z).2.1 rfl;exact I.step (ch:=ch) d (λb o g l a e n=>u.keep b o e n (λz=>(M5.mp (I.stkSub b z)).elim g l) a) (λb o _ _ a e n=>u.any e n a) (λb o a e n=>u.free b o e n a) (λb o a e=>u.there b o e a) u.tups u.frzs u.tbls (λA q=>by
  obtain⟨B,h,i,f,t⟩:=q;rw[j] at f;cases f;exact⟨_,h,i,g,t⟩) hok k
theorem Inv.turned{t':Nat}{it:Addr}(I:Inv X pins σ H s)(k:∀ b o,b≠it->s.heap.get? b=some o->h'.get? b=some o)(hn:H it=none)(f:it≠X.env.locals)
  (h1:it∈X.ex \/ X.s₀.heap.objs.size<=it) (h2:∀ x c,X.env.cells.lookup x=some c->c≠it) (g:∀ p∈X.pn++pins,p.1≠it):Inv X pins σ H { s with heap:=h',toks:=t' }:=by
 have d:∀ b u,H b=some u->b≠it:=λb u e z=>by rw[z,hn] at e;cases e
 refine I.step (g':=s.gens) (d':=s.drawn) (ch:=[it]) (λb h=>?_) (λb o _ _ a e _=>k b o (λz=>a (by simp[z])) e) (λb o _ _ a e _=>⟨o.slots,k b o (λz=>a (by simp[z])) e⟩) (λ_ _ _ _ n=>n)
  (λb o a e=>⟨o,k b o (λz=>a (by simp[z])) e⟩) (λ_ _ e=>e) (λ_ _ _ e=>e) (λb w e=>⟨#[],by rw[e];simp⟩) (λm i=>?_) (λb u e=>?_) I.bare
 ·have e:b=it:=by simpa using h
  subst e;exact⟨h1,f,h2,g⟩
 ·obtain⟨o,j,l,t,r⟩:=i;exact⟨o,j,l,k _ o (Ne.symm f) t,r⟩
 ·refine(I.hok b u e).stay (λc v a q=>k c v ?_ q) (λ_ q=>q) λ_ _ q=>q;rcases a with z | z
  ·rw[z];exact d b u e
  ·exact d c _ z
theorem Inv.tok(I:Inv X pins σ H s)(t:Nat):Inv X pins σ H { s with toks:=t }:=I.un (h':=s.heap) (t':=t) Un.refl I.hok
theorem Inv.kept{t':Nat}(I:Inv X pins σ H s)(k:∀ b u,s.heap.get? b=some u->h'.get? b=some u):Inv X pins σ H { s with heap:=h',toks:=t' }:=I.un (Un.kept k) (I.hok.kept k)
theorem Inv.laid{a:Addr}{o:HO}{t':Nat}(I:Inv X pins σ H s)(k:∀ b u,s.heap.get? b=some u->h'.get? b=some u)(c:s.heap.objs.size<=a)(new:ObjOk X.prog X.w (upd H a o) h' a o) :
  Inv X pins σ (upd H a o) { s with heap:=h',toks:=t' }:=I.un (Un.laid k c (I.hok.fresh c)) (I.hok.laid k c new)
theorem Inv.write{x e:Addr}{o:HO}{t':Nat}(I:Inv X pins σ H s)(c:Mut (H x))(d:e=x \/ H e=some (.own x))(k:∀ b u,b≠e->s.heap.get? b=some u->h'.get? b=some u)(a:∃ u,h'.get? e=some u)
  (new:ObjOk X.prog X.w (upd H x o) h' x o):Inv X pins σ (upd H x o) { s with heap:=h',toks:=t' }:=I.un (Un.write c d k a) (I.hok.write c d k a new)
theorem Inv.pins_of{a:List (Addr×Obj)}(I:Inv X pins σ H s)(h:∀ p∈a,s.heap.get? p.1=some p.2/\H p.1=none/\p.1≠X.env.locals/\p.1∉X.fs/\∀ v,p.2.data≠.cell v):Inv X a σ H s :=
 ⟨I.ok,I.os,I.bare,I.base,I.loc,I.cell,I.free,I.freeC,λp b=>(N3.mp b).elim (λz=>I.pin p (List.mem_append_left _ z)) (h p),I.hok,I.len⟩
theorem jbR{N:List Str}(c:N.Nodup){i j:Nat}{x:Str}(a:N[i]?=some x)(b:N[j]?=some x):i=j:=by
 obtain⟨f,d⟩:=L9.mp a;obtain⟨g,e⟩:=L9.mp b;exact(List.getElem_inj c).mp (d.trans e.symm)
theorem jff{M:Model}{A:Around}{E:Value->Shared->Prop}{i:Nat}{x:Str}{v:V}{u:Value}{Q:Unit->Shared->Prop}(I:Inv X pins σ H s)(hN:X.N.Nodup)(hi:X.N[i]?=some x)(B:Loc X.env.scope x)(r:RelV v u)
  (h:∀ s',Inv X pins (σ.set i (some v)) H s'->(∃ a,Heap.SameBut a s.heap s'.heap/\(a=X.env.locals \/ X.env.cells.lookup x=some a))->Q () s') (hf:X.fn x=true \/ X.env.scope.names.lookup x=some .local:=by first | exact .inl rfl | exact .inr rfl | assumption):wpAny M A (storeName X.env x u) Q E s:=by
 obtain⟨m,Z,hl⟩:=id I.loc;have O:(X.env.scope.kind==.class||(X.env.scope.kind==.module&&X.env.locals != X.env.globals))=false:=by rw[I.ok.kind];rfl
 have P:i < σ.length:=by rw[I.len];exact(L9.mp hi).1
 have cne:=I.cne;have g:∀{a:Addr}{L:Heap},(∃ o,s.heap.get? a=some o/\H a=none)->Heap.SameBut a s.heap L->HOk X.prog X.w H L:=λ{a L} ha f b ob e=>by
  obtain⟨_,_,C⟩:=ha;refine(I.hok b ob e).stay (λc W t q=>(f.2 c ?_).trans q) (λ_ q=>q) λ_ _ q=>q;rintro rfl;rcases t with rfl | t
  ·rw[C] at e;cases e
  ·rw[C] at t;cases t
 rcases B with F | F
 ·refine wpAny_storeName_local F Z (λL hn' f=>?_) O;obtain⟨oL,_,_,hoL,_⟩:=id Z;refine h _ ⟨I.ok,I.os,I.bare,⟨λb o e n G B=>?_,λb o e n G B=>?_,I.base.free,λb o e B=>?_,I.base.tups,I.base.frzs,I.base.tbls⟩,⟨_,hn',λj y v' l D e3=>?_⟩,λy c e=>?_,I.free,I.freeC,λp hp=>?_,g ⟨oL,hoL,I.free⟩ f,by simpa using I.len⟩ ⟨_,f,.inl rfl⟩
  ·exact(f.2 b (N7 (U5 (N1 e) I.ok.above))).trans (I.base.keep b o e n G B)
  ·obtain⟨sl,l⟩:=I.base.slot b o e n G B;exact⟨sl,(f.2 b (N7 (U5 (N1 e) I.ok.above))).trans l⟩
  ·obtain⟨o',l⟩:=I.base.there b o e B;exact⟨o',(f.2 b (N7 (U5 (N1 e) I.ok.above))).trans l⟩
  ·by_cases J:j=i
   ·subst J;rw[hi] at l;cases l;rw[List.getElem?_set_self P] at D;cases D;exact⟨u,r,.inl ⟨F,by simp⟩⟩
   ·rw[List.getElem?_set_ne (Ne.symm J)] at D;obtain⟨u',r',q⟩:=hl j y v' l D e3;refine⟨u',r',?_⟩;rcases q with⟨k,e⟩ | ⟨k,c,e,z⟩
    ·refine .inl ⟨k,?_⟩;have:y≠x:=λe=>J (jbR hN l (e▸hi));simp[this,e]
    ·exact .inr ⟨k,c,e,z.sameBut f (cne y c e)⟩
  ·obtain⟨W,z⟩:=I.cell y c e;exact⟨W,z.sameBut f (cne y c e)⟩
  ·obtain⟨e,n,ne,nf,d⟩:=I.pin p hp;exact⟨(f.2 p.1 ne).trans e,n,ne,nf,d⟩
 ·have K:X.fn x=true:=by
   rcases hf with z | z
   ·exact z
   ·rw[z] at F;cases F
  obtain⟨c,t⟩:=I.ok.has x (.inl F);obtain⟨W,z⟩:=I.cell x c t;refine wpAny_storeName_cell I.ok.kind F t z (λL R f=>?_);obtain⟨oc,S,T⟩:=id z;refine h { s with heap:=L } ⟨I.ok,I.os,I.bare,⟨λb o e n G B=>?_,λb o e n G B=>?_,I.base.free,λb o e B=>?_,I.base.tups,I.base.frzs,I.base.tbls⟩,⟨m,Z.sameBut f (Ne.symm (cne x c t)),λj y v' l D e3=>?_⟩,λy Y e=>?_,I.free,I.freeC,λp hp=>?_,g ⟨oc,S,I.freeC x c t⟩ f,by simpa using I.len⟩ ⟨c,f,.inr t⟩
  ·exact(f.2 b (N7 (U5 (N1 e) (I.ok.cab x c K t)))).trans (I.base.keep b o e n G B)
  ·obtain⟨sl,l⟩:=I.base.slot b o e n G B;exact⟨sl,(f.2 b (N7 (U5 (N1 e) (I.ok.cab x c K t)))).trans l⟩
  ·obtain⟨o',l⟩:=I.base.there b o e B;exact⟨o',(f.2 b (N7 (U5 (N1 e) (I.ok.cab x c K t)))).trans l⟩
  ·by_cases J:j=i
   ·subst J;rw[hi] at l;cases l;rw[List.getElem?_set_self P] at D;cases D;exact⟨u,r,.inr ⟨.inl F,c,t,R⟩⟩
   ·rw[List.getElem?_set_ne (Ne.symm J)] at D;obtain⟨u',r',q⟩:=hl j y v' l D e3;refine⟨u',r',?_⟩;rcases q with q | ⟨k,Y,e,z'⟩
    ·exact .inl q
    ·refine .inr ⟨k,Y,e,z'.sameBut f ?_⟩;rintro rfl;exact J (jbR hN l (I.ok.inj _ _ _ e t▸hi))
  ·by_cases U:Y=c
   ·subst U;exact⟨_,R⟩
   ·obtain⟨w2,z2⟩:=I.cell y Y e;exact⟨w2,z2.sameBut f U⟩
  ·obtain⟨e,n,ne,nf,d⟩:=I.pin p hp;refine⟨(f.2 p.1 ?_).trans e,n,ne,nf,d⟩;intro q;rw[q,S] at e;have q':oc=p.2:=X7 e;exact d W (by rw[<- q'];exact T)
theorem wR{M:Model}{A:Around}{E:Value->Shared->Prop}{i:Nat}{x:Str}{v:V}{u:Value}{Q:Unit->Shared->Prop}(I:Inv X pins σ H s)(a:X.N.Nodup)(hi:X.N[i]?=some x)(b:Loc X.env.scope x)(r:RelV v u)
  (h:∀ s',Inv X pins (σ.set i (some v)) H s'->Q () s') (c:X.fn x=true \/ X.env.scope.names.lookup x=some .local:=by first | exact .inl rfl | exact .inr rfl | assumption):wpAny M A (storeName X.env x u) Q E s :=
 jff I a hi b r (λs' d _=>h s' d) c
end
noncomputable abbrev XK:=Value->Option Addr->Hp->Prop
noncomputable abbrev St:=List (Option V)
noncomputable abbrev VK:=V->Hp->Prop
noncomputable abbrev TE:=St->Hp->VK->Prop
noncomputable abbrev TT:=St->Hp->(Bool->Hp->Prop)->Prop
noncomputable abbrev TA:=St->Hp->(List V->Hp->Prop)->Prop
structure Ends where
 nx:St->Hp->Prop
 rt:VK
 bk:St->Hp->Prop:=λ_ _=>False
 ct:St->Hp->Prop:=λ_ _=>False
noncomputable abbrev TS:=Ends->St->Hp->Prop
def EP(X:Cx)(pins:List (Addr×Obj))(σ:St)(Q:VK)(u:Value)(s':Shared):Prop:=∃ v H',Inv X pins σ H' s'/\RelV v u/\Q v H'
def TP(X:Cx)(pins:List (Addr×Obj))(σ:St)(Q:Bool->Hp->Prop)(b:Bool)(s':Shared):Prop:=∃ H',Inv X pins σ H' s'/\Q b H'
def AP(X:Cx)(pins:List (Addr×Obj))(σ:St)(Q:List V->Hp->Prop)(us:List Value)(s':Shared):Prop:=∃ vs H',Inv X pins σ H' s'/\Vals vs us/\Q vs H'
def SP(X:Cx)(pins:List (Addr×Obj))(D:Ends)(f:Flow)(s':Shared):Prop :=
 match f with
 | .next=>∃ σ' H',Inv X pins σ' H' s'/\D.nx σ' H'
 | .brk=>∃ σ' H',Inv X pins σ' H' s'/\D.bk σ' H'
 | .cont=>∃ σ' H',Inv X pins σ' H' s'/\D.ct σ' H'
 | .ret u=>∃ v σ' H',Inv X pins σ' H' s'/\RelV v u/\D.rt v H'
def PE(X:Cx)(e:Expr)(t:TE):Prop :=
 ∀(pins:List (Addr×Obj)) (s:Shared) (σ:St) (H:Hp) (Q:VK),Inv X pins σ H s->t σ H Q->wpAny (model X.prog X.w) X.A (eval e X.env) (EP X pins σ Q) X.xe s
def PT(X:Cx)(e:Expr)(t:TT):Prop :=
 ∀(pins:List (Addr×Obj)) (s:Shared) (σ:St) (H:Hp) (Q:Bool->Hp->Prop),Inv X pins σ H s->t σ H Q->wpAny (model X.prog X.w) X.A (isTrue e X.env (eval e X.env)) (TP X pins σ Q) X.xe s
def PW(X:Cx)(e:Expr)(t:TT):Prop :=
 ∀(whole:Sem Value) (pins:List (Addr×Obj)) (s:Shared) (σ:St) (H:Hp) (Q:Bool->Hp->Prop),Inv X pins σ H s->t σ H Q->wpAny (model X.prog X.w) X.A (isTrue e X.env whole) (TP X pins σ Q) X.xe s
theorem PW.pt{X:Cx}{e:Expr}{t:TT}(h:PW X e t):PT X e t:=h _
def PA(X:Cx)(es:List Expr)(t:TA):Prop :=
 ∀(pos:Pos) (pins:List (Addr×Obj)) (s:Shared) (σ:St) (H:Hp) (Q:List V->Hp->Prop),Inv X pins σ H s->t σ H Q->wpAny (model X.prog X.w) X.A (spliced (backTo pos (starEach es X.env))) (AP X pins σ Q) X.xe s
def PS(X:Cx)(st:Stmt)(t:TS):Prop :=
 ∀(pins:List (Addr×Obj)) (s:Shared) (σ:St) (H:Hp) (D:Ends),Inv X pins σ H s->t D σ H->wpAny (model X.prog X.w) X.A (exec st X.env) (SP X pins D) X.xe s
def PSs(X:Cx)(st:List Stmt)(t:TS):Prop :=
 ∀(pins:List (Addr×Obj)) (s:Shared) (σ:St) (H:Hp) (D:Ends),Inv X pins σ H s->t D σ H->wpAny (model X.prog X.w) X.A (execs st X.env) (SP X pins D) X.xe s
theorem thn{α:Type}{t:Sem α}{Q b:α->Shared->Prop}{M:Model}{A:Around}{E:Value->Shared->Prop}{s:Shared}(h:wpAny M A t Q E s)(c:∀ a s,Q a s->b a s):wpAny M A t b E s:=wpAny_mono h c λ_ _ x=>x
section
variable {X:Cx}
noncomputable def JP(i:Nat):TE:=λσ H Q=>∃ v,σ[i]?=some (some v)/\Q v H
noncomputable def tC(v:V):TE:=λ_ H Q=>Q v H
theorem jhE{i:Nat}{x:Str}{pos:Pos}(k:X.N[i]?=some x)(n:Vis X.env.scope x)(hd:(x==("__debug__" : Str))=false:=by decide)(g:(x==("__classdict__" : Str))=false:=by decide):PE X (.Name x pos) (JP i):=by
 intro f s σ H Q I h;obtain⟨v,e,h⟩:=h;obtain⟨m,o,p⟩:=I.loc;obtain⟨u,r,l⟩:=p i x v k e n;have b:EP X f σ Q u s:=⟨v,H,I,r,h⟩;rcases l with⟨d,q⟩ | ⟨d,c,j,a⟩
 ·exact wpAny_Name (wpAny_loadName_local I.ok.kind d o q b) hd
 ·rcases d with d | d
  ·exact wpAny_Name (wpAny_loadName_cell I.ok.kind d j a b) hd
  ·exact wpAny_Name (wpAny_loadName_free I.ok.kind d j a b g) hd
theorem jhb{i j pos}:PE X (.Constant (.int i) j pos) (tC (.int i)):=λ_ _ _ H _ I h=>wpAny_Constant_int ⟨.int i,H,I.tok _,⟨_,rfl⟩,h⟩
theorem jmB{b j pos}:PE X (.Constant (.bool b) j pos) (tC (.bl b)):=λ_ _ _ H _ I h=>Constant_bool ⟨.bl b,H,I,rfl,h⟩
theorem jk7{j pos}:PE X (.Constant .none j pos) (tC .non):=λ_ _ _ H _ I h=>Constant_none ⟨.non,H,I,rfl,h⟩
theorem jlZ{x j pos}:PE X (.Constant (.str x) j pos) (tC (.str x)):=λ_ _ _ H _ I h=>Calls.Constant_str ⟨.str x,H,I.tok _,⟨_,rfl⟩,h⟩
def Gl(X:Cx)(x:Str):Prop:=X.env.kindOf x=some .globalImplicit
theorem jdO{E:Value->Shared->Prop}{pins:List (Addr×Obj)}{s:Shared}{σ:St}{H:Hp}{x:Str}{u:Value}{pos:Pos}{Q:Value->Shared->Prop}(I:Inv X pins σ H s)(a:Gl X x)(b:X.mg x=some u)(h:Q u s)
  (hd:(x==("__debug__" : Str))=false:=by decide):wpAny (model X.prog X.w) X.A (eval (.Name x pos) X.env) Q E s :=
 Calls.Name_function_global I.ok.kind a (Calls.loadGlobal_global (by rw[I.ok.glob];exact I.mod.glob.keeps I.bk) b h) hd
theorem VB{E:Value->Shared->Prop}{pins:List (Addr×Obj)}{s:Shared}{σ:St}{H:Hp}{x:Str}{u:Value}{pos:Pos}{Q:Value->Shared->Prop}(I:Inv X pins σ H s)(a:Gl X x)(b:X.mg x=none)(c:bootBuiltins x=some u)(h:Q u s)
  (hn:x≠"__name__":=by decide) (hd:(x==("__debug__" : Str))=false:=by decide):wpAny (model X.prog X.w) X.A (eval (.Name x pos) X.env) Q E s:=by
 obtain⟨f,d,e⟩:=I.mod.blt;exact Calls.Name_function_global I.ok.kind a (Calls.loadGlobal_builtin (by rw[I.ok.glob];exact I.mod.glob.keeps I.bk) b (by rw[I.ok.blt];exact d.keeps I.bk) ((e x hn).trans c) h) hd
theorem jjv{x:Str}{v:V}{u:Value}{pos:Pos}(a:Gl X x)(b:X.mg x=none)(c:bootBuiltins x=some u)(r:RelV v u)(hn:x≠"__name__":=by decide)(hd:(x==("__debug__" : Str))=false:=by decide):PE X (.Name x pos) (tC v) :=
 λ_ _ _ H _ I h=>VB I a b c ⟨v,H,I,r,h⟩ hn hd
variable {a b:Expr}{ta tb:TE}{pos:Pos}
def PC(X:Cx)(op:CmpOp)(a b:Expr)(t:TE):Prop :=
 ∀(pins:List (Addr×Obj)) (s:Shared) (σ:St) (H:Hp) (Q:VK),Inv X pins σ H s->t σ H Q ->
  wpAny (model X.prog X.w) X.A (eval a X.env) (λv s₁=>wpAny (model X.prog X.w) X.A (eval b X.env) (λu s₂=>wpAny (model X.prog X.w) X.A (compareOp op v u) (EP X pins σ Q) X.xe s₂) X.xe s₁) X.xe s
theorem jbH(b:Expr){a:CmpOp}(h:a≠.In)(h2:a≠.NotIn):behindInMarks a b=false:=by
 have c:(a==CmpOp.In)=false:=by cases a<;>first | rfl | exact absurd rfl h
 have d:(a==CmpOp.NotIn)=false:=by cases a<;>first | rfl | exact absurd rfl h2
 cases b<;>simp[behindInMarks,c,d]
noncomputable def tB(t:TE):TT:=λσ H Q=>t σ H λx H1=>∃ c,x=.bl c/\Q c H1
theorem jki{d:CmpOp}{t:TE}(h:PC X d a b t)(h1:behindInMarks d b=false:=by first | exact jbH _ (by decide) (by decide) | rfl):PE X (.Compare a [d] [b] pos) t:=λc s σ H Q I e=>wpAny_Compare1 (h c s σ H Q I e) h1
theorem jk5{f:CmpOp}{t:TE}(h:PC X f a b t)(h1:behindInMarks f b=false:=by first | exact jbH _ (by decide) (by decide) | rfl):PT X (.Compare a [f] [b] pos) (tB t):=by
 intro e s σ H Q I g;refine wpAny_isTrue_Compare1 (thn (h e s σ H _ I g) λv n h1=>thn h1 λu o i=>thn i λc p ⟨x,j,k,l,m⟩=>?_) h1;obtain⟨d,rfl,q⟩:=m;cases l;exact wpAny_truthy_bool ⟨j,k,q⟩
theorem jlx{e:Expr}{t:TE}(h:PE X e t)(b:∀ whole,isTrue e X.env whole=(do let v <- whole;standAt e.pos;holding [v] (truthy v)):=by intro _;rfl):PT X e (tB t):=by
 intro a s σ H Q I c;refine isTrue_plain (thn (h a s σ H _ I c) λv k ⟨x,f,g,i,j⟩=>?_) (b _);obtain⟨d,rfl,q⟩:=j;cases i;exact wpAny_truthy_bool ⟨f,g,q⟩
variable {tA tB':TT}{rest:List Expr}
noncomputable def jmE(t u:TT):TT:=λσ H Q=>t σ H λc H1=>if c=true then u σ H1 Q else Q false H1
noncomputable def tOr(t u:TT):TT:=λσ H Q=>t σ H λc H1=>if c=true then Q true H1 else u σ H1 Q
noncomputable def jmO(t:TT):TT:=λσ H Q=>t σ H λc H1=>Q (!c) H1
theorem jjc(d:PT X a tA):PW X (.BoolOp .And [a] pos) tA:=by
 intro f b s σ H Q I h;refine isTrue_and (thn (d b s σ H Q I h) λc g e=>?_);cases c with
 | true=>exact isTrue_and_nil e
 | false=>exact e
theorem jkW(d:PT X a tA):PW X (.BoolOp .Or [a] pos) tA:=by
 intro f b s σ H Q I h;refine isTrue_or (thn (d b s σ H Q I h) λc g e=>?_);cases c with
 | false=>exact isTrue_or_nil e
 | true=>exact e
theorem jlf(i:PT X a tA)(j:PW X (.BoolOp .And (b::rest) pos) tB'):PW X (.BoolOp .And (a::b::rest) pos) (jmE tA tB'):=by
 intro k d s σ H Q I h;refine isTrue_and (thn (i d s σ H _ I h) λc l ⟨e,f,g⟩=>?_);cases c with
 | true=>exact j k d l σ e Q f g
 | false=>exact⟨e,f,g⟩
theorem jns(i:PT X a tA)(j:PW X (.BoolOp .Or (b::rest) pos) tB'):PW X (.BoolOp .Or (a::b::rest) pos) (tOr tA tB'):=by
 intro k d s σ H Q I h;refine isTrue_or (thn (i d s σ H _ I h) λc l ⟨e,f,g⟩=>?_);cases c with
 | true=>exact⟨e,f,g⟩
 | false=>exact j k d l σ e Q f g
theorem jli(d:PT X a tA):PT X (.UnaryOp .Not a pos) (jmO tA):=by
 intro b s σ H Q I h;exact isTrue_not (d b s σ H (λc e=>Q (!c) e) I h)
noncomputable def jhY(ta tb:TE):TE:=λσ H Q=>ta σ H λx H1=>∃ c,x=.bl c/\if c=true then tb σ H1 Q else Q (.bl false) H1
noncomputable def jjH(ta:TE):TE:=λσ H Q=>ta σ H λx H1=>∃ c,x=.bl c/\Q (.bl (!c)) H1
theorem jl2{op}{t:TE}(h:PE X a t):PE X (.BoolOp op [a] pos) t:=λb s σ H Q I c=>BoolOp_one (h b s σ H Q I c)
theorem jkH(i:PE X a ta)(j:PE X (.BoolOp .And (b::rest) pos) tb):PE X (.BoolOp .And (a::b::rest) pos) (jhY ta tb):=by
 intro d s σ H Q I h;refine BoolOp_and (thn (i d s σ H _ I h) λv k ⟨x,f,g,l,e⟩=>?_);obtain⟨c,rfl,e⟩:=e;cases l;refine wpAny_truthy_bool ?_;cases c with
 | true=>exact j d k σ f Q g e
 | false=>exact⟨.bl false,f,g,rfl,e⟩
theorem jkv(e:PE X a ta):PE X (.UnaryOp .Not a pos) (jjH ta):=by
 intro b s σ H Q I h;refine UnaryOp_ (thn (e b s σ H _ I h) λv j ⟨x,f,g,i,d⟩=>?_);obtain⟨c,rfl,d⟩:=d;cases i;exact not_of (wpAny_truthy_bool ⟨.bl (!c),f,g,rfl,d⟩)
noncomputable def tIf(t:TT)(ta tb:TE):TE:=λσ H Q=>t σ H λc H1=>if c=true then ta σ H1 Q else tb σ H1 Q
theorem jgT{c:Expr}(k:PT X c tA)(l:PE X a ta)(m:PE X b tb):PE X (.IfExp c a b pos) (tIf tA ta tb):=by
 intro e s σ H Q I h;refine wpAny_IfExp (thn (k e s σ H _ I h) λd f ⟨g,i,j⟩=>?_);cases d with
 | true=>exact l e f σ g Q i j
 | false=>exact m e f σ g Q i j
end
def SqL(K:PySem.W.Frag)(H:Hp)(a:Addr)(xs:List V):Prop :=
 Rd H a (.lst xs) \/
  ∃(o:Obj) (its:Array Value) (n:Nat),K.lookup a=some o/\o.cls=.type "list"/\o.dict=none/\o.data=.seq its n/\its.size<=sizeLine/\Vals xs its.toList
def SqT(K:PySem.W.Frag)(H:Hp)(a:Addr)(xs:List V):Prop :=
 Rd H a (.tup xs) \/
  ∃(o:Obj) (its:Array Value) (n:Nat),K.lookup a=some o/\o.cls=.type "tuple"/\o.data=.seq its n/\its.size<=sizeLine/\Vals xs its.toList
noncomputable def jnG:Value->Option V
 | .none=>some .non
 | .bool b=>some (.bl b)
 | .int i _=>some (.int i)
 | .str x _=>some (.str x)
 | .bytes b _=>some (.byt b)
 | .float b _=>some (.flt b)
 | .ref a=>some (.ref a)
 | .type n=>some (.ty n)
 | _=>none
theorem RelV.abs{x:V}{u:Value}(r:RelV x u):jnG u=some x:=by
 cases x with
 | non=>cases r;rfl
 | bl _=>cases r;rfl
 | int _=>obtain⟨t,rfl⟩:=r;rfl
 | str _=>obtain⟨t,rfl⟩:=r;rfl
 | byt _=>obtain⟨t,rfl⟩:=r;rfl
 | flt _=>obtain⟨t,rfl⟩:=r;rfl
 | ref _=>cases r;rfl
 | ty _=>cases r;rfl
theorem RelV.inj{x y:V}{u:Value}(r:RelV x u)(q:RelV y u):x=y:=X7 (r.abs.symm.trans q.abs)
theorem Vals.inj:∀{xs ys:List V}{us:List Value},Vals xs us->Vals ys us->xs=ys
 | _,_,_,.nil,.nil=>rfl
 | _,_,_,.cons r t,.cons a b=>by rw[r.inj a,Vals.inj t b]
section
variable {X:Cx}{pins:List (Addr×Obj)}{σ:St}{H:Hp}{s:Shared}{a:Addr}{xs ys:List V}
theorem SqL.of{K:PySem.W.Frag}(h:H a=some (.lst xs)):SqL K H a xs:=.inl (.inl h)
theorem Inv.list(I:Inv X pins σ H s)(h:SqL X.K H a xs):∃ its:List Value,Vals xs its/\PlainL s.heap a its.toArray/\xs.length<=sizeLine:=by
 rcases h with h | ⟨o,its,n,b,c,hd,d,f,r⟩
 ·obtain⟨z,its,n,r,e⟩:=h.ok I.hok;exact⟨its,r,⟨_,n,e,rfl,rfl,rfl⟩,z⟩
 ·refine⟨its.toList,r,⟨o,n,I.kIn a o b,c,hd,by simpa using d⟩,?_⟩;have e:=r.length;simp only[Array.length_toList] at e;omega
theorem Inv.tuple(I:Inv X pins σ H s)(h:SqT X.K H a xs):∃ its:List Value,Vals xs its/\IsTup s.heap a its.toArray/\xs.length<=sizeLine:=by
 rcases h with h | ⟨o,its,n,b,c,d,f,r⟩
 ·obtain⟨z,its,r,p⟩:=h.ok I.hok;exact⟨its,r,p.1,z⟩
 ·refine⟨its.toList,r,⟨o,I.kIn a o b,c,n,by simpa using d⟩,?_⟩;have e:=r.length;simp only[Array.length_toList] at e;omega
theorem Inv.list_inj(I:Inv X pins σ H s)(h:SqL X.K H a xs)(h':SqL X.K H a ys):xs=ys:=by
 obtain⟨c,r,⟨o,n,e,_,_,d⟩,_⟩:=I.list h;obtain⟨b,i,⟨j,k,f,_,_,g⟩,_⟩:=I.list h';rw[e] at f;cases f;rw[d] at g;injection g with d1 _;have:c=b:=by simpa using congrArg Array.toList d1
 subst this;exact r.inj i
theorem Inv.tuple_inj(I:Inv X pins σ H s)(h:SqT X.K H a xs)(h':SqT X.K H a ys):xs=ys:=by
 obtain⟨c,r,⟨o,e,_,n,d⟩,_⟩:=I.tuple h;obtain⟨b,i,⟨j,f,_,k,g⟩,_⟩:=I.tuple h';rw[e] at f;cases f;rw[d] at g;injection g with d1 _;have:c=b:=by simpa using congrArg Array.toList d1
 subst this;exact r.inj i
end
noncomputable abbrev Cx.wish(X:Cx)(E:Value->Shared->Prop):Cx:={ X with xe:=E }
noncomputable abbrev Cx.nox(X:Cx):Cx:=X.wish λ_ _=>False
theorem Cx.Ok.wish{X:Cx}(ok:X.Ok)(E:Value->Shared->Prop):(X.wish E).Ok :=
 ⟨ok.mod,ok.kind,ok.glob,ok.blt,ok.above,ok.inj,ok.has,ok.cab,ok.hd,ok.frames,ok.stk,ok.exf,ok.bs,ok.bsz,ok.noex,ok.exfs,ok.funs,ok.frf⟩
theorem Cx.Ok.unwish{X:Cx}{E:Value->Shared->Prop}(ok:(X.wish E).Ok):X.Ok :=
 ⟨ok.mod,ok.kind,ok.glob,ok.blt,ok.above,ok.inj,ok.has,ok.cab,ok.hd,ok.frames,ok.stk,ok.exf,ok.bs,ok.bsz,ok.noex,ok.exfs,ok.funs,ok.frf⟩
section
variable {X:Cx}{pins:List (Addr×Obj)}{σ:St}{H:Hp}{s:Shared}{E:Value->Shared->Prop}
theorem Inv.wish(I:Inv X pins σ H s)(E:Value->Shared->Prop):Inv (X.wish E) pins σ H s:=⟨I.ok.wish E,I.os,I.bare,I.base,I.loc,I.cell,I.free,I.freeC,I.pin,I.hok,I.len⟩
theorem Inv.unwish(I:Inv (X.wish E) pins σ H s):Inv X pins σ H s:=⟨I.ok.unwish,I.os,I.bare,I.base,I.loc,I.cell,I.free,I.freeC,I.pin,I.hok,I.len⟩
theorem SP.unwish{D:Ends}{f:Flow}{s':Shared}(h:SP (X.wish E) pins D f s'):SP X pins D f s':=by
 cases f with
 | next=>obtain⟨a,b,I,q⟩:=h;exact⟨a,b,I.unwish,q⟩
 | brk=>obtain⟨a,b,I,q⟩:=h;exact⟨a,b,I.unwish,q⟩
 | cont=>obtain⟨a,b,I,q⟩:=h;exact⟨a,b,I.unwish,q⟩
 | ret u=>obtain⟨v,a,b,I,r,q⟩:=h;exact⟨v,a,b,I.unwish,r,q⟩
theorem PSs.nox{st:List Stmt}{t:TS}(h:PSs X.nox st t):PSs X st t:=λa s σ H D I b =>
 wpAny_mono (h a s σ H D (I.wish _) b) (λ_ _ q=>q.unwish) λ_ _ z=>False.elim z
end
section
variable {X:Cx}{st:Stmt}{rest:List Stmt}{t u:TS}{e:Expr}{te:TE}{pos:Pos}
noncomputable def jjM:TS:=λD σ H=>D.nx σ H
noncomputable def jlE(t u:TS):TS:=λD σ H=>t { D with nx:=u D } σ H
theorem jjx:PSs X [] jjM:=λ_ _ σ H _ I h=>wpAny_execs_nil ⟨σ,H,I,h⟩
theorem jbV(h1:PS X st t)(h2:PSs X rest u):PSs X (st::rest) (jlE t u):=by
 intro a s σ H D I h;refine wpAny_execs_cons (thn (h1 a s σ H { D with nx:=u D } I h) λf b q=>?_);cases f with
 | next =>
  obtain⟨c,d,e,q⟩:=q;exact h2 a b c d D e q
 | ret v=>exact q
 | brk=>exact q
 | cont=>exact q
theorem jdP(h1:PS X st t):PSs X [st] t:=by
 intro a s σ H D I h;refine wpAny_execs_cons (thn (h1 a s σ H D I h) λf b q=>?_);cases f with
 | next=>exact wpAny_execs_nil q
 | ret v=>exact q
 | brk=>exact q
 | cont=>exact q
theorem Inv.quiet{pins:List (Addr×Obj)}{σ:St}{H:Hp}{s:Shared}(I:Inv X pins σ H s):interactive X.env=false:=by simp[interactive,I.ok.kind]
noncomputable def zu(te:TE):TS:=λD σ H=>te σ H λ_ H1=>D.nx σ H1
theorem xo(b:PE X e te)(c:swapsWith e none pos.line X.env=pure false:=by rfl):PS X (.Expr e pos) (zu te):=by
 intro a s σ H D I h;exact wpAny_Expr_any (thn (b a s σ H _ I h) λv i ⟨x,d,f,j,g⟩=>⟨σ,d,f,g⟩) I.quiet c
noncomputable def jm5(te:TE):TS:=λD σ H=>te σ H D.rt
theorem jkt(b:PE X e te):PS X (.Return (some e) pos) (jm5 te):=by
 intro a s σ H D I h;exact wpAny_Return_some (thn (b a s σ H _ I h) λv i ⟨x,c,d,f,g⟩=>⟨x,σ,c,d,f,g⟩)
noncomputable def jks(c:TT)(t u:TS):TS:=λD σ H=>c σ H λb H1=>if b=true then t D σ H1 else u D σ H1
theorem jmb{c:Expr}{a b:List Stmt}{tc:TT}(k:PT X c tc)(l:PSs X a t)(m:PSs X b u):PS X (.If c a b pos) (jks tc t u):=by
 intro e s σ H D I h;refine wpAny_If (thn (k e s σ H _ I h) λd f ⟨g,i,j⟩=>?_);cases d with
 | true=>exact l e f σ g D i j
 | false=>exact m e f σ g D i j
end
noncomputable abbrev TG:=V->St->Hp->(St->Hp->Prop)->Prop
noncomputable abbrev TGs:=List V->St->Hp->(St->Hp->Prop)->Prop
def PG(X:Cx)(target:Expr)(t:TG):Prop :=
 ∀(pins:List (Addr×Obj)) (s:Shared) (σ:St) (H:Hp) (v:V) (u:Value) (Q:St->Hp->Prop),Inv X pins σ H s->RelV v u->t v σ H Q ->
  wpAny (model X.prog X.w) X.A (assign target X.env u) (λ_ s'=>∃ σ' H',Inv X pins σ' H' s'/\Q σ' H') X.xe s
def PGs(X:Cx)(ts:List Expr)(t:TGs):Prop :=
 ∀(pins:List (Addr×Obj)) (s:Shared) (σ:St) (H:Hp) (vs:List V) (us:List Value) (Q:St->Hp->Prop),Inv X pins σ H s->Vals vs us->t vs σ H Q ->
  wpAny (model X.prog X.w) X.A (assignInOrder ((assignEach ts X.env).map (·.2)) us) (λ_ s'=>∃ σ' H',Inv X pins σ' H' s'/\Q σ' H') X.xe s
section
variable {X:Cx}{pos:Pos}
noncomputable def QH(i:Nat):TG:=λv σ H Q=>Q (σ.set i (some v)) H
theorem je0{i:Nat}{x:Str}(b:X.N.Nodup)(hi:X.N[i]?=some x)(c:Loc X.env.scope x)(d:X.fn x=true \/ X.env.scope.names.lookup x=some .local:=by first | exact .inl rfl | exact .inr rfl | assumption):PG X (.Name x pos) (QH i):=by
 intro a s σ H v u Q I r h;exact wpAny_assign_Name (wR I b hi c r (λf e=>⟨_,H,e,h⟩) d)
noncomputable def jke:TGs:=λvs σ H Q=>vs=[]/\Q σ H
noncomputable def jeg(t:TG)(u:TGs):TGs:=λvs σ H Q=>∃ v r,vs=v::r/\t v σ H λσ' H'=>u r σ' H' Q
theorem jeX:PGs X [] jke:=by
 intro a s σ H b c Q I r h;obtain⟨e,h⟩:=h;subst e;cases r;exact assignInOrder_nil ⟨σ,H,I,h⟩
theorem jcd{e:Expr}{es:List Expr}{t:TG}{u:TGs}(h1:PG X e t)(h2:PGs X es u)
  (b:(assignEach (e::es) X.env).map (·.2)=assign e X.env::(assignEach es X.env).map (·.2):=by rfl):PGs X (e::es) (jeg t u):=by
 intro a s σ H l m Q I r h;obtain⟨v,n,c,h⟩:=h;subst c;cases r with
 | cons r d =>
  rw[b];refine assignInOrder_cons (thn (h1 a s σ H _ _ _ I r h) λ_ f ⟨g,i,j,k⟩=>?_);exact h2 a f g i _ _ Q j d k
noncomputable def jjY(K:PySem.W.Frag)(n:Nat)(t:TGs):TG:=λv σ H Q=>∃ a xs,v=.ref a/\SqT K H a xs/\xs.length=n/\t xs σ H Q
theorem jhg{es:List Expr}{k:Nat}{t:TGs}{n:Nat}(i:X.calm=true)(h:PGs X es t)
  (hn:(assignEach es X.env).length=n:=by rfl) (d:(assignEach es X.env).findIdx? (·.1)=none:=by rfl):PG X (.Tuple es k pos) (jjY X.K n t):=by
 intro c s σ H v u Q I r f;obtain⟨a,j,l,m,p,f⟩:=f;subst l;cases r;obtain⟨q,g,w,A⟩:=I.tuple m;refine assign_Tuple_tuple (I.ok.hd i) w (by simp[hn,<- p,g.length]) d λx y=>?_;have z:Inv X c σ H { s with heap:=x }:=I.kept (t':=s.toks) λb o e=>y b o (N7 (N1 e)) e;exact h c _ σ H j _ Q z (by simpa using g) f
noncomputable def jgg(te:TE)(g:TG):TS:=λD σ H=>te σ H λx H1=>g x σ H1 D.nx
theorem jlp{tg e:Expr}{te:TE}{g:TG}(b:PE X e te)(c:PG X tg g)(d:swapsWithSole [tg] e pos.line X.env=pure false:=by rfl)(f:swappedStores [tg] e X.env=pure none:=by rfl)
  (h1:(assignEach [tg] X.env).map (·.2)=[assign tg X.env]:=by rfl):PS X (.Assign [tg] e pos) (jgg te g):=by
 intro a s σ H D I h;refine wpAny_Assign_stores (thn (b a s σ H _ I h) λv i ⟨x,j,k,l,m⟩=>?_) d f;rw[h1];exact thn (c a i σ j x v _ k l m) λ_ n q=>q
theorem jhr{i:Nat}{x:Str}{e:Expr}{te:TE}{pos':Pos}(b:X.N.Nodup)(hi:X.N[i]?=some x)(c:Loc X.env.scope x)(d:PE X e te)(f:swapsWith e (some (.Name x pos')) pos.line X.env=pure false:=by rfl)(g:X.fn x=true \/ X.env.scope.names.lookup x=some .local:=by first | exact .inl rfl | exact .inr rfl | assumption) :
  PS X (.Assign [.Name x pos'] e pos) (jgg te (QH i)):=by
 intro a s σ H D I h;refine wpAny_Assign_Name (thn (d a s σ H _ I h) λv o ⟨y,j,k,l,m⟩=>?_) f;exact wR k b hi c l (λp n=>⟨_,j,n,m⟩) g
end
structure It where
 go:Nat->Hp->Prop
 yld:Nat->Hp->V->Hp->Prop
 stop:Nat->Hp->Prop
def jcs(X:Cx)(pins:List (Addr×Obj))(H:Hp)(b:Addr):Prop :=
 H b=none/\b≠X.env.locals/\b∉X.fs/\(b∈X.ex \/ X.s₀.heap.objs.size<=b)/\(∀ x c,X.env.cells.lookup x=some c->c≠b)/\∀ p∈X.pn++pins,p.1≠b
theorem Inv.fpOk{X:Cx}{pins:List (Addr×Obj)}{σ:St}{H H':Hp}{s:Shared}{b:Addr}(I:Inv X pins σ H s)(a:s.heap.objs.size<=b)(hn:H' b=none):jcs X pins H' b:=by
 refine⟨hn,Nat.ne_of_gt (U5 I.lt a),I.nofs a,.inr (N8 I.sz a),λx c e z=>?_,λp d z=>?_⟩
 ·obtain⟨v,q⟩:=I.cell x c e;exact absurd (U5 q.lt (by rw[z];exact a)) (Nat.lt_irrefl _)
 ·exact absurd (U5 (N1 (I.pin p d).1) (by rw[z];exact a)) (Nat.lt_irrefl _)
structure Turn(P:Program)(w:World)(K:PySem.W.Frag)(tg:Expr)(J:It)(fp:List Addr)(it:Addr)(tn:Nat->Heap->Prop):Prop where
 mem:it∈fp
 obj:∀ i h,tn i h->∀ b∈fp,∃ o,h.get? b=some o/\∀ v,o.data≠.cell v
 keep:∀ i h h',tn i h->(∀ b∈fp,∀ o,h.get? b=some o->h'.get? b=some o)->tn i h'
 item:∀(X:Cx),X.prog=P->X.w=w->X.K=K->X.calm=true->∀(i:Nat) (pins:List (Addr×Obj)) (s:Shared) (σ:St) (H:Hp) (E:Value->Shared->Prop),Inv X pins σ H s->(∀ b∈fp,jcs X pins H b)->tn i s.heap->J.go i H ->
  wpAny (model P w) X.A (pyNext (.ref it)) (λr s1=>∃ u,r=some u /\
   wpAny (model P w) X.A (letOwnedTupleGo tg (.ref it) u) (λ_ s2=>∃ x H',Inv X pins σ H' s2/\RelV x u/\J.yld i H x H'/\tn (i+1) s2.heap/\∀ b∈fp,H' b=none) E s1) E s
 done:∀(X:Cx),X.prog=P->X.w=w->X.K=K->X.calm=true->∀(i:Nat) (pins:List (Addr×Obj)) (s:Shared) (σ:St) (H:Hp) (E:Value->Shared->Prop),Inv X pins σ H s->(∀ b∈fp,jcs X pins H b)->tn i s.heap->J.stop i H ->
  wpAny (model P w) X.A (pyNext (.ref it)) (λr s1=>r=none/\Inv X pins σ H s1) E s
 self:∀(A:Around) (i:Nat) (s:Shared) (Q:Value->Shared->Prop) (E:Value->Shared->Prop),tn i s.heap->Q (.ref it) s->wpAny (model P w) A (pyIter (.ref it)) Q E s
noncomputable abbrev TI:=St->Hp->(It->Hp->Prop)->Prop
def PIE(X:Cx)(pins:List (Addr×Obj))(σ:St)(tg:Expr)(R:It->Hp->Prop)(itv:Value)(s2:Shared):Prop :=
 ∃(it:Addr) (fp:List Addr) (tn:Nat->Heap->Prop) (J:It) (H':Hp),itv=.ref it/\Inv X pins σ H' s2/\Turn X.prog X.w X.K tg J fp it tn/\tn 0 s2.heap/\(∀ b∈fp,jcs X pins H' b)/\R J H'
def PI(X:Cx)(tg iter:Expr)(wi:TI):Prop :=
 ∀(pins:List (Addr×Obj)) (s:Shared) (σ:St) (H:Hp) (R:It->Hp->Prop),Inv X pins σ H s->wi σ H R ->
  wpAny (model X.prog X.w) X.A (eval iter X.env) (λv s1=>wpAny (model X.prog X.w) X.A (pyIter v) (PIE X pins σ tg R) X.xe s1) X.xe s
theorem jet{M:Model}{A:Around}{E:Value->Shared->Prop}{s:Shared}{tg:Expr}{it:Addr}{u:Value}{o:Obj}{n:String}{vs:Array Value}{Q:Unit->Shared->Prop}(b:s.heap.get? it=some o)(c:o.cls=.type n)(hd:o.data=.fields vs)
  (hn:["enumerate","zip","dict_itemiterator","dict_reverseitemiterator","odict_iterator","itertools.zip_longest","itertools.pairwise"].contains n=false) (a:Q () s):wpAny M A (letOwnedTupleGo tg (.ref it) u) Q E s:=by
 unfold letOwnedTupleGo;cases tg<;>first
  | exact M7 a
  | (cases u<;>first
    | exact M7 a
    | (refine L3 (wpAny_load b ?_)
       rw[c,hd];show wpAny M A (if(["enumerate","zip","dict_itemiterator","dict_reverseitemiterator","odict_iterator","itertools.zip_longest","itertools.pairwise"].contains n&&vs[0]?==some (rawInt _))=true then _ else _) Q E s;rw[if_neg (by intro h;rw[hn,Bool.false_and] at h;cases h)];exact M7 a))
noncomputable def Itl(K:PySem.W.Frag)(a:Addr):It :=
 ⟨λi H=>∃ xs x,SqL K H a xs/\xs[i]?=some x,λi H x H'=>H'=H/\∀ xs,SqL K H a xs->xs[i]?=some x,λi H=>∃ xs,SqL K H a xs/\xs.length<=i⟩
noncomputable def Itt(K:PySem.W.Frag)(a:Addr):It :=
 ⟨λi H=>∃ xs x,SqT K H a xs/\xs[i]?=some x,λi H x H'=>H'=H/\∀ xs,SqT K H a xs->xs[i]?=some x,λi H=>∃ xs,SqT K H a xs/\xs.length<=i⟩
noncomputable def Itr(lo:Int)(n:Nat):It:=⟨λi _=>i < n,λi H x H'=>H'=H/\x=.int (lo+i),λi _=>n<=i⟩
theorem jdN{P:Program}{w:World}{K:PySem.W.Frag}{tg:Expr}(a it:Addr):Turn P w K tg (Itl K a) [it] it (λi h=>h.IsListIter it a i) where
 mem:=by simp
 obj:=λi h f b j=>by
  have e:b=it:=by simpa using j
  subst e;obtain⟨o,e,c,d⟩:=f;exact⟨o,e,λv z=>by rw[d] at z;cases z⟩
 keep:=λi h m f k=>f.at λo e=>k it (by simp) o e
 item:=by
  intro X r t y N i g s σ H E I n f A;subst r t y;obtain⟨O,x,q,B⟩:=A;obtain⟨C,D,p,Q⟩:=I.list q;obtain⟨u,R,S⟩:=D.get B;obtain⟨F,G,T,J,L,M⟩:=n it (by simp);refine wpAny_pyNext_list_item f p.isList (x:=u) (by simpa using R) λm l U=>?_;have V:Inv X g σ H { s with heap:=m }:=I.turned (t':=s.toks) (λb o j e=>(U.2 b j).trans e) F G J L M;obtain⟨o,e,c,d⟩:=id l;exact⟨u,rfl,jet (s:={ s with heap:=m }) e c d (by decide) ⟨x,H,V,S,⟨rfl,λys Y=>by rw[I.list_inj Y q];exact B⟩,l,λb j=>(n b j).1⟩⟩
 done:=by
  intro X r t y N i g s σ H E I n f A;subst r t y;obtain⟨O,q,B⟩:=A;obtain⟨C,D,p,Q⟩:=I.list q;obtain⟨F,G,T,J,L,M⟩:=n it (by simp);have hl:=D.length;exact wpAny_pyNext_list_end (I.ok.hd N) f p.isList (by simp;omega) λm Z=>⟨rfl,I.turned (t':=s.toks) (λb o j e=>Z b o j e) F G J L M⟩
 self:=λ_ _ _ _ _ f h=>wpAny_pyIter_listiter f h
theorem jcM{P:Program}{w:World}{K:PySem.W.Frag}{tg:Expr}(a it:Addr):Turn P w K tg (Itt K a) [it] it (λi h=>h.IsTupleIter it a i) where
 mem:=by simp
 obj:=λi h f b j=>by
  have e:b=it:=by simpa using j
  subst e;obtain⟨o,e,c,d⟩:=f;exact⟨o,e,λv z=>by rw[d] at z;cases z⟩
 keep:=λi h n f k=>f.at λo e=>k it (by simp) o e
 item:=by
  intro X t y A N i g s σ H E I q f B;subst t y A;obtain⟨O,x,r,C⟩:=B;obtain⟨l,D,p,Q⟩:=I.tuple r;obtain⟨u,R,S⟩:=D.get C;obtain⟨F,G,T,J,L,M⟩:=q it (by simp);refine wpAny_pyNext_tuple_item f (show s.heap.IsTuple a l.toArray from p) (x:=u) (by simpa using R) λn m U=>?_;have V:Inv X g σ H { s with heap:=n }:=I.turned (t':=s.toks) (λb o j e=>(U.2 b j).trans e) F G J L M;obtain⟨o,e,c,d⟩:=id m;exact⟨u,rfl,jet (s:={ s with heap:=n }) e c d (by decide) ⟨x,H,V,S,⟨rfl,λys Y=>by rw[I.tuple_inj Y r];exact C⟩,m,λb j=>(q b j).1⟩⟩
 done:=by
  intro X t y A N i g s σ H E I q f B;subst t y A;obtain⟨O,r,C⟩:=B;obtain⟨l,D,p,Q⟩:=I.tuple r;obtain⟨F,G,T,J,L,M⟩:=q it (by simp);have hl:=D.length;exact wpAny_pyNext_tuple_end (I.ok.hd N) f (show s.heap.IsTuple a l.toArray from p) (by simp;omega) λn Z=>⟨rfl,I.turned (t':=s.toks) (λb o j e=>Z b o j e) F G J L M⟩
 self:=λ_ _ _ _ _ f h=>wpAny_pyIter_tupleiter f h
theorem jc0{P:Program}{w:World}{K:PySem.W.Frag}{tg:Expr}(it:Addr)(lo:Int)(n:Nat):Turn P w K tg (Itr lo n) [it] it (λi h=>IsRangeIter h it (lo+(i:Nat)*1) ((n:Int) - (i:Nat)) 1) where
 mem:=by simp
 obj:=λi h a b d=>by
  have e:b=it:=by simpa using d
  subst e;exact⟨_,a,λv z=>by
   have D:Data.fields _=Data.cell v:=z;cases D⟩
 keep:=λi h g a k=>k it (by simp) _ a
 item:=by
  intro X l m p q i c s σ H E I j a r;subst l m p;obtain⟨u,x,F,y,A,B⟩:=j it (by simp);have W:=Walks.range (prog:=X.prog) (w:=X.w) (I.ok.hd q) it lo 1 n;refine W.item i s _ _ r a λv g C G f J=>?_;obtain⟨t,rfl⟩:=G;have L:Inv X c σ H { s with heap:=g,toks:=C }:=I.turned (λb o d e=>J b o (by simpa using d) e) u x y A B;refine⟨_,rfl,jet (s:={ s with heap:=g,toks:=C }) (n:="range_iterator") f rfl rfl (by decide) ⟨.int (lo+i),H,L,⟨t,?_⟩,⟨rfl,rfl⟩,f,λb d=>(j b d).1⟩⟩;rw[Int.mul_one]
 done:=by
  intro X l m p q i c s σ H E I j a r;subst l m p;obtain⟨u,x,F,y,A,B⟩:=j it (by simp);exact wpAny_pyNext_range_end (I.ok.hd q) a (by have:n<=i:=r;omega) λg M=>⟨rfl,I.turned (t':=s.toks) (λb o d e=>M b o d e) u x y A B⟩
 self:=λ_ _ _ _ _ a h=>wpAny_pyIter_rangeiter a h
section
variable {X:Cx}{tg:Expr}
theorem jgG{pins:List (Addr×Obj)}{σ:St}{H:Hp}{s:Shared}{R:It->Hp->Prop}{E:Value->Shared->Prop}{lo hi:Int}{t u v:Tok}{tk:Nat}(I:Inv X pins σ H s)(h1:-(2 ^ 62)<=lo)(h2:lo < 2 ^ 62)(c:-(2 ^ 62)<=hi)(d:hi < 2 ^ 62)
  (q:R (Itr lo (hi - lo).toNat) H):wpAny (model X.prog X.w) X.A (pyIter (.ref s.heap.objs.size)) (PIE X pins σ tg R) E { s with heap:=s.heap.push { cls:=.type "range",data:=.fields #[.int lo t,.int hi u,.int 1 v] },toks:=tk }:=by
 refine wpAny_pyIter_range (IsRange.new ..) (small_one h1 h2 c d) ?_;have a:Inv X pins σ H { s with heap:=s.heap.push { cls:=.type "range",data:=.fields #[.int lo t,.int hi u,.int 1 v] },toks:=tk }:=I.kept λb o e=>L8 _ e;refine⟨(s.heap.push { cls:=.type "range",data:=.fields #[.int lo t,.int hi u,.int 1 v] }).objs.size,[(s.heap.push { cls:=.type "range",data:=.fields #[.int lo t,.int hi u,.int 1 v] }).objs.size],_,_,H,rfl,
  a.kept (t':=tk) λb o e=>L8 _ e,jc0 _ lo (hi - lo).toNat,?_,λb f=>?_,q⟩
 ·have g:lo+((0:Nat):Int)*1=lo:=by simp
  have h:(((hi - lo).toNat:Nat):Int) - ((0:Nat):Int)=Builtin.Range.rangeSize lo hi 1:=by rw[rangeSize_one];split<;>omega
  show IsRangeIter _ _ (lo+((0:Nat):Int)*1) ((((hi - lo).toNat:Nat):Int) - ((0:Nat):Int)) 1;rw[g,h];exact E2 _ rfl
 ·have e:b=(s.heap.push { cls:=.type "range",data:=.fields #[.int lo t,.int hi u,.int 1 v] }).objs.size:=by simpa using f
  subst e;exact a.fpOk (M9 _) (a.hok.fresh (M9 _))
noncomputable def jjS(ta:TA):TI:=λσ H R=>ta σ H λvs H1=>∃ j:Int,vs=[.int j]/\-(2 ^ 62)<=j/\j < 2 ^ 62/\R (Itr 0 j.toNat) H1
theorem jej{a:Expr}{ta:TA}{p pos:Pos}(d:Gl X "range")(f:X.mg "range" = none)(g:PA X [a] ta)(i:starEach [a] X.env=[(false,eval a X.env)]:=by rfl):PI X tg (.Call (.Name "range" p) [a] [] pos) (jjS ta):=by
 intro b s σ H R I h;refine Call_ (VB I d f boot_range (PyProof.Rows.callWith_type1 (thn (g pos b s σ H _ I h) λo u ⟨v,w,k,l,c⟩=>?_) i rfl));obtain⟨j,e,c,m,q⟩:=c;subst e;cases l with
 | cons r n =>
  cases n;obtain⟨t,rfl⟩:=r;exact call_range_1 (jgG k (by omega) (by omega) c m (by simpa using q))
noncomputable def jl0(wi:TI)(g:TG)(tb:TS):TS:=λD σ H=>wi σ H λJ H1=>∃ W:Nat->Nat->St->Hp->Prop,(∃ m,W 0 m σ H1)/\∀ i m σ H,W i m σ H ->
 (J.stop i H/\D.nx σ H) \/ (J.go i H/\∃ N:St->Hp->Prop,(∀ σ' H',N σ' H'->∃ m',m' < m/\W (i+1) m' σ' H')/\∀ x H',J.yld i H x H'->g x σ H' λσ2 H2=>tb { D with nx:=N,ct:=N,bk:=D.nx } σ2 H2)
noncomputable def xO(fp:List Addr)(h:Heap):List (Addr×Obj):=fp.filterMap λb=>(h.get? b).map λo=>(b,o)
theorem Vt{fp:List Addr}{h:Heap}{b:Addr}{o:Obj}(a:b∈fp)(e:h.get? b=some o):(b,o)∈xO fp h:=List.mem_filterMap.mpr ⟨b,a,by rw[e];rfl⟩
theorem jfc{fp:List Addr}{h:Heap}{p:Addr×Obj}(a:p∈xO fp h):p.1∈fp/\h.get? p.1=some p.2:=by
 obtain⟨b,c,e⟩:=List.mem_filterMap.mp a;cases q:h.get? b with
 | none=>rw[q] at e;cases e
 | some o =>
  rw[q] at e;have d:(b,o)=p:=X7 e;subst d;exact⟨c,q⟩
theorem Inv.pinned{pins:List (Addr×Obj)}{σ:St}{H:Hp}{s:Shared}{fp:List Addr}(I:Inv X pins σ H s)(f:∀ b∈fp,jcs X pins H b)(g:∀ b∈fp,∃ o,s.heap.get? b=some o/\∀ v,o.data≠.cell v):Inv X (pins++xO fp s.heap) σ H s :=
 I.pins_of λp h=>(N3.mp h).elim (λz=>I.pin p (U4 _ z)) λz=>by
  obtain⟨a,e⟩:=jfc z;obtain⟨i,j,k,_⟩:=f p.1 a;obtain⟨o,c,d⟩:=g p.1 a;rw[e] at c;cases c;exact⟨e,i,j,k,d⟩
theorem Inv.unpinned{pins pl:List (Addr×Obj)}{σ:St}{H:Hp}{s:Shared}(I:Inv X (pins++pl) σ H s):Inv X pins σ H s:=I.pins_of λp a=>I.pin p (U4 _ (List.mem_append_left _ a))
theorem jhd{iter:Expr}{body:List Stmt}{wi:TI}{g:TG}{tb:TS}{pos:Pos}(z:PassesOwn (model X.prog X.w) X.A X.env X.xe)(S:X.calm=true)(hi:PI X tg iter wi)(hg:PG X tg g)(c:PSs X body tb)
  (hs:∀ x,foldedSetIterable iter X.env x=pure x:=by intro _;rfl):PS X (.For tg iter body [] pos) (jl0 wi g tb):=by
 intro a s σ H D I h;refine wpAny_For (thn (hi a s σ H _ I h) λv s1 h1=>thn h1 λitv s2 h2=>?_) hs;obtain⟨it,B,U,J,H2,e,I2,T,M,V,W,⟨m0,w0⟩,turn⟩:=h2;subst e
 -- what stays true of the iterator's objects through the loop
 have j:∀{q:Hp},(∀ b∈B,q b=none)->∀ b∈B,jcs X a q b:=λhn b c=>⟨hn b c,(V b c).2⟩;refine codeAny_forLoop_any (λn Y=>∃ i C q,Inv X a C q Y/\U i Y.heap/\(∀ b∈B,q b=none)/\W i n C q) ?_ m0 ⟨0,σ,H2,I2,M,λb c=>(V b c).1,w0⟩;rintro n Z ⟨i,E,L,I3,F,G,w3⟩;rcases turn i n E L w3 with⟨stop,qn⟩ | ⟨go,N,hN,step⟩
 ·refine wpAny_passesOwn z (thn (T.done X rfl rfl rfl S i a Z E L X.xe I3 (j G) F stop) λr s4 ⟨O,I4⟩=>?_);subst O;exact wpAny_execs_nil ⟨E,L,I4,qn⟩
 ·refine wpAny_passesOwn z (thn (T.item X rfl rfl rfl S i a Z E L X.xe I3 (j G) F go) λr s4 ⟨u,O,h4⟩=>?_);subst O;refine wpAny_passesOwn z (thn h4 λ_ s5 ⟨x,H5,I5,r5,y5,y,P⟩=>?_);have Q:=I5.pinned (j P) (T.obj _ _ y);refine wpAny_passesOwn z (thn (hg _ s5 E H5 x u _ Q r5 (step x H5 y5)) λ_ s6 ⟨σ6,H6,I6,q6⟩=>?_);refine wpAny_passesOwn z (thn (c _ s6 σ6 H6 _ I6 q6) λf R t=>?_);have again:∀{k:St}{l:Hp},Inv X (a++xO B s5.heap) k l R->N k l->∃ m,m < n/\∃ i C q,Inv X a C q R/\U i R.heap/\(∀ b∈B,q b=none)/\W i m C q:=λ{k l} p K=>by
   obtain⟨m',hm,w7⟩:=hN k l K;refine⟨m',hm,i+1,k,l,p.unpinned,T.keep _ _ _ y λb c o e=>(p.pin (b,o) (U4 _ (U4 _ (Vt c e)))).1,λb c=>?_,w7⟩;obtain⟨o,e,d⟩:=T.obj _ _ y b c;exact(p.pin (b,o) (U4 _ (U4 _ (Vt c e)))).2.1
  cases f with
  | next=>obtain⟨k,l,p,K⟩:=t;exact again p K
  | cont=>obtain⟨k,l,p,K⟩:=t;exact again p K
  | brk=>obtain⟨k,l,p,t⟩:=t;exact⟨k,l,p.unpinned,t⟩
  | ret v=>obtain⟨x7,k,l,p,r7,t⟩:=t;exact⟨x7,k,l,p.unpinned,r7,t⟩
end
noncomputable abbrev R2:=V->V->Hp->VK->Prop
def OpR(X:Cx)(f:Value->Value->Sem Value)(r:R2):Prop :=
 ∀(pins:List (Addr×Obj)) (s:Shared) (σ:St) (H:Hp) (x y:V) (v u:Value) (Q:VK),Inv X pins σ H s->RelV x v->RelV y u->r x y H Q ->
  wpAny (model X.prog X.w) X.A (f v u) (EP X pins σ Q) X.xe s
def UnR(X:Cx)(f:Value->Sem Value)(r:V->Hp->VK->Prop):Prop :=
 ∀(pins:List (Addr×Obj)) (s:Shared) (σ:St) (H:Hp) (x:V) (v:Value) (Q:VK),Inv X pins σ H s->RelV x v->r x H Q ->
  wpAny (model X.prog X.w) X.A (f v) (EP X pins σ Q) X.xe s
def Vy(X:Cx)(f:Value)(r:List V->Hp->VK->Prop):Prop :=
 ∀(pins:List (Addr×Obj)) (s:Shared) (σ:St) (H:Hp) (xs:List V) (us:List Value) (Q:VK),Inv X pins σ H s->Vals xs us->r xs H Q ->
  wpAny (model X.prog X.w) X.A (call f us) (EP X pins σ Q) X.xe s
noncomputable def tOp(r:R2)(ta tb:TE):TE:=λσ H Q=>ta σ H λx H1=>tb σ H1 λy H2=>r x y H2 Q
noncomputable def tUn(r:V->Hp->VK->Prop)(ta:TE):TE:=λσ H Q=>ta σ H λx H1=>r x H1 Q
noncomputable def rI(C:Int->Int->Prop)(g:Int->Int->V):R2:=λx y H Q=>∃ i j,x=.int i/\y=.int j/\C i j/\Q (g i j) H
noncomputable def rI0(g:Int->Int->V):R2:=λx y H Q=>∃ i j,x=.int i/\y=.int j/\Q (g i j) H
def rU(g:Int->V):V->Hp->VK->Prop:=λx H Q=>∃ i,x=.int i/\Q (g i) H
section
variable {X:Cx}{a b c:Expr}{ta tb tc:TE}{pos:Pos}
theorem jne(c:PE X a ta)(d:PE X b tb){pins:List (Addr×Obj)}{s:Shared}{σ:St}{H:Hp}{R:V->V->Hp->Prop}(I:Inv X pins σ H s)
  (h:ta σ H λx H1=>tb σ H1 λy H2=>R x y H2) {Q:Value->Shared->Prop}{f:Value->Value->Sem Value}
  (e:∀ v u s2 x y H2,Inv X pins σ H2 s2->RelV x v->RelV y u->R x y H2->wpAny (model X.prog X.w) X.A (f v u) Q X.xe s2) :
  wpAny (model X.prog X.w) X.A (eval a X.env) (λv s₁=>wpAny (model X.prog X.w) X.A (eval b X.env) (λu s₂=>wpAny (model X.prog X.w) X.A (f v u) Q X.xe s₂) X.xe s₁) X.xe s:=by
 refine thn (c pins s σ H _ I h) λv g ⟨x,H1,i,j,k⟩=>?_;refine thn (d pins g σ H1 _ i k) λu s2 ⟨y,H2,l,m,n⟩=>?_;exact e v u s2 x y H2 l j m n
theorem jbd{d:Operator}{r:R2}(e:OpR X (binaryOp d) r)(f:PE X a ta)(g:PE X b tb):PE X (.BinOp a d b pos) (tOp r ta tb):=by
 intro c s σ H Q I h;exact wpAny_BinOp (jne f g I h λv u i x y j k l m q=>e c i σ j x y v u Q k l m q)
theorem jmF{c:UnaryOp}{r:V->Hp->VK->Prop}(d:UnR X (unaryOp c) r)(e:PE X a ta):PE X (.UnaryOp c a pos) (tUn r ta):=by
 intro b s σ H Q I h;exact UnaryOp_ (thn (e b s σ H _ I h) λv f ⟨x,g,i,j,k⟩=>d b f σ g x v Q i j k)
theorem opI{f:Value->Value->Sem Value}{C:Int->Int->Prop}{g:Int->Int->Int}
  (a:∀(i j:Int) (t u:Tok) (s:Shared) (Q:Value->Shared->Prop) (E:Value->Shared->Prop),C i j->Q (.int (g i j) s.toks) { s with toks:=s.toks+1 }->wpAny (model X.prog X.w) X.A (f (.int i t) (.int j u)) Q E s) :
  OpR X f (rI C λi j=>.int (g i j)):=by
 intro b s σ H x y v u Q I c d h;obtain⟨i,j,rfl,rfl,e,q⟩:=h;obtain⟨t,rfl⟩:=c;obtain⟨k,rfl⟩:=d;exact a i j t k s _ _ e ⟨.int (g i j),H,I.tok _,⟨_,rfl⟩,q⟩
theorem jny{f:Value->Value->Sem Value}{g:Int->Int->Int}
  (a:∀(i j:Int) (t u:Tok) (s:Shared) (Q:Value->Shared->Prop) (E:Value->Shared->Prop),Q (.int (g i j) s.toks) { s with toks:=s.toks+1 }->wpAny (model X.prog X.w) X.A (f (.int i t) (.int j u)) Q E s) :
  OpR X f (rI0 λi j=>.int (g i j)):=by
 intro b s σ H x y v u Q I c d h;obtain⟨i,j,rfl,rfl,q⟩:=h;obtain⟨t,rfl⟩:=c;obtain⟨e,rfl⟩:=d;exact a i j t e s _ _ ⟨.int (g i j),H,I.tok _,⟨_,rfl⟩,q⟩
theorem jmH{f:Value->Value->Sem Value}{g:Int->Int->Bool}
  (a:∀(i j:Int) (t u:Tok) (s:Shared) (Q:Value->Shared->Prop) (E:Value->Shared->Prop),Q (.bool (g i j)) s->wpAny (model X.prog X.w) X.A (f (.int i t) (.int j u)) Q E s) :
  OpR X f (rI0 λi j=>.bl (g i j)):=by
 intro b s σ H x y v u Q I c d h;obtain⟨i,j,rfl,rfl,q⟩:=h;obtain⟨t,rfl⟩:=c;obtain⟨e,rfl⟩:=d;exact a i j t e s _ _ ⟨.bl (g i j),H,I,rfl,q⟩
def jmK(i j:Int):Prop:=0<=j/\j<=1000000/\i.natAbs < 2 ^ 64
theorem jlr:OpR X (binaryOp .Add) (rI0 λi j=>.int (i+j)):=jny λ_ _ _ _ _ _ _ q=>add_int q
theorem jlX:OpR X (binaryOp .Sub) (rI0 λi j=>.int (i - j)):=jny λ_ _ _ _ _ _ _ q=>sub_int q
theorem jl8:OpR X (binaryOp .Mod) (rI (λ_ j=>0 < j) λi j=>.int (i % j)):=opI λi j _ _ _ _ _ a q=>by
 have b:(0:Int) < j:=a;exact mod_int' (by omega) (by rw[Int.fmod_eq_emod_of_nonneg i (by omega)];exact q)
theorem jlt:OpR X (binaryOp .Pow) (rI jmK λi j=>.int (i ^ j.toNat)):=opI λ_ _ _ _ _ _ _ a q=>pow_int_small a.1 a.2.1 a.2.2 q
theorem unI{f:Value->Sem Value}{g:Int->Int}
  (a:∀(i:Int) (t:Tok) (s:Shared) (Q:Value->Shared->Prop) (E:Value->Shared->Prop),Q (.int (g i) s.toks) { s with toks:=s.toks+1 }->wpAny (model X.prog X.w) X.A (f (.int i t)) Q E s) :
  UnR X f (rU λi=>.int (g i)):=by
 intro b s σ H x v Q I c h;obtain⟨i,rfl,q⟩:=h;obtain⟨t,rfl⟩:=c;exact a i t s _ _ ⟨.int (g i),H,I.tok _,⟨_,rfl⟩,q⟩
theorem jkQ:UnR X (unaryOp .USub) (rU λi=>.int (-i)):=unI λ_ _ _ _ _ q=>neg_int q
end
noncomputable def jmN:V->V->Bool
 | .non,.non=>true | .non,.int _=>true | .int _,.non=>true | .non,.bl _=>true | .bl _,.non=>true | .non,.str _=>true | .str _,.non=>true
 | .int _,.int _=>true | .bl _,.bl _=>true | .str _,.str _=>true | .byt _,.byt _=>true
 | .int _,.str _=>true | .str _,.int _=>true | .bl _,.str _=>true | .str _,.bl _=>true
 | _,_=>false
noncomputable def rEq:R2:=λx y H Q=>jmN x y=true/\Q (.bl (decide (x=y))) H
noncomputable def rNe:R2:=λx y H Q=>jmN x y=true/\Q (.bl (!decide (x=y))) H
theorem jaN{i j:Int}:decide (V.int i=V.int j)=(i==j):=by
 rw[Bool.eq_iff_iff];simp
theorem jd0{i j:Bool}:decide (V.bl i=V.bl j)=(i==j):=by
 rw[Bool.eq_iff_iff];simp
theorem jdl{i j:Str}:decide (V.str i=V.str j)=(i==j):=by
 rw[Bool.eq_iff_iff];simp
theorem jdZ{i j:Array UInt8}:decide (V.byt i=V.byt j)=(i.toList==j.toList):=by
 rw[Bool.eq_iff_iff];cases i;cases j;simp
section
variable {X:Cx}{a b c:Expr}{ta tb tc:TE}{pos:Pos}
theorem yt{pins:List (Addr×Obj)}{σ:St}{H:Hp}{s:Shared}{Q:VK}{k a:Bool}(I:Inv X pins σ H s)(q:Q (.bl k) H)(e:k=a):EP X pins σ Q (.bool a) s:=by
 subst e;exact⟨.bl k,H,I,rfl,q⟩
theorem jnm:OpR X (compareOp .Eq) rEq:=by
 intro e s σ H x y v u Q I d a h;obtain⟨c,q⟩:=h;cases x with
 | non =>
  cases d;cases y with
  | non=>cases a;exact PySem.EqNone.eq_none_none (yt I q (by simp))
  | bl j=>cases a;exact PySem.EqNone.eq_none_bool (yt I q (by simp))
  | int j=>obtain⟨b,rfl⟩:=a;exact PySem.EqNone.eq_none_int (yt I q (by simp))
  | str j=>obtain⟨b,rfl⟩:=a;exact PySem.EqNone.eq_none_str (yt I q (by simp))
  | _=>exact absurd (show false=true from c) M4
 | bl i =>
  cases d;cases y with
  | non=>cases a;exact PySem.EqNone.eq_bool_none (yt I q (by simp))
  | bl j=>cases a;exact eq_bool (yt I q jd0)
  | str j=>obtain⟨b,rfl⟩:=a;exact PySem.EqMixed.eq_bool_str (yt I q (by simp))
  | _=>exact absurd (show false=true from c) M4
 | int i =>
  obtain⟨t,rfl⟩:=d;cases y with
  | non=>cases a;exact PySem.EqNone.eq_int_none (yt I q (by simp))
  | int j=>obtain⟨b,rfl⟩:=a;exact eq_int (yt I q jaN)
  | str j=>obtain⟨b,rfl⟩:=a;exact PySem.EqMixed.eq_int_str (yt I q (by simp))
  | _=>exact absurd (show false=true from c) M4
 | str i =>
  obtain⟨t,rfl⟩:=d;cases y with
  | non=>cases a;exact PySem.EqNone.eq_str_none (yt I q (by simp))
  | bl j=>cases a;exact PySem.EqMixed.eq_str_bool (yt I q (by simp))
  | int j=>obtain⟨b,rfl⟩:=a;exact PySem.EqMixed.eq_str_int (yt I q (by simp))
  | str j=>obtain⟨b,rfl⟩:=a;exact eq_str (yt I q jdl)
  | _=>exact absurd (show false=true from c) M4
 | byt i =>
  obtain⟨t,rfl⟩:=d;cases y with
  | byt j=>obtain⟨b,rfl⟩:=a;exact PySem.W.eq_bytes (yt I q jdZ)
  | _=>exact absurd (show false=true from c) M4
 | _=>cases y<;>exact absurd (show false=true from c) M4
theorem jnq:OpR X (compareOp .NotEq) rNe:=by
 intro e s σ H x y v u Q I d a h;obtain⟨c,q⟩:=h;cases x with
 | non =>
  cases d;cases y with
  | non=>cases a;exact PySem.EqNone.ne_none_none (yt I q (by simp))
  | bl j=>cases a;exact PySem.EqNone.ne_none_bool (yt I q (by simp))
  | int j=>obtain⟨b,rfl⟩:=a;exact PySem.EqNone.ne_none_int (yt I q (by simp))
  | str j=>obtain⟨b,rfl⟩:=a;exact PySem.EqNone.ne_none_str (yt I q (by simp))
  | _=>exact absurd (show false=true from c) M4
 | bl i =>
  cases d;cases y with
  | non=>cases a;exact PySem.EqNone.ne_bool_none (yt I q (by simp))
  | bl j=>cases a;exact ne_bool (yt I q (congrArg not jd0))
  | str j=>obtain⟨b,rfl⟩:=a;exact PySem.EqMixed.ne_bool_str (yt I q (by simp))
  | _=>exact absurd (show false=true from c) M4
 | int i =>
  obtain⟨t,rfl⟩:=d;cases y with
  | non=>cases a;exact PySem.EqNone.ne_int_none (yt I q (by simp))
  | int j=>obtain⟨b,rfl⟩:=a;exact ne_int (yt I q (congrArg not jaN))
  | str j=>obtain⟨b,rfl⟩:=a;exact PySem.EqMixed.ne_int_str (yt I q (by simp))
  | _=>exact absurd (show false=true from c) M4
 | str i =>
  obtain⟨t,rfl⟩:=d;cases y with
  | non=>cases a;exact PySem.EqNone.ne_str_none (yt I q (by simp))
  | bl j=>cases a;exact PySem.EqMixed.ne_str_bool (yt I q (by simp))
  | int j=>obtain⟨b,rfl⟩:=a;exact PySem.EqMixed.ne_str_int (yt I q (by simp))
  | str j=>obtain⟨b,rfl⟩:=a;exact ne_str (yt I q (congrArg not jdl))
  | _=>exact absurd (show false=true from c) M4
 | byt i =>
  obtain⟨t,rfl⟩:=d;cases y with
  | byt j=>obtain⟨b,rfl⟩:=a;exact PySem.W.ne_bytes (yt I q (congrArg not jdZ))
  | _=>exact absurd (show false=true from c) M4
 | _=>cases y<;>exact absurd (show false=true from c) M4
theorem jm9:OpR X (compareOp .Lt) (rI0 λi j=>.bl (decide (i < j))):=jmH λ_ _ _ _ _ _ _ q=>lt_int q
theorem jmy:OpR X (compareOp .Gt) (rI0 λi j=>.bl (decide (j < i))):=jmH λ_ _ _ _ _ _ _ q=>gt_int q
theorem jmI:OpR X (compareOp .GtE) (rI0 λi j=>.bl (decide (j<=i))):=jmH λ_ _ _ _ _ _ _ q=>ge_int q
theorem jdS:OpR X (compareOp .In) (λx y H Q=>∃ i j,x=.str i/\y=.str j/\Q (.bl (!(Builtin.Str.occurrences j i 0 j.length 1).isEmpty)) H):=by
 intro a s σ H x y v u Q I b c h;obtain⟨i,j,rfl,rfl,q⟩:=h;obtain⟨t,rfl⟩:=b;obtain⟨d,rfl⟩:=c;exact in_str (yt I q rfl)
theorem uL:OpR X (compareOp .NotIn) (λx y H Q=>∃ i j,x=.str i/\y=.str j/\Q (.bl (!(!(Builtin.Str.occurrences j i 0 j.length 1).isEmpty))) H):=by
 intro a s σ H x y v u Q I b c h;obtain⟨i,j,rfl,rfl,q⟩:=h;obtain⟨t,rfl⟩:=b;obtain⟨d,rfl⟩:=c;exact notIn_str (yt I q rfl)
theorem jac(b:Expr){a:CmpOp}(h:a≠.In:=by decide)(h2:a≠.NotIn:=by decide):behindInMarks a b=false:=by
 have c:(a==CmpOp.In)=false:=by cases a<;>first | rfl | exact absurd rfl h
 have d:(a==CmpOp.NotIn)=false:=by cases a<;>first | rfl | exact absurd rfl h2
 cases b<;>simp[behindInMarks,c,d]
theorem jiI{d:CmpOp}{r:R2}(e:OpR X (compareOp d) r)(f:PE X a ta)(g:PE X b tb)(i:behindInMarks d b=false):PE X (.Compare a [d] [b] pos) (tOp r ta tb):=by
 intro c s σ H Q I h;exact wpAny_Compare1 (jne f g I h λv u j x y k l m n q=>e c j σ k x y v u Q l m n q) i
noncomputable def jjl(t:TE):TT:=λσ H Q=>t σ H λx H'=>∃ k,x=.bl k/\Q k H'
theorem jhO{f:CmpOp}{r:R2}(g:OpR X (compareOp f) r)(i:PE X a ta)(j:PE X b tb)(l:behindInMarks f b=false):PT X (.Compare a [f] [b] pos) (jjl (tOp r ta tb)):=by
 intro d s σ H Q I h;refine wpAny_isTrue_Compare1 (thn (i d s σ H _ I h) λv m ⟨x,n,o,p,q⟩=>thn (j d m σ n _ o q) λu t ⟨y,w,A,B,C⟩ =>
  thn (g d t σ w x y v u _ A p B C) λc J ⟨z,D,E,F,k,e,G⟩=>?_) l
 subst e;cases F;exact wpAny_truthy_bool ⟨D,E,G⟩
theorem jbS:(sizeLine:Nat) < 2 ^ 63:=by rw[sizeLine_eq];decide
theorem jcq:OpR X (binaryOp .Add) (λx y H Q=>∃ i j,x=.str i/\y=.str j/\i.length+j.length<=sizeLine/\Q (.str (i++j)) H):=by
 intro a s σ H x y v u Q I b c h;obtain⟨i,j,rfl,rfl,d,q⟩:=h;obtain⟨t,rfl⟩:=b;obtain⟨e,rfl⟩:=c;exact add_str (λe f=>⟨.str (i++j),H,I.tok _,⟨_,rfl⟩,q⟩) d
theorem jlH{x:V}{us:List Value}(r:Vals [x] us):∃ u,us=[u]/\RelV x u:=by
 cases r with
 | cons a b=>cases b;exact⟨_,rfl,a⟩
theorem jkT{x y:V}{us:List Value}(r:Vals [x,y] us):∃ u w',us=[u,w']/\RelV x u/\RelV y w':=by
 cases r with
 | cons a b =>
  cases b with
  | cons c d=>cases d;exact⟨_,_,rfl,a,c⟩
theorem xj(c:X.calm=true):Vy X (.builtin "max") (λxs H Q=>∃ i j,xs=[.int i,.int j]/\Q (.int (if j > i then j else i)) H):=by
 intro b s σ H xs d Q I r h;obtain⟨i,j,rfl,q⟩:=h;obtain⟨u,e,rfl,⟨t,rfl⟩,⟨f,rfl⟩⟩:=jkT r;refine max_two_ints (I.ok.hd c) λg l k=>⟨_,H,I.kept k,?_,q⟩;by_cases a:j > i
 ·rw[if_pos a,if_pos a];exact⟨_,rfl⟩
 ·rw[if_neg a,if_neg a];exact⟨_,rfl⟩
theorem zv(c:X.calm=true):Vy X (.builtin "min") (λxs H Q=>∃ i j,xs=[.int i,.int j]/\Q (.int (if j < i then j else i)) H):=by
 intro b s σ H xs d Q I r h;obtain⟨i,j,rfl,q⟩:=h;obtain⟨u,e,rfl,⟨t,rfl⟩,⟨f,rfl⟩⟩:=jkT r;refine min_two_ints (I.ok.hd c) λg l k=>⟨_,H,I.kept k,?_,q⟩;by_cases a:j < i
 ·rw[if_pos a,if_pos a];exact⟨_,rfl⟩
 ·rw[if_neg a,if_neg a];exact⟨_,rfl⟩
def jml(K:PySem.W.Frag)(x:V)(H:Hp)(n:Nat):Prop :=
 match x with
 | .str y=>y.length<=sizeLine/\n=y.length
 | .byt y=>y.size<=sizeLine/\n=y.size
 | .ref p=>(∃ xs,SqL K H p xs/\n=xs.length) \/ ∃ xs,SqT K H p xs/\n=xs.length
 | _=>False
theorem jgN:Vy X (.builtin "len") (λxs H Q=>∃ x n,xs=[x]/\jml X.K x H n/\Q (.int n) H):=by
 intro j s σ H xs m Q I r h;obtain⟨x,n,rfl,e,q⟩:=h;obtain⟨u,rfl,c⟩:=jlH r;have o:=jbS;have v:sizeLine=16777216:=sizeLine_eq;cases x with
 | str y =>
  obtain⟨t,rfl⟩:=c;obtain⟨k,b⟩:y.length<=sizeLine/\n=y.length:=e;subst b;exact len_str (by omega) ⟨.int _,H,I.tok _,⟨_,rfl⟩,q⟩
 | byt y =>
  obtain⟨t,rfl⟩:=c;obtain⟨k,b⟩:y.size<=sizeLine/\n=y.size:=e;subst b;exact PySem.W.len_bytes (by omega) ⟨.int _,H,I.tok _,⟨_,rfl⟩,q⟩
 | ref p =>
  cases c;have b:(∃ xs,SqL X.K H p xs/\n=xs.length) \/ ∃ xs,SqT X.K H p xs/\n=xs.length:=e;rcases b with⟨xs,d,b⟩ | ⟨xs,d,b⟩
  ·subst b;obtain⟨f,g,i,l⟩:=I.list d;have a:=g.length;exact Calls.call_len_list i.isList (by simp only[N4];omega) ⟨.int xs.length,H,I.tok _,⟨_,by simp only[N4];rw[a]⟩,q⟩
  ·subst b;obtain⟨f,g,i,l⟩:=I.tuple d;have a:=g.length;exact len_tuple i (by simp only[N4];omega) ⟨.int xs.length,H,I.tok _,⟨_,by simp only[N4];rw[a]⟩,q⟩
 | _=>exact(show False from e).elim
end
structure ObjM(h:Heap)(x dx C:Addr)(mA:Str->Option Value):Prop where
 obj:h.get? x=some (PySem.W.instObj C dx)
 ns:h.Ns1 dx mA
 ne:dx≠x
theorem jew{h:Heap}{dx:Addr}{mA:Str->Option Value}(n:h.Ns1 dx mA):∃ od,h.get? dx=some od/\∀ name,PySem.W.lookIn name od=some (mA name):=by
 obtain⟨o,c,k,d,hd,f,_,g⟩:=n;refine⟨o,d,λname=>?_⟩;have e:=g name;unfold nsFind findBy at e;rw[<- Array.find?_toList] at e;unfold PySem.W.lookIn;rw[hd];dsimp only;split
 ·rename_i y q;rw[q] at e;exact congrArg some e
 ·rename_i q;rw[q] at e;have a:c.toList.any (·.refKey)=false:=by
   rw[List.any_eq_false];intro y i;obtain⟨z,t,b⟩:=f y (Array.mem_toList_iff.mp i);simp[DictEntry.refKey,b]
  have j:¬ c.toList.any (·.refKey)=true:=by rw[a];exact M4
  rw[if_neg j];exact congrArg some e
theorem ObjM.look{h:Heap}{x dx C:Addr}{mA:Str->Option Value}(I:ObjM h x dx C mA):∃ od,PySem.W.InstAt h x (PySem.W.instObj C dx) C (some od)/\∀ name,PySem.W.lookIn name od=some (mA name) :=
 let ⟨od,ho,hl⟩:=jew I.ns
 ⟨od,⟨I.obj,rfl,rfl,ho⟩,hl⟩
section
variable {prog:Program}{w:World}{A:Around}{E:Value->Shared->Prop}{s:Shared}{K:PySem.W.Frag}{x dx C f:Addr}{mA:Str->Option Value}{name:Str}{v:Value}
theorem jjI{a:Bool}{Q:Value->Shared->Prop}(X:K.In s.heap)(I:ObjM s.heap x dx C mA)(c:PySem.W.plainGet K C name=true)(d:PySem.W.hasDictIn K C=true)
  (e:PySem.W.findIn K (.ref C) name=some none) (f:mA name=some v) (b:PySem.W.handedIn v=true) (h:Q v { s with toks:=s.toks+1 }) :
  wpAny (model prog w) A (getAttr (.ref x) name a) Q E s:=by
 obtain⟨od,J,g⟩:=I.look;exact PySem.W.get_value X J (PySem.W.plainGet_of c).1 (PySem.W.findObj_own d e rfl (by rw[g,f])) b h
theorem jgB{pl:Sem Bool}{Q:Value×List Value->Shared->Prop}(X:K.In s.heap)(I:ObjM s.heap x dx C mA)(a:PySem.W.plainGet K C name=true)
  (b:PySem.W.findIn K (.ref C) name=some (some (.ref f))) (c:PySem.W.isFn K (.ref f)=true) (d:mA name=none) (h:Q (.ref f,[.ref x]) s) :
  wpAny (model prog w) A (getMethod (.ref x) name pl) Q E s:=by
 obtain⟨od,J,e⟩:=I.look;exact PySem.W.method_fn X J (PySem.W.plainGet_of a).1 (PySem.W.plainGet_of a).2 b (beq_iff_eq.mp c) (by show(PySem.W.lookIn name od).map (·.isSome)=some false;rw[e,d];rfl) h
theorem jiv{ns:List Str}{Q:Unit->Shared->Prop}(X:K.In s.heap)(I:ObjM s.heap x dx C mA)
  (j:PySem.W.findIn K (.ref C) "__setattr__" = some (some (.builtin "object.__setattr__"))) (k:PySem.W.plainOver K C=true) (l:PySem.W.takerIn K C name=some none) (m:PySem.W.hasDictIn K C=true)
  (n:PySem.Within mA ns) (hsz:ns.length<=sizeLine)
  (h:∀ h',ObjM h' x dx C (λy=>if y=name then some v else mA y)->Heap.SameBut dx s.heap h'->Q () { s with heap:=h',toks:=s.toks+2 }) :
  wpAny (model prog w) A (setAttr (.ref x) name v) Q E s:=by
 obtain⟨od,J,u⟩:=I.look;refine PySem.W.set_plain X J j (PySem.W.osa_open (s:={ s with toks:=s.toks+1 }) (r:=none) X J k l λb=>?_);obtain⟨z,o,e⟩:=PySem.W.any_some m;have p:s.heap.get? x=some ⟨.ref C,some dx,.plain,#[]⟩:=I.obj;refine L3 (M7 (L3 (L3 (wpAny_loadPart p (L3 (PySem.W.Looks.here (s:={ s with toks:=s.toks+1 }) (PySem.W.looks_clsIn X o) ?_))))));rw[e];refine M7 (a:=some dx) (L3 (M7 (L3 ?_)));refine wpAny_nsSet1 (s:={ s with toks:=s.toks+1 }) I.ns λh' c d=>?_;obtain⟨B,q,t,f,g,i⟩:=c.count (PySem.Within.cons name v n);refine L3 (wpAny_lookBehind f (by rw[g];exact pastItsLine_dict (N8 i (by rw[M3];omega))) ?_);exact M7 (h _ ⟨(d.2 _ (Ne.symm I.ne)).trans I.obj,c,I.ne⟩ d)
theorem jfU{R:Result->Shared->Prop}{vs:List Value}{a:List (Str×Value)}(X:K.In s.heap)(b:PySem.W.makesIn K C=true)
  (hi:PySem.W.findIn K (.ref C) "__init__" = some (some (.ref f))) (c:PySem.W.typeIn K (.ref f)=some (.type "function"))
  (h:codeAny (model prog w) (A.under (.builtin "type.__call__" ⟨.ref C::vs,a⟩)) (.call (.ref f) ⟨.ref (s.heap.objs.size+1)::vs,a⟩) (PySem.W.InitBack (s.heap.objs.size+1) R)
   { s with heap:=(s.heap.push PySem.W.emptyDict).push (PySem.W.instObj C s.heap.objs.size) }) :
  codeAny (model prog w) A (.call (.ref C) ⟨vs,a⟩) R s:=by
 obtain⟨e,g,d,t,os⟩:=s;exact PySem.W.make_core (PySem.W.makes_of X b) (PySem.W.looks_findIn X hi) (λself=>PySem.W.bind_fn X self c) (.inl rfl) h
end
noncomputable def wZ(f:Str)(v:V):List (Str×V)->List (Str×V)
 | []=>[(f,v)]
 | (g,x)::r=>if g=f then(g,v)::r else(g,x)::wZ f v r
theorem zM(f g:Str)(v:V):∀ fs:List (Str×V),(wZ f v fs).lookup g=if g=f then some v else fs.lookup g
 | []=>by
  show List.lookup g [(f,v)]=_;by_cases h:g=f
  ·have a:(g==f)=true:=beq_iff_eq.mpr h;simp only[List.lookup,a,if_pos h]
  ·have a:(g==f)=false:=U3.mpr h;simp only[List.lookup,a,if_neg h]
 | (k,x)::r=>by
  have c:=zM f g v r;rw[show wZ f v ((k,x)::r)=(if k=f then(k,v)::r else(k,x)::wZ f v r) from rfl];by_cases b:k=f
  ·rw[if_pos b];by_cases h:g=k
   ·have a:(g==k)=true:=beq_iff_eq.mpr h;simp only[List.lookup,a,if_pos (h.trans b)]
   ·have a:(g==k)=false:=U3.mpr h;simp only[List.lookup,a,if_neg (λe:g=f=>h (e.trans b.symm))]
  ·rw[if_neg b];by_cases h:g=k
   ·have a:(g==k)=true:=beq_iff_eq.mpr h;simp only[List.lookup,a,if_neg (λe:g=f=>b (h.symm.trans e))]
   ·have a:(g==k)=false:=U3.mpr h;simp only[List.lookup,a];exact c
theorem zi(f:Str)(v:V):∀ fs:List (Str×V),f∈(wZ f v fs).map (·.1)/\∀ g,g∈fs.map (·.1)->g∈(wZ f v fs).map (·.1)
 | []=>⟨by simp[wZ],λg h=>by simp at h⟩
 | (k,x)::r=>by
  obtain⟨b,c⟩:=zi f v r;rw[show wZ f v ((k,x)::r)=(if k=f then(k,v)::r else(k,x)::wZ f v r) from rfl];by_cases a:k=f
  ·rw[if_pos a];subst a;exact⟨by simp,λg h=>by simpa using h⟩
  ·rw[if_neg a];refine⟨?_,λg h=>?_⟩
   ·rw[L5];exact L6 _ b
   ·rw[L5] at h ⊢;rcases M5.mp h with e | e
    ·exact M5.mpr (.inl e)
    ·exact L6 _ (c g e)
theorem QZ(f:Str)(v:V):∀ fs:List (Str×V),(wZ f v fs).length<=fs.length+1
 | []=>by simp[wZ]
 | (k,x)::r=>by
  have b:=QZ f v r;rw[show wZ f v ((k,x)::r)=(if k=f then(k,v)::r else(k,x)::wZ f v r) from rfl];by_cases a:k=f
  ·rw[if_pos a,M3,M3];omega
  ·rw[if_neg a,M3,M3];omega
theorem RelO.some_of{v:V}{o:Option Value}(r:RelO (some v) o):∃ u,o=some u/\RelV v u:=by
 cases o with
 | none=>exact(show False from r).elim
 | some u=>exact⟨u,rfl,r⟩
theorem RelO.none_of{o:Option Value}(r:RelO none o):o=none:=by
 cases o with
 | none=>rfl
 | some u=>exact(show False from r).elim
theorem jdG{v:V}{u:Value}(r:RelV v u):PySem.W.handedIn u=true:=by
 cases v with
 | non=>cases(show u=Value.none from r);rfl
 | bl b=>cases(show u=Value.bool b from r);rfl
 | int i=>obtain⟨t,e⟩:=(show ∃ t,u=Value.int i t from r);cases e;rfl
 | str x=>obtain⟨t,e⟩:=(show ∃ t,u=Value.str x t from r);cases e;rfl
 | byt b=>obtain⟨t,e⟩:=(show ∃ t,u=Value.bytes b t from r);cases e;rfl
 | flt b=>obtain⟨t,e⟩:=(show ∃ t,u=Value.float b t from r);cases e;rfl
 | ref a=>cases(show u=Value.ref a from r);rfl
 | ty n=>cases(show u=Value.type n from r);rfl
section
variable {P:Program}{w:World}{H H':Hp}{h h':Heap}{a C dx:Addr}{fs fs':List (Str×V)}
theorem jbb(hok:HOk P w H h)(e:H a=some (.ins C dx fs)):∃ mA,ObjM h a dx C mA/\(∀ f,RelO (fs.lookup f) (mA f))/\PySem.Within mA (fs.map (·.1))/\fs.length<=1000/\H dx=some (.own a):=by
 obtain⟨d,z,ne,ob,mA,n,r,q⟩:=(show ObjOk P w H h a (.ins C dx fs) from hok a _ e);exact⟨mA,⟨ob,n,ne⟩,r,q,z,d⟩
end
structure Cls(K:PySem.W.Frag)(C:Addr):Prop where
 pg:PySem.W.plainGet K C Str.empty=true
 hd:PySem.W.hasDictIn K C=true
 po:PySem.W.plainOver K C=true
 sa:PySem.W.findIn K (.ref C) "__setattr__" = some (some (.builtin "object.__setattr__"))
theorem Cls.get{K:PySem.W.Frag}{C:Addr}(c:Cls K C)(f:Str):PySem.W.plainGet K C f=true:=c.pg
def NoAttr(K:PySem.W.Frag)(C:Addr)(f:Str):Prop:=PySem.W.findIn K (.ref C) f=some none
theorem NoAttr.taker{K:PySem.W.Frag}{C:Addr}{f:Str}(n:NoAttr K C f):PySem.W.takerIn K C f=some none:=by
 unfold PySem.W.takerIn;rw[show PySem.W.findIn K (.ref C) f=some none from n];rfl
structure Con(K:PySem.W.Frag)(C:Addr)(f:Str)(v:V)(u:Value):Prop where
 at_:PySem.W.findIn K (.ref C) f=some (some u)
 rel:RelV v u
 get:PySem.W.specialIn K u "__get__" = some none
 cp:PySem.W.copiedNames.contains f=false
structure Meth(K:PySem.W.Frag)(C:Addr)(m:Str)(f:Addr):Prop where
 at_:PySem.W.findIn K (.ref C) m=some (some (.ref f))
 fn:PySem.W.isFn K (.ref f)=true
 kp:PySem.W.keepIn K (.ref f)=true
section
variable {X:Cx}{pins:List (Addr×Obj)}{σ:St}{H:Hp}{s:Shared}{a C dx:Addr}{fs:List (Str×V)}{f:Str}{v:V}{A:Around}{E:Value->Shared->Prop}
theorem jcm{b:Bool}{Q:Value->Shared->Prop}(I:Inv X pins σ H s)(e:H a=some (.ins C dx fs))(c:Cls X.K C)(n:NoAttr X.K C f)(l:fs.lookup f=some v)
  (h:∀ u s',Inv X pins σ H s'->RelV v u->Q u s'):wpAny (model X.prog X.w) A (getAttr (.ref a) f b) Q E s:=by
 obtain⟨g,O,r,_,_,_⟩:=jbb I.hok e;obtain⟨u,i,d⟩:=RelO.some_of (v:=v) (o:=g f) (by rw[<- l];exact r f);exact jjI I.kIn O (c.get f) c.hd n i (jdG d) (h u _ (I.tok _) d)
theorem xD{m:Str}{g:Addr}{pl:Sem Bool}{Q:Value×List Value->Shared->Prop}(I:Inv X pins σ H s)(e:H a=some (.ins C dx fs))(c:Cls X.K C)(k:Meth X.K C m g)(l:fs.lookup m=none)
  (h:Q (.ref g,[.ref a]) s):wpAny (model X.prog X.w) A (getMethod (.ref a) m pl) Q E s:=by
 obtain⟨b,O,r,_,_,_⟩:=jbb I.hok e;have d:b m=none:=RelO.none_of (by rw[<- l];exact r m);exact jgB I.kIn O (c.get m) k.at_ k.fn d h
theorem jcC{y:V}{u:Value}{Q:Unit->Shared->Prop}(I:Inv X pins σ H s)(e:H a=some (.ins C dx fs))(c:Cls X.K C)(n:NoAttr X.K C f)(D:fs.length < 1000)(l:RelV y u)
  (h:∀ s',Inv X pins σ (upd H a (.ins C dx (wZ f y fs))) s'->Q () s'):wpAny (model X.prog X.w) A (setAttr (.ref a) f u) Q E s:=by
 obtain⟨i,O,r,j,_,k⟩:=jbb I.hok e;have m:(fs.map (·.1)).length<=sizeLine:=by rw[L1,sizeLine_eq];omega
 refine jiv I.kIn O c.sa c.po n.taker c.hd j m λp d t=>h _ ?_;have hd:∃ o,p.get? dx=some o:=let ⟨o,_,_,e',_⟩:=d.ns;⟨o,e'⟩
 refine I.write (x:=a) (e:=dx) (by rw[e];exact True.intro) (.inr k) (λb q v z=>(t.2 b v).trans z) hd ?_;refine⟨by rw[jm O.ne];exact k,?_,O.ne,d.obj,_,d.ns,λg=>?_,λg B=>?_⟩
 ·have:=QZ f y fs;omega
 ·show RelO ((wZ f y fs).lookup g) (if g=f then some u else i g);rw[zM];by_cases q:g=f
  ·rw[if_pos q,if_pos q];exact l
  ·rw[if_neg q,if_neg q];exact r g
 ·by_cases q:g=f
  ·rw[q];exact(zi f y fs).1
  ·refine(zi f y fs).2 g (j g λz=>B ?_);show(if g=f then some u else i g)=none;rw[if_neg q];exact z
theorem Inv.made(I:Inv X pins σ H s):Inv X pins σ (upd (upd H s.heap.objs.size (.own (s.heap.objs.size+1))) (s.heap.objs.size+1) (.ins C s.heap.objs.size []))
  { s with heap:=(s.heap.push PySem.W.emptyDict).push (PySem.W.instObj C s.heap.objs.size) }:=by
 have c:(s.heap.push PySem.W.emptyDict).get? s.heap.objs.size=some PySem.W.emptyDict:=E2 s.heap rfl;have d:((s.heap.push PySem.W.emptyDict).push (PySem.W.instObj C s.heap.objs.size)).get? (s.heap.objs.size+1)=some (PySem.W.instObj C s.heap.objs.size):=by
  have:=E2 (s.heap.push PySem.W.emptyDict) (o:=PySem.W.instObj C s.heap.objs.size) rfl
  rwa [Heap.size_push] at this
 have f:(s.heap.push PySem.W.emptyDict).Ns s.heap.objs.size (λ_=>none):=⟨PySem.W.emptyDict,#[],_,c,rfl,(λe g=>absurd g (by simp)),λ_=>rfl⟩;have h:=I.laid (a:=s.heap.objs.size) (o:=.own (s.heap.objs.size+1)) (h':=s.heap.push PySem.W.emptyDict) (t':=s.toks) (λb u q=>L8 _ q) (M9 _) ⟨_,c⟩;refine h.laid (a:=s.heap.objs.size+1) (o:=.ins C s.heap.objs.size []) (t':=s.toks) (λb u q=>L8 _ q) (Nat.le_of_eq (Heap.size_push _ _)) ?_;have ne:s.heap.objs.size≠s.heap.objs.size+1:=N7 (Nat.lt_succ_self _);refine⟨by rw[jm ne,jy],U6 _,ne,d,λ_=>none,(Heap.Ns1.of_empty f).at λo q=>L8 _ q,λ_=>True.intro,λy i=>absurd rfl i⟩
theorem jin{prog:Program}{w:World}{env:Env}{e:Expr}{f:Str}{pos:Pos}{s:Shared}{Q:Value->Shared->Prop}(a:attributeBase e f env (eval e env)=eval e env)
  (h:wpAny (model prog w) A (eval e env) (λo s₁=>wpAny (model prog w) A (getAttr o f true) Q E s₁) E s):wpAny (model prog w) A (eval (.Attribute e f pos) env) Q E s :=
 Attribute_any_ h (by rw[arm_eval_Attribute,a])
end
noncomputable def jj5(K:PySem.W.Frag)(ta:TE)(f:Str):TE:=λσ H Q=>ta σ H λx H1=>∃ a C dx fs v,x=.ref a/\H1 a=some (.ins C dx fs)/\Cls K C/\NoAttr K C f/\fs.lookup f=some v/\Q v H1
noncomputable def jmJ(K:PySem.W.Frag)(ta tv:TE)(f:Str):TS:=λD σ H=>tv σ H λy H1=>ta σ H1 λx H2=>∃ a C dx fs,x=.ref a/\H2 a=some (.ins C dx fs)/\Cls K C/\NoAttr K C f/\fs.length < 1000 /\
 D.nx σ (upd H2 a (.ins C dx (wZ f y fs)))
section
variable {X:Cx}{o e value:Expr}{f:Str}{pos pos' tpos:Pos}{ta tv:TE}
theorem jhF(d:PE X e ta)(g:attributeBase e f X.env (eval e X.env)=eval e X.env):PE X (.Attribute e f pos) (jj5 X.K ta f):=by
 intro b s σ H Q I h;refine jin g (thn (d b s σ H _ I h) λu r ⟨x,i,j,k,a,C,t,fs,v,ex,m,c,n,l,q⟩=>?_);subst ex;obtain rfl:u=Value.ref a:=k;exact jcm j m c n l λw y o p=>⟨v,i,o,p,q⟩
theorem jkU(d:PE X o ta)(e:PE X value tv)(g:swapsWith value (some (.Attribute o f pos')) pos.line X.env=pure false):PS X (.Assign [.Attribute o f pos'] value pos) (jmJ X.K ta tv f):=by
 intro b s σ H D I h;refine plainObj_wpAny_Assign_Attribute (thn (e b s σ H _ I h) λu i ⟨y,j,k,m,q⟩=>thn (d b i σ j _ k q) λp A ⟨x,B,r,t,a,C,E,fs,ex,v,c,n,l,w⟩=>?_) g;subst ex;obtain rfl:p=Value.ref a:=t;exact jcC r v c n l m λF z=>⟨σ,_,z,w⟩
end
section
variable {X:Cx}{pins:List (Addr×Obj)}{σ:St}{H:Hp}{s:Shared}{A:Around}{E:Value->Shared->Prop}{Q:Value->Shared->Prop}{c:Value}{b:Bool}
inductive TyOf (K:PySem.W.Frag) (H:Hp):V->Value->Prop where
 | non:TyOf K H .non (.type "NoneType")
 | bl (x:Bool):TyOf K H (.bl x) (.type "bool")
 | int (i:Int):TyOf K H (.int i) (.type "int")
 | str (x:Str):TyOf K H (.str x) (.type "str")
 | flt (x:UInt64):TyOf K H (.flt x) (.type "float")
 | lst {a:Addr}{xs:List V}(e:H a=some (.lst xs)):TyOf K H (.ref a) (.type "list")
 | frz {a:Addr}{o:Obj}{xs:List V}(e:H a=some (.frz o (.lst xs))):TyOf K H (.ref a) (.type "list")
 | tup {a:Addr}{xs:List V}(e:H a=some (.tup xs)):TyOf K H (.ref a) (.type "tuple")
 | dK {a:Addr}{kvs:List (Key×V)}(e:H a=some (.dK kvs)):TyOf K H (.ref a) (.type "dict")
 | dT {a:Addr}{kvs:List (List Key×V)}(e:H a=some (.dT kvs)):TyOf K H (.ref a) (.type "dict")
 | ins {a C dx:Addr}{fs:List (Str×V)}(e:H a=some (.ins C dx fs)) (cl:Cls K C) (ha:PySem.W.findIn K (.ref C) "__class__" = some (some (.builtin "object.__class__")))
   (hn:PySem.W.specialIn K (.builtin "object.__class__") "__get__" = some (some (.builtin "getset_descriptor.__get__"))) (htk:PySem.W.takesIn K (.builtin "object.__class__")=some true)
   (hm:PySem.W.mroIn K C (.type "object")=some true):TyOf K H (.ref a) (.ref C)
end
structure Room(k:Nat)(A:Around):Prop where
 hd:A.handled=none
 dp:A.depth+3*k+5 < recursionLimit
 un:A.units+16*k+200 < cLine
theorem Room.mono{j k:Nat}{A:Around}(r:Room k A)(h:j<=k):Room j A:=⟨r.hd,by have:=r.dp;omega,by have:=r.un;omega⟩
theorem Room.deeper{k:Nat}{A:Around}(r:Room (k+1) A)(env:Env):Room k (A.deeper env) :=
 ⟨r.hd,by have:=r.dp;show A.depth+1+3*k+5 < _;omega,by have:=r.un;show A.units+3+16*k+200 < _;omega⟩
theorem jcZ{A:Around}{C:Addr}{us:List Value}{a:List (Str×Value)}:(A.under (.builtin "type.__call__" ⟨.ref C::us,a⟩)).depth=A.depth+1:=by
 first | rfl | simp[Around.under,Code.weight,Code.isCreation,Code.isGuard,Code.isCaller,Code.frames,Code.isFrame,guardIds]
theorem jc6{A:Around}{C:Addr}{us:List Value}{a:List (Str×Value)}:(A.under (.builtin "type.__call__" ⟨.ref C::us,a⟩)).units=A.units+1:=by
 first | rfl | simp[Around.under,Code.cUnits,Code.frames,Code.isFrame]
theorem Room.make{k:Nat}{A:Around}(r:Room (k+1) A)(C:Addr)(us:List Value)(a:List (Str×Value)):Room k (A.under (.builtin "type.__call__" ⟨.ref C::us,a⟩)) :=
 ⟨r.hd,by have:=r.dp;rw[jcZ];omega,by have:=r.un;rw[jc6];omega⟩
theorem Room.depth{k:Nat}{A:Around}(r:Room k A):A.depth < recursionLimit:=by have:=r.dp;omega
theorem Room.units{k:Nat}{A:Around}(r:Room k A):A.units+64 < cLine:=by have:=r.un;omega
noncomputable def jav:TA:=λ_ H Q=>Q [] H
noncomputable def Y3(ta:TE)(tr:TA):TA:=λσ H Q=>ta σ H λx H1=>tr σ H1 λxs H2=>Q (x::xs) H2
section
variable {X:Cx}{e:Expr}{es:List Expr}{te:TE}{t:TA}{pos:Pos}
theorem zE:PA X [] jav:=λ_ _ _ _ H Q I h=>Calls.spliced_nil ⟨[],H,I,.nil,h⟩
theorem Y9(b:PE X e te)(c:PA X es t)(d:starEach (e::es) X.env=(false,eval e X.env)::starEach es X.env:=by rfl):PA X (e::es) (Y3 te t):=by
 intro pos a s σ H Q I h;rw[d];show wpAny _ _ (spliced ((false,eval e X.env)::backTo pos (starEach es X.env))) _ _ s;refine Calls.spliced_cons (thn (b a s σ H _ I h) λu f ⟨x,g,i,j,k⟩=>?_);exact thn (c pos a f σ g _ i k) λq r ⟨l,m,n,o,p⟩=>⟨x::l,m,n,.cons j o,p⟩
noncomputable def jlM(t:TA):TE:=λσ H Q=>t σ H λxs H1=>xs.length<=sizeLine/\∀ p,H1 p=none->Q (.ref p) (upd H1 p (.tup xs))
noncomputable def jnd(t:TA):TE:=λσ H Q=>t σ H λxs H1=>xs.length<=sizeLine/\∀ p,H1 p=none->Q (.ref p) (upd H1 p (.lst xs))
theorem jhq{x1}(h:PA X es t):PE X (.Tuple es x1 pos) (jlM t):=by
 intro a s σ H Q I g;refine wpAny_Tuple_spliced (thn (h pos a s σ H _ I g) λi c ⟨j,d,f,r,z,q⟩=>⟨by rw[<- r.length];exact z,?_⟩);have k:d c.heap.objs.size=none:=f.hok.fresh (M9 _);refine⟨.ref c.heap.objs.size,upd d c.heap.objs.size (.tup j),f.laid (t':=c.toks) (λb u e=>L8 _ e) (M9 _) ?_,rfl,q _ k⟩;exact⟨z,i,r,⟨_,E2 _ rfl,rfl,_,rfl⟩,_,E2 _ rfl,rfl⟩
theorem jlB(h:PA X es t):PE X (.List es pos) (jnd t):=by
 intro a s σ H Q I g;refine wpAny_List_spliced (thn (h pos a s σ H _ I g) λi c ⟨j,d,f,r,z,q⟩=>⟨by rw[<- r.length];exact z,?_⟩);have k:d c.heap.objs.size=none:=f.hok.fresh (M9 _);refine⟨.ref c.heap.objs.size,upd d c.heap.objs.size (.lst j),f.laid (t':=c.toks) (λb u e=>L8 _ e) (M9 _) ?_,rfl,q _ k⟩;exact⟨z,i,0,r,E2 _ rfl⟩
end
noncomputable abbrev Sp:=List V->Hp->VK->XK->Prop
noncomputable abbrev CXT:=List Env->Hp->Shared->XK->Value->Shared->Prop
structure Env0(P:Program)(w:World)(K:PySem.W.Frag)(mg:Str->Option Value)(base:Heap)(A:Around)(outer:List Env)(s:Shared)(H:Hp):Prop where
 frames:A.frames=some outer
 mod:Mod K mg base
 bs:∀ b o,base.get? b=some o->s.heap.get? b=some o/\H b=none
 bsz:base.objs.size<=s.heap.objs.size
 funs:s.heap.FunFrames base outer
 frf:∀ b∈frs outer,H b=none
 hok:HOk P w H s.heap
 bare:AllBare s.gens
def CE(outer:List Env)(P:Program)(w:World)(H:Hp)(s:Shared)(Q:VK)(u:Value)(s':Shared):Prop :=
 ∃ v H',s'.os=s.os/\AllBare s'.gens/\Un (frs outer) [] H H' s.heap s'.heap/\HOk P w H' s'.heap/\RelV v u/\Q v H'
def CR(CX:CXT)(outer:List Env)(P:Program)(w:World)(H:Hp)(s:Shared)(Q:VK)(E:XK)(r:Result)(s':Shared):Prop :=
 match r with
 | .ok (.ret u)=>CE outer P w H s Q u s'
 | .ok _=>False
 | .error e=>CX outer H s E e s'
structure FnOk(P:Program)(w:World)(K:PySem.W.Frag)(mg:Str->Option Value)(base:Heap)(CX:CXT)(k:Nat)(f:Addr)(fd:FuncData)(ps:List Str)(sp:Sp):Prop where
 len:∀ vs H Q E,sp vs H Q E->vs.length=ps.length
 run:∀(A:Around) (outer:List Env) (s:Shared) (H:Hp) (args:Args) (us:List Value) (vs:List V) (Q:VK) (E:XK),Room k A->Env0 P w K mg base A outer s H->BindsTo s fd args (ps.zip us)->Vals vs us->sp vs H Q E ->
  codeAny (model P w) A (.call (.ref f) args) (CR CX outer P w H s Q E) s
theorem FnOk.imp{P:Program}{w:World}{K:PySem.W.Frag}{mg:Str->Option Value}{base:Heap}{CX:CXT}{k:Nat}{f:Addr}{fd:FuncData}{ps:List Str}{sp a:Sp}(F:FnOk P w K mg base CX k f fd ps sp)
  (h:∀ vs H Q E,a vs H Q E->sp vs H Q E):FnOk P w K mg base CX k f fd ps a :=
 ⟨λvs H Q E q=>F.len vs H Q E (h _ _ _ _ q),λA outer s H b c vs Q E d e g i j=>F.run A outer s H b c vs Q E d e g i (h _ _ _ _ j)⟩
theorem Env0.make{P:Program}{w:World}{K:PySem.W.Frag}{mg:Str->Option Value}{base:Heap}{A:Around}{outer:List Env}{s:Shared}{H:Hp}(e:Env0 P w K mg base A outer s H)(C:Addr)(us:List Value)(a:List (Str×Value)) :
  Env0 P w K mg base (A.under (.builtin "type.__call__" ⟨.ref C::us,a⟩)) outer s H:=⟨by first | exact e.frames | (simpa [Around.under,Code.envs,Code.isFrame,pushEnvs] using e.frames),e.mod,e.bs,e.bsz,e.funs,e.frf,e.hok,e.bare⟩
section
variable {X:Cx}{pins:List (Addr×Obj)}{σ:St}{H:Hp}{s s':Shared}
theorem Inv.env0(I:Inv X pins σ H s):Env0 X.prog X.w X.K X.mg X.base X.A X.stack s H :=
 ⟨I.ok.frames,I.ok.mod,I.bs,N8 I.ok.bsz I.sz,I.stack,I.stkFree,I.hok,I.bare⟩
theorem Inv.after{Q:VK}{u:Value}(I:Inv X pins σ H s)(h:CE X.stack X.prog X.w H s Q u s'):EP X pins σ Q u s':=by
 obtain⟨v,c,os,bare,un,hok,r,q⟩:=h;obtain⟨e,g,d,t,a⟩:=s';obtain rfl:a=s.os:=os;exact⟨v,c,I.call (h':=e) (g':=g) (d':=d) (t':=t) (ch:=[]) un hok bare (λb z=>absurd z (by simp)),r,q⟩
end
noncomputable def jdj(sp:Sp)(dvs:List V)(E:XK)(t:TA):TE:=λσ H Q=>t σ H λvs H1=>sp (vs++dvs) H1 Q E
noncomputable def uK(C:Addr)(m:Str)(sp:Sp)(dvs:List V)(E:XK)(ta:TE)(t:TA):TE:=λσ H Q=>ta σ H λx H1=>∃ a dx fs,x=.ref a/\H1 a=some (.ins C dx fs)/\fs.lookup m=none /\
 t σ H1 λvs H2=>sp (x::(vs++dvs)) H2 Q E
noncomputable def jiP(C:Addr)(sp:Sp)(dvs:List V)(E:XK)(t:TA):TE:=λσ H Q=>t σ H λvs H1=>∀ x dx,H1 x=none->H1 dx=none->dx≠x ->
 sp (.ref x::(vs++dvs)) (upd (upd H1 dx (.own x)) x (.ins C dx [])) (λv H2=>v=.non/\Q (.ref x) H2) E
def Binds(K:PySem.W.Frag)(fd:FuncData)(ps:List Str)(ds:List Value):Prop :=
 ∀(s:Shared) (us:List Value),K.In s.heap->(us++ds).length=ps.length->BindsTo s fd ⟨us,[]⟩ (ps.zip (us++ds))
theorem Binds.all{K:PySem.W.Frag}{fd:FuncData}{ps:List Str}(h:∀ us:List Value,us.length=ps.length->bindArgs fd ⟨us,[]⟩=pure (ps.zip us)):Binds K fd ps []:=λs us _ a=>by
 rw[N0] at a ⊢;exact .of_eq (h us a)
def Kw(CX:CXT)(X:Cx)(E:XK):Prop:=∀(pins:List (Addr×Obj)) (σ:St) (H:Hp) (s:Shared) (e:Value) (s':Shared),Inv X pins σ H s->CX X.stack H s E e s'->X.xe e s'
section
variable {X:Cx}{CX:CXT}{k:Nat}{f C:Addr}{fd:FuncData}{ps:List Str}{sp:Sp}{dvs:List V}{ds:List Value}{E:XK}{x m:Str}{p pos apos:Pos}{e o:Expr}{es:List Expr}{ta:TE}{t:TA}
theorem jdY{pins:List (Addr×Obj)}{σ:St}{H:Hp}{s:Shared}{Q:VK}{us:List Value}{vs:List V}(F:FnOk X.prog X.w X.K X.mg X.base CX k f fd ps sp)(c:Room k X.A)(d:Binds X.K fd ps ds)(hd:Vals dvs ds)(g:Kw CX X E)
  (I:Inv X pins σ H s) (r:Vals vs us) (h:sp (vs++dvs) H Q E):wpAny (model X.prog X.w) X.A (call (.ref f) us) (EP X pins σ Q) X.xe s:=by
 have b:Vals (vs++dvs) (us++ds):=r.append hd;have i:(us++ds).length=ps.length:=by rw[<- b.length];exact F.len _ _ _ _ h
 refine wpAny_call (codeAny_mono (F.run X.A X.stack s H ⟨us,[]⟩ (us++ds) (vs++dvs) Q E c I.env0 (d s us I.kIn i) b h) λr j a=>?_);cases r with
 | error e=>exact g pins σ H s e j I a
 | ok fl =>
  cases fl with
  | ret u=>exact I.after a
  | next=>exact False.elim a
  | brk=>exact False.elim a
  | cont=>exact False.elim a
theorem jjp(F:FnOk X.prog X.w X.K X.mg X.base CX k f fd ps sp)(g:Room k X.A)(i:Gl X x)(j:X.mg x=some (.ref f))(l:PySem.W.keepIn X.K (.ref f)=true)(m:Binds X.K fd ps ds)(hd:Vals dvs ds)(n:Kw CX X E)
  (o:PA X (e::es) t) (b:(x==("__debug__" : Str))=false:=by decide) (u:starEach (e::es) X.env=(false,eval e X.env)::starEach es X.env:=by rfl) (c:(backTo pos (starEach es X.env)).any (·.1)=false:=by rfl) :
  PE X (.Call (.Name x p) (e::es) [] pos) (jdj sp dvs E t):=by
 intro a s σ H Q I h;refine wpAny_Call_Name_kw (jdO I i j ?_ b);refine PySem.W.callWith_K (h₀:=X.base) I.ok.mod.kin l (thn (o pos a s σ H _ I h) λv y ⟨z,B,d,r,q⟩=>⟨d.kIn,?_⟩) u c;exact jdY F g m hd n d r q
theorem jer{pl:Sem Bool}(y:PE X o ta)(c:Cls X.K C)(i:Meth X.K C m f)(F:FnOk X.prog X.w X.K X.mg X.base CX k f fd ps sp)(z:Room k X.A)(B:Binds X.K fd ps ds)(hd:Vals dvs ds)(D:Kw CX X E)(G:PA X (e::es) t)
  (d:starEach (e::es) X.env=(false,eval e X.env)::starEach es X.env:=by rfl) (g:(backTo pos (starEach es X.env)).any (·.1)=false:=by rfl)
  (J:eval (.Call (.Attribute o m apos) (e::es) [] pos) X.env=(do
   let ov <- eval o X.env
   standAt apos.atName
   let (f,first) <- holding [ov] (getMethod ov m pl)
   callWith pos f first (backTo pos (starEach (e::es) X.env)) (backToKw pos (keywordEach [] X.env))):=by rfl) :
  PE X (.Call (.Attribute o m apos) (e::es) [] pos) (uK C m sp dvs E ta t):=by
 intro b s σ H Q I h;refine PySem.W.methodCall_KW (pl:=pl) (thn (y b s σ H _ I h) λu L ⟨x,M,j,N,a,R,fs,ex,O,l,q⟩=>?_) J;subst ex;obtain rfl:u=Value.ref a:=N;refine xD j O c i l ?_;refine PySem.W.callWith_K (first:=[.ref a]) (h₀:=X.base) I.ok.mod.kin i.kp (thn (G pos b L σ M _ j q) λn S ⟨p,T,v,r,P⟩=>⟨v.kIn,?_⟩) d g;exact jdY (us:=.ref a::n) (vs:=.ref a::p) F z B hd D v (.cons rfl r) P
theorem jgn{pl:Sem Bool}(g:PE X o ta)(c:Cls X.K C)(e:Meth X.K C m f)(F:FnOk X.prog X.w X.K X.mg X.base CX k f fd ps sp)(i:Room k X.A)(j:Binds X.K fd ps ds)(hd:Vals dvs ds)(n:Kw CX X E)
  (p:eval (.Call (.Attribute o m apos) [] [] pos) X.env=(do
   let ov <- eval o X.env
   standAt apos.atName
   let (f,first) <- holding [ov] (getMethod ov m pl)
   callWith pos f first (backTo pos (starEach [] X.env)) (backToKw pos (keywordEach [] X.env))):=by rfl) :
  PE X (.Call (.Attribute o m apos) [] [] pos) (uK C m sp dvs E ta jav):=by
 intro b s σ H Q I h;refine PySem.W.methodCall_KW (pl:=pl) (thn (g b s σ H _ I h) λu v ⟨x,y,d,r,a,z,fs,ex,t,l,q⟩=>?_) p;subst ex;obtain rfl:u=Value.ref a:=r;refine xD d t c e l ?_;exact PySem.W.callWith_K0 (first:=[.ref a]) d.kIn e.kp (jdY (us:=[.ref a]) (vs:=[.ref a]) F i j hd n d (.cons rfl .nil) q)
structure Mk(K:PySem.W.Frag)(C f:Addr):Prop where
 makes:PySem.W.makesIn K C=true
 init:PySem.W.findIn K (.ref C) "__init__" = some (some (.ref f))
 fn:PySem.W.isFn K (.ref f)=true
 kp:PySem.W.keepIn K (.ref C)=true
theorem jge{pins:List (Addr×Obj)}{σ:St}{H:Hp}{s:Shared}{Q:VK}{us:List Value}{vs:List V}(M:Mk X.K C f)(F:FnOk X.prog X.w X.K X.mg X.base CX k f fd ps sp)(g:Room (k+1) X.A)(i:Binds X.K fd ps ds)(hd:Vals dvs ds)
  (j:Kw CX X E) (I:Inv X pins σ H s) (r:Vals vs us)
  (h:∀ x dx,H x=none->H dx=none->dx≠x->sp (.ref x::(vs++dvs)) (upd (upd H dx (.own x)) x (.ins C dx [])) (λv H2=>v=.non/\Q (.ref x) H2) E) :
  wpAny (model X.prog X.w) X.A (call (.ref C) us) (EP X pins σ Q) X.xe s:=by
 have c:=h (s.heap.objs.size+1) s.heap.objs.size (I.hok.fresh (Nat.le_succ _)) (I.hok.fresh (M9 _)) (N7 (Nat.lt_succ_self _));have b:=Inv.made (C:=C) I;have d:Vals (V.ref (s.heap.objs.size+1)::(vs++dvs)) (Value.ref (s.heap.objs.size+1)::(us++ds)):=.cons rfl (r.append hd);have l:(Value.ref (s.heap.objs.size+1)::us++ds).length=ps.length:=by
  have e:=d.length;rw[F.len _ _ _ _ c] at e;exact e.symm
 refine wpAny_call (jfU (f:=f) I.kIn M.makes M.init (beq_iff_eq.mp M.fn) (codeAny_mono (F.run _ X.stack _ _ ⟨Value.ref (s.heap.objs.size+1)::us,[]⟩ (Value.ref (s.heap.objs.size+1)::(us++ds)) _ _ E (g.make C us [])
  (b.env0.make C us []) (i _ (Value.ref (s.heap.objs.size+1)::us) b.kIn l) d c) λr m a=>?_))
 cases r with
 | error e=>exact j pins σ _ _ e m b a
 | ok fl =>
  cases fl with
  | ret u =>
   obtain⟨v,n,o,p,q,t⟩:=b.after a;subst q;exact⟨p,⟨V.ref (s.heap.objs.size+1),n,o,rfl,t⟩⟩
  | next=>exact False.elim a
  | brk=>exact False.elim a
  | cont=>exact False.elim a
theorem jh8(M:Mk X.K C f)(F:FnOk X.prog X.w X.K X.mg X.base CX k f fd ps sp)(g:Room (k+1) X.A)(i:Gl X x)(j:X.mg x=some (.ref C))(l:Binds X.K fd ps ds)(hd:Vals dvs ds)(m:Kw CX X E)
  (n:PA X (e::es) t) (b:(x==("__debug__" : Str))=false:=by decide) (o:starEach (e::es) X.env=(false,eval e X.env)::starEach es X.env:=by rfl) (c:(backTo pos (starEach es X.env)).any (·.1)=false:=by rfl) :
  PE X (.Call (.Name x p) (e::es) [] pos) (jiP C sp dvs E t):=by
 intro a s σ H Q I h;refine wpAny_Call_Name_kw (jdO I i j ?_ b);refine PySem.W.callWith_K (h₀:=X.base) I.ok.mod.kin M.kp (thn (n pos a s σ H _ I h) λu v ⟨y,z,d,r,q⟩=>⟨d.kIn,?_⟩) o c;exact jge M F g l hd m d r q
end
def PK(X:Cx)(kws:List Keyword)(t:TA):Prop :=
 ∀(pos:Pos) (pins:List (Addr×Obj)) (s:Shared) (σ:St) (H:Hp) (Q:List V->Hp->Prop),Inv X pins σ H s->t σ H Q->wpAny (model X.prog X.w) X.A (evalAll ((backToKw pos (keywordEach kws X.env)).map (·.2))) (AP X pins σ Q) X.xe s
section
variable {X:Cx}{CX:CXT}{k:Nat}{f C:Addr}{fd:FuncData}{ps ks:List Str}{sp:Sp}{E:XK}{x m:Str}{p pos apos kpos:Pos}{e o:Expr}{es:List Expr}{kws:List Keyword}{te ta:TE}{t tk:TA}{nm:Option Str}
structure KBinds(K:PySem.W.Frag)(fd:FuncData)(ps ks:List Str)(g:List Value->List Value->List Value)(gV:List V->List V->List V):Prop where
 to:∀(s:Shared) (us ws:List Value),K.In s.heap->(g us ws).length=ps.length->BindsTo s fd ⟨us,ks.zip ws⟩ (ps.zip (g us ws))
 rel:∀{vs:List V}{us:List Value}{zs:List V}{ws:List Value},Vals vs us->Vals zs ws->Vals (gV vs zs) (g us ws)
variable {g:List Value->List Value->List Value}{gV:List V->List V->List V}
end
structure FnScope(N P:List Str)(sc:Scope):Prop where
 kind:sc.kind=.function
 co:sc.isCoroutine=false
 gen:sc.isGenerator=false
 nd:N.Nodup
 pre:N.take P.length=P
 par:∀ x∈P,sc.names.lookup x=some .local \/ sc.names.lookup x=some .cell
 nofree:∀ y∈sc.names,y.2≠.free
theorem uj{kindOf:Str->Option NameKind}{x:Str}:∀{binds:List (Str×Value)}{m:Str->Option Value},(∀ v,(x,v)∉binds)->bindL kindOf binds m x=m x
 | [],_,_=>rfl
 | (n,v)::r,m,h=>by
  unfold bindL;rw[uj λw a=>h w (L6 _ a)];split
  ·have:x≠n:=by rintro rfl;exact h v L7
   simp[this]
  ·rfl
theorem u6{kindOf:Str->Option NameKind}{x:Str}:∀{binds:List (Str×Value)}{m:Str->Option Value},(∀ v,(x,v)∉binds)->bindC kindOf binds m x=m x
 | [],_,_=>rfl
 | (n,v)::r,m,h=>by
  unfold bindC;rw[u6 λw a=>h w (L6 _ a)];split
  ·rfl
  ·have:x≠n:=by rintro rfl;exact h v L7
   simp[this]
theorem ux{kindOf:Str->Option NameKind}{x:Str}{v:Value}:∀{P:List Str}{vs:List Value}{i:Nat}{m:Str->Option Value},P.Nodup->P[i]?=some x->vs[i]?=some v->kindOf x=some .local ->
  bindL kindOf (P.zip vs) m x=some v
 | [],_,_,_,_,h,_,_=>by simp at h
 | _::_,[],_,_,_,_,h,_=>by simp at h
 | p::P,w::vs,0,m,nd,a,b,c=>by
  simp at a b;subst a;subst b;show bindL kindOf ((p,w)::P.zip vs) m p=_;unfold bindL;rw[uj λv d=>(List.nodup_cons.mp nd).1 (List.of_mem_zip d).1,if_pos c];simp
 | p::P,w::vs,i+1,m,nd,a,b,c=>by
  show bindL kindOf ((p,w)::P.zip vs) m x=_;unfold bindL;exact ux (i:=i) (List.nodup_cons.mp nd).2 (by simpa using a) (by simpa using b) c
theorem uq{kindOf:Str->Option NameKind}{x:Str}{v:Value}:∀{P:List Str}{vs:List Value}{i:Nat}{m:Str->Option Value},P.Nodup->P[i]?=some x->vs[i]?=some v->kindOf x≠some .local ->
  bindC kindOf (P.zip vs) m x=some v
 | [],_,_,_,_,h,_,_=>by simp at h
 | _::_,[],_,_,_,_,h,_=>by simp at h
 | p::P,w::vs,0,m,nd,a,b,c=>by
  simp at a b;subst a;subst b;show bindC kindOf ((p,w)::P.zip vs) m p=_;unfold bindC;rw[u6 λv d=>(List.nodup_cons.mp nd).1 (List.of_mem_zip d).1,if_neg c];simp
 | p::P,w::vs,i+1,m,nd,a,b,c=>by
  show bindC kindOf ((p,w)::P.zip vs) m x=_;unfold bindC;exact uq (i:=i) (List.nodup_cons.mp nd).2 (by simpa using a) (by simpa using b) c
noncomputable def start(N:List Str)(vs:List V):St:=vs.map some++List.replicate (N.length - vs.length) none
noncomputable def jhl(CX:CXT)(P:Program)(w:World)(K:PySem.W.Frag)(mg:Str->Option Value)(base:Heap)(N:List Str)(qual:Str)(scope:Scope)(f:Addr)(cd:Value)(A:Around)(outer:List Env)(s:Shared)(H:Hp)(E:XK):Cx where
 prog:=P
 w:=w
 K:=K
 mg:=mg
 base:=base
 A:=A.deeper (envOfC qual scope s.heap.objs.size f cd)
 N:=N
 s₀:=s
 H₀:=H
 env:=envOfC qual scope s.heap.objs.size f cd
 outer:=outer
 stack:=envOfC qual scope s.heap.objs.size f cd::outer
 ex:=[]
 calm:=true
 fn:=λ_=>true
 pn:=[]
 xe:=λe s'=>wpAny (model P w) (A.deeper (envOfC qual scope s.heap.objs.size f cd)) (leaving (envOfC qual scope s.heap.objs.size f cd) e) (λ_ s''=>CX outer H s E e s'') (λe' s''=>CX outer H s E e' s'') s'
theorem jbC{a:Scope}{n:Nat}{x:Str}(h:a.names.lookup x=some .cell):∃ c,(cellsFrom n a.names []).lookup x=some c:=by
 have q:=PySem.W.cellsFrom_some a.names n [] (.inl h);exact Option.isSome_iff_exists.mp q
theorem jei{CX:CXT}{P:Program}{w:World}{K:PySem.W.Frag}{mg:Str->Option Value}{base:Heap}{N ps:List Str}{qual:Str}{scope:Scope}{f:Addr}{cd:Value}{A:Around}{outer:List Env}{s C:Shared}{H:Hp}{E:XK}{us:List Value}{vs:List V}
  (S:FnScope N ps scope) (hd:A.handled=none) (g:Env0 P w K mg base A outer s H) (L:vs.length=ps.length) (r:Vals vs us)
  (x:InCallC s s.heap.objs.size (bindL (envOfC qual scope s.heap.objs.size f cd).kindOf (ps.zip us) λ_=>none) (cellsFrom (s.heap.objs.size+1) scope.names []) (bindC (envOfC qual scope s.heap.objs.size f cd).kindOf (ps.zip us) λ_=>none) C) :
  Inv (jhl CX P w K mg base N qual scope f cd A outer s H E) [] (start N vs) H C:=by
 have G:ps.length<=N.length:=by have:=congrArg List.length S.pre;rw[E1] at this;omega
 obtain⟨t,M,rfl,D⟩:=x.done;have j:∀ b:Addr,b∉(jhl CX P w K mg base N qual scope f cd A outer s H E).ex:=λb z=>absurd (show b∈([]:List Addr) from z) (by simp);refine⟨⟨g.mod,S.kind,rfl,rfl,M9 _,λy z c t d=>?_,λy l=>?_,λy c _ h=>?_,λ_=>hd,Around.frames_deeper g.frames,.inr ⟨rfl,rfl⟩,λb z=>absurd z (j b),g.bs,g.bsz,λb _ _=>j b,λb z=>absurd z (j b),g.funs,g.frf⟩,
  rfl,g.bare,Un.kept D,⟨_,x.toInCall.ns,λi y v t d O=>?_⟩,λy c h=>⟨_,x.cell y c h⟩,g.hok.fresh (M9 _),λy c h=>?_,λp m=>absurd (show p∈([]:List (Addr×Obj)) from m) (by simp),g.hok.kept D,?_⟩
 ·exact name_of_addr x.apart (PySem.mem_of_lookup t) (PySem.mem_of_lookup d)
 ·have l:scope.names.lookup y=some .cell \/ scope.names.lookup y=some .free:=l;rcases l with l | l
  ·exact jbC l
  ·exact absurd rfl (S.nofree _ (PySem.mem_of_lookup l))
 ·exact Nat.le_of_lt (x.above y c (PySem.mem_of_lookup h))
 ·have B:i < vs.length:=by
   unfold start at d;by_cases B:i < vs.length
   ·exact B
   ·rw[List.getElem?_append_right (by simpa using B)] at d;rw[List.getElem?_replicate] at d;split at d<;>cases d
  have I:vs[i]?=some v:=by
   unfold start at d;rw[List.getElem?_append_left (by simpa using B),List.getElem?_map] at d;cases e:vs[i]? with
   | none=>rw[e] at d;cases d
   | some a=>rw[e] at d;cases d;rfl
  obtain⟨u,F,J⟩:=r.get I;have m:ps[i]?=some y:=by
   rw[<- S.pre,List.getElem?_take_of_lt (by omega)];exact t
  have o:ps.Nodup:=by rw[<- S.pre];exact S.nd.sublist (List.take_sublist _ _)
  refine⟨u,J,?_⟩;rcases S.par y (List.mem_of_getElem? m) with k | k
  ·exact .inl ⟨k,ux o m F k⟩
  ·obtain⟨c,e⟩:=jbC (n:=s.heap.objs.size+1) k;refine .inr ⟨.inl k,c,e,?_⟩;have q:=x.cell y c e;rw[uq o m F (by show scope.names.lookup y≠_;rw[k];decide)] at q;exact q
 ·exact g.hok.fresh (Nat.le_of_lt (x.above y c (PySem.mem_of_lookup h)))
 ·unfold start;show _=N.length;rw[N5,L1,List.length_replicate];omega
theorem jnp{CX:CXT}{P:Program}{w:World}{K:PySem.W.Frag}{mg:Str->Option Value}{base:Heap}{k:Nat}{f:Addr}{name qual:Str}{params:Arguments}{body:List Stmt}{scope:Scope}{F kV h pm a ct oc:Value}{an od:Option Addr}
  {p:Array (Option Value)}{N ps:List Str}{sp:Sp}(O:K.lookup f=some ⟨oc,od,.func (PySem.W.fnOf name qual params body scope F kV h pm an a ct),p⟩) (z:PySem.W.codeIn K a qual=true) (S:FnScope N ps scope)
  (len:∀ vs H Q E,sp vs H Q E->vs.length=ps.length)
  (c:∀(A:Around) (outer:List Env) (s:Shared) (H:Hp) (vs:List V) (Q:VK) (E:XK),Room k (A.deeper (envOfC qual scope s.heap.objs.size f a))->sp vs H Q E ->
   ∃ t,PSs (jhl CX P w K mg base N qual scope f a A outer s H E) body t/\t { nx:=λ_ H'=>Q .non H',rt:=Q } (start N vs) H) :
  FnOk P w K mg base CX (k+1) f (PySem.W.fnOf name qual params body scope F kV h pm an a ct) ps sp:=by
 refine⟨len,λA outer s H G R vs Q E B i T r j=>?_⟩;have U:=len _ _ _ _ j;have L:K.In s.heap:=i.mod.kin.keeps λb o e=>(i.bs b o e).1;have lim:s.heap.NoLimit:=i.mod.nolimit.keeps λb o e=>(i.bs b o e).1;have d:∀ y∈ps.zip R,scope.names.lookup y.1=some .local \/ (scope.names.lookup y.1=some .cell/\((cellsFrom (s.heap.objs.size+1) scope.names []).lookup y.1).isSome=true):=λ⟨n,v⟩ X=>by
  rcases S.par n (List.of_mem_zip X).1 with q | q
  ·exact .inl q
  ·exact .inr ⟨q,PySem.W.cellsFrom_some _ _ _ (.inl q)⟩
 refine codeAny_call_function B.depth (L _ _ O) rfl S.co S.gen rfl (PySem.W.codeRec_of L z) (T _ _ _ _ ?_);refine wpAny_newFunctionEnv_cells S.kind d λenv Y M x=>?_;subst Y;refine⟨lim.keeps x.toInCall.keep,codeAny_func ?_⟩;obtain⟨t,Z,hq⟩:=c A outer s H vs Q E (B.deeper _) j;have I:Inv (jhl CX P w K mg base N qual scope f a A outer s H E) [] (start N vs) H M:=jei S B.hd i U r x;refine wpAny_mono (Z [] M (start N vs) H _ I hq) (λfl C g=>?_) λe C g=>g;have l:∀{m:St}{H':Hp}{v:V}{u:Value},Inv (jhl CX P w K mg base N qual scope f a A outer s H E) [] m H' C->RelV v u->Q v H'->CE outer P w H s Q u C :=
  λ{m H' v u} J D q=>⟨v,H',J.os,J.bare,J.base,J.hok,D,q⟩
 cases fl with
 | ret u =>
  obtain⟨v,m,H',J,D,q⟩:=g;exact l J D q
 | next =>
  obtain⟨m,H',J,q⟩:=g;exact l (v:=V.non) (u:=Value.none) J rfl q
 | brk =>
  obtain⟨_,_,_,q⟩:=g;exact False.elim q
 | cont =>
  obtain⟨_,_,_,q⟩:=g;exact False.elim q
section
variable {X:Cx}{x:Str}{p pos:Pos}{e:Expr}{es:List Expr}{t:TA}{id T:String}{r:List V->Hp->VK->Prop}
noncomputable def tCB(r:List V->Hp->VK->Prop)(t:TA):TE:=λσ H Q=>t σ H λvs H1=>r vs H1 Q
theorem wH(d:Vy X (.builtin id) r)(f:Gl X x)(g:X.mg x=none)(i:bootBuiltins x=some (.builtin id))(j:PA X (e::es) t)(hn:x≠"__name__":=by decide)(b:(x==("__debug__" : Str))=false:=by decide)
  (k:starEach (e::es) X.env=(false,eval e X.env)::starEach es X.env:=by rfl) (c:(backTo pos (starEach es X.env)).any (·.1)=false:=by rfl):PE X (.Call (.Name x p) (e::es) [] pos) (tCB r t):=by
 intro a s σ H Q I h;refine wpAny_Call_Name_kw (VB I f g i ?_ hn b);exact PyProof.Rows.callWith_builtin1 (thn (j pos a s σ H _ I h) λl m ⟨n,o,q,u,v⟩=>d a m σ o n l Q q u v) k c
theorem uR(d:Vy X (.type T) r)(f:Gl X x)(g:X.mg x=none)(i:bootBuiltins x=some (.type T))(j:PA X (e::es) t)(hn:x≠"__name__":=by decide)(b:(x==("__debug__" : Str))=false:=by decide)
  (k:starEach (e::es) X.env=(false,eval e X.env)::starEach es X.env:=by rfl) (c:(backTo pos (starEach es X.env)).any (·.1)=false:=by rfl):PE X (.Call (.Name x p) (e::es) [] pos) (tCB r t):=by
 intro a s σ H Q I h;refine wpAny_Call_Name_kw (VB I f g i ?_ hn b);exact PyProof.Rows.callWith_type1 (thn (j pos a s σ H _ I h) λl m ⟨n,o,q,u,v⟩=>d a m σ o n l Q q u v) k c
end
end L2
namespace HT
open PySem PyProof.Rows
section
open PySem.SeqAt
open PySem.AutoSeq1 (wpAny_loadPart')
open PySem.MeetsSeq PySem.MeetsSeq2 PySem.MeetsSeq3
end
section
variable {prog:Program}{w:World}{A:Around}{E:Value->Shared->Prop}{s:Shared}
theorem cat_tup{t b:Addr}{vs ws:List Value}{Q:Value->Shared->Prop}(p:IsTup s.heap t vs.toArray)(q:IsTup s.heap b ws.toArray)(k:vs≠[])
  (h1:ws=[]->Q (.ref t) s) (h2:ws≠[]->Q (.ref s.heap.objs.size) { s with heap:=s.heap.push { cls:=.type "tuple",data:=.seq (vs++ws).toArray } })
  (hsz:vs.length+ws.length<=sizeLine):wpAny (model prog w) A (binaryOp .Add (.ref t) (.ref b)) Q E s:=by
 obtain⟨⟨cls,dd,data,sl⟩,h,l,n,hd⟩:=id p;obtain⟨⟨m,c,j,d⟩,a,f,o,g⟩:=id q;simp only at l hd f g;subst l hd f g;have e:vs.toArray++ws.toArray=(vs++ws).toArray:=by simp
 by_cases i:ws=[]
 ·exact concat_meets ⟨_,h,rfl⟩ ⟨_,a,rfl⟩ noFill_tuple_add seq_tuple_add PySem.F.slot_tuple_add PySem.F.entry_tuple_add (PySem.F.args_tuple_add_2 _ _)
   (tuple_addW1 t b vs.toArray ws.toArray n o dd c sl d (by simpa using k) (by simp[i])) ⟨h,a,h1 i⟩
 ·refine concat_meets ⟨_,h,rfl⟩ ⟨_,a,rfl⟩ noFill_tuple_add seq_tuple_add PySem.F.slot_tuple_add PySem.F.entry_tuple_add (PySem.F.args_tuple_add_2 _ _)
   (tuple_addW2 t b vs.toArray ws.toArray n o dd c sl d (by simpa using k) (by simpa using i) (by rw[N4,N4];exact hsz)) ⟨h,a,?_⟩
  rw[e];exact h2 i
noncomputable def sIx(n d:Nat):Option Int->Nat
 | none=>d
 | some v=>if v < 0 then(v+(n:Int)).toNat else min v.toNat n
theorem sIx_none(n d:Nat):sIx n d none=d:=rfl
theorem sIx_nat(n d k:Nat):sIx n d (some (k:Int))=min k n:=by
 show(if(k:Int) < 0 then((k:Int)+(n:Int)).toNat else min (k:Int).toNat n)=min k n;rw[if_neg (by omega),N9]
theorem sIx_le(n d:Nat)(hd:d<=n)(o:Option Int):sIx n d o<=n:=by
 cases o with
 | none=>exact hd
 | some v =>
  show(if v < 0 then(v+(n:Int)).toNat else min v.toNat n)<=n;by_cases a:v < 0
  ·rw[if_pos a];omega
  ·rw[if_neg a];exact Nat.min_le_right _ _
theorem je9(v:Int)(n d:Nat):(if v < 0 then max (v+(n:Int)) 0 else min v (n:Int))=((sIx n d (some v):Nat):Int):=by
 show(if v < 0 then max (v+(n:Int)) 0 else min v (n:Int))=(((if v < 0 then(v+(n:Int)).toNat else min v.toNat n):Nat):Int);by_cases a:v < 0
 ·simp only[if_pos a];omega
 ·simp only[if_neg a];omega
theorem jc2(lo hi:Option Int)(n:Nat):Builtin.Slice.sliceAdjust lo hi 1 (n:Int)=(((sIx n 0 lo:Nat):Int),((sIx n n hi:Nat):Int)):=by
 have a:¬ ((1:Int) < 0):=by omega
 unfold Builtin.Slice.sliceAdjust;simp only[a,if_false];refine Prod.ext ?_ ?_
 ·cases lo with
  | none=>rfl
  | some v=>exact je9 v n 0
 ·cases hi with
  | none=>rfl
  | some v=>exact je9 v n n
theorem jcn(i j:Nat):Builtin.Slice.slicePlaces (i:Int) (j:Int) 1=j - i:=by
 unfold Builtin.Slice.slicePlaces;have a:(1:Int) > 0:=by omega
 simp only[a,if_true,Int.ediv_one];split<;>omega
theorem x6{v:Value}{o:Option Int}{Q:Option Int->Shared->Prop}(p:IsPart v o)(h:Q o s):wpAny (model prog w) A (Builtin.Slice.slicePartIndex v) Q E s:=by
 cases p with
 | none=>exact slicePart_none h
 | int i t=>exact slicePart_int h
theorem QA{sl:Addr}{c d:Value}{lo hi:Option Int}{n:Nat}{Q:Int×Int×Nat->Shared->Prop}(e:s.heap.IsSliceOf sl c d .none)(pl:IsPart c lo)(f:IsPart d hi)
  (h:Q (((sIx n 0 lo:Nat):Int),1,sIx n n hi - sIx n 0 lo) s):wpAny (model prog w) A (Builtin.Slice.sliceApplied (.ref sl) (pure (n:Int))) Q E s:=by
 obtain⟨os,a,g,b⟩:=id e;unfold Builtin.Slice.sliceApplied Builtin.Slice.sliceFields;refine L3 (L3 (U7 a b (x:=c) rfl (L3 (U7 a b (x:=d) rfl (L3 (U7 a b (x:=.none) rfl (M7 ?_)))))));refine L3 (slicePart_none ?_);show wpAny _ _ (if((1:Int)==0)=true then _ else _) _ _ s;rw[if_neg (by decide)];refine L3 (x6 pl (L3 (x6 f (L3 (M7 ?_)))));show wpAny _ _ (match Builtin.Slice.sliceAdjust lo hi 1 (n:Int) with | (lo,hi)=>pure (lo,(1:Int),Builtin.Slice.slicePlaces lo hi 1)) _ _ s;rw[jc2 lo hi n];show wpAny _ _ (pure (((sIx n 0 lo:Nat):Int),(1:Int),Builtin.Slice.slicePlaces ((sIx n 0 lo:Nat):Int) ((sIx n n hi:Nat):Int) 1)) _ _ s;rw[jcn];exact M7 h
theorem jgz(xs:Array Value)(i k:Nat):((List.range k).filterMap λ(m:Nat)=>xs[((i:Int)+(m:Int)*1).toNat]?).toArray=((xs.toList.drop i).take k).toArray:=by
 have e:(λ(m:Nat)=>xs[((i:Int)+(m:Int)*1).toNat]?)=λm=>xs[i+m]?:=by
  funext m
  have:((i:Int)+(m:Int)*1).toNat=i+m:=by omega
  rw[this]
 rw[e];have:=pick_run xs i k;rw[List.filterMap_map] at this;have a:((λx=>xs[x]?) ∘ λx=>i+x)=λm=>xs[i+m]?:=rfl;rw[a] at this;rw[this]
theorem getItem_tuple_cut{t sl:Addr}{items:Array Value}{g i:Value}{lo hi:Option Int}{Q:Value->Shared->Prop}(b:IsTup s.heap t items)(j:s.heap.IsSliceOf sl g i .none)(pl:IsPart g lo)(k:IsPart i hi)
  (l:¬ (sIx items.size 0 lo=0/\sIx items.size items.size hi=items.size))
  (h:Q (.ref s.heap.objs.size) { s with heap:=s.heap.push { cls:=.type "tuple",data:=.seq ((items.toList.drop (sIx items.size 0 lo)).take (sIx items.size items.size hi - sIx items.size 0 lo)).toArray } })
  (hsz:items.size<=sizeLine):wpAny (model prog w) A (getItem (.ref t) (.ref sl)) Q E s:=by
 have a:sizeOk (.seq ((items.toList.drop (sIx items.size 0 lo)).take (sIx items.size items.size hi - sIx items.size 0 lo)).toArray):=by
  show((items.toList.drop (sIx items.size 0 lo)).take (sIx items.size items.size hi - sIx items.size 0 lo)).toArray.size<=sizeLine;rw[N4,E1,List.length_drop,Array.length_toList];omega
 have o:sIx items.size items.size hi<=items.size:=sIx_le _ _ (M9 _) hi;obtain⟨os,c,d,n⟩:=id j;have e:s.TypeIs (.ref sl) "slice":=⟨os,c,d⟩;unfold getItem
 try with_reducible refine wpAny_holding ?_
 first | refine L3 (M7 ?_) | skip
 refine L3 (wpAny_sequenceKey b.typeIs (by decide) ?_);refine L3 (wpAny_callSpecial?_slot (name:=Str.ofString "__getitem__") b.typeIs PyProof.Rows.slot_tuple_getitem
  (wpAny_call_entry PyProof.Rows.slot_tuple_getitem b.typeIs entry_tuple_getitem ?_ (args_tuple_getitem _ _)))
 show wpAny _ _ (Builtin.Tuple.tupleItemsOf (.ref t) >>= _) _ _ s;refine L3 (tupleItemsOf_ b ?_);refine L3 (wpAny_typeOf e ?_);rw[if_pos (by decide)];refine L3 (QA j pl k ?_);have f:¬ ((((sIx items.size 0 lo:Nat):Int)==0&&(1:Int)==1&&(sIx items.size items.size hi - sIx items.size 0 lo)==items.size)=true):=by
  intro q;rw[M0,M0] at q;have p:((sIx items.size 0 lo:Nat):Int)=0:=eq_of_beq q.1.1;have r:sIx items.size items.size hi - sIx items.size 0 lo=items.size:=eq_of_beq q.2;exact l ⟨by omega,by omega⟩
 show wpAny _ _ (if(((sIx items.size 0 lo:Nat):Int)==0&&(1:Int)==1&&(sIx items.size items.size hi - sIx items.size 0 lo)==items.size)=true then _ else _) _ _ s;rw[if_neg f,jgz]
 first
  | exact L3 (m:=Builtin.Tuple.tupleExact _) (wpAny_newObj_type (M7 ⟨_,rfl,M7 h⟩) a)
  | exact L3 (m:=Builtin.Tuple.tupleExact _) (wpAny_newObj_type (L3 (M7 (M7 ⟨_,rfl,M7 h⟩))) a)
  | exact L3 (L3 (m:=Builtin.Tuple.tupleExact _) (wpAny_newObj_type (M7 (M7 ⟨_,rfl,M7 h⟩)) a))
  | exact L3 (L3 (m:=Builtin.Tuple.tupleExact _) (wpAny_newObj_type (M7 ⟨_,rfl,M7 h⟩) a))
end
end HT
namespace L2
open PySem PySem.Spec PyProof.Rows
noncomputable abbrev TO:=St->Hp->(Option Int->Hp->Prop)->Prop
def PO(X:Cx)(e:Option Expr)(t:TO):Prop :=
 ∀(pins:List (Addr×Obj)) (s:Shared) (σ:St) (H:Hp) (Q:Option Int->Hp->Prop),Inv X pins σ H s->t σ H Q ->
  wpAny (model X.prog X.w) X.A (evalPart e X.env) (λu s'=>∃ o H',Inv X pins σ H' s'/\IsPart u o/\Q o H') X.xe s
noncomputable def jaV:TO:=λ_ H Q=>Q none H
noncomputable def jjr(t:TE):TO:=λσ H Q=>t σ H λx H1=>∃ i,x=.int i/\Q (some i) H1
theorem x3{ns:List Int}:∀{us:List Value},Vals (ns.map V.int) us->IntsAre us ns:=by
 induction ns with
 | nil=>intro us r;rw[List.map_nil] at r;cases r;exact .nil
 | cons n ns a =>
  intro us r;rw[L5] at r;cases r with
  | cons b c =>
   obtain⟨t,e⟩:=b;subst e;exact .cons n t (a c)
section
variable {X:Cx}{e:Expr}{te:TE}{lo hi:Option Expr}{tl th:TO}{pos p2:Pos}
theorem jiQ:PO X none jaV:=by
 intro a s σ H Q I h;rw[evalPart_none];exact M7 ⟨none,H,I,.none,h⟩
theorem jiT(h:PE X e te):PO X (some e) (jjr te):=by
 intro a s σ H Q I b;rw[evalPart_some];refine thn (h a s σ H _ I b) λu j ⟨x,c,d,f,g⟩=>?_;obtain⟨i,rfl,q⟩:=g;obtain⟨t,rfl⟩:=f;exact⟨some i,c,d,.int i t,q⟩
def SlR(X:Cx)(r:V->Option Int->Option Int->Hp->VK->Prop):Prop :=
 ∀(pins:List (Addr×Obj)) (s:Shared) (σ:St) (H:Hp) (x:V) (v vl vu:Value) (lo hi:Option Int) (sl:Addr) (Q:VK),Inv X pins σ H s->RelV x v->s.heap.IsSliceOf sl vl vu .none->IsPart vl lo->IsPart vu hi->r x lo hi H Q ->
  ∃ T id,typeLookup (.type T) "__getitem__" = pure (some (.builtin id))/\s.TypeIs v T/\wpAny (model X.prog X.w) X.A (getItem v (.ref sl)) (EP X pins σ Q) X.xe s
theorem SlR.or{r b:V->Option Int->Option Int->Hp->VK->Prop}(h:SlR X r)(h':SlR X b):SlR X (λx lo hi H Q=>r x lo hi H Q \/ b x lo hi H Q):=by
 intro a s σ H x v c d lo hi sl Q I e f g i q;rcases q with q | q
 ·exact h a s σ H x v c d lo hi sl Q I e f g i q
 ·exact h' a s σ H x v c d lo hi sl Q I e f g i q
noncomputable def tSl(r:V->Option Int->Option Int->Hp->VK->Prop)(te:TE)(tl th:TO):TE:=λσ H Q=>te σ H λx H1=>tl σ H1 λl H2=>th σ H2 λu H3=>r x l u H3 Q
theorem jgH{r:V->Option Int->Option Int->Hp->VK->Prop}(i:SlR X r)(j:PE X e te)(k:PO X lo tl)(m:PO X hi th):PE X (.Subscript e (.Slice lo hi none p2) pos) (tSl r te tl th):=by
 intro a s σ H Q I h;refine Subscript_ (thn (j a s σ H _ I h) λv n ⟨x,o,p,t,y⟩=>?_);refine wpAny_Slice (thn (k a n σ o _ p y) λd z ⟨l,B,C,D,E⟩=>thn (m a z σ B _ C E) λf c ⟨u,g,F,G,J⟩=>?_);rw[evalPart_none];refine M7 ?_;have K:Inv X a σ g { c with heap:=c.heap.push { cls:=.type "slice",data:=.fields #[d,f,.none] } }:=F.kept (t':=c.toks) λb ob q=>L8 _ q;obtain⟨T,id,L,M,N⟩:=i a { c with heap:=c.heap.push { cls:=.type "slice",data:=.fields #[d,f,.none] } } σ g x v d f l u c.heap.objs.size Q K t (Heap.IsSliceOf.new ..) D G J;show wpAny (model X.prog X.w) X.A (subscriptTail e (.Slice lo hi none p2) v (.ref c.heap.objs.size)) (EP X a σ Q) X.xe { c with heap:=c.heap.push { cls:=.type "slice",data:=.fields #[d,f,.none] } };exact tail_any (ops:=[.ref c.heap.objs.size,v]) M L N (by with_unfolding_all rfl)
noncomputable def jhD(xs:List V)(lo hi:Option Int):List V:=(xs.drop (HT.sIx xs.length 0 lo)).take (HT.sIx xs.length xs.length hi - HT.sIx xs.length 0 lo)
theorem zO(xs:List V)(lo hi:Option Int):(jhD xs lo hi).length<=xs.length:=by
 unfold jhD;rw[E1,List.length_drop];omega
def jnC(K:PySem.W.Frag):V->Option Int->Option Int->Hp->VK->Prop:=λx lo hi H Q=>∃ a xs,x=.ref a/\SqT K H a xs /\
 ¬ (HT.sIx xs.length 0 lo=0/\HT.sIx xs.length xs.length hi=xs.length)/\∀ p,H p=none->Q (.ref p) (upd H p (.tup (jhD xs lo hi)))
theorem jkn:SlR X (jnC X.K):=by
 intro i s σ H x v w y e f sl Q I l m n p h;obtain⟨a,d,rfl,t,u,q⟩:=h;cases l;obtain⟨g,r,j,k⟩:=I.tuple t;have c:g.toArray.size=d.length:=by rw[N4];exact r.length.symm
 refine⟨"tuple",_,PyProof.Rows.slot_tuple_getitem.lookup,j.typeIs,?_⟩;refine HT.getItem_tuple_cut j m n p (by rw[c];exact u) ?_ (by rw[c];exact k);rw[c];refine⟨.ref s.heap.objs.size,_,I.laid (t':=s.toks) (o:=.tup (jhD d e f)) (λb ob q=>L8 _ q) (M9 _) ?_,rfl,q _ (I.hok.fresh (M9 _))⟩;exact⟨N8 (zO d e f) k,_,(r.drop (HT.sIx d.length 0 e)).take (HT.sIx d.length d.length f - HT.sIx d.length 0 e),IsTupN.new _ _⟩
noncomputable def jlS(K:PySem.W.Frag):R2:=λx y H Q=>∃ a b xs ys,x=.ref a/\y=.ref b/\SqT K H a xs/\SqT K H b ys/\xs≠[]/\xs.length+ys.length<=sizeLine /\
 (ys=[]->Q (.ref a) H)/\(ys≠[]->∀ p,H p=none->Q (.ref p) (upd H p (.tup (xs++ys))))
theorem Vals.nil_iff{xs:List V}{us:List Value}(r:Vals xs us):us=[]↔xs=[]:=by
 cases r with
 | nil=>simp
 | cons _ _=>simp
theorem jiu:OpR X (binaryOp .Add) (jlS X.K):=by
 intro e s σ H x y v u Q I i j h;obtain⟨a,b,k,l,rfl,rfl,m,n,p,f,r,t⟩:=h;cases i;cases j;obtain⟨A,d,p1,_⟩:=I.tuple m;obtain⟨g,c,p2,_⟩:=I.tuple n;refine HT.cat_tup p1 p2 (λz=>p (d.nil_iff.mp z)) (λz=>⟨.ref a,H,I,rfl,r (c.nil_iff.mp z)⟩) (λz=>?_) (by rw[<- d.length,<- c.length];exact f);refine⟨.ref s.heap.objs.size,_,I.laid (t':=s.toks) (o:=.tup (k++l)) (λb ob q=>L8 _ q) (M9 _) ?_,rfl,t (λw=>z (c.nil_iff.mpr w)) _ (I.hok.fresh (M9 _))⟩;exact⟨by rw[N5];exact f,_,d.append c,IsTupN.new _ _⟩
end
noncomputable def ixN(n:Nat)(i:Int):Option Nat:=if 0<=i then(if i < n then some i.toNat else none) else if -(n:Int)<=i then some (i+n).toNat else none
noncomputable def atI{α:Type}(xs:List α)(i:Int):Option α:=(ixN xs.length i).bind λj=>xs[j]?
theorem jjd{n:Nat}{i:Int}{j:Nat}(h:ixN n i=some j):seqIndex? i n=some j/\j < n/\-(n:Int)<=i/\i < n:=by
 unfold ixN at h;by_cases b:0<=i
 ·rw[if_pos b] at h;by_cases a:i < n
  ·rw[if_pos a] at h;have e:i.toNat=j:=X7 h;exact⟨by rw[seqIndex_of b a,e],by omega,by omega,a⟩
  ·rw[if_neg a] at h;cases h
 ·rw[if_neg b] at h;by_cases a:-(n:Int)<=i
  ·rw[if_pos a] at h;have e:(i+n).toNat=j:=X7 h;exact⟨by rw[seqIndex_neg (by omega) a,e],by omega,a,by omega⟩
  ·rw[if_neg a] at h;cases h
theorem jaL{α:Type}{xs:List α}{i:Int}{v:α}(h:atI xs i=some v):∃ j,seqIndex? i xs.length=some j/\xs[j]?=some v/\j < xs.length/\-(xs.length:Int)<=i/\i < xs.length:=by
 unfold atI at h;cases e:ixN xs.length i with
 | none=>rw[e] at h;cases h
 | some j =>
  rw[e] at h;obtain⟨a,b,c,d⟩:=jjd e;exact⟨j,a,h,b,c,d⟩
def z9(b:Expr):Prop:=∀ o i,subscripted b false o i=operate [o,i] (getItem o i)
def IxR(X:Cx)(r:R2):Prop :=
 ∀(value slice:Expr) (pins:List (Addr×Obj)) (s:Shared) (σ:St) (H:Hp) (x y:V) (v u:Value) (Q:VK),Inv X pins σ H s->RelV x v->RelV y u->r x y H Q ->
  subscripted slice false v u=operate [v,u] (getItem v u)->wpAny (model X.prog X.w) X.A (subscriptTail value slice v u) (EP X pins σ Q) X.xe s
def MtR(X:Cx)(id:String)(r:V->List V->Hp->VK->Prop):Prop :=
 ∀(pins:List (Addr×Obj)) (s:Shared) (σ:St) (H:Hp) (x:V) (xs:List V) (v:Value) (us:List Value) (Q:VK),Inv X pins σ H s->RelV x v->Vals xs us->r x xs H Q ->
  wpAny (model X.prog X.w) X.A (call (.builtin id) (v::us)) (EP X pins σ Q) X.xe s
section
variable {X:Cx}{a b:Expr}{ta tb:TE}{pos:Pos}
theorem IxR.or{r b:R2}(h:IxR X r)(h':IxR X b):IxR X (λx y H Q=>r x y H Q \/ b x y H Q):=by
 intro value slice a s σ H x y v u Q I c d q e;rcases q with q | q
 ·exact h value slice a s σ H x y v u Q I c d q e
 ·exact h' value slice a s σ H x y v u Q I c d q e
theorem jhT{r:R2}(d:IxR X r)(e:PE X a ta)(f:PE X b tb)(g:z9 b):PE X (.Subscript a b pos) (tOp r ta tb):=by
 intro c s σ H Q I h;exact Subscript_ (jne e f I h λv u i x y j k l m q=>d a b c i σ j x y v u Q k l m q (g _ _))
noncomputable def jnB(K:PySem.W.Frag):R2:=λx y H Q=>∃ p xs i v,x=.ref p/\y=.int i/\SqL K H p xs/\atI xs i=some v/\Q v H
noncomputable def jnE(K:PySem.W.Frag):R2:=λx y H Q=>∃ p xs i v,x=.ref p/\y=.int i/\SqT K H p xs/\atI xs i=some v/\Q v H
noncomputable def jnD:R2:=λx y H Q=>∃ z i c,x=.str z/\y=.int i/\z.length<=sizeLine/\atI z.cps.toList i=some c/\Q (.str ⟨#[c]⟩) H
theorem ix_list:IxR X (jnB X.K):=by
 intro value slice a s σ H x y v u Q I n o h k;obtain⟨p,J,i,z,rfl,rfl,A,B,q⟩:=h;cases n;obtain⟨t,rfl⟩:=o;obtain⟨d,r,e,L⟩:=I.list A;obtain⟨j,c,C,M,D,E⟩:=jaL B;obtain⟨w,l,f⟩:=r.get C;have F:=r.length;have N:=jbS;have b:EP X a σ Q w s:=⟨z,H,I,f,q⟩;by_cases m:0<=i
 ·have g:i.toNat=j:=by
   rw[seqIndex_of m E] at c;exact X7 c
  exact item_listR e.isList m (by omega) (by rw[g];simpa using l) b k
 ·have g:(i+(d.toArray.size:Int)).toNat=j:=by
   rw[seqIndex_neg (by omega) D] at c;rw[N4,<- F];exact X7 c
  exact subscriptTail_builtinR (x:=w) e.isList.typeIs slot_list_getitem.lookup
   (wpAny_getItem_list_neg (Q:=λr G=>r=w/\EP X a σ Q r G) e.isList (by omega) (by rw[N4]<;>omega) (by omega) (by rw[g];simpa using l) ⟨rfl,b⟩) k
theorem ix_tup:IxR X (jnE X.K):=by
 intro value slice a s σ H x y v u Q I e f h g;obtain⟨p,D,i,z,rfl,rfl,k,l,q⟩:=h;cases e;obtain⟨t,rfl⟩:=f;obtain⟨m,r,d,E⟩:=I.tuple k;obtain⟨j,n,o,F,G,J⟩:=jaL l;obtain⟨w,A,b⟩:=r.get o;have B:=r.length;have L:=jbS;have c:EP X a σ Q w s:=⟨z,H,I,b,q⟩;exact subscriptTail_builtinR (x:=w) d.typeIs slot_tuple_getitem.lookup
  (getItem_tuple (j:=j) (Q:=λr C=>r=w/\EP X a σ Q r C) d (by omega) (by omega) (by rw[N4,<- B];exact n) (by simpa using A) ⟨rfl,c⟩) g
theorem jlv:IxR X jnD:=by
 intro value slice a s σ H x y v u Q I d e h f;obtain⟨z,i,c,rfl,rfl,r,g,q⟩:=h;obtain⟨t,rfl⟩:=d;obtain⟨w,rfl⟩:=e;obtain⟨j,b,k,A,l,m⟩:=jaL g;have n:z.cps.toList.length=z.length:=by simp[Str.length]
 rw[n] at b l m;have B:=jbS;exact tail_any (typeIs_str s z t) slot_str_getitem.lookup (getItem_str (c:=c) (by
  have o:decide (i < -(2 ^ 63:Int))=false:=X5 (by omega);have p:decide (i ≥ 2 ^ 63)=false:=X5 (by omega);rw[o,p,Bool.or_false]) (by rw[b];simpa using k) ⟨.str ⟨#[c]⟩,H,I.tok _,⟨_,rfl⟩,q⟩) f
noncomputable def rIx(K:PySem.W.Frag):R2:=λx y H Q=>jnB K x y H Q \/ jnE K x y H Q \/ jnD x y H Q
theorem jdA:IxR X (rIx X.K):=ix_list.or (ix_tup.or jlv)
theorem uF(lo hi:Option Int)(n:Nat):(sliceBounds lo hi none n).1=((HT.sIx n 0 lo:Nat):Int)/\(sliceBounds lo hi none n).2.1=((HT.sIx n n hi:Nat):Int)/\(sliceBounds lo hi none n).2.2=1:=by
 refine⟨?_,?_,rfl⟩
 ·cases lo with
  | none=>simp[sliceBounds,HT.sIx]
  | some i =>
   simp only[sliceBounds,HT.sIx,Option.getD_none,show(1:Int) > 0 by decide,if_true];by_cases h:i < 0
   ·simp only[h,if_true]<;>omega
   ·simp only[h,if_false]<;>omega
 ·cases hi with
  | none=>simp[sliceBounds,HT.sIx]
  | some i =>
   simp only[sliceBounds,HT.sIx,Option.getD_none,show(1:Int) > 0 by decide,if_true];by_cases h:i < 0
   ·simp only[h,if_true]<;>omega
   ·simp only[h,if_false]<;>omega
theorem wb(its:List Value)(lo hi:Option Int):slicePick its.toArray lo hi none=((its.drop (HT.sIx its.length 0 lo)).take (HT.sIx its.length its.length hi - HT.sIx its.length 0 lo)).toArray:=by
 obtain⟨a,b,c⟩:=uF lo hi its.toArray.size;unfold slicePick;rw[a,b,c];simp only[sliceRange_one,pick_run,N4]<;>rfl
def jnz(K:PySem.W.Frag):V->Option Int->Option Int->Hp->VK->Prop:=λx lo hi H Q=>∃ a xs,x=.ref a/\SqL K H a xs/\∀ p,H p=none->Q (.ref p) (upd H p (.lst (jhD xs lo hi)))
theorem jjb:SlR X (jnz X.K):=by
 intro g s σ H x v u w e f sl Q I j k l m h;obtain⟨a,c,rfl,n,q⟩:=h;cases j;obtain⟨p,r,i,t⟩:=I.list n;have d:=r.length;refine⟨"list",_,slot_list_getitem.lookup,i.isList.typeIs,?_⟩;refine wpAny_getItem_list_slice i.isList k l m .none (by simp) ?_ (by rw[N4]<;>omega);rw[wb,<- d];refine⟨.ref s.heap.objs.size,_,I.laid (t':=s.toks) (o:=.lst (jhD c e f)) (λb ob q=>L8 _ q) (M9 _) ?_,rfl,q _ (I.hok.fresh (M9 _))⟩;exact⟨N8 (zO c e f) t,_,0,(r.drop (HT.sIx c.length 0 e)).take (HT.sIx c.length c.length f - HT.sIx c.length 0 e),E2 _ rfl⟩
noncomputable def Q8:V->Bool
 | .non=>true
 | .bl _=>true
 | .int _=>true
 | .str _=>true
 | _=>false
noncomputable def eqV:V->V->Bool
 | .non,.non=>true
 | .bl a,.bl b=>a==b
 | .bl a,.int b=>(if a then 1 else 0)==b
 | .int a,.bl b=>a==(if b then 1 else 0)
 | .int a,.int b=>a==b
 | .str a,.str b=>a==b
 | _,_=>false
theorem jlA{A:Around}{s:Shared}{y x:V}{u v:Value}(e:RelV y u)(c:RelV x v)(g:Q8 y=true)(f:Q8 x=true):SeqAt.EqAt A s u v (eqV y x):=by
 cases y with
 | non =>
  cases e;cases x with
  | non=>cases c;exact SeqAt.EqAt.same _
  | bl b=>cases c;exact SeqAt.EqAt.none_bool b
  | int b=>obtain⟨t,rfl⟩:=c;exact SeqAt.EqAt.none_int b t
  | str b=>obtain⟨t,rfl⟩:=c;exact SeqAt.EqAt.none_str b t
  | _=>exact absurd (show false=true from f) M4
 | bl a =>
  cases e;cases x with
  | non=>cases c;exact SeqAt.EqAt.bool_none a
  | bl b=>cases c;exact SeqAt.EqAt.bool_bool a b
  | int b=>obtain⟨t,rfl⟩:=c;exact SeqAt.EqAt.bool_int a b t
  | str b=>obtain⟨t,rfl⟩:=c;exact SeqAt.EqAt.bool_str a b t
  | _=>exact absurd (show false=true from f) M4
 | int a =>
  obtain⟨d,rfl⟩:=e;cases x with
  | non=>cases c;exact SeqAt.EqAt.int_none a d
  | bl b=>cases c;exact SeqAt.EqAt.int_bool a d b
  | int b=>obtain⟨t,rfl⟩:=c;exact SeqAt.EqAt.int_int a d b t
  | str b=>obtain⟨t,rfl⟩:=c;exact SeqAt.EqAt.int_str a d b t
  | _=>exact absurd (show false=true from f) M4
 | str a =>
  obtain⟨d,rfl⟩:=e;cases x with
  | non=>cases c;exact SeqAt.EqAt.str_none a d
  | bl b=>cases c;exact SeqAt.EqAt.str_bool a d b
  | int b=>obtain⟨t,rfl⟩:=c;exact SeqAt.EqAt.str_int a d b t
  | str b=>obtain⟨t,rfl⟩:=c;exact SeqAt.EqAt.str_str a d b t
  | _=>exact absurd (show false=true from f) M4
 | _=>exact absurd (show false=true from g) M4
noncomputable def eqU(x:V)(u:Value):Bool:=match u with
 | .none=>eqV .non x
 | .bool b=>eqV (.bl b) x
 | .int i _=>eqV (.int i) x
 | .str z _=>eqV (.str z) x
 | _=>false
theorem jhe{x y:V}{u:Value}(r:RelV y u)(f:Q8 y=true):eqU x u=eqV y x:=by
 cases y with
 | non=>cases r;rfl
 | bl b=>cases r;rfl
 | int i=>obtain⟨t,rfl⟩:=r;rfl
 | str z=>obtain⟨t,rfl⟩:=r;rfl
 | _=>exact absurd (show false=true from f) M4
theorem ze{x:V}:∀{xs:List V}{us:List Value},Vals xs us->xs.all Q8=true->us.any (eqU x)=xs.any λy=>eqV y x
 | _,_,.nil,_=>rfl
 | y::xs,u::us,.cons r t,f=>by
  rw[List.all_cons,M0] at f;rw[List.any_cons,List.any_cons,jhe r f.1,ze t f.2]
theorem KL{A:Around}{s:Shared}{x:V}{v:Value}(b:RelV x v)(c:Q8 x=true):∀{xs:List V}{us:List Value},Vals xs us->xs.all Q8=true->∀ u∈us,SeqAt.EqAt A s u v (eqU x u)
 | _,_,.nil,_=>λu a=>by cases a
 | y::xs,u::us,.cons r t,f=>λd a=>by
  rw[List.all_cons,M0] at f;rcases M5.mp a with rfl | a
  ·rw[jhe r f.1];exact jlA r b f.1 c
  ·exact KL b c t f.2 d a
noncomputable def inV(x:V)(xs:List V):Bool:=xs.any λy=>eqV y x
noncomputable def rIn(K:PySem.W.Frag)(neg:Bool):R2:=λx y H Q=>∃ p xs,y=.ref p/\(SqL K H p xs \/ SqT K H p xs)/\Q8 x=true/\xs.all Q8=true/\Q (.bl (if neg then !inV x xs else inV x xs)) H
theorem jdt:OpR X (compareOp .In) (rIn X.K false):=by
 intro e s σ H x y v u Q I f i h;obtain⟨p,k,rfl,b,g,fs,q⟩:=h;cases i;rcases b with b | b
 ·obtain⟨a,r,c,j⟩:=I.list b;refine SeqAt.in_listAt (eqU x) c.isList (λw d=>KL f g r fs w (by simpa using d)) ⟨.bl _,H,I,rfl,?_⟩;rw[show a.toArray.any (eqU x)=a.any (eqU x) by simp,ze r fs];exact q
 ·obtain⟨a,r,c,j⟩:=I.tuple b;refine SeqAt.in_tupleAt (eqU x) c (λw d=>KL f g r fs w (by simpa using d)) ⟨.bl _,H,I,rfl,?_⟩;rw[show a.toArray.any (eqU x)=a.any (eqU x) by simp,ze r fs];exact q
theorem jaj:OpR X (compareOp .NotIn) (rIn X.K true):=by
 intro e s σ H x y v u Q I f i h;obtain⟨p,k,rfl,b,g,fs,q⟩:=h;cases i;rcases b with b | b
 ·obtain⟨a,r,c,j⟩:=I.list b;refine SeqAt.notIn_listAt (eqU x) c.isList (λw d=>KL f g r fs w (by simpa using d)) ⟨.bl _,H,I,rfl,?_⟩;rw[show a.toArray.any (eqU x)=a.any (eqU x) by simp,ze r fs];exact q
 ·obtain⟨a,r,c,j⟩:=I.tuple b;refine SeqAt.notIn_tupleAt (eqU x) c (λw d=>KL f g r fs w (by simpa using d)) ⟨.bl _,H,I,rfl,?_⟩;rw[show a.toArray.any (eqU x)=a.any (eqU x) by simp,ze r fs];exact q
theorem yO:Vy X (.type "tuple") (λxs H Q=>∃ p ys,xs=[.ref p]/\((SqL X.K H p ys/\∀ l,H l=none->Q (.ref l) (upd H l (.tup ys))) \/ (SqT X.K H p ys/\Q (.ref p) H))):=by
 intro a s σ H xs v Q I r h;obtain⟨p,ys,rfl,h⟩:=h;obtain⟨u,rfl,n⟩:=jlH r;cases n;rcases h with⟨f,q⟩ | ⟨f,q⟩
 ·obtain⟨c,g,i,j⟩:=I.list f;have k:=g.length;refine call_tuple_list i.isList (λd kp=>?_) (by simp only[N4]<;>omega);have m:Inv X a σ H { s with heap:=d }:=I.kept (t':=s.toks) kp;have t:Inv X a σ (upd H d.objs.size (.tup ys)) { s with heap:=d.push { cls:=.type "tuple",data:=.seq c.toArray } } :=
   m.laid (t':=s.toks) (λb o e=>L8 _ e) (M9 _) (show ObjOk X.prog X.w _ _ _ (.tup ys) from⟨j,c,g,IsTupN.new _ _⟩)
  exact⟨.ref d.objs.size,_,t,rfl,q _ (m.hok.fresh (M9 _))⟩
 ·obtain⟨c,g,i,j⟩:=I.tuple f;exact call_tuple_same i ⟨.ref p,H,I,rfl,q⟩
def tyV(K:PySem.W.Frag)(T:String)(x:V)(H:Hp):Prop:=match x with
 | .str _=>T = "str"
 | .int _=>T = "int"
 | .ref p=>(T = "list"/\∃ xs,SqL K H p xs) \/ (T = "tuple"/\∃ o,K.lookup p=some o/\o.cls=.type "tuple"/\o.dict=none) \/
   (T = "dict"/\((∃ kvs,H p=some (.dK kvs)) \/ ∃ kvs,H p=some (.dT kvs))) \/ (T = "set"/\∃ S n,H p=some (.set S n))
 | _=>False
theorem jhs{pins:List (Addr×Obj)}{σ:St}{H:Hp}{s:Shared}{T:String}{x:V}{v:Value}(I:Inv X pins σ H s)(r:RelV x v)(ty:tyV X.K T x H) :
  s.TypeIs v T/\∀ a,v=.ref a->∃ ob,s.heap.get? a=some ob/\ob.dict=none:=by
 cases x with
 | str z =>
  obtain⟨t,rfl⟩:=r;cases(show T = "str" from ty);exact⟨typeIs_str s z t,λ_ e=>nomatch e⟩
 | int i =>
  obtain⟨t,rfl⟩:=r;cases(show T = "int" from ty);exact⟨typeIs_int s i t,λ_ e=>nomatch e⟩
 | ref p =>
  cases r;rcases ty with⟨rfl,l,h⟩ | ⟨rfl,o,b,j,hd⟩ | ⟨rfl,b⟩ | ⟨rfl,S,n,b⟩
  ·obtain⟨k,_,g,_⟩:=I.list h;refine⟨g.isList.typeIs,λa e=>?_⟩;cases e;obtain⟨o,n,e,c,hd,_⟩:=g;exact⟨o,e,hd⟩
  ·refine⟨⟨o,I.kIn p o b,j⟩,λa e=>?_⟩;cases e;exact⟨o,I.kIn _ o b,hd⟩
  ·have z:∃ o,s.heap.get? p=some o/\o.ExactDict:=by
    rcases b with⟨d,b⟩ | ⟨d,b⟩
    ·obtain⟨_,_,_,_,o,_,_,e,ex,_⟩:=I.hok p _ b;exact⟨o,e,ex⟩
    ·obtain⟨_,_,_,_,o,_,_,e,ex,_⟩:=I.hok p _ b;exact⟨o,e,ex⟩
   obtain⟨o,e,ex⟩:=z;refine⟨⟨o,e,ex.1⟩,λa f=>?_⟩;cases f;exact⟨o,e,ex.2.1⟩
  ·obtain⟨o,_,_,_,e,ex,_⟩:=I.hok p _ b;refine⟨⟨o,e,ex.1⟩,λa f=>?_⟩;cases f;exact⟨o,e,ex.2.1⟩
 | _=>exact False.elim ty
noncomputable def jmZ(K:PySem.W.Frag)(T:String)(r:V->List V->Hp->VK->Prop)(to:TE):TE:=λσ H Q=>to σ H λx H1=>tyV K T x H1/\r x [] H1 Q
noncomputable def tBM(K:PySem.W.Frag)(T:String)(r:V->List V->Hp->VK->Prop)(to:TE)(t:TA):TE:=λσ H Q=>to σ H λx H1=>tyV K T x H1/\t σ H1 λxs H2=>r x xs H2 Q
variable {o e:Expr}{es:List Expr}{to:TE}{t:TA}{name:Str}{apos cpos:Pos}{T id:String}{r:V->List V->Hp->VK->Prop}
theorem jkP(pa:PlainAttrs T)(slot:Slot T name id)(d:typeOf (.builtin id)=pure (.type "method_descriptor"))(g:MtR X id r)(i:PE X o to)
  (b:attributeBase o name X.env (eval o X.env)=eval o X.env:=by rfl) (c:(apos.endLine==cpos.line)=true:=by rfl):PE X (.Call (.Attribute o name apos) [] [] cpos) (jmZ X.K T r to):=by
 intro a s σ H Q I h;refine wpAny_Call_method0_late b c (thn (i a s σ H _ I h) λv j ⟨x,k,e,f,ty,l⟩=>?_);obtain⟨m,n⟩:=jhs e f ty;exact⟨T,id,pa,slot,d,m,n,Calls.callWith_builtin rfl (PySem.evalArgs_none (g a j σ k x [] v [] Q e f .nil l))⟩
theorem jga(pa:PlainAttrs T)(slot:Slot T name id)(g:typeOf (.builtin id)=pure (.type "method_descriptor"))(l:MtR X id r)(m:PE X o to)(n:PA X (e::es) t)
  (c:attributeBase o name X.env (eval o X.env)=eval o X.env:=by rfl)
  (f:((backTo cpos (starEach (e::es) X.env)).all (λx=>!x.1)&&(backToKw cpos (keywordEach [] X.env)).all (λx=>x.1.isSome)
   && decide ((e::es).length+([]:List Keyword).length+(if([]:List Keyword).isEmpty then 0 else 1) < 30))=true:=by rfl)
  (d:(apos.endLine==cpos.line)=true:=by rfl) (p:starEach (e::es) X.env=(false,eval e X.env)::starEach es X.env:=by rfl) (b:(backTo cpos (starEach es X.env)).any (·.1)=false:=by rfl) :
  PE X (.Call (.Attribute o name apos) (e::es) [] cpos) (tBM X.K T r to t):=by
 intro a s σ H Q I h;refine wpAny_Call_method_late c f d rfl (thn (m a s σ H _ I h) λv q ⟨x,u,i,j,ty,w⟩=>?_);obtain⟨y,z⟩:=jhs i j ty;refine⟨T,id,pa,slot,g,y,z,?_⟩;have k:=n cpos a q σ u _ i w;rw[p] at k ⊢;refine Calls.callWith_builtin (by show(false||(backTo cpos (starEach es X.env)).any (·.1))=false;rw[b]<;>rfl) (Calls.evalArgs_plain ?_);exact thn k λA B ⟨C,D,E,F,G⟩=>l a B σ D x C v A Q E j F G
end
def MtM(X:Cx)(id:String)(r:V->List V->Hp->VK->Prop):Prop :=
 ∀(pins:List (Addr×Obj)) (s:Shared) (σ:St) (H:Hp) (x:V) (xs:List V) (v:Value) (us:List Value) (Q:VK),Inv X pins σ H s->RelV x v->Vals xs us->r x xs H Q ->
  wpAny (model X.prog X.w) X.A (call (.builtin id) (v::us)) (EP X pins σ Q) X.xe s
theorem Vals.one:∀{x:V}{us:List Value},Vals [x] us->∃ u,us=[u]/\RelV x u
 | _,_,.cons r .nil=>⟨_,rfl,r⟩
theorem Vals.two:∀{x y:V}{us:List Value},Vals [x,y] us->∃ u v,us=[u,v]/\RelV x u/\RelV y v
 | _,_,_,.cons r (.cons q .nil)=>⟨_,_,rfl,r,q⟩
theorem Vals.zero:∀{us:List Value},Vals [] us->us=[]
 | _,.nil=>rfl
section
variable {X:Cx}{pins:List (Addr×Obj)}{σ:St}{H:Hp}{s:Shared}{l b:Addr}{xs ys zs:List V}
theorem Inv.lset{its its':List Value}{n:Nat}{f:Array Value->Array Value}{t':Nat}(I:Inv X pins σ H s)(a:H l=some (.lst xs))
  (e:s.heap.get? l=some { cls:=.type "list",data:=.seq its.toArray n }) (b:f its.toArray=its'.toArray) (c:Vals ys its') (hz:ys.length<=sizeLine) :
  Inv X pins σ (upd H l (.lst ys)) { s with heap:=s.heap.update l (Obj.mapSeq f),toks:=t' }:=by
 have q:=PySem.IsL.update e f;rw[b] at q;refine I.write (x:=l) (e:=l) (by rw[a];exact trivial) (.inl rfl) (λb' u d g=>(Heap.get?_update_other s.heap (Obj.mapSeq f) (Ne.symm d)).trans g) ⟨_,q⟩ ?_;exact⟨hz,its',_,c,q⟩
theorem Inv.lnew{its:List Value}{t':Nat}(I:Inv X pins σ H s)(a:Vals ys its)(hz:ys.length<=sizeLine) :
  Inv X pins σ (upd H s.heap.objs.size (.lst ys)) { s with heap:=s.heap.push { cls:=.type "list",data:=.seq its.toArray },toks:=t' } :=
 I.laid (λ_ _ q=>L8 _ q) (M9 _) ⟨hz,its,0,a,E2 _ rfl⟩
theorem Inv.fresh(I:Inv X pins σ H s):H s.heap.objs.size=none:=I.hok.fresh (M9 _)
theorem Inv.lstM(I:Inv X pins σ H s)(a:H l=some (.lst xs)):xs.length<=sizeLine/\∃(its:List Value) (n:Nat),Vals xs its/\xs.length=its.length/\s.heap.get? l=some { cls:=.type "list",data:=.seq its.toArray n }:=by
 obtain⟨z,its,n,r,e⟩:=I.hok l _ a;exact⟨z,its,n,r,r.length,e⟩
theorem jca{n:Nat}(h:n<=sizeLine):Builtin.List.listTooLong n=false:=by
 unfold Builtin.List.listTooLong;exact X5 (by omega)
end
section
variable {X:Cx}
def xk:V->List V->Hp->VK->Prop:=λx vs H Q=>∃ l xs y,x=.ref l/\vs=[y]/\H l=some (.lst xs)/\xs.length < sizeLine/\Q .non (upd H l (.lst (xs++[y])))
theorem Q6:MtM X "list.append" xk:=by
 intro b s σ H x i v j Q I d f h;obtain⟨l,k,y,rfl,rfl,c,m,q⟩:=h;cases d;obtain⟨u,rfl,g⟩:=f.one;obtain⟨z,a,n,r,o,e⟩:=I.lstM c;refine call_meets F.slot_list_append ⟨_,e,rfl⟩ F.entry_list_append (F.args_list_append_2 _ _) (PySem.list_append l a.toArray n u (by rw[N4];omega)) ⟨e,?_⟩;refine⟨.non,_,I.lset (its':=a++[u]) c e (by simp) (r.append (.cons g .nil)) ?_,rfl,q⟩;rw[N5,List.length_singleton];omega
def jdh:V->List V->Hp->VK->Prop:=λx vs H Q=>∃ l xs,x=.ref l/\vs=[]/\H l=some (.lst xs)/\Q .non (upd H l (.lst []))
theorem jgi:MtM X "list.clear" jdh:=by
 intro c s σ H x i v j Q I f g h;obtain⟨l,k,rfl,rfl,d,q⟩:=h;cases f;have a:=g.zero;subst a;obtain⟨z,b,n,r,m,e⟩:=I.lstM d;refine call_meets F.slot_list_clear ⟨_,e,rfl⟩ F.entry_list_clear (F.args_list_clear_1 _) (AutoSeq1.list_clear_list_0 l b.toArray n (by rw[N4];omega)) ⟨e,?_⟩;exact⟨.non,_,I.lset (its':=[]) (ys:=[]) d e rfl .nil (U6 _),rfl,q⟩
end
end L2
namespace Att
open PySem PySem.W PySem.Calls PyProof.Rows
theorem zS{P:Params}{h:Heap}:∀(ns:List Int) (vs:List Value),WellAll P h vs (ns.map WData.int)->IntsAre vs ns:=by
 intro ns
 induction ns with
 | nil =>
  intro vs w;rw[List.map_nil] at w;cases w;exact .nil
 | cons n ns c =>
  intro vs w;rw[L5] at w;cases w with
  | cons a b =>
   cases a;exact .cons _ _ (c _ b)
theorem script_of{l:OpenLaw}{n:Nat}(hn:l.most=some n){P:Params}{h:Heap}{b:List WData}{c:List Value}
  (e:l.row.toRowW.claim.pre b=true) (k:WellAll P h c b) :
  ∃ a vs ns,c=[Value.ref a]/\b=[WData.list (ns.map WData.int)]/\h.get? a=some { cls:=.type "list",data:=.seq vs.toArray }/\IntsAre vs ns/\ns.length<=n:=by
 have m:WShape.hasAll [] b [.list .int]=true:=(pre_splitW e).1;have o:l.pre.holds [] { args:=b }=true:=(pre_splitW e).2;obtain⟨d,r,rfl,p,s⟩:=hasAllW_cons m;obtain rfl:=hasAllW_nil s;obtain⟨y,rfl,t⟩:=hasW_list p;obtain⟨ns,rfl⟩:=items_int t;have f:ns.length<=n:=by
  unfold OpenLaw.pre at o;have i:(WTm.not (.lt (.lit (.int (n:Int))) (.len (.arg 0)))).holds [] { args:=[.list (ns.map .int)] }=true:=by
   have i:=(holds_andW o).1;rw[hn] at i;exact i
  have j:=condW_of i (w_not (w_lt w_lit (w_len_list (w_arg rfl))));rw[L1] at j;refine Nat.le_of_not_lt λq=>?_;have u:(n:Int) < ((ns.length:Nat):Int):=by omega
  first
   | (rw[X4 u] at j;exact absurd j (by decide))
   | (simp at j;omega)
 cases k with
 | cons v w =>
  cases w;cases v with
  | list x g=>exact⟨_,_,ns,rfl,rfl,x,zS ns _ g,f⟩
theorem post_true(l:OpenLaw)(a:List WData):l.row.toRowW.claim.post a (.bool true) a=true :=
 postW_of (r:=l.row.toRowW) (X:=(true==true))
  (show WShape.has [] (.bool true) .bool=true by first | rfl | decide | simp[WShape.has,WShape.arms,WShape.armsAll])
  (show(WTm.eq .res (.lit (.bool true))).value [] { args:=a,res:=some (.bool true),after:=a }=some (.bool (true==true)) from w_eq_bool (w_res rfl) w_lit) rfl
end Att
namespace L2
open PySem PySem.Spec PyProof.Rows
theorem jab:∀{vs:List Value}{ns:List Int},IntsAre vs ns->Vals (ns.map V.int) vs
 | _,_,.nil=>.nil
 | _,_,.cons n t h=>.cons ⟨t,rfl⟩ (jab h)
def jmr(H:Hp):Prop:=∀ b,H b=none \/ ∃ o xs,H b=some (.frz o (.lst xs))
theorem jgM{P:Program}{w:World}{K:PySem.W.Frag}{mg I:Str->Option Value}{CX:CXT}{k:Nat}{fa a:Addr}{fd:FuncData}{x:Str}{sp:Sp}{c:Shared}{vs:List Value}{ns:List Int}
  (Q:K.In c.heap) (p:c.heap.Ns mainGlobals mg) (g:c.heap.Ns builtinsNs I) (J:∀ x:Str,x≠"__name__"->I x=bootBuiltins x) (t:c.heap.NoLimit) (Y:c.gens = #[])
  (G:c.heap.get? a=some { cls:=.type "list",data:=.seq vs.toArray }) (hi:IntsAre vs ns) (R:ns.length<=sizeLine) (Z:Room k callerA)
  (F:∀ base:Heap,K.In base->base.Ns mainGlobals mg->FnOk P w K mg base CX k fa fd [x] sp) (l:∀(s:Shared) (u:Value),BindsTo s fd ⟨[u],[]⟩ [(x,u)])
  (L:∀ H:Hp,jmr H->SqL K H a (ns.map V.int)->sp [.ref a] H (λv _=>v=.bl true) λ_ _ _=>False)
  (M:∀ H e s',CX [] H c (λ_ _ _=>False) e s'->False) :
  codeAny (model P w) callerA (.call (.ref fa) ⟨[.ref a],[]⟩) (λr s'=>r=.ok (.ret (.bool true))/\OldK c.heap s'.heap/\s'.os=c.os/\AllBare s'.gens) c:=by
 have S:=jab hi;have y:=hi.length
 -- from an abstract heap in which nothing but the script may be tracked
 have j:∀ H:Hp,jmr H->SqL K H a (ns.map V.int)->HOk P w H c.heap->(∀ b,H b≠none->b=a)->(H a≠none->K.lookup a=none) ->
   codeAny (model P w) callerA (.call (.ref fa) ⟨[.ref a],[]⟩) (λr s'=>r=.ok (.ret (.bool true))/\OldK c.heap s'.heap/\s'.os=c.os/\AllBare s'.gens) c:=by
  intro H T hS hok U hK;have f:∀{b:Addr}{o:Obj},c.heap.get? b=some o->H b=none->(jgq c.heap H).get? b=some o:=λe n=>jfD e n;have N:∀{b:Addr}{o:Obj}{A:Array DictEntry}{B:Nat},c.heap.get? b=some o->o.data=.dict A B->H b=none:=λ{b o A B} e d=>by
   cases q:H b with
   | none=>rfl
   | some u =>
    have O:b=a:=U b (by rw[q];simp);subst O;rw[G] at e;cases e;have d':Data.seq vs.toArray _=Data.dict A B:=d;cases d'
  have i:∀{b:Addr}{m:Str->Option Value},c.heap.Ns b m->(jgq c.heap H).Ns b m:=λ{b m} ⟨o,A,B,e,d,r⟩=>⟨o,A,B,f e (N e d),d,r⟩;have C:K.In (jgq c.heap H):=λb o e=>f (Q b o e) (by
   cases q:H b with
   | none=>rfl
   | some u =>
    have O:b=a:=U b (by rw[q];simp);subst O;rw[hK (by rw[q];simp)] at e;cases e)
  have hM:Mod K mg (jgq c.heap H):=⟨C,i p,⟨I,i g,J⟩,let ⟨mc,h1,h2⟩:=t;⟨mc,i h1,h2⟩⟩;have e0:Env0 P w K mg (jgq c.heap H) callerA [] c H:=⟨rfl,hM,λb o e=>jib e,Nat.le_of_eq (jeL _ _),trivial,λb g=>absurd (show b∈([]:List Addr) from g) (by simp),hok,.of_eq Y⟩;refine codeAny_mono ((F _ C (i p)).run callerA [] c H ⟨[.ref a],[]⟩ [.ref a] [.ref a] _ _ Z e0 (l c (.ref a)) (.cons rfl .nil) (L H T hS)) λr s' h=>?_;cases r with
  | error e=>exact(M H e s' h).elim
  | ok fl =>
   cases fl with
   | next=>exact False.elim h
   | brk=>exact False.elim h
   | cont=>exact False.elim h
   | ret u =>
    obtain⟨v,H',os,bare,un,D,r',q⟩:=h;have q':v=.bl true:=q;subst q';obtain rfl:u=Value.bool true:=r';refine⟨rfl,OldK.of_keep λb o e=>?_,os,bare⟩;cases q:H b with
    | none=>exact un.keep b o e q (by intro z;exact absurd (show b∈([]:List Addr) from z) (by simp)) (by simp)
    | some u =>
     rcases T b with z | ⟨ob,xs,z⟩
     ·rw[q] at z;cases z
     ·have z2:=un.frzs b ob _ z;obtain⟨X,_⟩:=hok b _ z;obtain⟨e2,_⟩:=D b _ z2;rw[e] at X;cases X;exact e2
 cases hk:K.lookup a with
 | some o =>
  -- the script is one of the module's own objects
  have e:=Q a o hk;rw[G] at e;cases e;refine j (λ_=>none) (λ_=>.inl rfl) (.inr ⟨_,vs.toArray,_,hk,rfl,rfl,rfl,by rw[N4,y];exact R,by simpa using S⟩) (λb u z=>by have E:(none:Option HO)=some u:=z;cases E) (λb z=>absurd rfl z) λz=>absurd rfl z
 | none =>
  refine j (λb=>if b=a then some (.frz { cls:=.type "list",data:=.seq vs.toArray } (.lst (ns.map V.int))) else none) (λb=>?_) (.inl (.inr ⟨{ cls:=.type "list",data:=.seq vs.toArray },if_pos rfl⟩)) (λb u z=>?_) (λb z=>?_) λ_=>hk
  ·by_cases g:b=a
   ·exact .inr ⟨_,_,if_pos g⟩
   ·exact .inl (if_neg g)
  ·by_cases g:b=a
   ·have E:=(if_pos g).symm.trans z;cases E;subst g;exact⟨G,by rw[L1];exact R,vs,_,S,G⟩
   ·have E:=(if_neg g).symm.trans z;cases E
  ·by_cases g:b=a
   ·exact g
   ·exact absurd (if_neg g) z
noncomputable def Qh(s:Stmt)(j:Nat):Stmt:=match s with
 | .ClassDef _ _ _ body _ _ _ _ _ _ _=>body.getD j (.Pass ⟨0,0,0,0⟩)
 | _=>.Pass ⟨0,0,0,0⟩
noncomputable def Ym(s:Stmt):Arguments:=match s with
 | .FunctionDef _ a _ _ _ _ _ _ _ _=>a
 | _=>{ posonlyargs:=[],args:=[],vararg:=none,kwonlyargs:=[],kw_defaults:=[],kwarg:=none,defaults:=[] }
noncomputable def qp(s:Stmt):List Stmt:=match s with
 | .FunctionDef _ _ b _ _ _ _ _ _ _=>b
 | _=>[]
noncomputable def jo(s:Stmt):Scope:=match s with
 | .FunctionDef _ _ _ _ _ _ sc _ _ _=>sc
 | _=>{ kind:=.function,names:=[],isGenerator:=false,isCoroutine:=false }
noncomputable abbrev CX0:CXT:=λ_ _ _ _ _ _=>False
noncomputable abbrev E0:XK:=λ_ _ _=>False
theorem jdD{X:Cx}:Kw CX0 X E0:=λ_ _ _ _ _ _ _ h=>h.elim
structure Fun(K:PySem.W.Frag)(x qual:Str)(st:Stmt)(f:Addr)(fd:FuncData):Prop where
 ex:∃(oc:Value) (od:Option Addr) (kV doc pm:Value) (an:Option Addr) (cdv ct:Value) (osl:Array (Option Value)),
  fd=PySem.W.fnOf x qual (Ym st) (qp st) (jo st) .none kV doc pm an cdv ct/\K.lookup f=some ⟨oc,od,.func fd,osl⟩/\PySem.W.codeIn K cdv qual=true
 kp:PySem.W.keepIn K (.ref f)=true
section
variable {P:Program}{w:World}{K:PySem.W.Frag}{mg:Str->Option Value}{base:Heap}
theorem Fun.ok{x qual:Str}{st:Stmt}{f:Addr}{fd:FuncData}{N ps:List Str}{k:Nat}{sp:Sp}(F:Fun K x qual st f fd)(S:FnScope N ps (jo st))(len:∀ vs H Q E,sp vs H Q E->vs.length=ps.length)
  (a:∀(cdv:Value) (A:Around) (outer:List Env) (s:Shared) (H:Hp) (vs:List V) (Q:VK) (E:XK),Room k (A.deeper (envOfC qual (jo st) s.heap.objs.size f cdv))->sp vs H Q E ->
   ∃ t,PSs (jhl CX0 P w K mg base N qual (jo st) f cdv A outer s H E).nox (qp st) t/\t { nx:=λ_ H'=>Q .non H',rt:=Q } (start N vs) H):FnOk P w K mg base CX0 (k+1) f fd ps sp:=by
 obtain⟨j,od,kV,d,l,m,cdv,ct,e,rfl,g,b⟩:=F.ex;refine jnp g b S len λA outer s H vs Q E i c=>?_;obtain⟨t,h,q⟩:=a cdv A outer s H vs Q E i c;exact⟨t,h.nox,q⟩
theorem Fun.binds{x qual:Str}{st:Stmt}{f:Addr}{fd:FuncData}{ps:List Str}(F:Fun K x qual st f fd)
  (h:∀(kV doc pm:Value) (an:Option Addr) (cdv ct:Value) (us:List Value),us.length=ps.length->bindArgs (PySem.W.fnOf x qual (Ym st) (qp st) (jo st) .none kV doc pm an cdv ct) ⟨us,[]⟩=pure (ps.zip us)):Binds K fd ps []:=by
 obtain⟨c,od,kV,doc,pm,an,cdv,ct,a,rfl,d,b⟩:=F.ex;exact .all (h kV doc pm an cdv ct)
theorem uV{x qual:Str}{st:Stmt}{f:Addr}{oc:Value}{od an:Option Addr}{d:Array (Option Value)}{kV b pm a ct:Value}(l:K.lookup f=some ⟨oc,od,.func (PySem.W.fnOf x qual (Ym st) (qp st) (jo st) .none kV b pm an a ct),d⟩)
  (c:PySem.W.codeIn K a qual=true) (k:PySem.W.keepIn K (.ref f)=true):Fun K x qual st f (PySem.W.fnOf x qual (Ym st) (qp st) (jo st) .none kV b pm an a ct):=⟨⟨oc,od,kV,b,pm,an,a,ct,d,rfl,l,c⟩,k⟩
end
theorem jcR{A:Around}{k:Nat}(a:Room k A):A.units+1 < cLine:=E3 (Nat.add_le_add_left (by decide:1<=64) _) a.units
theorem jdU{n:Nat}(h:n<=1000):n < sizeLine:=E3 h (by decide)
theorem jhz{A B:Prop}(h:B):if false=true then A else B:=by
 rw[if_neg M4];exact h
theorem jhB{A B:Prop}(h:A):if true=true then A else B:=by
 rw[if_pos rfl];exact h
theorem jag(I:Nat->Shared->Prop)
  (turn:∀ n s,I n s->wpAny (model prog w) A (pyNext it) (λr s₁=>match r with
   | none=>R (.ok .next) s₁
   | some v=>wpAny (model prog w) A (letOwnedTupleGo target it v) (λ_ s₁'=>wpAny (model prog w) A (assign target env v) (λ_ s₂ =>
     wpAny (model prog w) A (forIn ifs true λc r=>if r=true then do let ok <- isTrue c env (eval c env);pure (ForInStep.yield ok) else pure (ForInStep.yield r)) (λok s₃ =>
      if ok=true then wpAny (model prog w) A (eval elt env) (λx s₄ =>
       wpAny (model prog w) A (call (.builtin "list.append") [acc,x]) (λ_ s₅=>∃ m,m < n/\I m s₅) (λ_ _=>False) s₄) (λ_ _=>False) s₃
      else ∃ m,m < n/\I m s₃) (λ_ _=>False) s₂) (λ_ _=>False) s₁') (λ_ _=>False) s₁) (λ_ _=>False) s)
  (n:Nat) (h:I n s) :
  codeAny (model prog w) A (.compLoop (.ListComp elt [⟨target,iter,ifs,0⟩] scope pos) 0 it acc env) R s:=by
 have a:∀{α:Type}{t:Sem α}{Q:α->Shared->Prop}{E:Value->Shared->Prop}{s:Shared},wpAny (model prog w) A t Q (λ_ _=>False) s->wpAny (model prog w) A t Q E s :=
  λh=>wpAny_mono h (λ_ _ x=>x) λ_ _ z=>z.elim
 refine codeAny_loop rfl I (λn s f=>?_) n h;show wpAny _ A ((compTurn (.ListComp elt [⟨target,iter,ifs,0⟩] scope pos) 0 it acc env).onRaise (λx=>do noteFrame x env;theTreesLotGoes x)) _ _ s;refine wpAny_noted ?_;rw[compTurn_list];refine L3 (wpAny_standAt (L3 (thn (a (turn n s f)) λr s₁ d=>?_)));cases r with
 | none=>exact M7 d
 | some v =>
  refine L3 (thn (a d) λ_ s₁' b=>L3 (thn (a b) λ_ s₂ g=>L3 (thn (a g) λok s₃ e=>?_)));cases ok with
  | false=>exact M7 ⟨rfl,e⟩
  | true =>
   exact L3 (L3 (thn (a e) λx s₄ i=>L3 (thn (a i) λ_ s₅ j=>M7 (M7 ⟨rfl,j⟩))))
noncomputable def jeN(env:Env):List (Str×NameKind)->List (Str×Addr)->List (Str×Addr)
 | [],cs=>cs
 | (n,k)::r,cs=>jeN env r (if k==NameKind.free then(match env.cells.lookup n with | some a=>(n,a)::cs | none=>cs) else cs)
noncomputable def jgJ(scope:Scope)(env:Env):List (Str×Addr):=jeN env scope.names []
theorem jiJ:∀(l:List (Str×NameKind)) (cs:List (Str×Addr)),(∀ n k,(n,k)∈l->k=NameKind.free->∃ c,env.cells.lookup n=some c) ->
  (forIn (m:=Sem) l cs λx r=>match x with | (n,k)=>if k==NameKind.free then do let a <- cellOf env n;pure (ForInStep.yield ((n,a)::r)) else pure (ForInStep.yield r))=pure (jeN env l cs)
 | [],cs,_=>rfl
 | (n,k)::r,cs,h=>by
  rw[List.forIn_cons];by_cases b:(k==NameKind.free)=true
  ·obtain⟨c,j⟩:=h n k L7 (by simpa using b);have o:cellOf env n=pure c:=by unfold cellOf;rw[j]
   have d:=jiJ (env:=env) r ((n,c)::cs) λe f g i=>h e f (L6 _ g) i;simp only[b,if_true,o,pure_bind];rw[d]
   conv=>rhs;unfold jeN
   simp only[b,if_true,j]
  ·have d:=jiJ (env:=env) r cs λe f g i=>h e f (L6 _ g) i;simp only[b,if_false,pure_bind,Bool.false_eq_true];rw[d]
   conv=>rhs;unfold jeN
   simp only[b,if_false,Bool.false_eq_true]
theorem jcx(h:∀ n k,(n,k)∈scope.names->k=NameKind.free->∃ c,env.cells.lookup n=some c):closureFor scope env=pure (jgJ scope env):=by
 have e:=jiJ (env:=env) scope.names [] h;unfold closureFor jgJ;show(forIn (m:=Sem) scope.names [] λx r=>match x with | (n,k)=>if k==NameKind.free then do let a <- cellOf env n;pure (ForInStep.yield ((n,a)::r)) else pure (ForInStep.yield r)) >>= (λb=>pure b)=_;rw[e,pure_bind]
theorem jhu:∀(l:List (Str×NameKind)) (cs:List (Str×Addr)),(x,c)∈jeN env l cs->(x,c)∈cs \/ env.cells.lookup x=some c
 | [],_,h=>.inl h
 | (n,k)::r,cs,h=>by
  unfold jeN at h;rcases jhu r _ h with z | z
  ·split at z
   ·split at z
    ·rename_i a b;rcases M5.mp z with e | e
     ·cases e;exact .inr b
     ·exact .inl e
    ·exact .inl z
   ·exact .inl z
  ·exact .inr z
theorem jdm:∀(l:List (Str×NameKind)) (cs:List (Str×Addr)),(x,c)∈cs->(x,c)∈jeN env l cs
 | [],_,h=>h
 | (n,k)::r,cs,h=>by
  unfold jeN;refine jdm r _ ?_;split
  ·split
   ·exact L6 _ h
   ·exact h
  ·exact h
theorem jhk(a:env.cells.lookup x=some c):∀(l:List (Str×NameKind)) (cs:List (Str×Addr)),(x,NameKind.free)∈l->(x,c)∈jeN env l cs
 | [],_,h=>nomatch h
 | (n,k)::r,cs,h=>by
  unfold jeN;rcases M5.mp h with e | e
  ·cases e;refine jdm r _ ?_;simp only[beq_self_eq_true,if_true,a];exact L7
  ·exact jhk a r _ e
theorem Km:∀{l:List (Str×β)}{c:β},(x,c)∈l->∃ d,l.lookup x=some d
 | (n,a)::r,c,h=>by
  rw[List.lookup_cons];cases e:x==n with
  | true=>exact⟨a,rfl⟩
  | false =>
   rcases M5.mp h with z | z
   ·cases z;simp at e
   ·exact Km z
theorem Q5(h:(jgJ scope env).lookup x=some c):env.cells.lookup x=some c:=by
 rcases jhu scope.names [] (PySem.mem_of_lookup h) with z | z
 ·exact nomatch z
 ·exact z
theorem jez(a:env.cells.lookup x=some c)(f:(x,NameKind.free)∈scope.names):(jgJ scope env).lookup x=some c:=by
 obtain⟨d,e⟩:=Km (jhk a scope.names [] f);have b:(jgJ scope env).lookup x=some d:=e;rw[b,<- Q5 b,a]
theorem VJ(h:(n,k)∈(relabel scope env).names):(n,k)∈scope.names \/ (k=.cell/\(n,NameKind.free)∈scope.names):=by
 unfold relabel at h;obtain⟨⟨a,b⟩,c,e⟩:=M6.mp h;dsimp only at e;split at e
 ·rename_i d;cases e;have:b=NameKind.free:=by
   simp only[M0,beq_iff_eq] at d;exact d.1.1
  subst this;exact .inr ⟨rfl,c⟩
 ·cases e;exact .inl c
noncomputable def yT(X:Cx)(scope:Scope)(N':List Str)(C:Addr)(s₃:Shared)(H₃:Hp)(fp:List Addr):Cx :=
 { X with N:=N',s₀:=s₃,H₀:=H₃,env:=compEnvC scope (jgJ scope X.env) C X.env,outer:=X.stack,stack:=X.stack,ex:=fp,fn:=λ_=>false,pn:=[],xe:=λ_ _=>False }
noncomputable def kU(ix:List (Option Nat))(σ:St):St:=ix.map λo=>o.bind λj=>(σ[j]?).join
structure BlockOk(X:Cx)(scope:Scope)(N':List Str)(ix:List (Option Nat)):Prop where
 kind:scope.kind=.function
 nocell:∀ y∈scope.names,y.2≠.cell
 names:∀ y∈scope.names,y.2=.local->scope.names.lookup y.1=some .local
 uniq:∀ y∈scope.names,y.2=.free->scope.names.lookup y.1=some .free
 outer:∀ y∈scope.names,y.2=.free->X.env.kindOf y.1=some .cell \/ X.env.kindOf y.1=some .free
 nd:N'.Nodup
 len:ix.length=N'.length
 at_:∀(i j:Nat) (x:Str),ix[i]?=some (some j)->N'[i]?=some x->X.N[j]?=some x/\(x,NameKind.free)∈scope.names
 func:X.env.scope.kind=.function
noncomputable abbrev BW:=Nat->Nat->St->Hp->Prop
def jdR(tc:TT)(te:TE)(g:TG)(J:It)(p:Addr)(σ':St)(H1:Hp)(Q:Hp->Prop):Prop :=
 ∃ W:BW,(∃ m,W 0 m σ' H1)/\∀ i m σ2 H2,W i m σ2 H2->(J.stop i H2/\Q H2) \/
  (J.go i H2/\∀ x H3,J.yld i H2 x H3->g x σ2 H3 λσ4 H4=>tc σ4 H4 λb H5=>if b=true then
   te σ4 H5 λy H6=>∃ ys,H6 p=some (.lst ys)/\ys.length < sizeLine/\∃ m',m' < m/\W (i+1) m' σ4 (upd H6 p (.lst (ys++[y])))
   else ∃ m',m' < m/\W (i+1) m' σ4 H5)
noncomputable def wK(wi:TI)(g:TG)(tc:TT)(te:TE)(ix:List (Option Nat)):TE:=λσ H Q=>wi σ H λJ H1=>∀ p,H1 p=none->jdR tc te g J p (kU ix σ) (upd H1 p (.lst [])) λH2=>Q (.ref p) H2
def PIf(X:Cx)(ifs:List Expr)(tc:TT):Prop:=(ifs=[]/\tc=λ_ H Q=>Q true H) \/ ∃ c,ifs=[c]/\PT X c tc
theorem jdJ(B:BlockOk X scope N' ix)(I:Inv X pins σ H s)(A:∀ b∈fp,jcs X pins H b)(D:∀ b∈fp,b < s.heap.objs.size)
  (E:h₁.Ns s.heap.objs.size (λ_=>none)) (C:∀ b o,s.heap.get? b=some o->h₁.get? b=some o) :
  Inv (yT X scope N' s.heap.objs.size s H fp) [] (kU ix σ) H { s with heap:=h₁,toks:=t }:=by
 have fresh:H s.heap.objs.size=none:=I.hok.fresh (M9 _);have f:∀ x c,(jgJ scope X.env).lookup x=some c->X.env.cells.lookup x=some c:=λx c e=>Q5 e;refine⟨⟨I.ok.mod,B.kind,I.ok.glob,I.ok.blt,M9 _,λx y c F G=>I.ok.inj x y c (f x c F) (f y c G),λx O=>?_,(λx c h=>nomatch h),I.ok.hd,I.ok.frames,.inl rfl,λb g=>⟨N7 (D b g),λx c e=>(A b g).2.2.2.2.1 x c (f x c e)⟩,
  λb o e=>I.bs b o e,N8 I.ok.bsz I.sz,λb o e g=>?_,λb g z=>?_,I.stack,I.stkFree⟩,rfl,I.bare,Un.kept C,⟨_,E,λi x v F G P=>?_⟩,λx c e=>?_,fresh,λx c e=>I.freeC x c (f x c e),(λp Q=>nomatch (show p∈([]:List (Addr×Obj)) from Q)),I.hok.kept C,?_⟩
 ·have J:(relabel scope X.env).names.lookup x=some .cell \/ (relabel scope X.env).names.lookup x=some .free:=O;have n:(x,NameKind.free)∈scope.names:=by
   rcases J with q | q
   ·rcases VJ (PySem.mem_of_lookup q) with z | z
    ·exact absurd rfl (B.nocell _ z)
    ·exact z.2
   ·rcases VJ (PySem.mem_of_lookup q) with z | z
    ·exact z
    ·exact absurd z.1 (by decide)
  obtain⟨c,K⟩:=I.ok.has x (B.outer _ n rfl);exact⟨c,jez K n⟩
 ·rcases(A b g).2.2.2.1 with z | z
  ·exact I.ok.noex b o e z
  ·exact absurd (U5 (N1 e) (N8 I.ok.bsz z)) (Nat.lt_irrefl _)
 ·rcases M5.mp (I.stkSub b z) with q | q
  ·exact(A b g).2.1 q
  ·exact(A b g).2.2.1 q
 ·have a:(kU ix σ)[i]?=some (some v):=G;unfold kU at a;rw[List.getElem?_map] at a;cases e:ix[i]? with
  | none=>rw[e] at a;cases a
  | some o =>
   rw[e] at a;cases o with
   | none=>cases a
   | some j =>
    have d:(σ[j]?).join=some v:=X7 a;have R:σ[j]?=some (some v):=by
     cases q:σ[j]? with
     | none=>rw[q] at d;cases d
     | some u=>rw[q] at d;rw[show u=some v from d]
    obtain⟨S,n⟩:=B.at_ i j x e F;have w:=B.outer _ n rfl;obtain⟨m,U,T⟩:=I.loc;obtain⟨u,r,l⟩:=T j x v S R (w.elim (λz=>.inr (.inl z)) λz=>.inr (.inr z));refine⟨u,r,.inr ?_⟩;rcases l with⟨k,_⟩ | ⟨_,c,K,z⟩
    ·rcases w with y | y<;>rw[k] at y<;>cases y
    ·refine⟨?_,c,jez K n,?_⟩
     ·rcases P with y | y | y
      ·have:(x,NameKind.local)∈(relabel scope X.env).names:=PySem.mem_of_lookup y;rcases VJ this with L | L
       ·have N:=B.names _ L rfl;rw[B.uniq _ n rfl] at N;cases N
       ·exact absurd L.1 (by decide)
      ·exact .inl y
      ·exact .inr y
     ·obtain⟨o,M,hd⟩:=z;exact⟨o,C c o M,hd⟩
 ·obtain⟨v,o,M,hd⟩:=I.cell x c (f x c e);exact⟨v,o,C c o M,hd⟩
 ·show(kU ix σ).length=N'.length;unfold kU;rw[L1,B.len]
theorem Inv.other(I:Inv X pins σ H s)(f:jcs X pins H C)(a:Heap.SameBut C s.heap h'):Inv X pins σ H { s with heap:=h' } :=
 I.turned (t':=s.toks) (λb o c e=>a.extBut b o c e) f.1 f.2.1 f.2.2.2.1 f.2.2.2.2.1 f.2.2.2.2.2
theorem YZ{X:Cx}{ifs:List Expr}{N':List Str}{ix:List (Option Nat)}{pins:List (Addr×Obj)}{s:Shared}{Q:Addr->Hp->Prop}{use:Option (Value->Sem Unit)}{QQ:Value->Shared->Prop}(B:BlockOk X scope N' ix)(hc:X.calm=true)(hi:PI X tg iter wi)
  (hg:∀ C s H fp,PG (yT X scope N' C s H fp) tg g) (hif:∀ C s H fp,PIf (yT X scope N' C s H fp) ifs tc) (he:∀ C s H fp,PE (yT X scope N' C s H fp) elt te)
  (hs:∀ x,foldedSetIterable iter X.env x=pure x) (I:Inv X pins σ H s)
  (h:wi σ H λJ H1=>∀ p,H1 p=none->jdR tc te g J p (kU ix σ) (upd H1 p (.lst [])) (Q p))
  (hend:∀ p C s' H',Q p H'->Inv X pins σ H' s'->jcs X pins H' C->(∃ m,s'.heap.Ns C m)->compPost (model X.prog X.w) X.A X.xe use QQ (.ref p) C (.ok .next) s') :
  wpAny (model X.prog X.w) X.A (comprehension (.ListComp elt [⟨tg,iter,ifs,0⟩] scope pos) scope X.env pos' (newList []) false (eval iter X.env) use) QQ X.xe s:=by
 have S:closureFor scope X.env=pure (jgJ scope X.env):=jcx λn k hm hk=>I.ok.has n (B.outer _ hm hk);refine wpAny_comprehension_free rfl hs S B.kind B.names (thn (hi pins s σ H _ I h) λv s1 h1=>thn h1 λitv a h2=>?_);obtain⟨it,fp,tn,J,L,rfl,I2,T,U,f2,h2⟩:=h2;refine wpAny_newObj_type (wpAny_newFunctionEnv B.nocell (by intro y hy;simp at hy) (λh₁ N O=>?_) B.kind);dsimp only at N O ⊢;have fr2:L a.heap.objs.size=none:=I2.fresh
 -- the new list
 have I3:Inv X pins σ (upd L a.heap.objs.size (.lst [])) { a with heap:=a.heap.push { cls:=.type "list",data:=.seq ([]:List Value).toArray } }:=I2.lnew (t':=a.toks) .nil (U6 _);generalize hs3:({ a with heap:=a.heap.push { cls:=.type "list",data:=.seq ([]:List Value).toArray } }:Shared)=s3 at I3;have e3:s3.heap=a.heap.push { cls:=.type "list",data:=.seq ([]:List Value).toArray }:=by rw[<- hs3]
 have hk3:∀ b o,a.heap.get? b=some o->s3.heap.get? b=some o:=λb o e=>by rw[e3];exact L8 _ e
 have lt3:∀ b∈fp,b < s3.heap.objs.size:=λb f=>by
  obtain⟨o,e,_⟩:=T.obj _ _ U b f;exact N1 (hk3 b o e)
 have nep:∀ b∈fp,b≠a.heap.objs.size:=λb f z=>by
  obtain⟨o,e,_⟩:=T.obj _ _ U b f;exact absurd (N1 e) (by rw[z];exact Nat.lt_irrefl _)
 have M:∀ b∈fp,jcs X pins (upd L a.heap.objs.size (.lst [])) b:=λb f=>⟨by rw[jm (nep b f)];exact(f2 b f).1,(f2 b f).2⟩;have sz3:s3.heap.objs.size=(a.heap.push { cls:=.type "list",data:=.seq ([]:List Value).toArray }).objs.size:=by rw[e3]
 have hk4:∀ b o,s3.heap.get? b=some o->h₁.get? b=some o:=λb o e=>by
  refine O.extBut b o ?_ (L8 _ (by rw[e3] at e;exact e));intro z;exact absurd (N1 e) (by rw[z,sz3];exact Nat.lt_irrefl _)
 have hns4:h₁.Ns s3.heap.objs.size (λ_=>none):=by
  rw[sz3];exact N
 have I4:Inv (yT X scope N' s3.heap.objs.size s3 (upd L a.heap.objs.size (.lst [])) fp) [] (kU ix σ) (upd L a.heap.objs.size (.lst [])) { s3 with heap:=h₁,toks:=a.toks }:=jdJ B I3 M lt3 hns4 hk4;have st4:tn 0 h₁:=T.keep _ _ _ U λb f o e=>hk4 b o (hk3 b o e);obtain⟨W,⟨m0,w0⟩,turn⟩:=h2 _ fr2;have hg':=hg s3.heap.objs.size s3 (upd L a.heap.objs.size (.lst [])) fp;have P:=hif s3.heap.objs.size s3 (upd L a.heap.objs.size (.lst [])) fp;have he':=he s3.heap.objs.size s3 (upd L a.heap.objs.size (.lst [])) fp;generalize j:yT X scope N' s3.heap.objs.size s3 (upd L a.heap.objs.size (.lst [])) fp=X' at I4 hg' P he';have V:X'.prog=X.prog:=by rw[<- j];rfl
 have Y:X'.w=X.w:=by rw[<- j];rfl
 have eK:X'.K=X.K:=by rw[<- j];rfl
 have eA:X'.A=X.A:=by rw[<- j];rfl
 have eC:X'.calm=true:=by rw[<- j];exact hc
 have eE:X'.env=compEnvC scope (jgJ scope X.env) s3.heap.objs.size X.env:=by rw[<- j];rfl
 have eX:X'.xe=λ_ _=>False:=by rw[<- j];rfl
 have F:∀{H':Hp},(∀ b∈fp,H' b=none)->∀ b∈fp,jcs X' [] H' b:=λhn b f=>by
  refine⟨hn b f,?_,?_,?_,?_,?_⟩
  ·rw[eE];exact N7 (lt3 b f)
  ·rw[<- j];intro z;rcases M5.mp (I3.stkSub b z) with q | q
   ·exact(M b f).2.1 q
   ·exact(M b f).2.2.1 q
  ·rw[<- j];exact .inl f
  ·rw[eE];exact λx c e=>(M b f).2.2.2.2.1 x c (Q5 e)
  ·rw[<- j];exact(λp hp=>nomatch (show p∈([]:List (Addr×Obj)) from hp))
 -- the end of the block
 have fin:∀{l:St}{H':Hp}{s':Shared},Inv X' [] l H' s'->Q a.heap.objs.size H'->compPost (model X.prog X.w) X.A X.xe use QQ (.ref a.heap.objs.size) s3.heap.objs.size (.ok .next) s':=λ{l H' s'} J q=>by
  have hL:X'.env.locals=s3.heap.objs.size:=by rw[eE];rfl
  have un:Un (frs X.stack) fp (upd L a.heap.objs.size (.lst [])) H' s3.heap s'.heap:=by
   have z:=J.base;rw[<- j] at z;exact z
  have hos:s'.os=s3.os:=by
   have z:=J.os;rw[<- j] at z;exact z
  have hok:HOk X.prog X.w H' s'.heap:=by
   have z:=J.hok;rw[V,Y] at z;exact z
  have fc:H' s3.heap.objs.size=none:=by
   have z:=J.free;rw[hL] at z;exact z
  have I5:Inv X pins σ H' s':=by
   obtain⟨hh,gg,dd,tt,oo⟩:=s';obtain rfl:oo=s3.os:=hos;exact I3.call (h':=hh) (g':=gg) (d':=dd) (t':=tt) (ch:=fp) un hok J.bare λb f=>⟨(M b f).2.2.2.1,(M b f).2.1,(M b f).2.2.2.2.1,(M b f).2.2.2.2.2⟩
  obtain⟨m,hn,_⟩:=J.loc;rw[hL] at hn;exact hend _ _ s' H' q I5 (I3.fpOk (M9 _) fc) ⟨m,hn⟩
 have loop:∀ s',s'=({ s3 with heap:=h₁,toks:=a.toks }:Shared)->codeAny (model X.prog X.w) X.A (.compLoop (.ListComp elt [⟨tg,iter,ifs,0⟩] scope pos) 0 (.ref it) (.ref a.heap.objs.size) X'.env) (compPost (model X.prog X.w) X.A X.xe use QQ (.ref a.heap.objs.size) s3.heap.objs.size) s':=by
  rintro s' rfl;refine jag (λn s'=>∃ i l H',Inv X' [] l H' s'/\tn i s'.heap/\(∀ b∈fp,H' b=none)/\W i n l H') ?_ m0 ⟨0,_,_,I4,st4,λb f=>(M b f).1,w0⟩;rintro n s5 ⟨i,σ5,H5,I5,st5,fr5,w5⟩;have it5:=T.item X' V Y eK eC i [] s5 σ5 H5 (λ_ _=>False) I5 (F fr5) st5;have dn5:=T.done X' V Y eK eC i [] s5 σ5 H5 (λ_ _=>False) I5 (F fr5) st5;rw[eA] at it5 dn5;rcases turn i n σ5 H5 w5 with⟨stop,qn⟩ | ⟨go,step⟩
  ·refine thn (dn5 stop) λr s6 ⟨hr,I6⟩=>?_;subst hr;exact fin I6 qn
  ·refine thn (it5 go) λr s6 ⟨u,hr,h6⟩=>?_;subst hr;refine thn h6 λ_ s7 ⟨x,H7,I7,r7,y7,Z,fr7⟩=>?_;have I7':=I7.pinned (F fr7) (T.obj _ _ Z);have a7:=hg' _ s7 σ5 H7 x u _ I7' r7 (step x H7 y7);rw[V,Y,eA,eX] at a7;refine thn a7 λ_ s8 ⟨G,H8,I8,q8⟩=>?_;have again:∀{t:Shared}{E:Hp},Inv X' ([]++xO fp s7.heap) G E t->(∃ D,D < n/\W (i+1) D G E)->∃ m,m < n/\∃ i l H',Inv X' [] l H' t/\tn i t.heap/\(∀ b∈fp,H' b=none)/\W i m l H':=λ{t E} I9 ⟨D,hm,w9⟩=>by
    refine⟨D,hm,i+1,G,E,I9.unpinned,T.keep _ _ _ Z λb f o e=>(I9.pin (b,o) (U4 _ (U4 _ (Vt f e)))).1,λb f=>?_,w9⟩;obtain⟨o,e,d⟩:=T.obj _ _ Z b f;exact(I9.pin (b,o) (U4 _ (U4 _ (Vt f e)))).2.1
   have rest:∀(b:Bool) (t:Shared) (E:Hp),Inv X' ([]++xO fp s7.heap) G E t->(if b=true then te G E λy H6=>∃ ys,H6 a.heap.objs.size=some (.lst ys)/\ys.length < sizeLine/\∃ D,D < n/\W (i+1) D G (upd H6 a.heap.objs.size (.lst (ys++[y])))
     else ∃ D,D < n/\W (i+1) D G E) ->
     if b=true then wpAny (model X.prog X.w) X.A (eval elt X'.env) (λx s₄=>wpAny (model X.prog X.w) X.A (call (.builtin "list.append") [.ref a.heap.objs.size,x]) (λ_ s₅=>∃ m,m < n/\∃ i l H',Inv X' [] l H' s₅/\tn i s₅.heap/\(∀ b∈fp,H' b=none)/\W i m l H') (λ_ _=>False) s₄) (λ_ _=>False) t
     else ∃ m,m < n/\∃ i l H',Inv X' [] l H' t/\tn i t.heap/\(∀ b∈fp,H' b=none)/\W i m l H':=λb t E I9 q9=>by
    cases b with
    | false =>
     rw[if_neg M4] at q9 ⊢;exact again I9 q9
    | true =>
     rw[if_pos rfl] at q9 ⊢;have a9:=he' _ t G E _ I9 q9;rw[V,Y,eA,eX] at a9;refine thn a9 λyv s10 ⟨y,H10,I10,r10,ys,e10,l10,q10⟩=>?_;have a10:=Q6 _ s10 G H10 (.ref a.heap.objs.size) [y] (.ref a.heap.objs.size) [yv] (λ_ H'=>∃ D,D < n/\W (i+1) D G H') I10 rfl (.cons r10 .nil) ⟨_,ys,y,rfl,rfl,e10,l10,q10⟩;rw[V,Y,eA,eX] at a10;exact thn a10 λ_ s11 ⟨_,H11,I11,_,q11⟩=>again I11 q11
   rcases P with⟨e1,e2⟩ | ⟨c,e1,e2⟩
   ·subst e1;rw[e2] at q8;exact wpAny_tests_nil (rest true s8 H8 I8 q8)
   ·subst e1;have a8:=e2 _ s8 G H8 _ I8 q8;rw[V,Y,eA,eX] at a8;exact wpAny_tests_one (thn a8 λb t ⟨E,I9,q9⟩=>rest b t E I9 q9)
 have R:codeAny (model X.prog X.w) X.A (.compStart (.ListComp elt [⟨tg,iter,ifs,0⟩] scope pos) 0 (.ref it) (.ref a.heap.objs.size) X'.env) (compPost (model X.prog X.w) X.A X.xe use QQ (.ref a.heap.objs.size) s3.heap.objs.size) { s3 with heap:=h₁,toks:=a.toks } :=
  codeAny_compStart_list (loop _ rfl) (T.self _ 0 _ _ _ st4 (loop _ rfl))
 rw[eE] at R;subst hs3;exact R
theorem jbw(B:BlockOk X scope N' ix)(d:X.calm=true)(hi:PI X tg iter wi)
  (e:∀ C s H fp,PG (yT X scope N' C s H fp) tg g) (a:∀ C s H fp,PIf (yT X scope N' C s H fp) ifs tc) (i:∀ C s H fp,PE (yT X scope N' C s H fp) elt te)
  (j:∀ x,foldedSetIterable iter X.env x=pure x:=by intro _;rfl):PE X (.ListComp elt [⟨tg,iter,ifs,0⟩] scope pos) (wK wi g tc te ix):=by
 intro c s σ H Q I h;rw[eval_ListComp];exact YZ (use:=none) (Q:=λp b=>Q (.ref p) b) B d hi e a i j I h λp C o b q k f ⟨m,l⟩=>⟨m,l,λr n=>⟨.ref p,b,k.other f n,rfl,q⟩⟩
theorem jct(B:BlockOk X scope N' ix)(E:X.calm=true)(hi:PI X tg iter wi)
  (F:∀ C s H fp,PG (yT X scope N' C s H fp) tg g) (d:∀ C s H fp,PIf (yT X scope N' C s H fp) ifs tc) (G:∀ C s H fp,PE (yT X scope N' C s H fp) elt te)
  (J:X.N.Nodup) (j:X.N[i]?=some x) (K:Loc X.env.scope x)
  (k:swapsWith (.ListComp elt [⟨tg,iter,ifs,0⟩] scope pos) (some (.Name x pos')) spos.line X.env=pure true)
  (L:∀ x,foldedSetIterable iter X.env x=pure x:=by intro _;rfl)
  (M:X.fn x=true \/ X.env.scope.names.lookup x=some .local:=by first | exact .inl rfl | exact .inr rfl | assumption) :
  PS X (.Assign [.Name x pos'] (.ListComp elt [⟨tg,iter,ifs,0⟩] scope pos) spos) (jgg (wK wi g tc te ix) (QH i)):=by
 intro a s σ H D I h;rw[exec_Assign_Name_used _ _ _ _ k];refine L3 (wpAny_standAt (L3 ?_));show wpAny _ X.A (do let _ <- comprehension (.ListComp elt [⟨tg,iter,ifs,0⟩] scope pos) scope X.env _ (newList []) false (eval iter X.env) (some (assign (.Name x pos') X.env))) _ _ s;refine L3 (thn (YZ (use:=some (assign (.Name x pos') X.env)) (QQ:=λ_ b=>SP X a D .next b) (Q:=λp c=>D.nx (σ.set i (some (.ref p))) c) B E hi F d G L I h λp C b c q r f ⟨m,O⟩=>?_) λ_ b P=>M7 (M7 P));obtain⟨o,R,S,T,t⟩:=id O;have hd:∀ v,o.data≠.cell v:=λv z=>by
  obtain⟨l,_⟩:=t;rw[l] at z;cases z
 have U:Inv X (a++[(C,o)]) σ c b:=r.pins_of λu n=>by
  rcases N3.mp n with z | z
  ·exact r.pin u (U4 _ z)
  ·have e:u=(C,o):=by simpa using z
   subst e;exact⟨T,f.1,f.2.1,f.2.2.1,hd⟩
 refine wpAny_assign_Name (wR U J j K (v:=.ref p) rfl (λW w=>?_) M);have y:=w.pin (C,o) (U4 _ (U4 _ (M8.mpr rfl)));refine⟨m,⟨o,R,S,y.1,t⟩,λY V=>⟨_,c,(w.unpinned).other ⟨y.2.1,f.2⟩ V,q⟩⟩
noncomputable def S(l:List Nat):Str:=⟨l.toArray⟩
theorem VE(l:List Nat):(S l).cps.toList=l:=by simp[S]
theorem xg(l:List Nat):(S l).length=l.length:=by simp[S,Str.length]
theorem jkA(h:S a=S b):a=b:=by
 rw[<- VE a,<- VE b,h]
theorem jmT(a b:List Nat):(S a=S b)=(a=b):=propext ⟨jkA,λh=>by rw[h]⟩
theorem jmG(a b:List Nat):S a++S b=S (a++b):=by
 apply PyProof.Rows.ext_toList;rw[PySem.W.KT.app_list,VE,VE,VE]
theorem jh2(c:Nat):(⟨#[c]⟩:Str)=S [c]:=rfl
noncomputable def vy{α:Type}(xs:List α)(lo hi:Option Int):List α:=(xs.drop (HT.sIx xs.length 0 lo)).take (HT.sIx xs.length xs.length hi - HT.sIx xs.length 0 lo)
theorem jiO(xs:List α)(k:Nat):vy xs none (some (k:Int))=xs.take k:=by
 unfold vy;rw[HT.sIx_none,HT.sIx_nat];simp[List.take_eq_take_iff]
theorem jeB(lo hi:Option Int)(n:Nat):Builtin.Str.strSliceIndices lo hi 1 n=(List.range (HT.sIx n n hi - HT.sIx n 0 lo)).map (HT.sIx n 0 lo+·):=by
 have a:∀(o:Option Int) (d:Nat),(match o with | none=>(d:Int) | some i=>(let i:=if i < 0 then i+(n:Int) else i;if(1:Int) > 0 then max 0 (min i n) else max (-1) (min i (n - 1))))=((HT.sIx n d o:Nat):Int):=by
  intro o d;cases o with
  | none=>rfl
  | some v =>
   show(if(1:Int) > 0 then max 0 (min (if v < 0 then v+(n:Int) else v) n) else _)=(((if v < 0 then(v+(n:Int)).toNat else min v.toNat n):Nat):Int);rw[if_pos (by decide)];by_cases b:v < 0
   ·rw[if_pos b,if_pos b];omega
   ·rw[if_neg b,if_neg b];omega
 rw[<- sliceRange_one,<- a lo 0,<- a hi n];rfl
theorem jju(l:List Nat)(lo hi:Option Int):Txt.slice (S l) lo hi=S (vy l lo hi):=by
 have i:HT.sIx l.length l.length hi<=l.length:=HT.sIx_le _ _ (M9 _) _;have j:HT.sIx l.length 0 lo<=l.length:=HT.sIx_le _ _ (U6 _) _;have e:(Builtin.Str.strSliceIndices lo hi 1 (S l).length).filterMap ((S l).cps[·]?)=vy l lo hi:=by
  rw[xg,jeB];have h:=StrLaws.picks l (HT.sIx l.length l.length hi - HT.sIx l.length 0 lo) (HT.sIx l.length 0 lo);by_cases c:HT.sIx l.length 0 lo<=HT.sIx l.length l.length hi
  ·have d:=h (by omega);unfold vy;rw[<- d];simp[S]
  ·have z:HT.sIx l.length l.length hi - HT.sIx l.length 0 lo=0:=by omega
   unfold vy;rw[z];simp
 unfold Txt.slice;split
 ·rename_i b;have f:(Builtin.Str.strSliceIndices lo hi 1 (S l).length).length=(S l).length:=by
   simp only[beq_self_eq_true,Bool.true_and] at b;exact beq_iff_eq.mp b
  rw[xg,jeB,L1,List.length_range] at f;unfold vy;by_cases a:l.length=0
  ·have:l=[]:=List.length_eq_zero_iff.mp a;subst this;simp
  ·have g:HT.sIx l.length 0 lo=0:=by omega
   rw[g,List.drop_zero,List.take_of_length_le (by omega)]
 ·rw[e];rfl
def jnw:V->Option Int->Option Int->Hp->VK->Prop:=λx lo hi H Q=>∃ l,x=.str (S l)/\l.length<=sizeLine/\Q (.str (S (vy l lo hi))) H
theorem jhw(p:IsPart v o):∃ q:Option (Int×Tok),v=partValue q/\q.map (·.1)=o:=by
 cases p with
 | none=>exact⟨none,rfl,rfl⟩
 | int i t=>exact⟨some (i,t),rfl,rfl⟩
theorem jkY:SlR X jnw:=by
 intro c s σ H x v z A a b sl Q I i j m n h;obtain⟨l,rfl,o,q⟩:=h;obtain⟨t,rfl⟩:=i;obtain⟨d,rfl,p⟩:=jhw m;obtain⟨e,rfl,r⟩:=jhw n;refine⟨"str",_,F.slot_str_getitem.lookup,typeIs_str _ _ _,wpAny_getItem_str_slice (l:=d) (u:=e) (st:=none) j rfl ?_⟩;have w:Txt.slice (S l) a b=S (vy l a b):=jju l a b;have g:∀ f k,EP X c σ Q (.str (Txt.slice (S l) a b) f) { s with toks:=k }:=λf k=>by
  rw[w];exact⟨.str (S (vy l a b)),H,I.tok k,⟨f,rfl⟩,q⟩
 have y:sliceMade (S l) t d e none=(if((1:Int)==1&&(Builtin.Str.strSliceIndices a b 1 (S l).length).length==(S l).length)=true then Made.val (.str (S l) t) else Made.str ⟨((Builtin.Str.strSliceIndices a b 1 (S l).length).filterMap ((S l).cps[·]?)).toArray⟩):=by
  unfold sliceMade slicePicked;rw[p,r];rfl
 rw[y];refine post_val_or_str ⟨?_,λf k=>g f k⟩;exact N8 (Txt.slice_le (S l) a b) (by rw[xg];exact o)
noncomputable def Its(l:List Nat):It:=⟨λi _=>i < l.length,λi H x H'=>H'=H/\∃ c,l[i]?=some c/\x=.str (S [c]),λi _=>l.length<=i⟩
theorem jgX{tg:Expr}{P:Program}{w:World}{K:PySem.W.Frag}(it:Addr)(l:List Nat)(t:Tok)(ty:String)(j:ty = "str_ascii_iterator" \/ ty = "str_iterator")
  (W:∀ A:Around,A.handled=none->Walks P w A it [it] [it] (S l).cps.size (SignAt (S l)) (λi h=>h.IsStrIter it ty (S l) t i)):Turn P w K tg (Its l) [it] it (λi h=>h.IsStrIter it ty (S l) t i) where
 mem:=by simp
 obj:=λi h a b f=>by
  have e:b=it:=by simpa using f
  subst e;obtain⟨o,e,c,d⟩:=a;exact⟨o,e,λv z=>by rw[d] at z;cases z⟩
 keep:=λi h m a k=>by
  obtain⟨o,e,r⟩:=a;exact⟨o,k it (by simp) o e,r⟩
 item:=by
  intro X F G J p i g s σ H E I q a L;subst F G J;obtain⟨x,y,T,B,C,D⟩:=q it (by simp);have U:=W X.A (I.ok.hd p);have M:(S l).cps.size=l.length:=by simp[S]
  refine U.item i s _ _ (by rw[M];exact L) a λv m Q V n Y=>?_;obtain⟨c,u,N,rfl⟩:=V;have Z:Inv X g σ H { s with heap:=m,toks:=Q }:=I.turned (λb o f e=>Y b o (by simpa using f) e) x y B C D;obtain⟨o,e,ct,d⟩:=id n;refine⟨_,rfl,jet (s:={ s with heap:=m,toks:=Q }) e ct d (by rcases j with z | z<;>subst z<;>decide) ⟨.str (S [c]),H,Z,⟨u,rfl⟩,⟨rfl,c,by simpa [S] using N,rfl⟩,n,λb f=>(q b f).1⟩⟩
 done:=by
  intro X F G J p i g s σ H E I q a L;subst F G J;obtain⟨x,y,T,B,C,D⟩:=q it (by simp);have R:(S l).cps[i]?=none:=by
   have:l.length<=i:=L;simp[S,this]
  rcases j with z | z
  ·subst z;exact wpAny_pyNext_ascii_end (I.ok.hd p) a R λm O=>⟨rfl,I.turned (t':=s.toks) (λb o f e=>O b o f e) x y B C D⟩
  ·subst z;exact wpAny_pyNext_wide_end (I.ok.hd p) a R λm O=>⟨rfl,I.turned (t':=s.toks) (λb o f e=>O b o f e) x y B C D⟩
 self:=λ_ _ _ _ _ a h=>by
  rcases j with z | z
  ·subst z;exact wpAny_pyIter_striter_ascii a h
  ·subst z;exact wpAny_pyIter_striter_wide a h
theorem jkq:OpR X (compareOp .In) (λx y H Q=>∃ c l,x=.str (S [c])/\y=.str (S l)/\Q (.bl (decide (c∈l))) H):=by
 intro a s σ H x y v u Q I b d h;obtain⟨c,l,rfl,rfl,q⟩:=h;refine jdS a s σ H _ _ v u Q I b d ⟨_,_,rfl,rfl,?_⟩;rw[<- jh2,StrLaws.found_one,VE];exact q
theorem jfl:OpR X (compareOp .NotIn) (λx y H Q=>∃ c l,x=.str (S [c])/\y=.str (S l)/\Q (.bl (!decide (c∈l))) H):=by
 intro a s σ H x y v u Q I b d h;obtain⟨c,l,rfl,rfl,q⟩:=h;refine uL a s σ H _ _ v u Q I b d ⟨_,_,rfl,rfl,?_⟩;rw[<- jh2,StrLaws.found_one,VE];exact q
theorem jiH:OpR X (binaryOp .Add) (λx y H Q=>∃ a b,x=.str (S a)/\y=.str (S b)/\a.length+b.length<=sizeLine/\Q (.str (S (a++b))) H):=by
 intro c s σ H x y v u Q I d e h;obtain⟨a,b,rfl,rfl,f,q⟩:=h;refine jcq c s σ H _ _ v u Q I d e ⟨_,_,rfl,rfl,by rw[xg,xg];exact f,?_⟩;rw[jmG];exact q
theorem jhR:OpR X (binaryOp .Mult) (rI (λi j=>Builtin.Int.intBits i<=2 ^ 20/\Builtin.Int.intBits j<=2 ^ 20) λi j=>.int (i*j)):=opI λ_ _ _ _ _ _ _ a q=>mul_int q (IntMulOk.of_bits a.1 a.2)
theorem jcD(h:i.natAbs < 2 ^ m)(a:m<=2 ^ 20):Builtin.Int.intBits i<=2 ^ 20:=N8 (PySem.intBits_le_iff.mpr h) a
theorem jbt{A:Around}{bs:List Bool}{its:List Value}(r:Vals (bs.map V.bl) its):TruthOf P w A (λi v=>its.toArray[i]?=some v) (λi=>bs.getD i false):=by
 intro i v s Q E c d;have a:its[i]?=some v:=by simpa using c
 have h:i < its.length:=(L9.mp a).1;have e:=r.length;rw[L1] at e;have f:(bs.map V.bl)[i]?=some (V.bl (bs.getD i false)):=by
  rw[List.getElem?_map,List.getD_eq_getElem?_getD,X9 (by omega)];rfl
 obtain⟨u,b,g⟩:=r.get f;rw[a] at b;cases b;cases g;exact M7 d
theorem jdo:∀(bs:List Bool),(List.range bs.length).any (λi=>bs.getD i false)=bs.any (λb=>b):=by
 intro bs;rw[Bool.eq_iff_iff,List.any_eq_true,List.any_eq_true];constructor
 ·rintro⟨i,c,h⟩;have a:=List.mem_range.mp c;rw[List.getD_eq_getElem?_getD,X9 a] at h;exact⟨_,List.getElem_mem a,h⟩
 ·rintro⟨b,d,h⟩;obtain⟨i,c,e⟩:=List.mem_iff_getElem.mp d;refine⟨i,List.mem_range.mpr c,?_⟩;rw[List.getD_eq_getElem?_getD,X9 c,e];exact h
theorem jgL(k:X.calm=true):Vy X (.builtin "any") (λxs H Q=>∃(p:Addr) (bs:List Bool),xs=[.ref p]/\SqL X.K H p (bs.map V.bl)/\Q (.bl (bs.any λb=>b)) H):=by
 intro f s σ H xs w Q I r h;obtain⟨p,bs,rfl,l,q⟩:=h;obtain⟨u,rfl,m⟩:=r.one;cases m;obtain⟨a,g,c,x⟩:=I.list l;have d:p < s.heap.objs.size:=by
  obtain⟨o,n,e,_⟩:=c;exact N1 e
 have j:=g.length;rw[L1] at j;refine call_any_walk (wpAny_pyIter_list c.isList ⟨s.heap.objs.size,_,_,_,_,_,λi=>bs.getD i false,rfl,Walks.list (A:=X.A.in1) (by exact I.ok.hd k) s.heap.objs.size p (N7 d) a.toArray,⟨⟨_,E2 _ rfl,rfl,rfl⟩,?_⟩,jbt g,λy z t=>?_⟩)
 ·obtain⟨o,e,r⟩:=c.isList;exact⟨o,L8 _ e,r⟩
 ·rw[N4,<- j,jdo];refine⟨.bl (bs.any λb=>b),H,I.kept λb o e=>t b o ?_ (L8 _ e),rfl,q⟩;intro v;have:b=s.heap.objs.size:=by simpa using v
  exact absurd (N1 e) (by rw[this];exact Nat.lt_irrefl _)
def SqX(K:PySem.W.Frag)(H:Hp)(a:Addr)(xs:List V):Prop :=
 Rd H a (.lst xs) \/ ∃(its:Array Value) (n:Nat),K.lookup a=some { cls:=.type "list",data:=.seq its n }/\its.size<=sizeLine/\Vals xs its.toList
theorem SqX.sq{K:PySem.W.Frag}{H:Hp}{a:Addr}{xs:List V}(h:SqX K H a xs):SqL K H a xs:=by
 rcases h with h | ⟨b,n,c,d,r⟩
 ·exact .inl h
 ·exact .inr ⟨_,b,n,c,rfl,rfl,rfl,d,r⟩
theorem SqX.of{K:PySem.W.Frag}{H:Hp}{a:Addr}{xs:List V}(h:H a=some (.lst xs)):SqX K H a xs:=.inl (.inl h)
theorem Inv.listX(I:Inv X pins σ H s)(h:SqX X.K H a xs):∃(its:List Value) (n:Nat),Vals xs its/\s.heap.get? a=some { cls:=.type "list",data:=.seq its.toArray n }/\xs.length<=sizeLine:=by
 rcases h with h | ⟨its,n,b,c,r⟩
 ·obtain⟨z,its,n,r,e⟩:=h.ok I.hok;exact⟨its,n,r,e,z⟩
 ·refine⟨its.toList,n,r,by simpa using I.kIn a _ b,?_⟩;have e:=r.length;simp only[Array.length_toList] at e;omega
noncomputable def jkD(K:PySem.W.Frag):R2:=λx y H Q=>∃ l b xs zs,x=.ref l/\y=.ref b/\SqX K H l xs/\SqX K H b zs/\xs.length+zs.length<=sizeLine/\∀ p,H p=none->Q (.ref p) (upd H p (.lst (xs++zs)))
theorem jh4:OpR X (binaryOp .Add) (jkD X.K):=by
 intro d s σ H x y v u Q I g i h;obtain⟨l,b,t,w,rfl,rfl,j,k,z,q⟩:=h;cases g;cases i;obtain⟨c,n,r,e,_⟩:=I.listX j;obtain⟨a,A,f,m,_⟩:=I.listX k;have B:=r.length;have o:=f.length;refine PySem.P.add_list e m ?_ (by rw[N4,N4];omega);have p:c.toArray++a.toArray=(c++a).toArray:=by simp
 rw[p];exact⟨.ref _,_,I.lnew (t':=s.toks) (r.append f) (by rw[N5];omega),rfl,q _ I.fresh⟩
theorem jaW{ns:List Int}(h:PySem.W.WData.layableAll [PySem.W.WData.list (ns.map PySem.W.WData.int)]=true):∀ x∈ns,Builtin.Int.intBits x<=2 ^ 20:=by
 intro x c;have f:(PySem.W.WData.list (ns.map PySem.W.WData.int)).layable=true:=(PySem.W.layW_cons h).1;have e:PySem.W.ofPy (.list (ns.map .int))=PySem.W.WData.list (ns.map PySem.W.WData.int):=by
  have g:∀ a:List Int,PySem.W.ofPys (a.map PyData.int)=a.map PySem.W.WData.int:=by
   intro a
   induction a with
   | nil=>rfl
   | cons m a i=>simp[PySem.W.ofPys,PySem.W.ofPy,i]
  simp[PySem.W.ofPy,g]
 have b:=PySem.W.lay0_ofPy (s:=.list .int) (d:=.list (ns.map .int)) rfl (by simp[Shape.has]) (by rw[e];exact f);have j:PyData.layable0 (.list (ns.map .int))=true:=by
  simp[PyData.layableAll0] at b;exact b
 exact PyData.bits_item_of_ints j c
theorem walk_ofB{l:PySem.W.OpenLaw}{n k:Nat}{j:List Str}{R:(Str->Option Value)->Heap->Prop}{M:World->Heap->Prop}{d:DefRec}{K:Params->PySem.W.Frag}{CX:World->CXT}{sp:World->Sp} 
  (hn:l.most=some n) (A:n<=sizeLine) (B:d.params.defaults=[]) (S:Room k callerA)
  (U:∀(w:World) (h:Heap),M w h->(K w.params).In h)
  (F:∀(w:World) (mg:Str->Option Value) (fa:Addr) (h:Heap),(K w.params).In h->h.Ns mainGlobals mg->mg d.name=some (.ref fa) ->
   ∃ fd:FuncData,(∀(s:Shared) (u:Value),BindsTo s fd ⟨[u],[]⟩ [(x,u)]) /\
    ∀ base:Heap,(K w.params).In base->base.Ns mainGlobals mg->FnOk l.prog w (K w.params) mg base (CX w) k fa fd [x] (sp w))
  (C:∀(w:World) (H:Hp) (a:Addr) (ns:List Int),ns.length<=n->(∀ x∈ns,Builtin.Int.intBits x<=2 ^ 20)->jmr H->SqX (K w.params) H a (ns.map V.int)->sp w [.ref a] H (λv _=>v=.bl true) λ_ _ _=>False)
  (D:∀(w:World) (H:Hp) (s:Shared) (e:Value) (s':Shared),CX w [] H s (λ_ _ _=>False) e s'->False) :
  PySem.W.WalkO q j R M l.row.toRowW d [] (λf vs=>PySem.call f vs):=by
 intro w s₀ X mg mb G Y fa o pm cd Z dV kV ho hd hcd N E hg O P as y z hrd I hlo;obtain rfl:dV=.none:=PySem.W.Dflts.none N B;obtain rfl:kV=.none:=PySem.W.Dflts.noKw N;obtain⟨a,vs,ns,rfl,rfl,c,p,i⟩:=Att.script_of hn y I;have t:=jaW z;have J:=U w _ Y;obtain⟨fd,hb,hF⟩:=F w mg fa _ J G.T.g E;refine PySem.W.enter_call (codeAny_mono (jgM J G.T.g G.T.b G.T.builtins G.T.nolimit hg c p (N8 i A) S hF hb (λH hO hS=>C w H a ns i t hO ?_) λH e s'=>D w H X e s') λr s' hq=>?_)
 ·rcases hS with h | ⟨o,its,m,Q,_,_,L,hz,r⟩
  ·exact .inl h
  ·have e:=J a o Q;rw[c] at e;cases e;cases L;exact .inr ⟨_,_,Q,hz,r⟩
 ·obtain⟨rfl,h2,h3,h4⟩:=hq;exact⟨.inl ⟨.bool true,.bool true,[],rfl,λ_=>rfl,.bool true,Att.post_true l _,λ_=>⟨List.Pairwise.nil,λ_ hm=>(nomatch hm)⟩⟩,h2,h3,h4⟩
noncomputable def wU(sc:Scope)(N:List Str)(scope:Scope)(N':List Str)(ix:List (Option Nat)):Bool :=
 decide (scope.kind=.function)&&decide (sc.kind=.function)&&scope.names.all (λy=>decide (y.2≠.cell))&&scope.names.all (λy=>!decide (y.2=.local)||decide (scope.names.lookup y.1=some .local)) &&
 scope.names.all (λy=>!decide (y.2=.free)||(decide (scope.names.lookup y.1=some .free)&&(decide (sc.names.lookup y.1=some .cell)||decide (sc.names.lookup y.1=some .free))))&&decide N'.Nodup&&decide (ix.length=N'.length) &&
 (List.range ix.length).all (λi=>match ix[i]? with | some (some j)=>(match N'[i]? with | some x=>decide (N[j]?=some x)&&decide ((x,NameKind.free)∈scope.names) | none=>true) | _=>true)
theorem jje{X:Cx}{scope:Scope}{N':List Str}{ix:List (Option Nat)}(b:Scope)(N:List Str)(h1:X.env.scope=b)(h2:X.N=N)(h:wU b N scope N' ix=true):BlockOk X scope N' ix:=by
 subst h1;subst h2;unfold wU at h;simp only[M0,decide_eq_true_eq,List.all_eq_true,Bool.or_eq_true,Bool.not_eq_true',decide_eq_false_iff_not] at h;obtain⟨⟨⟨⟨⟨⟨⟨d,f⟩,g⟩,k⟩,c⟩,l⟩,m⟩,n⟩:=h;refine⟨d,g,λy a e=>?_,λy a e=>?_,λy a e=>?_,l,m,λi j x h1 h2=>?_,f⟩
 ·exact(k y a).elim (λz=>absurd e z) id
 ·exact(c y a).elim (λz=>absurd e z) λz=>z.1
 ·exact(c y a).elim (λz=>absurd e z) λz=>z.2
 ·have o:i < ix.length:=(L9.mp h1).1;have z:=n i (List.mem_range.mpr o);rw[h1] at z;dsimp only at z;rw[h2] at z;dsimp only at z;simp only[M0,decide_eq_true_eq] at z;exact z
structure FnFact(K:PySem.W.Frag)(mg:Str->Option Value)(x qual:Str)(st:Stmt)(f:Addr)(fd:FuncData)(ps:List Str):Prop where
 fn:Fun K x qual st f fd
 mgf:mg x=some (.ref f)
 bd:Binds K fd ps []
section
variable {X:Cx}{k:Nat}{f:Addr}{fd:FuncData}{ps:List Str}{sp:Sp}{x qual:Str}{st:Stmt}{p pos:Pos}{e:Expr}{es:List Expr}{t:TA}
theorem jmU(F:FnFact X.K X.mg x qual st f fd ps)(G:FnOk X.prog X.w X.K X.mg X.base CX0 k f fd ps sp)(c:Room k X.A)(d:PA X (e::es) t)(g:Gl X x:=by rfl)(a:(x==("__debug__" : Str))=false:=by decide)
  (h:starEach (e::es) X.env=(false,eval e X.env)::starEach es X.env:=by rfl) (b:(backTo pos (starEach es X.env)).any (·.1)=false:=by rfl):PE X (.Call (.Name x p) (e::es) [] pos) (jdj sp [] E0 t) :=
 jjp G c g F.mgf F.fn.kp F.bd .nil jdD d a h b
end
theorem jjn:OpR X (binaryOp .Mult) (λx y H Q=>∃(a:List Nat) (n:Int),x=.str (S a)/\y=.int n/\a.length<=1000/\0<=n/\n<=1000/\Q (.str (S (List.replicate n.toNat a).flatten)) H):=by
 intro f s σ H x y v u Q I g i h;obtain⟨a,n,rfl,rfl,j,A,l,q⟩:=h;obtain⟨k,rfl⟩:∃ k:Nat,n=(k:Int):=⟨n.toNat,by omega⟩;have m:k<=1000:=by omega
 rw[N9] at q;obtain⟨t,rfl⟩:=g;obtain⟨o,rfl⟩:=i;have p:a.length*k<=1000*1000:=Nat.mul_le_mul j m;have hok:MulOk (S a) (k:Int):=by
  refine⟨by simp;omega,λd c=>?_,λd c=>?_⟩
  ·rw[xg];have r:(1:Int)<=k:=by omega
   have B:(1000:Int)<=(2 ^ 63 - 1) / (k:Int):=by
    rw[Int.le_ediv_iff_mul_le (by omega)];have:(1000:Int)*k<=1000*1000:=by omega
    omega
   omega
  ·rw[xg,N9];unfold Builtin.Str.tooLong;have r:a.length*k<=sizeLine:=N8 p (by decide);exact X5 (by omega)
 have e:Txt.mul (S a) (k:Int)=S (List.replicate k a).flatten:=by
  have fl:∀(n:Nat) (b:Array Nat),((List.replicate n a.toArray).foldl (·++·) b).toList=b.toList++(List.replicate n a).flatten:=by
   intro n
   induction n with
   | zero=>intro b;simp
   | succ n w=>intro b;rw[List.replicate_succ,X2,w];simp[List.replicate_succ]
  unfold Txt.mul;apply PyProof.Rows.ext_toList;rw[VE];by_cases d:(k:Int) < 1
  ·have:k=0:=by omega
   subst this;simp[Str.empty]
  ·rw[if_neg d];by_cases c:((k:Int)==1||(S a).length==0)=true
   ·rw[if_pos c,VE];rw[xg] at c;simp at c;rcases c with z | z
    ·have:k=1:=by omega
     subst this;simp
    ·subst z;simp
   ·rw[if_neg c,N9];have z:=fl k #[];simp only[X8] at z;exact z
 refine SB.mul hok λo C=>?_;rw[e];exact⟨.str _,H,I.tok _,⟨_,rfl⟩,q⟩
end L2
namespace QD
open PySem L2
inductive KA where
 | int (i:Int) | str (s:List Nat)
 deriving DecidableEq
inductive D where
 | non | bl (b:Bool) | int (i:Int) | str (s:List Nat)
 | tup (l:List D) | lst (o:Bool) (l:List D)
 | dK (o:Bool) (ks:List KA) (l:List D)
 | dT (o:Bool) (ks:List (List KA)) (l:List D)
 | ins (o:Bool) (c:Nat) (ns:List Str) (l:List D)
 | dead
mutual
noncomputable def fz:D->D
 | .tup l=>.tup (fzs l)
 | .lst _ l=>.lst false (fzs l)
 | .dK _ ks l=>.dK false ks (fzs l)
 | .dT _ ks l=>.dT false ks (fzs l)
 | .ins _ c ns l=>.ins false c ns (fzs l)
 | .non=>.non | .bl b=>.bl b | .int i=>.int i | .str s=>.str s | .dead=>.dead
noncomputable def fzs:List D->List D
 | []=>[]
 | d::l=>fz d::fzs l
end
mutual
noncomputable def frz:D->Bool
 | .tup l=>frzs l
 | .lst o l=>!o&&frzs l
 | .dK o _ l=>!o&&frzs l
 | .dT o _ l=>!o&&frzs l
 | .ins o _ _ l=>!o&&frzs l
 | .non=>true | .bl _=>true | .int _=>true | .str _=>true | .dead=>true
noncomputable def frzs:List D->Bool
 | []=>true
 | d::l=>frz d&&frzs l
end
mutual
theorem qd:∀ d:D,frz d=true->fz d=d
 | .tup l,h=>by rw[frz] at h;rw[fz,jl l h]
 | .lst o l,h=>by rw[frz,M0] at h;rw[fz,jl l h.2];cases o<;>simp_all
 | .dK o ks l,h=>by rw[frz,M0] at h;rw[fz,jl l h.2];cases o<;>simp_all
 | .dT o ks l,h=>by rw[frz,M0] at h;rw[fz,jl l h.2];cases o<;>simp_all
 | .ins o c ns l,h=>by rw[frz,M0] at h;rw[fz,jl l h.2];cases o<;>simp_all
 | .non,_=>rfl | .bl _,_=>rfl | .int _,_=>rfl | .str _,_=>rfl | .dead,_=>rfl
theorem jl:∀ l:List D,frzs l=true->fzs l=l
 | [],_=>rfl
 | d::l,h=>by rw[frzs,M0] at h;rw[fzs,qd d h.1,jl l h.2]
end
mutual
theorem jk2:∀ d:D,frz (fz d)=true
 | .tup l=>by rw[fz,frz];exact Vf l
 | .lst o l=>by rw[fz,frz,Vf l];rfl
 | .dK o ks l=>by rw[fz,frz,Vf l];rfl
 | .dT o ks l=>by rw[fz,frz,Vf l];rfl
 | .ins o c ns l=>by rw[fz,frz,Vf l];rfl
 | .non=>rfl | .bl _=>rfl | .int _=>rfl | .str _=>rfl | .dead=>rfl
theorem Vf:∀ l:List D,frzs (fzs l)=true
 | []=>rfl
 | d::l=>by rw[fzs,frzs,jk2 d,Vf l];rfl
end
theorem JJ:∀ l:List D,fzs l=l.map fz
 | []=>rfl
 | d::l=>by rw[fzs,JJ l];rfl
theorem Vw:∀ l:List D,frzs l=l.all frz
 | []=>rfl
 | d::l=>by rw[frzs,Vw l];rfl
structure RC where
 K:PySem.W.Frag
 cls:Nat->Addr
noncomputable def kaV:KA->Key
 | .int i=>.inl i
 | .str s=>.inr (S s)
noncomputable abbrev Zn:=Addr->Prop
def FT(R:RC)(Z:Zn)(H:Hp)(a:Addr)(vs:List V):Prop :=
 (Z a/\Rd H a (.tup vs)) \/ ∃(o:Obj) (its:Array Value) (n:Nat),R.K.lookup a=some o/\o.cls=.type "tuple"/\o.data=.seq its n/\its.size<=sizeLine/\Vals vs its.toList/\o.dict=none
def FL(R:RC)(Z:Zn)(H:Hp)(a:Addr)(vs:List V):Prop :=
 (Z a/\Rd H a (.lst vs)) \/ ∃(its:Array Value) (n:Nat),R.K.lookup a=some { cls:=.type "list",data:=.seq its n }/\its.size<=sizeLine/\Vals vs its.toList
def DkA(o:Bool)(H:Hp)(a:Addr)(kvs:List (Key×V)):Prop:=bif o then H a=some (.dK kvs) else Rd H a (.dK kvs)
mutual
def Rep(R:RC)(Z:Zn)(H:Hp):D->V->List Addr->Prop
 | .non,v,O=>v=.non/\O=[]
 | .bl b,v,O=>v=.bl b/\O=[]
 | .int i,v,O=>v=.int i/\O=[]
 | .str s,v,O=>v=.str (S s)/\O=[]
 | .dead,_,O=>O=[]
 | .tup l,v,O=>∃ a vs,v=.ref a/\FT R Z H a vs/\Reps R Z H l vs O
 | .lst o l,v,O=>∃ a vs O',v=.ref a/\Reps R Z H l vs O'/\bif o then H a=some (.lst vs)/\O=a::O' else FL R Z H a vs/\O'=[]/\O=[]
 | .dK o ks l,v,O=>∃ a vs O',v=.ref a/\Reps R Z H l vs O'/\ks.length=l.length/\DkA o H a ((ks.map kaV).zip vs)/\bif o then O=a::O' else Z a/\O'=[]/\O=[]
 | .dT o ks l,v,O=>∃ a vs O',v=.ref a/\Reps R Z H l vs O'/\ks.length=l.length/\H a=some (.dT ((ks.map (List.map kaV)).zip vs))/\bif o then O=a::O' else Z a/\O'=[]/\O=[]
 | .ins o c ns l,v,O=>∃ a dx vs O',v=.ref a/\Reps R Z H l vs O'/\ns.length=l.length/\H a=some (.ins (R.cls c) dx (ns.zip vs))/\bif o then O=a::O' else Z a/\O'=[]/\O=[]
def Reps(R:RC)(Z:Zn)(H:Hp):List D->List V->List Addr->Prop
 | [],vs,O=>vs=[]/\O=[]
 | d::ds,vs,O=>∃ v vs' O1 O2,vs=v::vs'/\O=O1++O2/\Rep R Z H d v O1/\Reps R Z H ds vs' O2
end
theorem FT.sq(h:FT R Z H a vs):SqT R.K H a vs:=by
 rcases h with⟨_,h⟩ | ⟨o,b,n,c,d,e,f,g,_⟩
 ·exact .inl h
 ·exact .inr ⟨o,b,n,c,d,e,f,g⟩
theorem FL.sqx(h:FL R Z H a vs):SqX R.K H a vs:=by
 rcases h with⟨_,h⟩ | h
 ·exact .inl h
 ·exact .inr h
theorem FL.sq(h:FL R Z H a vs):SqL R.K H a vs:=h.sqx.sq
theorem Rd.agree(e:H' a=H a)(h:Rd H a u):Rd H' a u:=by
 unfold Rd at h ⊢;rw[e];exact h
theorem FT.frame(hz:∀ a,Z a->Z' a)(b:∀ a,Z a->H' a=H a)(h:FT R Z H a vs):FT R Z' H' a vs:=by
 rcases h with⟨z,h⟩ | h
 ·exact .inl ⟨hz a z,Rd.agree (b a z) h⟩
 ·exact .inr h
theorem FL.frame(hz:∀ a,Z a->Z' a)(b:∀ a,Z a->H' a=H a)(h:FL R Z H a vs):FL R Z' H' a vs:=by
 rcases h with⟨z,h⟩ | h
 ·exact .inl ⟨hz a z,Rd.agree (b a z) h⟩
 ·exact .inr h
mutual
theorem Rep.frame(hz:∀ a,Z a->Z' a)(hH:∀ a,Z a->H' a=H a):∀{d:D}{v:V}{O:List Addr},Rep R Z H d v O->(∀ a∈O,H' a=H a)->Rep R Z' H' d v O
 | .non,_,_,h,_=>by rw[Rep] at h ⊢;exact h
 | .bl _,_,_,h,_=>by rw[Rep] at h ⊢;exact h
 | .int _,_,_,h,_=>by rw[Rep] at h ⊢;exact h
 | .str _,_,_,h,_=>by rw[Rep] at h ⊢;exact h
 | .dead,_,_,h,_=>by rw[Rep] at h ⊢;exact h
 | .tup l,_,_,h,hO=>by
  rw[Rep] at h ⊢;obtain⟨a,vs,e,t,r⟩:=h;exact⟨a,vs,e,t.frame hz hH,Reps.frame hz hH r hO⟩
 | .lst o l,_,_,h,hO=>by
  rw[Rep] at h ⊢;obtain⟨a,vs,O',e,r,h⟩:=h;cases o with
  | true =>
   obtain⟨h1,rfl⟩:=h;exact⟨a,vs,O',e,Reps.frame hz hH r λb hb=>hO b (L6 _ hb),by rw[cond_true,hO a L7];exact⟨h1,rfl⟩⟩
  | false =>
   obtain⟨h1,rfl,rfl⟩:=h;exact⟨a,vs,[],e,Reps.frame hz hH r (λb hb=>nomatch hb),h1.frame hz hH,rfl,rfl⟩
 | .dK o ks l,_,_,h,hO=>by
  rw[Rep] at h ⊢;obtain⟨a,vs,O',e,r,hl,hd,h⟩:=h;cases o with
  | true =>
   have h:=(show _=_ from h);subst h;exact⟨a,vs,O',e,Reps.frame hz hH r λb hb=>hO b (L6 _ hb),hl,by show H' a=some _;rw[hO a L7];exact hd,rfl⟩
  | false =>
   obtain⟨h1,rfl,rfl⟩:=h;exact⟨a,vs,[],e,Reps.frame hz hH r (λb hb=>nomatch hb),hl,Rd.agree (hH a h1) hd,hz a h1,rfl,rfl⟩
 | .dT o ks l,_,_,h,hO=>by
  rw[Rep] at h ⊢;obtain⟨a,vs,O',e,r,hl,hd,h⟩:=h;cases o with
  | true =>
   have h:=(show _=_ from h);subst h;exact⟨a,vs,O',e,Reps.frame hz hH r λb hb=>hO b (L6 _ hb),hl,by rw[hO a L7];exact hd,rfl⟩
  | false =>
   obtain⟨h1,rfl,rfl⟩:=h;exact⟨a,vs,[],e,Reps.frame hz hH r (λb hb=>nomatch hb),hl,by rw[hH a h1];exact hd,hz a h1,rfl,rfl⟩
 | .ins o c ns l,_,_,h,hO=>by
  rw[Rep] at h ⊢;obtain⟨a,dx,vs,O',e,r,hl,hd,h⟩:=h;cases o with
  | true =>
   have h:=(show _=_ from h);subst h;exact⟨a,dx,vs,O',e,Reps.frame hz hH r λb hb=>hO b (L6 _ hb),hl,by rw[hO a L7];exact hd,rfl⟩
  | false =>
   obtain⟨h1,rfl,rfl⟩:=h;exact⟨a,dx,vs,[],e,Reps.frame hz hH r (λb hb=>nomatch hb),hl,by rw[hH a h1];exact hd,hz a h1,rfl,rfl⟩
theorem Reps.frame(hz:∀ a,Z a->Z' a)(hH:∀ a,Z a->H' a=H a):∀{l:List D}{vs:List V}{O:List Addr},Reps R Z H l vs O->(∀ a∈O,H' a=H a)->Reps R Z' H' l vs O
 | [],_,_,h,_=>by rw[Reps] at h ⊢;exact h
 | d::l,_,_,h,hO=>by
  rw[Reps] at h ⊢;obtain⟨v,vs,O1,O2,e,rfl,r1,r2⟩:=h;exact⟨v,vs,O1,O2,e,rfl,Rep.frame hz hH r1 λa ha=>hO a (List.mem_append_left _ ha),Reps.frame hz hH r2 λa ha=>hO a (U4 _ ha)⟩
end
mutual
theorem Rep.nil:∀{d:D}{v:V}{O:List Addr},Rep R Z H d v O->frz d=true->O=[]
 | .non,_,_,h,_=>by rw[Rep] at h;exact h.2
 | .bl _,_,_,h,_=>by rw[Rep] at h;exact h.2
 | .int _,_,_,h,_=>by rw[Rep] at h;exact h.2
 | .str _,_,_,h,_=>by rw[Rep] at h;exact h.2
 | .dead,_,_,h,_=>by rw[Rep] at h;exact h
 | .tup l,_,_,h,f=>by
  rw[Rep] at h;rw[frz] at f;obtain⟨a,vs,e,t,r⟩:=h;exact Reps.nil r f
 | .lst o l,_,_,h,f=>by
  rw[Rep] at h;rw[frz] at f;obtain⟨a,vs,O',e,r,h⟩:=h;cases o with
  | true=>exact absurd f (by simp)
  | false=>exact h.2.2
 | .dK o ks l,_,_,h,f=>by
  rw[Rep] at h;rw[frz] at f;obtain⟨a,vs,O',e,r,hl,hd,h⟩:=h;cases o with
  | true=>exact absurd f (by simp)
  | false=>exact h.2.2
 | .dT o ks l,_,_,h,f=>by
  rw[Rep] at h;rw[frz] at f;obtain⟨a,vs,O',e,r,hl,hd,h⟩:=h;cases o with
  | true=>exact absurd f (by simp)
  | false=>exact h.2.2
 | .ins o c ns l,_,_,h,f=>by
  rw[Rep] at h;rw[frz] at f;obtain⟨a,dx,vs,O',e,r,hl,hd,h⟩:=h;cases o with
  | true=>exact absurd f (by simp)
  | false=>exact h.2.2
theorem Reps.nil:∀{l:List D}{vs:List V}{O:List Addr},Reps R Z H l vs O->frzs l=true->O=[]
 | [],_,_,h,_=>by rw[Reps] at h;exact h.2
 | d::l,_,_,h,f=>by
  rw[Reps] at h;rw[frzs,M0] at f;obtain⟨v,vs,O1,O2,e,rfl,r1,r2⟩:=h;rw[Rep.nil r1 f.1,Reps.nil r2 f.2];rfl
end
mutual
theorem Rep.freeze:∀{d:D}{v:V}{O:List Addr},Rep R Z H d v O->(∀ a,Z a->Z' a)->(∀ a∈O,Z' a)->Rep R Z' H (fz d) v []
 | .non,_,_,h,_,_=>by rw[Rep] at h;rw[fz,Rep];exact⟨h.1,rfl⟩
 | .bl _,_,_,h,_,_=>by rw[Rep] at h;rw[fz,Rep];exact⟨h.1,rfl⟩
 | .int _,_,_,h,_,_=>by rw[Rep] at h;rw[fz,Rep];exact⟨h.1,rfl⟩
 | .str _,_,_,h,_,_=>by rw[Rep] at h;rw[fz,Rep];exact⟨h.1,rfl⟩
 | .dead,_,_,h,_,_=>by rw[fz,Rep]
 | .tup l,_,_,h,hz,hO=>by
  rw[Rep] at h;rw[fz,Rep];obtain⟨a,vs,e,t,r⟩:=h;exact⟨a,vs,e,t.frame hz λ_ _=>rfl,Reps.freeze r hz hO⟩
 | .lst o l,_,_,h,hz,hO=>by
  rw[Rep] at h;rw[fz,Rep];obtain⟨a,vs,O',e,r,h⟩:=h;cases o with
  | true =>
   obtain⟨h1,rfl⟩:=h;exact⟨a,vs,[],e,Reps.freeze r hz λb hb=>hO b (L6 _ hb),.inl ⟨hO a L7,.inl h1⟩,rfl,rfl⟩
  | false =>
   obtain⟨h1,rfl,rfl⟩:=h;exact⟨a,vs,[],e,Reps.freeze r hz (λb hb=>nomatch hb),h1.frame hz (λ_ _=>rfl),rfl,rfl⟩
 | .dK o ks l,_,_,h,hz,hO=>by
  rw[Rep] at h;rw[fz,Rep];obtain⟨a,vs,O',e,r,hl,hd,h⟩:=h;have hl':ks.length=(fzs l).length:=by rw[JJ,L1];exact hl
  cases o with
  | true =>
   have h:=(show _=_ from h);subst h;exact⟨a,vs,[],e,Reps.freeze r hz λb hb=>hO b (L6 _ hb),hl',.inl hd,hO a L7,rfl,rfl⟩
  | false =>
   obtain⟨h1,rfl,rfl⟩:=h;exact⟨a,vs,[],e,Reps.freeze r hz (λb hb=>nomatch hb),hl',hd,hz a h1,rfl,rfl⟩
 | .dT o ks l,_,_,h,hz,hO=>by
  rw[Rep] at h;rw[fz,Rep];obtain⟨a,vs,O',e,r,hl,hd,h⟩:=h;have hl':ks.length=(fzs l).length:=by rw[JJ,L1];exact hl
  cases o with
  | true =>
   have h:=(show _=_ from h);subst h;exact⟨a,vs,[],e,Reps.freeze r hz λb hb=>hO b (L6 _ hb),hl',hd,hO a L7,rfl,rfl⟩
  | false =>
   obtain⟨h1,rfl,rfl⟩:=h;exact⟨a,vs,[],e,Reps.freeze r hz (λb hb=>nomatch hb),hl',hd,hz a h1,rfl,rfl⟩
 | .ins o c ns l,_,_,h,hz,hO=>by
  rw[Rep] at h;rw[fz,Rep];obtain⟨a,dx,vs,O',e,r,hl,hd,h⟩:=h;have hl':ns.length=(fzs l).length:=by rw[JJ,L1];exact hl
  cases o with
  | true =>
   have h:=(show _=_ from h);subst h;exact⟨a,dx,vs,[],e,Reps.freeze r hz λb hb=>hO b (L6 _ hb),hl',hd,hO a L7,rfl,rfl⟩
  | false =>
   obtain⟨h1,rfl,rfl⟩:=h;exact⟨a,dx,vs,[],e,Reps.freeze r hz (λb hb=>nomatch hb),hl',hd,hz a h1,rfl,rfl⟩
theorem Reps.freeze:∀{l:List D}{vs:List V}{O:List Addr},Reps R Z H l vs O->(∀ a,Z a->Z' a)->(∀ a∈O,Z' a)->Reps R Z' H (fzs l) vs []
 | [],_,_,h,_,_=>by rw[Reps] at h;rw[fzs,Reps];exact⟨h.1,rfl⟩
 | d::l,_,_,h,hz,hO=>by
  rw[Reps] at h;rw[fzs,Reps];obtain⟨v,vs,O1,O2,e,rfl,r1,r2⟩:=h;exact⟨v,vs,[],[],e,rfl,Rep.freeze r1 hz λa ha=>hO a (List.mem_append_left _ ha),Reps.freeze r2 hz λa ha=>hO a (U4 _ ha)⟩
end
theorem Reps.length:∀{l:List D}{vs:List V}{O:List Addr},Reps R Z H l vs O->vs.length=l.length
 | [],_,_,h=>by rw[Reps] at h;rw[h.1];rfl
 | d::l,_,_,h=>by
  rw[Reps] at h;obtain⟨v,vs,O1,O2,rfl,rfl,b,a⟩:=h;rw[M3,M3,Reps.length a]
theorem Reps.append:∀{l m:List D}{vs ws:List V}{O P:List Addr},Reps R Z H l vs O->Reps R Z H m ws P->Reps R Z H (l++m) (vs++ws) (O++P)
 | [],m,_,_,_,_,h,k=>by rw[Reps] at h;obtain⟨rfl,rfl⟩:=h;exact k
 | d::l,m,_,_,_,_,h,k=>by
  rw[Reps] at h;obtain⟨v,vs,O1,O2,rfl,rfl,a,b⟩:=h;rw[List.cons_append,Reps];exact⟨v,_,O1,_,rfl,List.append_assoc ..,a,Reps.append b k⟩
theorem Reps.one(h:Rep R Z H d v O):Reps R Z H [d] [v] O:=by
 rw[Reps];exact⟨v,[],O,[],rfl,(N0 O).symm,h,by rw[Reps];exact⟨rfl,rfl⟩⟩
theorem Reps.cons(h:Rep R Z H d v O)(k:Reps R Z H l vs P):Reps R Z H (d::l) (v::vs) (O++P):=by
 rw[Reps];exact⟨v,vs,O,P,rfl,rfl,h,k⟩
theorem Reps.empty:Reps R Z H [] [] []:=by rw[Reps];exact⟨rfl,rfl⟩
theorem Reps.at:∀{l:List D}{vs:List V}{O:List Addr}{i:Nat}{d:D},Reps R Z H l vs O->l[i]?=some d ->
  ∃ v A P B,vs[i]?=some v/\O=A++P++B/\Rep R Z H d v P/\∀{Z':Zn}{H':Hp}{d':D}{v':V}{P':List Addr},Rep R Z' H' d' v' P'->(∀ a,Z a->Z' a)->(∀ a,Z a->H' a=H a)->(∀ a∈A,H' a=H a)->(∀ a∈B,H' a=H a)->Reps R Z' H' (l.set i d') (vs.set i v') (A++P'++B)
 | [],_,_,_,_,_,e=>by simp at e
 | c::l,_,_,0,d,h,e=>by
  rw[Reps] at h;obtain⟨v,vs,O1,O2,rfl,rfl,g,j⟩:=h;have e:c=d:=by simpa using e
  subst e;refine⟨v,[],O1,O2,rfl,rfl,g,λr b f m n=>?_⟩;rw[List.set_cons_zero,List.set_cons_zero,Reps];exact⟨_,vs,_,O2,rfl,rfl,r,Reps.frame b f j n⟩
 | c::l,_,_,i+1,d,h,e=>by
  rw[Reps] at h;obtain⟨v,vs,O1,O2,rfl,rfl,g,j⟩:=h;obtain⟨w,A,P,B,p,rfl,q,k⟩:=Reps.at (i:=i) (d:=d) j (by simpa using e);refine⟨w,O1++A,P,B,by simpa using p,by simp,q,λ{Z' H' d' v' P'} r b f m n=>?_⟩;rw[List.set_cons_succ,List.set_cons_succ,Reps];exact⟨v,_,O1,A++P'++B,rfl,by simp,Rep.frame b f g λa o=>m a (List.mem_append_left _ o),k r b f (λa o=>m a (U4 _ o)) n⟩
theorem Reps.item{l:List D}{vs:List V}{i:Nat}(h:Reps R Z H l vs [])(e:l[i]?=some d):∃ v,vs[i]?=some v/\Rep R Z H d v []:=by
 obtain⟨v,A,P,B,a,b,r,_⟩:=h.at e;have:P=[]:=by
  have:=congrArg List.length b;simp at this;exact List.eq_nil_of_length_eq_zero (by omega)
 subst this;exact⟨v,a,r⟩
theorem Reps.take:∀{l:List D}{vs:List V}(n:Nat),Reps R Z H l vs []->Reps R Z H (l.take n) (vs.take n) []
 | _,_,0,_=>by simp;exact .empty
 | [],_,n+1,h=>by rw[Reps] at h;rw[h.1];exact .empty
 | d::l,_,n+1,h=>by
  rw[Reps] at h;obtain⟨v,vs,O1,O2,rfl,e,a,b⟩:=h;obtain⟨rfl,rfl⟩:=List.append_eq_nil_iff.mp e.symm;rw[List.take_succ_cons,List.take_succ_cons];exact .cons a (Reps.take n b)
theorem Reps.drop:∀{l:List D}{vs:List V}(n:Nat),Reps R Z H l vs []->Reps R Z H (l.drop n) (vs.drop n) []
 | _,_,0,h=>h
 | [],_,n+1,h=>by rw[Reps] at h;rw[h.1];exact .empty
 | d::l,_,n+1,h=>by
  rw[Reps] at h;obtain⟨v,vs,O1,O2,rfl,e,b,a⟩:=h;obtain⟨rfl,rfl⟩:=List.append_eq_nil_iff.mp e.symm;rw[List.drop_succ_cons,List.drop_succ_cons];exact Reps.drop n a
structure WF(Z:Zn)(H:Hp)(O:List Addr):Prop where
 nd:O.Nodup
 nz:∀ a∈O,¬ Z a
 od:∀ a∈O,H a≠none
 zd:∀ a,Z a->H a≠none
structure Go(Z:Zn)(H:Hp)(O:List Addr)(Z':Zn)(H':Hp)(O':List Addr):Prop where
 wf:WF Z' H' O'
 zz:∀ a,Z a->Z' a
 fr:∀ a,H a≠none->a∉O->H' a=H a
 zn:∀ a,Z' a->Z a \/ a∈O \/ H a=none
 sub:∀ a∈O',a∈O \/ H a=none
 dm:∀ a,H a≠none->H' a≠none
theorem Go.refl(w:WF Z H O):Go Z H O Z H O:=⟨w,λ_ z=>z,λ_ _ _=>rfl,λ_ z=>.inl z,λ_ h=>.inl h,λ_ h=>h⟩
theorem Go.trans(g:Go Z H O Z' H' O')(k:Go Z' H' O' Z'' H'' O''):Go Z H O Z'' H'' O'':=by
 refine⟨k.wf,λa z=>k.zz a (g.zz a z),λa h n=>?_,λa z=>?_,λa h=>?_,λa h=>k.dm a (g.dm a h)⟩
 ·rw[k.fr a (g.dm a h) λb=>(g.sub a b).elim n λe=>h e,g.fr a h n]
 ·rcases k.zn a z with z | z | z
  ·exact g.zn a z
  ·rcases g.sub a z with q | q
   ·exact .inr (.inl q)
   ·exact .inr (.inr q)
  ·by_cases h:H a=none
   ·exact .inr (.inr h)
   ·exact absurd z (g.dm a h)
 ·rcases k.sub a h with q | q
  ·exact g.sub a q
  ·by_cases h:H a=none
   ·exact .inr h
   ·exact absurd q (g.dm a h)
theorem Go.zH(w:WF Z H O)(g:Go Z H O Z' H' O'):∀ a,Z a->H' a=H a:=λa z=>g.fr a (w.zd a z) λh=>w.nz a h z
theorem WF.sub(w:WF Z H O)(h:∀ a∈O',a∈O)(n:O'.Nodup):WF Z H O':=⟨n,λa z=>w.nz a (h a z),λa z=>w.od a (h a z),w.zd⟩
theorem WF.mid(w:WF Z H (A++O++B)):WF Z H O:=w.sub (λa h=>by simp[h]) (by have:=w.nd;simp[X1] at this;exact this.2.1.1)
theorem WF.left(w:WF Z H (A++B)):WF Z H A:=w.sub (λa h=>by simp[h]) (X1.mp w.nd).1
theorem WF.right(w:WF Z H (A++B)):WF Z H B:=w.sub (λa h=>by simp[h]) (X1.mp w.nd).2.1
theorem Go.frame(w:WF Z H (A++O++B))(g:Go Z H O Z' H' O'):Go Z H (A++O++B) Z' H' (A++O'++B):=by
 have nd:=w.nd;simp only[X1,N3] at nd;have new:∀ a∈O',a∉A/\a∉B:=λa h=>by
  rcases g.sub a h with q | q
  ·exact⟨λz=>nd.1.2.2 a z a q rfl,λz=>nd.2.2 a (.inr q) a z rfl⟩
  ·exact⟨λz=>w.od a (by simp[z]) q,λz=>w.od a (by simp[z]) q⟩
 have keep:∀ a,a∈A \/ a∈B->a∉O:=λa h z=>by
  rcases h with h | h
  ·exact nd.1.2.2 a h a z rfl
  ·exact nd.2.2 a (.inr z) a h rfl
 refine⟨⟨?_,λa h z=>?_,λa h=>?_,g.wf.zd⟩,g.zz,λa h n=>?_,λa z=>?_,λa h=>?_,g.dm⟩
 ·simp only[X1,N3];exact⟨⟨nd.1.1,g.wf.nd,λa h b k e=>(new b k).1 (e▸h)⟩,nd.2.1,λa h b k e=>by
   rcases h with h | h
   ·exact nd.2.2 a (.inl h) b k e
   ·exact(new a h).2 (e▸k)⟩
 ·simp only[N3] at h;rcases h with(h | h) | h
  ·rcases g.zn a z with q | q | q
   ·exact w.nz a (by simp[h]) q
   ·exact keep a (.inl h) q
   ·exact w.od a (by simp[h]) q
  ·exact g.wf.nz a h z
  ·rcases g.zn a z with q | q | q
   ·exact w.nz a (by simp[h]) q
   ·exact keep a (.inr h) q
   ·exact w.od a (by simp[h]) q
 ·simp only[N3] at h;rcases h with(h | h) | h
  ·exact g.dm a (w.od a (by simp[h]))
  ·exact g.wf.od a h
  ·exact g.dm a (w.od a (by simp[h]))
 ·simp only[N3,not_or] at n;exact g.fr a h n.1.2
 ·rcases g.zn a z with q | q | q
  ·exact .inl q
  ·exact .inr (.inl (by simp[q]))
  ·exact .inr (.inr q)
 ·simp only[N3] at h ⊢;rcases h with(h | h) | h
  ·exact .inl (.inl (.inl h))
  ·rcases g.sub a h with q | q
   ·exact .inl (.inl (.inr q))
   ·exact .inr q
  ·exact .inl (.inr h)
theorem Go.keepA(w:WF Z H (A++O++B))(g:Go Z H O Z' H' O'):(∀ a∈A,H' a=H a)/\∀ a∈B,H' a=H a:=by
 have nd:=w.nd;simp only[X1,N3] at nd;exact⟨λa h=>g.fr a (w.od a (by simp[h])) λz=>nd.1.2.2 a h a z rfl,λa h=>g.fr a (w.od a (by simp[h])) λz=>nd.2.2 a (.inr z) a h rfl⟩
theorem Go.drop(g:Go Z H O Z' H' O')(h:∀ a∈O'',a∈O')(n:O''.Nodup):Go Z H O Z' H' O'':=⟨g.wf.sub h n,g.zz,g.fr,g.zn,λa q=>g.sub a (h a q),g.dm⟩
theorem Go.dropL(g:Go Z H O Z' H' (A++B)):Go Z H O Z' H' B:=g.drop (λa h=>by simp[h]) (X1.mp g.wf.nd).2.1
theorem Go.dropR(g:Go Z H O Z' H' (A++B)):Go Z H O Z' H' A:=g.drop (λa h=>by simp[h]) (X1.mp g.wf.nd).1
theorem Go.freeze(w:WF Z H O):Go Z H O (λa=>Z a \/ a∈O) H [] :=
 ⟨⟨List.nodup_nil,λa h=>(nomatch h),λa h=>(nomatch h),λa h=>h.elim (w.zd a) (w.od a)⟩,λa z=>.inl z,λ_ _ _=>rfl,λa z=>z.elim .inl λq=>.inr (.inl q),λa h=>(nomatch h),λ_ h=>h⟩
theorem Go.newF(w:WF Z H O)(b:H p=none):Go Z H O (λa=>Z a \/ a=p) (upd H p o) O:=by
 have ne:∀ a,H a≠none->a≠p:=λa h e=>h (e▸b);refine⟨⟨w.nd,λa h z=>z.elim (w.nz a h) (ne a (w.od a h)),λa h=>?_,λa z=>?_⟩,λa z=>.inl z,λa h _=>jm (ne a h),λa z=>z.elim .inl λe=>.inr (.inr (e▸b)),λa h=>.inl h,λa h=>?_⟩
 ·rw[jm (ne a (w.od a h))];exact w.od a h
 ·by_cases e:a=p
  ·rw[e,jy];exact λh=>nomatch h
  ·rw[jm e];exact w.zd a (z.resolve_right e)
 ·rw[jm (ne a h)];exact h
theorem Go.newO(w:WF Z H O)(b:H p=none):Go Z H O Z (upd H p o) (p::O):=by
 have ne:∀ a,H a≠none->a≠p:=λa h e=>h (e▸b);refine⟨⟨List.nodup_cons.mpr ⟨λh=>w.od p h b,w.nd⟩,λa h z=>?_,λa h=>?_,λa z=>?_⟩,λa z=>z,λa h _=>jm (ne a h),λa z=>.inl z,λa h=>?_,λa h=>?_⟩
 ·rcases M5.mp h with e | e
  ·exact w.zd a z (e▸b)
  ·exact w.nz a e z
 ·rcases M5.mp h with e | e
  ·rw[e,jy];exact λh=>nomatch h
  ·rw[jm (ne a (w.od a e))];exact w.od a e
 ·rw[jm (ne a (w.zd a z))];exact w.zd a z
 ·rcases M5.mp h with e | e
  ·exact .inr (e▸b)
  ·exact .inl e
 ·rw[jm (ne a h)];exact h
theorem Go.put(w:WF Z H O)(c:p∈O):Go Z H O Z (upd H p o) O:=by
 have b:∀ a,upd H p o a=none->a≠p/\H a=none:=λa h=>by
  by_cases e:a=p
  ·rw[e,jy] at h;cases h
  ·rw[jm e] at h;exact⟨e,h⟩
 exact⟨⟨w.nd,w.nz,λa h z=>w.od a h (b a z).2,λa z e=>w.zd a z (b a e).2⟩,λa z=>z,λa h n=>jm λe=>n (e▸c),λa z=>.inl z,λa h=>.inl h,λa h z=>h (b a z).2⟩
noncomputable abbrev Rh:=List (Option D)
def Slots(R:RC)(Z:Zn)(H:Hp):Rh->St->List Addr->Prop
 | [],σ,O=>σ=[]/\O=[]
 | none::ρ,σ,O=>∃ s σ',σ=s::σ'/\Slots R Z H ρ σ' O
 | some d::ρ,σ,O=>∃ v σ' O1 O2,σ=some v::σ'/\O=O1++O2/\Rep R Z H d v O1/\Slots R Z H ρ σ' O2
theorem Slots.frame(hz:∀ a,Z a->Z' a)(c:∀ a,Z a->H' a=H a):∀{ρ:Rh}{σ:St}{O:List Addr},Slots R Z H ρ σ O->(∀ a∈O,H' a=H a)->Slots R Z' H' ρ σ O
 | [],_,_,h,_=>h
 | none::ρ,_,_,h,b=>by
  obtain⟨s,f,e,r⟩:=h;exact⟨s,f,e,Slots.frame hz c r b⟩
 | some d::ρ,_,_,h,b=>by
  obtain⟨v,f,O1,O2,e,rfl,i,j⟩:=h;exact⟨v,f,O1,O2,e,rfl,i.frame hz c λa g=>b a (List.mem_append_left _ g),Slots.frame hz c j λa g=>b a (U4 _ g)⟩
theorem Slots.length:∀{ρ:Rh}{σ:St}{O:List Addr},Slots R Z H ρ σ O->σ.length=ρ.length
 | [],_,_,h=>by rw[h.1];rfl
 | none::ρ,_,_,h=>by obtain⟨s,a,rfl,r⟩:=h;rw[M3,M3,Slots.length r]
 | some d::ρ,_,_,h=>by obtain⟨v,a,O1,O2,rfl,rfl,c,b⟩:=h;rw[M3,M3,Slots.length b]
theorem Slots.put:∀{ρ:Rh}{σ:St}{O:List Addr}{i:Nat},Slots R Z H ρ σ O->i < ρ.length->∃ A P B,O=A++P++B /\
  (∀ d,ρ[i]?=some (some d)->∃ v,σ[i]?=some (some v)/\Rep R Z H d v P) /\
  (∀{Z':Zn}{H':Hp}{d':D}{v':V}{P':List Addr},Rep R Z' H' d' v' P'->(∀ a,Z a->Z' a)->(∀ a,Z a->H' a=H a)->(∀ a∈A,H' a=H a)->(∀ a∈B,H' a=H a)->Slots R Z' H' (ρ.set i (some d')) (σ.set i (some v')) (A++P'++B)) /\
  Slots R Z H (ρ.set i none) σ (A++B)
 | [],_,_,_,_,j=>absurd j (Nat.not_lt_zero _)
 | none::ρ,_,_,0,h,j=>by
  obtain⟨s,b,rfl,r⟩:=h;refine⟨[],[],_,rfl,λd e=>by simp at e,λq f g l k=>?_,?_⟩
  ·exact⟨_,b,_,_,rfl,rfl,q,Slots.frame f g r k⟩
  ·exact⟨s,b,rfl,r⟩
 | some c::ρ,_,_,0,h,j=>by
  obtain⟨v,b,O1,O2,rfl,rfl,m,n⟩:=h;refine⟨[],O1,O2,rfl,λd e=>?_,λq f g l k=>?_,?_⟩
  ·have e:c=d:=by simpa using e
   subst e;exact⟨v,rfl,m⟩
  ·exact⟨_,b,_,_,rfl,rfl,q,Slots.frame f g n k⟩
  ·exact⟨_,b,rfl,n⟩
 | none::ρ,_,_,i+1,h,j=>by
  obtain⟨s,b,rfl,r⟩:=h;obtain⟨A,P,B,rfl,o,p,t⟩:=Slots.put (i:=i) r (by simpa using j);refine⟨A,P,B,rfl,λd e=>o d (by simpa using e),λq f g l k=>?_,?_⟩
  ·exact⟨s,_,rfl,p q f g l k⟩
  ·exact⟨s,b,rfl,t⟩
 | some c::ρ,_,_,i+1,h,j=>by
  obtain⟨v,b,O1,O2,rfl,rfl,m,n⟩:=h;obtain⟨A,P,B,rfl,o,p,t⟩:=Slots.put (i:=i) n (by simpa using j);refine⟨O1++A,P,B,by simp,λd e=>o d (by simpa using e),λ{Z' H' d' v' P'} q f g l k=>?_,?_⟩
  ·exact⟨v,_,O1,A++P'++B,rfl,by simp,m.frame f g λa u=>l a (List.mem_append_left _ u),p q f g (λa u=>l a (U4 _ u)) k⟩
  ·exact⟨v,b,O1,A++B,rfl,by simp,m,t⟩
theorem yS:∀{l:List α}{i:Nat}{x:α},l[i]?=some x->l.set i x=l
 | [],_,_,h=>by simp at h
 | y::l,0,x,h=>by simp at h;subst h;rfl
 | y::l,i+1,x,h=>by rw[List.set_cons_succ,yS (by simpa using h)]
noncomputable abbrev FE:=Rh->Option (D×Rh)
noncomputable abbrev FT':=Rh->Option (Bool×Rh)
noncomputable abbrev FA:=Rh->Option (List D×Rh)
def DE(R:RC)(te:TE)(f:FE):Prop:=∀{σ:St}{ρ ρ':Rh}{Z:Zn}{H:Hp}{O:List Addr}{d:D},WF Z H O->Slots R Z H ρ σ O->f ρ=some (d,ρ') ->
 ∀{Q:VK},(∀{v:V}{Z':Zn}{H':Hp}{P O':List Addr},Go Z H O Z' H' (P++O')->Rep R Z' H' d v P->Slots R Z' H' ρ' σ O'->Q v H')->te σ H Q
def DT(R:RC)(tt:TT)(f:FT'):Prop:=∀{σ:St}{ρ ρ':Rh}{Z:Zn}{H:Hp}{O:List Addr}{b:Bool},WF Z H O->Slots R Z H ρ σ O->f ρ=some (b,ρ') ->
 ∀{Q:Bool->Hp->Prop},(∀{Z':Zn}{H':Hp}{O':List Addr},Go Z H O Z' H' O'->Slots R Z' H' ρ' σ O'->Q b H')->tt σ H Q
def DA(R:RC)(ta:TA)(f:FA):Prop:=∀{σ:St}{ρ ρ':Rh}{Z:Zn}{H:Hp}{O:List Addr}{ds:List D},WF Z H O->Slots R Z H ρ σ O->f ρ=some (ds,ρ') ->
 ∀{Q:List V->Hp->Prop},(∀{vs:List V}{Z':Zn}{H':Hp}{P O':List Addr},Go Z H O Z' H' (P++O')->Reps R Z' H' ds vs P->Slots R Z' H' ρ' σ O'->Q vs H')->ta σ H Q
def DO(R:RC)(r:R2)(g:D->D->Option D):Prop:=∀{Z:Zn}{H:Hp}{x y d:D}{v u:V}{O1 O2:List Addr},WF Z H (O1++O2)->Rep R Z H x v O1->Rep R Z H y u O2->g x y=some d ->
 ∀{Q:VK},(∀{w:V}{Z':Zn}{H':Hp}{P:List Addr},Go Z H (O1++O2) Z' H' P->Rep R Z' H' d w P->Q w H')->r v u H Q
def DC(R:RC)(r:List V->Hp->VK->Prop)(g:List D->Option D):Prop:=∀{Z:Zn}{H:Hp}{xs:List D}{d:D}{vs:List V}{O:List Addr},WF Z H O->Reps R Z H xs vs O->g xs=some d ->
 ∀{Q:VK},(∀{w:V}{Z':Zn}{H':Hp}{P:List Addr},Go Z H O Z' H' P->Rep R Z' H' d w P->Q w H')->r vs H Q
inductive Out where
 | nx (ρ:Rh) | rt (d:D) (ρ:Rh) | bk (ρ:Rh) | ct (ρ:Rh)
noncomputable abbrev FS:=Rh->Option Out
def Keep(pm:List Nat)(σ σ':St):Prop:=∀ i∈pm,σ'[i]?=σ[i]?
def OutOk(R:RC)(pm:List Nat)(Z:Zn)(H:Hp)(O:List Addr)(σ:St)(D':Ends):Out->Prop
 | .nx ρ'=>∀{σ':St}{Z':Zn}{H':Hp}{O':List Addr},Go Z H O Z' H' O'->Slots R Z' H' ρ' σ' O'->Keep pm σ σ'->D'.nx σ' H'
 | .bk ρ'=>∀{σ':St}{Z':Zn}{H':Hp}{O':List Addr},Go Z H O Z' H' O'->Slots R Z' H' ρ' σ' O'->Keep pm σ σ'->D'.bk σ' H'
 | .ct ρ'=>∀{σ':St}{Z':Zn}{H':Hp}{O':List Addr},Go Z H O Z' H' O'->Slots R Z' H' ρ' σ' O'->Keep pm σ σ'->D'.ct σ' H'
 | .rt d ρ'=>∀{v:V}{σ':St}{Z':Zn}{H':Hp}{P O':List Addr},Go Z H O Z' H' (P++O')->Rep R Z' H' d v P->Slots R Z' H' ρ' σ' O'->Keep pm σ σ'->D'.rt v H'
def DS(R:RC)(pm:List Nat)(ts:TS)(f:FS):Prop:=∀{σ:St}{ρ:Rh}{Z:Zn}{H:Hp}{O:List Addr}{o:Out},WF Z H O->Slots R Z H ρ σ O->f ρ=some o->∀{D':Ends},OutOk R pm Z H O σ D' o->ts D' σ H
def DG(R:RC)(pm:List Nat)(tg:TG)(f:D->Rh->Option Rh):Prop:=∀{σ:St}{ρ ρ':Rh}{Z:Zn}{H:Hp}{O P:List Addr}{d:D}{v:V},WF Z H (P++O)->Rep R Z H d v P->Slots R Z H ρ σ O->f d ρ=some ρ' ->
 ∀{Q:St->Hp->Prop},(∀{σ':St}{Z':Zn}{H':Hp}{O':List Addr},Go Z H (P++O) Z' H' O'->Slots R Z' H' ρ' σ' O'->Keep pm σ σ'->Q σ' H')->tg v σ H Q
theorem Keep.refl(pm:List Nat)(σ:St):Keep pm σ σ:=λ_ _=>rfl
theorem Keep.trans(h:Keep pm σ σ')(k:Keep pm σ' σ''):Keep pm σ σ'':=λi a=>(k i a).trans (h i a)
theorem Keep.set(h:i∉pm):Keep pm σ (σ.set i x):=λj a=>by
 have ne:i≠j:=λe=>h (by rw[e];exact a);rw[List.getElem?_set,if_neg ne]
noncomputable def dMv(i:Nat):FE:=λρ=>match ρ[i]? with
 | some (some d)=>some (d,ρ.set i none)
 | _=>none
noncomputable def dC(d:D):FE:=λρ=>some (d,ρ)
theorem jnj:DE R (JP i) (dMv i):=by
 intro σ ρ p Z H O d w h e Q k;unfold dMv at e;split at e
 ·rename_i c j;have l:i < ρ.length:=(L9.mp j).1;obtain⟨A,P,B,rfl,m,s,n⟩:=h.put l;obtain⟨v,o,r⟩:=m c j;cases e;refine⟨v,o,k (P:=P) ((Go.refl w).drop (λa q=>?_) ?_) r n⟩
  ·simp at q ⊢;rcases q with q | q | q<;>simp[q]
  ·have nd:=w.nd;simp only[X1,N3] at nd ⊢;exact⟨nd.1.2.1,⟨nd.1.1,nd.2.1,λa f b g=>nd.2.2 a (.inl f) b g⟩,λa f b g e=>g.elim (λq=>nd.1.2.2 b q a f e.symm) λq=>nd.2.2 a (.inr f) b q e⟩
 ·cases e
theorem je2(c:Go Z H O Z' H' (P1++O1))(b:Go Z' H' O1 Z'' H'' (P2++O2)):Go Z H O Z'' H'' (P1++(P2++O2))/\(∀ a,Z' a->Z'' a)/\(∀ a,Z' a->H'' a=H' a)/\∀ a∈P1,H'' a=H' a:=by
 have w:WF Z' H' (P1++O1++[]):=by simpa using c.wf
 have f:=b.frame w;refine⟨c.trans (by simpa using f),b.zz,λa z=>b.zH c.wf.right a z,(Go.keepA w b).1⟩
noncomputable def dOp(g:D->D->Option D)(fa fb:FE):FE:=λρ=>match fa ρ with
 | none=>none
 | some (x,ρ1)=>match fb ρ1 with
  | none=>none
  | some (y,ρ2)=>match g x y with
   | none=>none
   | some z=>some (z,ρ2)
theorem jmX(n:DO R r g)(o:DE R ta fa)(q:DE R tb fb):DE R (tOp r ta tb) (dOp g fa fb):=by
 intro σ ρ K Z H O d w h e Q k;unfold dOp at e;cases e1:fa ρ with
 | none=>rw[e1] at e;cases e
 | some p =>
  obtain⟨x,s⟩:=p;rw[e1] at e;dsimp only at e;cases e2:fb s with
  | none=>rw[e2] at e;cases e
  | some p =>
   obtain⟨y,L⟩:=p;rw[e2] at e;dsimp only at e;cases e3:g x y with
   | none=>rw[e3] at e;cases e
   | some z =>
    rw[e3] at e;cases e;refine o w h e1 λ{v M N P1 O1} i t A=>?_;refine q i.wf.right A e2 λ{u j l P2 O2} B C D=>?_;obtain⟨E,zz,F,G⟩:=je2 i B;have f:=t.frame zz F G;have b:Go Z H O j l (P1++P2++O2):=by simpa using E
    refine n b.wf.left f C e3 λ{S Z3 T P3} c I=>?_;have m:WF j l ([]++(P1++P2)++O2):=by simpa using b.wf
    have J:=c.frame m;refine k (P:=P3) (b.trans (by simpa using J)) I (D.frame c.zz (λa z=>c.zH b.wf.left a z) (Go.keepA m c).2)
noncomputable def jhn:FA:=λρ=>some ([],ρ)
noncomputable def zU(fa:FE)(fr:FA):FA:=λρ=>match fa ρ with
 | none=>none
 | some (x,ρ1)=>match fr ρ1 with
  | none=>none
  | some (xs,ρ2)=>some (x::xs,ρ2)
theorem jkk:DA R jav jhn:=by
 intro σ ρ a Z H O d w h e Q k;cases e;exact k (P:=[]) (Go.refl w) Reps.empty h
theorem jhI(b:DE R ta fa)(c:DA R tr fr):DA R (Y3 ta tr) (zU fa fr):=by
 intro σ ρ r Z H O d w h e Q k;unfold zU at e;cases e1:fa ρ with
 | none=>rw[e1] at e;cases e
 | some p =>
  obtain⟨x,f⟩:=p;rw[e1] at e;dsimp only at e;cases e2:fr f with
  | none=>rw[e2] at e;cases e
  | some p =>
   obtain⟨s,t⟩:=p;rw[e2] at e;cases e;refine b w h e1 λ{v u y P1 O1} a g i=>?_;refine c a.wf.right i e2 λ{z A B P2 O2} j l m=>?_;obtain⟨n,zz,o,q⟩:=je2 a j;exact k (P:=P1++P2) (by simpa using n) (.cons (g.frame zz o q) l) m
noncomputable def dCB(g:List D->Option D)(fa:FA):FE:=λρ=>match fa ρ with
 | none=>none
 | some (xs,ρ1)=>match g xs with
  | none=>none
  | some z=>some (z,ρ1)
theorem jiR(i:DC R r g)(j:DA R ta fa):DE R (tCB r ta) (dCB g fa):=by
 intro σ ρ t Z H O d w h e Q k;unfold dCB at e;cases e1:fa ρ with
 | none=>rw[e1] at e;cases e
 | some p =>
  obtain⟨x,u⟩:=p;rw[e1] at e;dsimp only at e;cases e3:g x with
  | none=>rw[e3] at e;cases e
  | some z =>
   rw[e3] at e;cases e;refine j w h e1 λ{v l m P1 O1} b n o=>?_;refine i b.wf.left n e3 λ{y Z3 A P3} c q=>?_;have f:WF l m ([]++P1++O1):=by simpa using b.wf
   have s:=c.frame f;refine k (P:=P3) (b.trans (by simpa using s)) q (o.frame c.zz (λa z=>c.zH b.wf.left a z) (Go.keepA f c).2)
noncomputable def jl6(fa:FA):FE:=dCB (λxs=>bif decide (xs.length<=1000) then some (.tup xs) else none) fa
theorem jk3(h:n<=1000):n<=sizeLine:=Nat.le_of_lt (jdU h)
theorem Rep.tupNew(w:WF Z H O)(b:H p=none)(r:Reps R Z H l vs O):Rep R (λa=>Z a \/ a=p) (upd H p (.tup vs)) (.tup l) (.ref p) O:=by
 have ne:∀ a,H a≠none->a≠p:=λa h e=>h (e▸b);rw[Rep];exact⟨p,vs,rfl,.inl ⟨.inr rfl,.inl jy⟩,r.frame (λa z=>.inl z) (λa z=>jm (ne a (w.zd a z))) λa h=>jm (ne a (w.od a h))⟩
theorem Rep.lstNew(w:WF Z H O)(b:H p=none)(r:Reps R Z H l vs O):Rep R Z (upd H p (.lst vs)) (.lst true l) (.ref p) (p::O):=by
 have ne:∀ a,H a≠none->a≠p:=λa h e=>h (e▸b);rw[Rep];exact⟨p,vs,O,rfl,r.frame (λa z=>z) (λa z=>jm (ne a (w.zd a z))) λa h=>jm (ne a (w.od a h)),jy,rfl⟩
theorem jk4(g:DA R ta fa):DE R (jlM ta) (jl6 fa):=by
 refine jiR (r:=λa c Q=>a.length<=sizeLine/\∀ p,c p=none->Q (.ref p) (upd c p (.tup a))) ?_ g;intro Z H a d h O w r e Q k;dsimp only at e;by_cases b:a.length<=1000
 ·rw[X4 b,cond_true] at e;cases e;exact⟨by rw[r.length];exact jk3 b,λp f=>k (Go.newF w f) (Rep.tupNew w f r)⟩
 ·rw[X5 b,cond_false] at e;cases e
theorem Rep.bl_of(r:Rep R Z H (.bl b) v O):v=.bl b/\O=[]:=by rw[Rep] at r;exact r
theorem Rep.bl_mk:Rep R Z H (.bl b) (.bl b) []:=by rw[Rep];exact⟨rfl,rfl⟩
theorem OutOk.pre(g:Go Z H O Z1 H1 O1)(kp:Keep pm σ σ1)(k:OutOk R pm Z H O σ D' o):OutOk R pm Z1 H1 O1 σ1 D' o:=by
 cases o with
 | nx ρ=>exact λa b c=>k (g.trans a) b (kp.trans c)
 | bk ρ=>exact λa b c=>k (g.trans a) b (kp.trans c)
 | ct ρ=>exact λa b c=>k (g.trans a) b (kp.trans c)
 | rt d ρ=>exact λa e b c=>k (g.trans a) e b (kp.trans c)
noncomputable def yG:FS:=λρ=>some (.nx ρ)
noncomputable def jQ(f g:FS):FS:=λρ=>match f ρ with
 | some (.nx ρ1)=>g ρ1
 | o=>o
theorem jiG:DS R pm jjM yG:=by
 intro σ ρ Z H O o w h e a k;cases e;exact k (Go.refl w) h (Keep.refl _ _)
theorem jkx(i:DS R pm t f)(j:DS R pm u g):DS R pm (jlE t u) (jQ f g):=by
 intro σ ρ Z H O o w h e a k;unfold jQ at e;cases e1:f ρ with
 | none=>rw[e1] at e;cases e
 | some l =>
  rw[e1] at e;refine i w h e1 (D':={ a with nx:=u a }) ?_;cases l with
  | nx b=>exact λ{p q r s} c m n=>j c.wf m e (k.pre c n)
  | bk b=>cases e;exact k
  | ct b=>cases e;exact k
  | rt d b=>cases e;exact k
noncomputable def jcl(fa:FE):FS:=λρ=>match fa ρ with
 | none=>none
 | some (_,ρ1)=>some (.nx ρ1)
theorem jiM(a:DE R ta fa):DS R pm (zu ta) (jcl fa):=by
 intro σ ρ Z H O o w h e d k;unfold jcl at e;cases e1:fa ρ with
 | none=>rw[e1] at e;cases e
 | some p =>
  obtain⟨x,f⟩:=p;rw[e1] at e;cases e;exact a w h e1 λb g c=>k b.dropL c (Keep.refl _ _)
noncomputable def kr(fa:FE):FS:=λρ=>match fa ρ with
 | none=>none
 | some (x,ρ1)=>some (.rt x ρ1)
theorem jlk(a:DE R ta fa):DS R pm (jm5 ta) (kr fa):=by
 intro σ ρ Z H O o w h e f k;unfold kr at e;cases e1:fa ρ with
 | none=>rw[e1] at e;cases e
 | some p =>
  obtain⟨x,g⟩:=p;rw[e1] at e;cases e;exact a w h e1 λb c d=>k b c d (Keep.refl _ _)
noncomputable def sIf(ft:FT')(f g:FS):FS:=λρ=>match ft ρ with
 | none=>none
 | some (b,ρ1)=>bif b then f ρ1 else g ρ1
theorem jna(d:DT R tt ft)(i:DS R pm t f)(j:DS R pm u g):DS R pm (jks tt t u) (sIf ft f g):=by
 intro σ ρ Z H O o w h e l k;unfold sIf at e;cases e1:ft ρ with
 | none=>rw[e1] at e;cases e
 | some p =>
  obtain⟨c,m⟩:=p;rw[e1] at e;dsimp only at e;refine d w h e1 λ{n q O1} a b=>?_;cases c with
  | true=>exact jhB (i a.wf b e (k.pre a (Keep.refl _ _)))
  | false=>exact jhz (j a.wf b e (k.pre a (Keep.refl _ _)))
noncomputable def ji(pm:List Nat)(i:Nat):D->Rh->Option Rh:=λd ρ=>bif decide (i < ρ.length)&&!decide (i∈pm) then some (ρ.set i (some d)) else none
theorem jaQ:DG R pm (QH i) (ji pm i):=by
 intro σ ρ m Z H O P d v w r h e Q k;unfold ji at e;by_cases f:i < ρ.length
 ·by_cases g:i∈pm
  ·rw[X4 g] at e;simp at e
  ·rw[X4 f,X5 g] at e;cases e;obtain⟨A,n,B,rfl,o,l,p⟩:=h.put f;refine k (O':=A++P++B) ((Go.refl w).drop (λa q=>?_) ?_) (l r (λ_ z=>z) (λ_ _=>rfl) (λ_ _=>rfl) (λ_ _=>rfl)) (Keep.set g)
   ·simp at q ⊢;rcases q with q | q | q<;>simp[q]
   ·have nd:=w.nd;simp only[X1,N3] at nd ⊢;exact⟨⟨nd.2.1.1.1,nd.1,λa j b c e=>nd.2.2 b c a (.inl (.inl j)) e.symm⟩,nd.2.1.2.1,λa j b c e=>j.elim (λq=>nd.2.1.2.2 a (.inl q) b c e) λq=>nd.2.2 a q b (.inr c) e⟩
 ·rw[X5 f] at e;simp at e
noncomputable def yx(fa:FE)(g:D->Rh->Option Rh):FS:=λρ=>match fa ρ with
 | none=>none
 | some (x,ρ1)=>match g x ρ1 with
  | none=>none
  | some ρ2=>some (.nx ρ2)
theorem jdF(b:DE R ta fa)(c:DG R pm tg g):DS R pm (jgg ta tg) (yx fa g):=by
 intro σ ρ Z H O o w h e n k;unfold yx at e;cases e1:fa ρ with
 | none=>rw[e1] at e;cases e
 | some p =>
  obtain⟨x,d⟩:=p;rw[e1] at e;dsimp only at e;cases e2:g x d with
  | none=>rw[e2] at e;cases e
  | some q =>
   rw[e2] at e;cases e;exact b w h e1 λa f i=>c a.wf f i e2 λj l m=>k (Go.trans a j) l m
def DGs(R:RC)(pm:List Nat)(tg:TGs)(f:List D->Rh->Option Rh):Prop:=∀{σ:St}{ρ ρ':Rh}{Z:Zn}{H:Hp}{O P:List Addr}{ds:List D}{vs:List V},WF Z H (P++O)->Reps R Z H ds vs P->Slots R Z H ρ σ O->f ds ρ=some ρ' ->
 ∀{Q:St->Hp->Prop},(∀{σ':St}{Z':Zn}{H':Hp}{O':List Addr},Go Z H (P++O) Z' H' O'->Slots R Z' H' ρ' σ' O'->Keep pm σ σ'->Q σ' H')->tg vs σ H Q
noncomputable def gN:List D->Rh->Option Rh:=λds ρ=>match ds with
 | []=>some ρ
 | _=>none
noncomputable def gC(g:D->Rh->Option Rh)(gs:List D->Rh->Option Rh):List D->Rh->Option Rh:=λds ρ=>match ds with
 | []=>none
 | d::r=>match g d ρ with
  | none=>none
  | some ρ1=>gs r ρ1
theorem jis:DGs R pm jke gN:=by
 intro σ ρ b Z H O P a c w r h e Q k;unfold gN at e;cases a with
 | cons _ _=>cases e
 | nil =>
  cases e;rw[Reps] at r;obtain⟨rfl,rfl⟩:=r;exact⟨rfl,k (Go.refl w) h (Keep.refl _ _)⟩
theorem jfS(s:DG R pm t g)(x:DGs R pm u gs):DGs R pm (jeg t u) (gC g gs):=by
 intro σ ρ L Z H O P o M w r h e Q k;unfold gC at e;cases o with
 | nil=>cases e
 | cons d o =>
  dsimp only at e;cases e1:g d ρ with
  | none=>rw[e1] at e;cases e
  | some N =>
   rw[e1] at e;dsimp only at e;rw[Reps] at r;obtain⟨v,j,O1,O2,rfl,rfl,y,A⟩:=r;refine⟨v,j,rfl,?_⟩;have l:WF Z H (O2++(O1++O)):=w.sub (λa h=>by simp at h ⊢;rcases h with h | h | h<;>simp[h]) (by
    have nd:=w.nd;simp only[X1,N3] at nd ⊢;exact⟨nd.1.2.1,⟨nd.1.1,nd.2.1,λa f b m=>nd.2.2 a (.inl f) b m⟩,λa f b m e=>m.elim (λq=>nd.1.2.2 b q a f e.symm) λq=>nd.2.2 a (.inr f) b q e⟩)
   refine s l.right y h e1 λ{S B C D} i E F=>?_;have p:WF Z H (O2++(O1++O)++[]):=by simpa using l
   have c:=i.frame p;simp only[N0] at c;refine x c.wf (A.frame i.zz (λa z=>i.zH l.right a z) (Go.keepA p i).1) E e λ{T U V W} G I J=>?_;have K:Go Z H (O1++O2++O) B C (O2++D):=⟨c.wf,c.zz,λa h n=>c.fr a h (by simpa [or_left_comm] using n),λa z=>by simpa [or_left_comm] using c.zn a z,λa z=>by simpa [or_left_comm,or_assoc] using c.sub a z,c.dm⟩;exact k (K.trans G) I (F.trans J)
noncomputable def gT(n:Nat)(gs:List D->Rh->Option Rh):D->Rh->Option Rh:=λd ρ=>match d with
 | .tup l=>bif decide (l.length=n) then gs l ρ else none
 | _=>none
theorem jj6(f:DGs R pm u gs):DG R pm (jjY R.K n u) (gT n gs):=by
 intro σ ρ j Z H O P d v w r h e Q k;cases d with
 | tup l =>
  unfold gT at e;dsimp only at e;by_cases b:l.length=n
  ·rw[X4 b,cond_true] at e;rw[Rep] at r;obtain⟨a,g,rfl,i,c⟩:=r;exact⟨a,g,rfl,i.sq,by rw[c.length];exact b,f w c h e k⟩
  ·rw[X5 b,cond_false] at e;cases e
 | _=>cases e
noncomputable abbrev PF:=Rh->Option D
noncomputable abbrev PTf:=Rh->Option Bool
noncomputable abbrev PAf:=Rh->Option (List D)
mutual
theorem Rep.dom:∀{d:D}{v:V}{O:List Addr},Rep R Z H d v O->∀ a∈O,H a≠none
 | .non,_,_,h,a,ha=>by rw[Rep] at h;rw[h.2] at ha;cases ha
 | .bl _,_,_,h,a,ha=>by rw[Rep] at h;rw[h.2] at ha;cases ha
 | .int _,_,_,h,a,ha=>by rw[Rep] at h;rw[h.2] at ha;cases ha
 | .str _,_,_,h,a,ha=>by rw[Rep] at h;rw[h.2] at ha;cases ha
 | .dead,_,_,h,a,ha=>by rw[Rep] at h;rw[h] at ha;cases ha
 | .tup l,_,_,h,a,ha=>by
  rw[Rep] at h;obtain⟨b,vs,e,t,r⟩:=h;exact Reps.dom r a ha
 | .lst o l,_,_,h,a,ha=>by
  rw[Rep] at h;obtain⟨b,vs,O',e,r,h⟩:=h;cases o with
  | true =>
   obtain⟨h1,rfl⟩:=h;rcases M5.mp ha with e | e
   ·rw[e,h1];exact λz=>(nomatch z)
   ·exact Reps.dom r a e
  | false=>rw[h.2.2] at ha;cases ha
 | .dK o ks l,_,_,h,a,ha=>by
  rw[Rep] at h;obtain⟨b,vs,O',e,r,hl,hd,h⟩:=h;cases o with
  | true =>
   have h:=(show _=_ from h);subst h;rcases M5.mp ha with e | e
   ·rw[e,hd];exact λz=>(nomatch z)
   ·exact Reps.dom r a e
  | false=>rw[h.2.2] at ha;cases ha
 | .dT o ks l,_,_,h,a,ha=>by
  rw[Rep] at h;obtain⟨b,vs,O',e,r,hl,hd,h⟩:=h;cases o with
  | true =>
   have h:=(show _=_ from h);subst h;rcases M5.mp ha with e | e
   ·rw[e,hd];exact λz=>(nomatch z)
   ·exact Reps.dom r a e
  | false=>rw[h.2.2] at ha;cases ha
 | .ins o c ns l,_,_,h,a,ha=>by
  rw[Rep] at h;obtain⟨b,dx,vs,O',e,r,hl,hd,h⟩:=h;cases o with
  | true =>
   have h:=(show _=_ from h);subst h;rcases M5.mp ha with e | e
   ·rw[e,hd];exact λz=>(nomatch z)
   ·exact Reps.dom r a e
  | false=>rw[h.2.2] at ha;cases ha
theorem Reps.dom:∀{l:List D}{vs:List V}{O:List Addr},Reps R Z H l vs O->∀ a∈O,H a≠none
 | [],_,_,h,a,ha=>by rw[Reps] at h;rw[h.2] at ha;cases ha
 | d::l,_,_,h,a,ha=>by
  rw[Reps] at h;obtain⟨v,vs,O1,O2,e,rfl,r1,r2⟩:=h;rcases N3.mp ha with q | q
  ·exact Rep.dom r1 a q
  ·exact Reps.dom r2 a q
end
theorem Slots.dom:∀{ρ:Rh}{σ:St}{O:List Addr},Slots R Z H ρ σ O->∀ a∈O,H a≠none
 | [],_,_,h,a,b=>by rw[h.2] at b;cases b
 | none::ρ,_,_,h,a,b=>by obtain⟨s,c,rfl,r⟩:=h;exact Slots.dom r a b
 | some d::ρ,_,_,h,a,b=>by
  obtain⟨v,c,O1,O2,rfl,rfl,e,f⟩:=h;rcases N3.mp b with q | q
  ·exact e.dom a q
  ·exact Slots.dom f a q
abbrev Zd(Z:Zn)(H:Hp):Prop:=∀ a,Z a->H a≠none
theorem wf0(z:Zd Z H):WF Z H []:=⟨List.nodup_nil,λa h=>(nomatch h),λa h=>(nomatch h),z⟩
theorem Go.id(z:Zd Z H):Go Z H [] Z H []:=Go.refl (wf0 z)
theorem Go.same(g:Go Z H [] Z' H' P):∀ a,H a≠none->H' a=H a:=λa h=>g.fr a h (λz=>(nomatch z))
theorem Go.rep(z:Zd Z H)(g:Go Z H [] Z' H' P)(r:Rep R Z H d v O):Rep R Z' H' d v O:=r.frame g.zz (λa h=>g.same a (z a h)) λa h=>g.same a (r.dom a h)
theorem Go.reps(z:Zd Z H)(g:Go Z H [] Z' H' P)(r:Reps R Z H l vs O):Reps R Z' H' l vs O:=r.frame g.zz (λa h=>g.same a (z a h)) λa h=>g.same a (r.dom a h)
theorem Go.slots(z:Zd Z H)(g:Go Z H [] Z' H' P)(r:Slots R Z H ρ σ O):Slots R Z' H' ρ σ O:=r.frame g.zz (λa h=>g.same a (z a h)) λa h=>g.same a (r.dom a h)
theorem Go.pair(g:Go Z H [] Z' H' P)(k:Go Z' H' [] Z'' H'' P2):Go Z H [] Z'' H'' (P++P2):=by
 have w:WF Z' H' (P++[]++[]):=by simpa using g.wf
 have f:=k.frame w;exact g.trans (by simpa using f)
theorem Go.to0(g:Go Z H O Z' H' P):Go Z H O Z' H' []:=g.drop (λa h=>(nomatch h)) List.nodup_nil
theorem Go.widen(w:WF Z H O)(g:Go Z H [] Z' H' P):Go Z H O Z' H' (P++O):=by
 have f:=g.frame (A:=[]) (B:=O) (by simpa using w);simpa using f
def PP(R:RC)(te:TE)(p:PF):Prop:=∀{σ:St}{ρ:Rh}{Z:Zn}{H:Hp}{O:List Addr}{d:D},Zd Z H->Slots R Z H ρ σ O->p ρ=some d ->
 ∀{Q:VK},(∀{v:V}{Z':Zn}{H':Hp}{P:List Addr},Go Z H [] Z' H' P->Rep R Z' H' d v P->Q v H')->te σ H Q
def PB(R:RC)(te:TE)(p:PF):Prop:=∀{σ:St}{ρ:Rh}{Z:Zn}{H:Hp}{O:List Addr}{d:D},Zd Z H->Slots R Z H ρ σ O->p ρ=some d ->
 ∀{Q:VK},(∀{v:V}{Z':Zn}{H':Hp}{P:List Addr},Go Z H [] Z' H' []->Rep R Z' H' d v P->Q v H')->te σ H Q
def PPs(R:RC)(ta:TA)(p:PAf):Prop:=∀{σ:St}{ρ:Rh}{Z:Zn}{H:Hp}{O:List Addr}{ds:List D},Zd Z H->Slots R Z H ρ σ O->p ρ=some ds ->
 ∀{Q:List V->Hp->Prop},(∀{vs:List V}{Z':Zn}{H':Hp}{P:List Addr},Go Z H [] Z' H' P->Reps R Z' H' ds vs P->Q vs H')->ta σ H Q
def PBs(R:RC)(ta:TA)(p:PAf):Prop:=∀{σ:St}{ρ:Rh}{Z:Zn}{H:Hp}{O:List Addr}{ds:List D},Zd Z H->Slots R Z H ρ σ O->p ρ=some ds ->
 ∀{Q:List V->Hp->Prop},(∀{vs:List V}{Z':Zn}{H':Hp}{P:List Addr},Go Z H [] Z' H' []->Reps R Z' H' ds vs P->Q vs H')->ta σ H Q
def PTt(R:RC)(tt:TT)(p:PTf):Prop:=∀{σ:St}{ρ:Rh}{Z:Zn}{H:Hp}{O:List Addr}{b:Bool},Zd Z H->Slots R Z H ρ σ O->p ρ=some b ->
 ∀{Q:Bool->Hp->Prop},(∀{Z':Zn}{H':Hp},Go Z H [] Z' H' []->Q b H')->tt σ H Q
theorem PP.b(h:PP R te p):PB R te p:=λz s e _ k=>h z s e λg r=>k g.to0 r
theorem PPs.b(h:PPs R te p):PBs R te p:=λz s e _ k=>h z s e λg r=>k g.to0 r
noncomputable def pF(p:PF):PF:=λρ=>match p ρ with
 | some d=>bif frz d then some d else none
 | none=>none
theorem PB.f(h:PB R te p):PP R te (pF p):=by
 intro σ ρ Z H O d z s e Q k;unfold pF at e;cases e1:p ρ with
 | none=>rw[e1] at e;cases e
 | some c =>
  rw[e1] at e;dsimp only at e;cases hf:frz c with
  | false=>rw[hf] at e;cases e
  | true =>
   rw[hf] at e;cases e;exact h z s e1 λg r=>by
    cases r.nil hf;exact k g r
noncomputable def dP(p:PF):FE:=λρ=>match p ρ with
 | some d=>some (d,ρ)
 | none=>none
noncomputable def dPT(p:PTf):FT':=λρ=>match p ρ with
 | some d=>some (d,ρ)
 | none=>none
theorem PP.d(h:PP R te p):DE R te (dP p):=by
 intro σ ρ a Z H O d w s e Q k;unfold dP at e;cases e1:p ρ with
 | none=>rw[e1] at e;cases e
 | some c =>
  rw[e1] at e;cases e;exact h w.zd s e1 λg r=>k (g.widen w) r (g.slots w.zd s)
theorem PTt.d(h:PTt R te p):DT R te (dPT p):=by
 intro σ ρ a Z H O d w s e Q k;unfold dPT at e;cases e1:p ρ with
 | none=>rw[e1] at e;cases e
 | some c =>
  rw[e1] at e;cases e;exact h w.zd s e1 λg=>k (by simpa using g.widen w) (g.slots w.zd s)
noncomputable def pV(i:Nat):PF:=λρ=>match ρ[i]? with
 | some (some d)=>some d
 | _=>none
noncomputable def pC(d:D):PF:=λ_=>some d
theorem jls:PB R (JP i) (pV i):=by
 intro σ ρ Z H O d z s e Q k;unfold pV at e;split at e
 ·rename_i c a;cases e;obtain⟨A,P,B,rfl,b,_⟩:=s.put (L9.mp a).1;obtain⟨v,f,r⟩:=b d a;exact⟨v,f,k (Go.id z) r⟩
 ·cases e
theorem jmj(a:∀(Z:Zn) (H:Hp),Rep R Z H d v []):PP R (tC v) (pC d):=by
 intro σ ρ Z H O b z s e Q k;cases e;exact k (Go.id z) (a Z H)
theorem Rep.int_mk:Rep R Z H (.int i) (.int i) []:=by rw[Rep];exact⟨rfl,rfl⟩
theorem Rep.str_mk:Rep R Z H (.str s) (.str (S s)) []:=by rw[Rep];exact⟨rfl,rfl⟩
theorem Rep.non_mk:Rep R Z H .non .non []:=by rw[Rep];exact⟨rfl,rfl⟩
theorem Rep.int_of(r:Rep R Z H (.int i) v O):v=.int i/\O=[]:=by rw[Rep] at r;exact r
theorem Rep.str_of(r:Rep R Z H (.str s) v O):v=.str (S s)/\O=[]:=by rw[Rep] at r;exact r
theorem Rep.non_of(r:Rep R Z H .non v O):v=.non/\O=[]:=by rw[Rep] at r;exact r
def BO(R:RC)(r:R2)(g:D->D->Option D):Prop:=∀{Z:Zn}{H:Hp}{x y d:D}{v u:V}{O1 O2:List Addr},Zd Z H->Rep R Z H x v O1->Rep R Z H y u O2->g x y=some d ->
 ∀{Q:VK},(∀{w:V}{Z':Zn}{H':Hp}{P:List Addr},Go Z H [] Z' H' P->Rep R Z' H' d w P->Q w H')->r v u H Q
def BO'(R:RC)(r:R2)(g:D->D->Option D):Prop:=∀{Z:Zn}{H:Hp}{x y d:D}{v u:V}{O1 O2:List Addr},Zd Z H->Rep R Z H x v O1->Rep R Z H y u O2->g x y=some d ->
 ∀{Q:VK},(∀{w:V}{P:List Addr},Rep R Z H d w P->Q w H)->r v u H Q
def BU(R:RC)(r:V->Hp->VK->Prop)(g:D->Option D):Prop:=∀{Z:Zn}{H:Hp}{x d:D}{v:V}{O:List Addr},Zd Z H->Rep R Z H x v O->g x=some d ->
 ∀{Q:VK},(∀{w:V}{Z':Zn}{H':Hp}{P:List Addr},Go Z H [] Z' H' P->Rep R Z' H' d w P->Q w H')->r v H Q
def BC(R:RC)(r:List V->Hp->VK->Prop)(g:List D->Option D):Prop:=∀{Z:Zn}{H:Hp}{xs:List D}{d:D}{vs:List V}{O:List Addr},Zd Z H->Reps R Z H xs vs O->g xs=some d ->
 ∀{Q:VK},(∀{w:V}{Z':Zn}{H':Hp}{P:List Addr},Go Z H [] Z' H' P->Rep R Z' H' d w P->Q w H')->r vs H Q
noncomputable def p2(g:D->D->Option D)(pa pb:PF):PF:=λρ=>match pa ρ with
 | none=>none
 | some x=>match pb ρ with
  | none=>none
  | some y=>g x y
noncomputable def p1(g:D->Option D)(pa:PF):PF:=λρ=>match pa ρ with
 | none=>none
 | some x=>g x
theorem uk(c:BO R r g)(f:PB R ta pa)(h:PB R tb pb):PP R (tOp r ta tb) (p2 g pa pb):=by
 intro σ ρ Z H O d z s e Q k;unfold p2 at e;cases e1:pa ρ with
 | none=>rw[e1] at e;cases e
 | some x =>
  rw[e1] at e;dsimp only at e;cases e2:pb ρ with
  | none=>rw[e2] at e;cases e
  | some y =>
   rw[e2] at e;refine f z s e1 λ{v n o P1} a i=>?_;refine h a.wf.zd (a.slots z s) e2 λ{u p q P2} b j=>?_;exact c b.wf.zd (b.rep a.wf.zd i) j e λl m=>k ((a.pair b).pair l) m
theorem jmR(c:BO' R r g)(f:PB R ta pa)(h:PB R tb pb):PB R (tOp r ta tb) (p2 g pa pb):=by
 intro σ ρ Z H O d z s e Q k;unfold p2 at e;cases e1:pa ρ with
 | none=>rw[e1] at e;cases e
 | some x =>
  rw[e1] at e;dsimp only at e;cases e2:pb ρ with
  | none=>rw[e2] at e;cases e
  | some y =>
   rw[e2] at e;refine f z s e1 λ{v m n P1} a i=>?_;refine h a.wf.zd (a.slots z s) e2 λ{u o p P2} b j=>?_;exact c b.wf.zd (b.rep a.wf.zd i) j e λl=>k (a.pair b) l
theorem jmS(b:BU R r g)(c:PB R ta pa):PP R (tUn r ta) (p1 g pa):=by
 intro σ ρ Z H O d z s e Q k;unfold p1 at e;cases e1:pa ρ with
 | none=>rw[e1] at e;cases e
 | some x =>
  rw[e1] at e;exact c z s e1 λ{v j l P1} a f=>b a.wf.zd f e λh i=>k (by simpa using a.pair h) i
noncomputable def pN:PAf:=λ_=>some []
noncomputable def jc(pa:PF)(pr:PAf):PAf:=λρ=>match pa ρ with
 | none=>none
 | some x=>match pr ρ with
  | none=>none
  | some xs=>some (x::xs)
theorem pps_nil:PPs R jav pN:=by
 intro σ ρ Z H O d z s e Q k;cases e;exact k (Go.id z) Reps.empty
theorem jgV(c:PP R ta pa)(f:PPs R tr pr):PPs R (Y3 ta tr) (jc pa pr):=by
 intro σ ρ Z H O d z s e Q k;unfold jc at e;cases e1:pa ρ with
 | none=>rw[e1] at e;cases e
 | some x =>
  rw[e1] at e;dsimp only at e;cases e2:pr ρ with
  | none=>rw[e2] at e;cases e
  | some i =>
   rw[e2] at e;cases e;refine c z s e1 λ{v j l P1} a g=>?_;refine f a.wf.zd (a.slots z s) e2 λ{u m n P2} b h=>?_;exact k (a.pair b) (.cons (b.rep a.wf.zd g) h)
theorem jeW:PBs R jav pN:=pps_nil.b
theorem jgx(c:PB R ta pa)(f:PBs R tr pr):PBs R (Y3 ta tr) (jc pa pr):=by
 intro σ ρ Z H O d z s e Q k;unfold jc at e;cases e1:pa ρ with
 | none=>rw[e1] at e;cases e
 | some x =>
  rw[e1] at e;dsimp only at e;cases e2:pr ρ with
  | none=>rw[e2] at e;cases e
  | some i =>
   rw[e2] at e;cases e;refine c z s e1 λ{v j l P1} a g=>?_;refine f a.wf.zd (a.slots z s) e2 λ{u m n P2} b h=>?_;exact k (a.pair b) (.cons (b.rep a.wf.zd g) h)
noncomputable def pCB(g:List D->Option D)(pa:PAf):PF:=λρ=>match pa ρ with
 | none=>none
 | some xs=>g xs
theorem jiC(b:BC R r g)(c:PBs R ta pa):PP R (tCB r ta) (pCB g pa):=by
 intro σ ρ Z H O d z s e Q k;unfold pCB at e;cases e1:pa ρ with
 | none=>rw[e1] at e;cases e
 | some x =>
  rw[e1] at e;exact c z s e1 λ{v j l P1} a f=>b a.wf.zd f e λh i=>k (by simpa using a.pair h) i
noncomputable def lim(n:Nat):Bool:=decide (n<=100000)
theorem KR(h:lim n=true):n<=sizeLine:=N8 (X6 h) (by decide)
theorem x8(h:lim n=true):n < sizeLine:=E3 (X6 h) (by decide)
noncomputable def kH(pa:PAf):PF:=pCB (λxs=>bif lim xs.length then some (.tup xs) else none) pa
noncomputable def Vn(pa:PAf):PF:=pCB (λxs=>bif lim xs.length then some (.lst true xs) else none) pa
theorem jkf(f:PPs R ta pa):PP R (jlM ta) (kH pa):=by
 intro σ ρ Z H O d z s e Q k;unfold kH pCB at e;cases e1:pa ρ with
 | none=>rw[e1] at e;cases e
 | some g =>
  rw[e1] at e;dsimp only at e;cases hl:lim g.length with
  | false=>rw[hl] at e;cases e
  | true =>
   rw[hl] at e;cases e;exact f z s e1 λ{v h i P1} a b=>⟨by rw[b.length];exact KR hl,λp c=>k (a.trans (Go.newF a.wf c)) (Rep.tupNew a.wf c b)⟩
theorem jlQ(f:PPs R ta pa):PP R (jnd ta) (Vn pa):=by
 intro σ ρ Z H O d z s e Q k;unfold Vn pCB at e;cases e1:pa ρ with
 | none=>rw[e1] at e;cases e
 | some g =>
  rw[e1] at e;dsimp only at e;cases hl:lim g.length with
  | false=>rw[hl] at e;cases e
  | true =>
   rw[hl] at e;cases e;exact f z s e1 λ{v h i P1} a b=>⟨by rw[b.length];exact KR hl,λp c=>k (a.trans (Go.newO a.wf c)) (Rep.lstNew a.wf c b)⟩
noncomputable def jx(pa:PF):PTf:=λρ=>match pa ρ with
 | some (.bl b)=>some b
 | _=>none
noncomputable def zh(pa pb:PTf):PTf:=λρ=>match pa ρ with
 | none=>none
 | some b=>bif b then pb ρ else some false
noncomputable def qOr(pa pb:PTf):PTf:=λρ=>match pa ρ with
 | none=>none
 | some b=>bif b then some true else pb ρ
noncomputable def jfq(pa:PTf):PTf:=λρ=>match pa ρ with
 | none=>none
 | some b=>some (!b)
theorem jbp(a:PB R ta pa):PTt R (jjl ta) (jx pa):=by
 intro σ ρ Z H O b z s e Q k;unfold jx at e;split at e
 ·rename_i c d;cases e;refine a z s d λ{v h i P1} f g=>?_;obtain⟨rfl,rfl⟩:=g.bl_of;exact⟨b,rfl,k f⟩
 ·cases e
theorem jkL(d:PTt R ta pa)(f:PTt R tb pb):PTt R (jmE ta tb) (zh pa pb):=by
 intro σ ρ Z H O b z s e Q k;unfold zh at e;cases e1:pa ρ with
 | none=>rw[e1] at e;cases e
 | some c =>
  rw[e1] at e;dsimp only at e;refine d z s e1 λ{h i} a=>?_;cases c with
  | true=>exact jhB (f a.wf.zd (a.slots z s) e λg=>k (a.pair g))
  | false=>cases e;exact jhz (k a)
theorem jnf(d:PTt R ta pa)(f:PTt R tb pb):PTt R (tOr ta tb) (qOr pa pb):=by
 intro σ ρ Z H O b z s e Q k;unfold qOr at e;cases e1:pa ρ with
 | none=>rw[e1] at e;cases e
 | some c =>
  rw[e1] at e;dsimp only at e;refine d z s e1 λ{h i} a=>?_;cases c with
  | true=>cases e;exact jhB (k a)
  | false=>exact jhz (f a.wf.zd (a.slots z s) e λg=>k (a.pair g))
theorem ji7(a:PTt R ta pa):PTt R (jmO ta) (jfq pa):=by
 intro σ ρ Z H O b z s e Q k;unfold jfq at e;cases e1:pa ρ with
 | none=>rw[e1] at e;cases e
 | some c =>
  rw[e1] at e;cases e;exact a z s e1 λ{f g} d=>k d
noncomputable def QN(pa pb:PF):PF:=λρ=>match pa ρ with
 | some (.bl b)=>bif b then pb ρ else some (.bl false)
 | _=>none
noncomputable def jio(pa:PF):PF:=λρ=>match pa ρ with
 | some (.bl b)=>some (.bl (!b))
 | _=>none
theorem jkX(b:PB R ta pa)(f:PP R tb pb):PP R (jhY ta tb) (QN pa pb):=by
 intro σ ρ Z H O d z s e Q k;unfold QN at e;split at e
 ·rename_i c g;refine b z s g λ{v l m P1} a h=>?_;obtain⟨rfl,rfl⟩:=h.bl_of;refine⟨c,rfl,?_⟩;cases c with
  | true=>exact jhB (f a.wf.zd (a.slots z s) e λi j=>k (by simpa using a.pair i) j)
  | false=>cases e;exact jhz (k a .bl_mk)
 ·cases e
theorem jlj(a:PB R ta pa):PP R (jjH ta) (jio pa):=by
 intro σ ρ Z H O d z s e Q k;unfold jio at e;split at e
 ·rename_i c b;cases e;refine a z s b λ{v h i P1} f g=>?_;obtain⟨rfl,rfl⟩:=g.bl_of;exact⟨c,rfl,k f .bl_mk⟩
 ·cases e
noncomputable def pIf(pt:PTf)(pa pb:PF):PF:=λρ=>match pt ρ with
 | none=>none
 | some b=>bif b then pa ρ else pb ρ
theorem jmW(g:PTt R tt pt)(h:PP R ta pa)(i:PP R tb pb):PP R (tIf tt ta tb) (pIf pt pa pb):=by
 intro σ ρ Z H O d z s e Q k;unfold pIf at e;cases e1:pt ρ with
 | none=>rw[e1] at e;cases e
 | some c =>
  rw[e1] at e;dsimp only at e;refine g z s e1 λ{j l} a=>?_;cases c with
  | true=>exact jhB (h a.wf.zd (a.slots z s) e λb f=>k (by simpa using a.pair b) f)
  | false=>exact jhz (i a.wf.zd (a.slots z s) e λb f=>k (by simpa using a.pair b) f)
def jh3(R:RC)(J:It)(Z:Zn)(H:Hp)(xs:List D):Prop:=∀{Z1:Zn}{H1:Hp},(∀ a,Z a->Z1 a)->(∀ a,Z a->H1 a=H a)->Zd Z1 H1->∀ i:Nat,
 (xs.length<=i->J.stop i H1)/\∀ x,xs[i]?=some x->J.go i H1/\∀ u H2,J.yld i H1 u H2->∃ Z2,Go Z1 H1 [] Z2 H2 []/\Rep R Z2 H2 x u []
def PIt(R:RC)(wi:TI)(p:PAf):Prop:=∀{σ:St}{ρ:Rh}{Z:Zn}{H:Hp}{O:List Addr}{xs:List D},Zd Z H->Slots R Z H ρ σ O->p ρ=some xs ->
 ∀{Q:It->Hp->Prop},(∀{J:It}{Z':Zn}{H':Hp},Go Z H [] Z' H' []->jh3 R J Z' H' xs->Q J H')->wi σ H Q
noncomputable def ji6(K:PySem.W.Frag)(tl:TE):TI:=λσ H Q=>tl σ H λx H1 =>
 (∃ a,x=.ref a/\(∃ xs,SqL K H1 a xs)/\Q (Itl K a) H1) \/ (∃ a,x=.ref a/\(∃ xs,SqT K H1 a xs)/\Q (Itt K a) H1) \/ ∃ l,x=.str (S l)/\Q (Its l) H1
theorem jd8(C:PE X l tl):PI X tg l (ji6 X.K tl):=by
 intro d s σ H Q I h;have r:∀ v c,EP X d σ (λx g=>(∃ a,x=.ref a/\(∃ j,SqL X.K g a j)/\Q (Itl X.K a) g) \/ (∃ a,x=.ref a/\(∃ j,SqT X.K g a j)/\Q (Itt X.K a) g) \/ ∃ l,x=.str (S l)/\Q (Its l) g) v c->wpAny (model X.prog X.w) X.A (pyIter v) (PIE X d σ tg Q) X.xe c:=by
  rintro v c ⟨x,g,f,u,D⟩
  -- each by the layer's own rule,at a name that holds the value
  rcases D with⟨a,rfl,⟨j,y⟩,q⟩ | ⟨a,rfl,⟨j,y⟩,q⟩ | ⟨l,rfl,q⟩
  ·cases u;obtain⟨k,E,p,F⟩:=f.list y;refine wpAny_pyIter_list p.isList ?_;refine⟨c.heap.objs.size,[c.heap.objs.size],_,_,g,rfl,f.kept (t':=c.toks) λb o e=>L8 _ e,jdN a _,⟨_,E2 _ rfl,rfl,rfl⟩,λb m=>?_,q⟩;have e:b=c.heap.objs.size:=by simpa using m
   subst e;exact f.fpOk (M9 _) (f.hok.fresh (M9 _))
  ·cases u;obtain⟨k,E,p,F⟩:=f.tuple y;refine wpAny_pyIter_tuple (show c.heap.IsTuple a k.toArray from p) ?_;refine⟨c.heap.objs.size,[c.heap.objs.size],_,_,g,rfl,f.kept (t':=c.toks) λb o e=>L8 _ e,jcM a _,⟨_,E2 _ rfl,rfl,rfl⟩,λb m=>?_,q⟩;have e:b=c.heap.objs.size:=by simpa using m
   subst e;exact f.fpOk (M9 _) (f.hok.fresh (M9 _))
  ·obtain⟨t,rfl⟩:=u;have n:∀(ty:String),(ty = "str_ascii_iterator" \/ ty = "str_iterator")->(∀ A:Around,A.handled=none->Walks X.prog X.w A c.heap.objs.size [c.heap.objs.size] [c.heap.objs.size] (S l).cps.size (SignAt (S l)) (λi h=>h.IsStrIter c.heap.objs.size ty (S l) t i)) ->
     PIE X d σ tg Q (.ref c.heap.objs.size) { c with heap:=c.heap.push { cls:=.type ty,data:=.fields #[.str (S l) t,.int 0 0] } }:=λty z W=>by
    refine⟨c.heap.objs.size,[c.heap.objs.size],_,_,g,rfl,f.kept (t':=c.toks) λb o e=>L8 _ e,jgX _ l t ty z W,⟨_,E2 _ rfl,rfl,rfl⟩,λb m=>?_,q⟩;have e:b=c.heap.objs.size:=by simpa using m
    subst e;exact f.fpOk (M9 _) (f.hok.fresh (M9 _))
   cases ha:(S l).cps.all (· < 128)
   ·exact wpAny_pyIter_wide ha (n _ (.inr rfl) λG B=>Walks.strWide B _ (S l) t)
   ·exact wpAny_pyIter_ascii ha (n _ (.inl rfl) λG B=>Walks.strAscii B _ (S l) t)
 exact thn (C d s σ H _ I h) r
noncomputable def zX:D->Option (List D)
 | .lst _ l=>some (fzs l)
 | .tup l=>some (fzs l)
 | .str s=>some (s.map λc=>.str [c])
 | _=>none
noncomputable def pIt(p:PF):PAf:=λρ=>match p ρ with
 | none=>none
 | some d=>zX d
theorem jlR(h:FL R Z H a vs)(r:Reps R Z H l vs []):jh3 R (Itl R.K a) Z H l:=by
 intro d k f g zd i;have b:=(h.frame f g).sq;have m:Reps R d k l vs []:=r.frame f g λa n=>(nomatch n);refine⟨λo=>⟨vs,b,by rw[r.length];exact o⟩,λx p=>?_⟩;obtain⟨v,j,q⟩:=m.item p;refine⟨⟨vs,v,b,j⟩,λu s c=>?_⟩;obtain⟨rfl,c⟩:=c;have e:=c vs b;rw[j] at e;cases e;exact⟨d,Go.id zd,q⟩
theorem jln(h:FT R Z H a vs)(r:Reps R Z H l vs []):jh3 R (Itt R.K a) Z H l:=by
 intro d k f g zd i;have b:=(h.frame f g).sq;have m:Reps R d k l vs []:=r.frame f g λa n=>(nomatch n);refine⟨λo=>⟨vs,b,by rw[r.length];exact o⟩,λx p=>?_⟩;obtain⟨v,j,q⟩:=m.item p;refine⟨⟨vs,v,b,j⟩,λu s c=>?_⟩;obtain⟨rfl,c⟩:=c;have e:=c vs b;rw[j] at e;cases e;exact⟨d,Go.id zd,q⟩
theorem jht:jh3 R (Its s) Z H (s.map λc=>.str [c]):=by
 intro d h j k zd i;refine⟨λf=>by show s.length<=i;simpa using f,λx a=>?_⟩;rw[List.getElem?_map] at a;cases e:s[i]? with
 | none=>rw[e] at a;cases a
 | some c =>
  rw[e] at a;cases a;refine⟨(L9.mp e).1,λu l g=>?_⟩;obtain⟨rfl,m,b,rfl⟩:=g;rw[e] at b;cases b;exact⟨d,Go.id zd,.str_mk⟩
theorem Go.fz(g:Go Z H [] Z' H' P):Go Z H [] (λa=>Z' a \/ a∈P) H' []:=g.trans (Go.freeze g.wf)
theorem jmD(h:PP R te p):PIt R (ji6 R.K te) (pIt p):=by
 intro σ ρ Z H O n z s e Q k;unfold pIt at e;cases e1:p ρ with
 | none=>rw[e1] at e;cases e
 | some d =>
  rw[e1] at e;refine h z s e1 λ{v m q P1} f j=>?_;have c:=j.freeze (Z':=λa=>m a \/ a∈P1) (λa z=>.inl z) λa z=>.inr z;cases d with
  | lst o l =>
   cases e;rw[fz,Rep] at c;obtain⟨a,g,r,rfl,i,b,rfl,_⟩:=c;exact .inl ⟨a,rfl,⟨g,FL.sq b⟩,k f.fz (jlR b i)⟩
  | tup l =>
   cases e;rw[fz,Rep] at c;obtain⟨a,g,rfl,b,i⟩:=c;exact .inr (.inl ⟨a,rfl,⟨g,FT.sq b⟩,k f.fz (jln b i)⟩)
  | str t =>
   cases e;obtain⟨rfl,rfl⟩:=j.str_of;exact .inr (.inr ⟨t,rfl,k f jht⟩)
  | _=>cases e
noncomputable def YG(lo:Int)(n:Nat):List D:=(List.range n).map λ(i:Nat)=>D.int (lo+(i:Int))
theorem jmd:jh3 R (Itr lo n) Z H (YG lo n):=by
 intro c e f g zd i;refine⟨λb=>by show n<=i;simpa [YG] using b,λx a=>?_⟩;unfold YG at a;rw[List.getElem?_map] at a;by_cases b:i < n
 ·rw[List.getElem?_range b] at a;cases a;refine⟨b,λu h d=>?_⟩;obtain⟨rfl,rfl⟩:=d;exact⟨c,Go.id zd,.int_mk⟩
 ·rw[List.getElem?_eq_none (by simpa using b)] at a;cases a
noncomputable def xM(i:Int):Bool:=Nat.ble i.natAbs 4611686018427387903
theorem jap(h:xM i=true):-(2 ^ 62)<=i/\i < 2 ^ 62:=by
 have h:=Nat.le_of_ble_eq_true h;constructor<;>omega
noncomputable def VW(p:PAf):PAf:=λρ=>match p ρ with
 | some [.int j]=>bif xM j then some (YG 0 j.toNat) else none
 | _=>none
theorem Reps.one_of(r:Reps R Z H [d] vs O):∃ v,vs=[v]/\Rep R Z H d v O:=by
 rw[Reps] at r;obtain⟨v,b,O1,O2,rfl,rfl,c,a⟩:=r;rw[Reps] at a;obtain⟨rfl,rfl⟩:=a;exact⟨v,rfl,by simpa using c⟩
theorem Reps.two_of(r:Reps R Z H [d,e] vs O):∃ v u O1 O2,vs=[v,u]/\O=O1++O2/\Rep R Z H d v O1/\Rep R Z H e u O2:=by
 rw[Reps] at r;obtain⟨v,a,O1,O2,rfl,rfl,b,c⟩:=r;obtain⟨u,rfl,f⟩:=c.one_of;exact⟨v,u,O1,O2,rfl,rfl,b,f⟩
theorem ji1(h:PBs R ta p):PIt R (jjS ta) (VW p):=by
 intro σ ρ Z H O f z s e Q k;unfold VW at e;split at e
 ·rename_i j a;cases hs:xM j with
  | false=>rw[hs] at e;cases e
  | true =>
   rw[hs] at e;cases e;refine h z s a λ{v g i P1} b c=>?_;obtain⟨u,rfl,d⟩:=c.one_of;obtain⟨rfl,_⟩:=d.int_of;exact⟨j,rfl,(jap hs).1,(jap hs).2,k b jmd⟩
 ·cases e
def PGt(R:RC)(pm:List Nat)(tg:TG)(f:D->Rh->Option Rh):Prop:=∀{σ:St}{ρ ρ':Rh}{Z:Zn}{H:Hp}{O:List Addr}{d:D}{v:V},Rep R Z H d v []->Slots R Z H ρ σ O->f d ρ=some ρ' ->
 ∀{Q:St->Hp->Prop},(∀{σ':St}{O':List Addr},(∀ a∈O',a∈O)->(O.Nodup->O'.Nodup)->Slots R Z H ρ' σ' O'->Keep pm σ σ'->Q σ' H)->tg v σ H Q
def jlm(R:RC)(pm:List Nat)(tg:TGs)(f:List D->Rh->Option Rh):Prop:=∀{σ:St}{ρ ρ':Rh}{Z:Zn}{H:Hp}{O:List Addr}{ds:List D}{vs:List V},Reps R Z H ds vs []->Slots R Z H ρ σ O->f ds ρ=some ρ' ->
 ∀{Q:St->Hp->Prop},(∀{σ':St}{O':List Addr},(∀ a∈O',a∈O)->(O.Nodup->O'.Nodup)->Slots R Z H ρ' σ' O'->Keep pm σ σ'->Q σ' H)->tg vs σ H Q
theorem jgp:PGt R pm (QH i) (ji pm i):=by
 intro σ ρ m Z H O d v r h e Q k;unfold ji at e;by_cases c:i < ρ.length
 ·by_cases f:i∈pm
  ·rw[X4 f] at e;simp at e
  ·rw[X4 c,X5 f] at e;cases e;obtain⟨A,n,B,rfl,o,g,p⟩:=h.put c;refine k (O':=A++[]++B) (λa q=>?_) (λnd=>?_) (g r (λ_ z=>z) (λ_ _=>rfl) (λ_ _=>rfl) (λ_ _=>rfl)) (Keep.set f)
   ·simp at q ⊢;rcases q with q | q<;>simp[q]
   ·simp only[X1,N3] at nd;simp only[N0,X1];exact⟨nd.1.1,nd.2.1,λa j b l e=>nd.2.2 a (.inl j) b l e⟩
 ·rw[X5 c] at e;simp at e
theorem jfN:jlm R pm jke gN:=by
 intro σ ρ c Z H O b d r h e Q k;unfold gN at e;cases b with
 | cons _ _=>cases e
 | nil =>
  cases e;rw[Reps] at r;obtain⟨rfl,_⟩:=r;exact⟨rfl,k (λa h=>h) (λh=>h) h (Keep.refl _ _)⟩
theorem je7(f:PGt R pm t g)(i:jlm R pm u gs):jlm R pm (jeg t u) (gC g gs):=by
 intro σ ρ A Z H O c B r h e Q k;unfold gC at e;cases c with
 | nil=>cases e
 | cons d c =>
  dsimp only at e;cases e1:g d ρ with
  | none=>rw[e1] at e;cases e
  | some C =>
   rw[e1] at e;dsimp only at e;rw[Reps] at r;obtain⟨v,b,O1,O2,rfl,j,l,m⟩:=r;obtain⟨rfl,rfl⟩:=List.append_eq_nil_iff.mp j.symm;exact⟨v,b,rfl,f l h e1 λn o p s=>i m p e λw x y z=>k (λa q=>n a (w a q)) (λq=>x (o q)) y (s.trans z)⟩
theorem jja(f:jlm R pm u gs):PGt R pm (jjY R.K n u) (gT n gs):=by
 intro σ ρ j Z H O d v r h e Q k;cases d with
 | tup l =>
  unfold gT at e;dsimp only at e;by_cases b:l.length=n
  ·rw[X4 b,cond_true] at e;rw[Rep] at r;obtain⟨a,g,rfl,i,c⟩:=r;exact⟨a,g,rfl,i.sq,by rw[c.length];exact b,f c h e k⟩
  ·rw[X5 b,cond_false] at e;cases e
 | _=>cases e
noncomputable def vW(g:D->Rh->Option Rh)(f:FS):List D->FS
 | [],ρ=>some (.nx ρ)
 | x::xs,ρ=>match g x ρ with
  | none=>none
  | some ρ1=>match f ρ1 with
   | none=>none
   | some (.nx ρ2)=>vW g f xs ρ2
   | some (.ct ρ2)=>vW g f xs ρ2
   | some (.bk ρ2)=>some (.nx ρ2)
   | some (.rt d ρ2)=>some (.rt d ρ2)
noncomputable def Kc(p:PAf)(g:D->Rh->Option Rh)(f:FS):FS:=λρ=>match p ρ with
 | none=>none
 | some xs=>vW g f xs ρ
theorem Kh{l:List α}{i:Nat}(h:l[i]?=some x):l.drop i=x::l.drop (i+1):=by
 obtain⟨a,rfl⟩:=L9.mp h;exact List.drop_eq_getElem_cons a
theorem jj7(hi:PIt R wi p)(Y:PGt R pm tg g)(hf:DS R pm tb f):DS R pm (jl0 wi tg tb) (Kc p g f):=by
 intro σ ρ Z H O o w s e D' k;unfold Kc at e;cases e1:p ρ with
 | none=>rw[e1] at e;cases e
 | some c =>
  rw[e1] at e;dsimp only at e;refine hi w.zd s e1 λ{J x K} U it=>?_;have h:Go Z H O x K O:=by simpa using U.widen w
  refine⟨λi m N y=>m=c.length - i/\i<=c.length/\∃ L A B,Go x K O A y B/\Slots R A y L N B/\Keep pm σ N/\vW g f (c.drop i) L=some o,
   ⟨c.length,rfl,U6 _,ρ,x,O,Go.refl h.wf,U.slots w.zd s,Keep.refl _ _,e⟩,?_⟩
  rintro i m N y ⟨rfl,hi',L,A,B,l,V,kp,b⟩;have C:=it (Z1:=A) (H1:=y) l.zz (λa z=>l.zH h.wf a z) l.wf.zd i;by_cases D:i < c.length
  ·right
   have W:c[i]?=some c[i]:=by simp[D]
   obtain⟨go,yl⟩:=C.2 _ W;rw[Kh W] at b;unfold vW at b;cases e3:g c[i] L with
   | none=>rw[e3] at b;cases b
   | some ρ1 =>
    rw[e3] at b;dsimp only at b;cases e4:f ρ1 with
    | none=>rw[e4] at b;cases b
    | some o1 =>
     rw[e4] at b;refine⟨go,λP n=>∃ j q O2,Go x K O q n O2/\Slots R q n j P O2/\Keep pm σ P/\vW g f (c.drop (i+1)) j=some o,λP n ⟨j,q,O2,a1,a2,a3,a4⟩=>⟨c.length - (i+1),by omega,rfl,D,j,q,O2,a1,a2,a3,a4⟩,λu n hy=>?_⟩;obtain⟨q,X,r2⟩:=yl u n hy;have E:Go A y B q n B:=by simpa using X.widen l.wf
     refine Y r2 (X.slots l.wf.zd V) e3 λ{σ3 O3} sub nd s3 M=>?_;have F:Go x K O q n O3:=(l.trans E).drop sub (nd E.wf.nd);refine hf F.wf s3 e4 ?_;cases o1 with
     | nx j=>exact λ{Q G S I} r t v=>⟨j,G,I,F.trans r,t,kp.trans (M.trans v),b⟩
     | ct j=>exact λ{Q G S I} r t v=>⟨j,G,I,F.trans r,t,kp.trans (M.trans v),b⟩
     | bk j=>cases b;exact λ{Q G S I} r t v=>k (h.trans (F.trans r)) t (kp.trans (M.trans v))
     | rt d j=>cases b;exact λ{v4 Q G S P4 I} r r4 t v=>k (h.trans (F.trans r)) r4 t (kp.trans (M.trans v))
  ·left
   have T:i=c.length:=by omega
   refine⟨C.1 (by omega),?_⟩;rw[T,List.drop_length] at b;cases b;exact k (h.trans l) V kp
noncomputable def jI(ix:List (Option Nat))(ρ:Rh):Rh:=ix.map λo=>o.bind λj=>(ρ[j]?).join
theorem V4(s:Slots R Z H ρ σ O):∀ ix:List (Option Nat),∃ O',Slots R Z H (jI ix ρ) (kU ix σ) O'
 | []=>⟨[],rfl,rfl⟩
 | o::ix=>by
  obtain⟨O',b⟩:=V4 s ix;show ∃ O',Slots R Z H ((o.bind λj=>(ρ[j]?).join)::jI ix ρ) ((o.bind λj=>(σ[j]?).join)::kU ix σ) O';cases e:o.bind λj=>(ρ[j]?).join with
  | none=>exact⟨O',_,_,rfl,b⟩
  | some d =>
   cases o with
   | none=>cases e
   | some j =>
    have a:(ρ[j]?).join=some d:=e;have c:ρ[j]?=some (some d):=by
     cases q:ρ[j]? with
     | none=>rw[q] at a;cases a
     | some u=>rw[q] at a;rw[show u=some d from a]
    obtain⟨A,P,B,_,f,_⟩:=s.put (L9.mp c).1;obtain⟨v,g,r⟩:=f d c;refine⟨P++O',v,_,P,O',?_,rfl,r,b⟩;show((σ[j]?).join::kU ix σ)=some v::kU ix σ;rw[g];rfl
noncomputable def qT:PTf:=λ_=>some true
theorem jhS:PTt R (λ_ H Q=>Q true H) qT:=by
 intro σ ρ Z H O b z s e Q k;cases e;exact k (Go.id z)
noncomputable def jJ(g:D->Rh->Option Rh)(q:PTf)(p:PF):List D->Rh->Option (List D)
 | [],_=>some []
 | x::xs,ρ=>match g x ρ with
  | none=>none
  | some ρ1=>match q ρ1 with
   | none=>none
   | some b=>bif b then(match p ρ1 with
    | none=>none
    | some y=>match jJ g q p xs ρ1 with
     | none=>none
     | some ys=>some (y::ys)) else jJ g q p xs ρ1
noncomputable def vR(pi:PAf)(g:D->Rh->Option Rh)(q:PTf)(p:PF)(ix:List (Option Nat)):PF:=λρ=>match pi ρ with
 | none=>none
 | some xs=>bif lim xs.length then(match jJ g q p xs (jI ix ρ) with
  | none=>none
  | some ys=>some (.lst true ys)) else none
noncomputable def spP(R:RC)(m:List D->Option D)(n:Nat):Sp:=λvs H Q _=>∃ Z ds d,Zd Z H/\ds.length=n/\Reps R Z H ds vs []/\m ds=some d/\∀{v:V}{Z':Zn}{H':Hp}{P:List Addr},Go Z H [] Z' H' P->Rep R Z' H' d v P->Q v H'
noncomputable def fnP(n:Nat)(f:FS):List D->Option D:=λds=>match f (ds.map some++List.replicate (n - ds.length) none) with
 | some (.rt d _)=>some d
 | some (.nx _)=>some .non
 | _=>none
theorem K3:∀ n:Nat,Slots R Z H (List.replicate n none) (List.replicate n none) []
 | 0=>⟨rfl,rfl⟩
 | n+1=>⟨none,_,rfl,K3 n⟩
theorem K5:∀{ds:List D}{vs:List V}{O:List Addr}{ρ:Rh}{σ:St}{P:List Addr},Reps R Z H ds vs O->Slots R Z H ρ σ P->Slots R Z H (ds.map some++ρ) (vs.map some++σ) (O++P)
 | [],_,_,_,_,_,r,s=>by rw[Reps] at r;obtain⟨rfl,rfl⟩:=r;exact s
 | d::ds,_,_,_,_,_,r,s=>by
  rw[Reps] at r;obtain⟨v,a,O1,O2,rfl,rfl,b,c⟩:=r;exact⟨v,_,O1,_,rfl,List.append_assoc ..,b,K5 c s⟩
theorem jik(c:DS R [] ts f)(h:spP R (fnP N.length f) n vs H Q E):ts { nx:=λ_ H'=>Q .non H',rt:=Q } (L2.start N vs) H:=by
 obtain⟨Z,a,d,z,l,r,e,k⟩:=h;unfold fnP at e;have s:Slots R Z H (a.map some++List.replicate (N.length - a.length) none) (L2.start N vs) []:=by
  have q:=K5 r (K3 (R:=R) (Z:=Z) (H:=H) (N.length - a.length));unfold L2.start;rw[r.length];exact q
 split at e
 ·rename_i m i b;cases e;exact c (wf0 z) s b λg j _ _=>k g.dropR j
 ·rename_i i b;cases e;exact c (wf0 z) s b λg _ _=>k (P:=[]) g.to0 .non_mk
 ·cases e
theorem jjC(h:spP R m n vs H Q E):vs.length=n:=by
 obtain⟨Z,b,d,z,a,r,_⟩:=h;rw[r.length,a]
mutual
noncomputable def kt:D->Bool
 | .tup l=>yg l
 | .lst o l=>o&&yg l
 | .dK o _ l=>o&&yg l
 | .dT o _ l=>o&&yg l
 | .ins o _ _ l=>o&&yg l
 | .non=>true | .bl _=>true | .int _=>true | .str _=>true | .dead=>true
noncomputable def yg:List D->Bool
 | []=>true
 | d::l=>kt d&&yg l
end
mutual
theorem Rep.thaw(ht:∀ a vs,Z a->Rd H a (.tup vs)->Z' a):∀{d:D}{v:V}{O:List Addr},Rep R Z H d v O->kt d=true->Rep R Z' H d v O
 | .non,_,_,h,_=>by rw[Rep] at h ⊢;exact h
 | .bl _,_,_,h,_=>by rw[Rep] at h ⊢;exact h
 | .int _,_,_,h,_=>by rw[Rep] at h ⊢;exact h
 | .str _,_,_,h,_=>by rw[Rep] at h ⊢;exact h
 | .dead,_,_,h,_=>by rw[Rep] at h ⊢;exact h
 | .tup l,_,_,h,f=>by
  rw[Rep] at h ⊢;rw[kt] at f;obtain⟨a,vs,e,t,r⟩:=h;refine⟨a,vs,e,?_,Reps.thaw ht r f⟩;rcases t with⟨z,q⟩ | q
  ·exact .inl ⟨ht a vs z q,q⟩
  ·exact .inr q
 | .lst o l,_,_,h,f=>by
  rw[Rep] at h ⊢;rw[kt,M0] at f;obtain⟨a,vs,O',e,r,h⟩:=h;cases f.1;exact⟨a,vs,O',e,Reps.thaw ht r f.2,h⟩
 | .dK o ks l,_,_,h,f=>by
  rw[Rep] at h ⊢;rw[kt,M0] at f;obtain⟨a,vs,O',e,r,h⟩:=h;cases f.1;exact⟨a,vs,O',e,Reps.thaw ht r f.2,h⟩
 | .dT o ks l,_,_,h,f=>by
  rw[Rep] at h ⊢;rw[kt,M0] at f;obtain⟨a,vs,O',e,r,h⟩:=h;cases f.1;exact⟨a,vs,O',e,Reps.thaw ht r f.2,h⟩
 | .ins o c ns l,_,_,h,f=>by
  rw[Rep] at h ⊢;rw[kt,M0] at f;obtain⟨a,dx,vs,O',e,r,h⟩:=h;cases f.1;exact⟨a,dx,vs,O',e,Reps.thaw ht r f.2,h⟩
theorem Reps.thaw(ht:∀ a vs,Z a->Rd H a (.tup vs)->Z' a):∀{l:List D}{vs:List V}{O:List Addr},Reps R Z H l vs O->yg l=true->Reps R Z' H l vs O
 | [],_,_,h,_=>by rw[Reps] at h ⊢;exact h
 | d::l,_,_,h,f=>by
  rw[Reps] at h ⊢;rw[yg,M0] at f;obtain⟨v,vs,O1,O2,e,rfl,r1,r2⟩:=h;exact⟨v,vs,O1,O2,e,rfl,Rep.thaw ht r1 f.1,Reps.thaw ht r2 f.2⟩
end
mutual
theorem Rep.notTup:∀{d:D}{v:V}{O:List Addr},Rep R Z H d v O->∀ a∈O,∀ vs,¬ Rd H a (.tup vs)
 | .non,_,_,h,a,ha=>by rw[Rep] at h;rw[h.2] at ha;cases ha
 | .bl _,_,_,h,a,ha=>by rw[Rep] at h;rw[h.2] at ha;cases ha
 | .int _,_,_,h,a,ha=>by rw[Rep] at h;rw[h.2] at ha;cases ha
 | .str _,_,_,h,a,ha=>by rw[Rep] at h;rw[h.2] at ha;cases ha
 | .dead,_,_,h,a,ha=>by rw[Rep] at h;rw[h] at ha;cases ha
 | .tup l,_,_,h,a,ha=>by
  rw[Rep] at h;obtain⟨b,vs,e,t,r⟩:=h;exact Reps.notTup r a ha
 | .lst o l,_,_,h,a,ha=>by
  rw[Rep] at h;obtain⟨b,vs,O',e,r,h⟩:=h;cases o with
  | true =>
   obtain⟨h1,rfl⟩:=h;rcases M5.mp ha with e | e
   ·subst e;rintro ws (q | ⟨_,q⟩)<;>rw[h1] at q<;>cases q
   ·exact Reps.notTup r a e
  | false=>rw[h.2.2] at ha;cases ha
 | .dK o ks l,_,_,h,a,ha=>by
  rw[Rep] at h;obtain⟨b,vs,O',e,r,hl,hd,h⟩:=h;cases o with
  | true =>
   have h:=(show _=_ from h);subst h;rcases M5.mp ha with e | e
   ·subst e;rintro ws (q | ⟨_,q⟩)<;>rw[hd] at q<;>cases q
   ·exact Reps.notTup r a e
  | false=>rw[h.2.2] at ha;cases ha
 | .dT o ks l,_,_,h,a,ha=>by
  rw[Rep] at h;obtain⟨b,vs,O',e,r,hl,hd,h⟩:=h;cases o with
  | true =>
   have h:=(show _=_ from h);subst h;rcases M5.mp ha with e | e
   ·subst e;rintro ws (q | ⟨_,q⟩)<;>rw[hd] at q<;>cases q
   ·exact Reps.notTup r a e
  | false=>rw[h.2.2] at ha;cases ha
 | .ins o c ns l,_,_,h,a,ha=>by
  rw[Rep] at h;obtain⟨b,dx,vs,O',e,r,hl,hd,h⟩:=h;cases o with
  | true =>
   have h:=(show _=_ from h);subst h;rcases M5.mp ha with e | e
   ·subst e;rintro ws (q | ⟨_,q⟩)<;>rw[hd] at q<;>cases q
   ·exact Reps.notTup r a e
  | false=>rw[h.2.2] at ha;cases ha
theorem Reps.notTup:∀{l:List D}{vs:List V}{O:List Addr},Reps R Z H l vs O->∀ a∈O,∀ vs,¬ Rd H a (.tup vs)
 | [],_,_,h,a,ha=>by rw[Reps] at h;rw[h.2] at ha;cases ha
 | d::l,_,_,h,a,ha=>by
  rw[Reps] at h;obtain⟨v,vs,O1,O2,e,rfl,r1,r2⟩:=h;rcases N3.mp ha with q | q
  ·exact Rep.notTup r1 a q
  ·exact Reps.notTup r2 a q
end
noncomputable def yh(m:List D->Option D)(p:PAf):PF:=λρ=>match p ρ with
 | none=>none
 | some ds=>match m (fzs ds) with
  | none=>none
  | some d=>bif frzs ds||kt d then some d else none
theorem jeo(l:List D):(fzs l).length=l.length:=by rw[JJ,L1]
theorem jhK(x:PBs R ta p)(hn:∀ ρ ds,p ρ=some ds->ds.length=n):PP R (jdj (spP R m n) [] E0 ta) (yh m p):=by
 intro σ ρ Z H O d z s e Q k;unfold yh at e;cases e1:p ρ with
 | none=>rw[e1] at e;cases e
 | some ds =>
  rw[e1] at e;dsimp only at e;cases e2:m (fzs ds) with
  | none=>rw[e2] at e;cases e
  | some c =>
   rw[e2] at e;dsimp only at e;cases f:frzs ds||kt c with
   | false=>rw[f] at e;cases e
   | true =>
    rw[f] at e;cases e;refine x z s e1 λ{E i l P1} o j=>?_;have y:=o.wf.zd;have A:Zd (λa=>i a \/ a∈P1) l:=λa h=>h.elim (y a) (j.dom a);refine⟨λa=>i a \/ a∈P1,fzs ds,d,A,by rw[jeo];exact hn ρ ds e1,by rw[N0];exact j.freeze (λa z=>.inl z) λa z=>.inr z,e2,λ{v r t P} b w=>?_⟩;rw[Bool.or_eq_true] at f;rcases f with f | f
    ·cases j.nil f;have g:Go i l [] r t P:=⟨b.wf,λa z=>b.zz a (.inl z),b.fr,λa z=>(b.zn a z).imp (λq=>q.resolve_right (λq=>(nomatch q))) id,b.sub,b.dm⟩;exact k (by simpa using o.pair g) w
    ·have g:Go i l [] (λa=>r a/\(a∉P1 \/ i a)) t P:=by
      refine⟨⟨b.wf.nd,λa h q=>b.wf.nz a h q.1,b.wf.od,λa q=>b.wf.zd a q.1⟩,λa z=>⟨b.zz a (.inl z),.inr z⟩,b.fr,λa z=>?_,b.sub,b.dm⟩;rcases b.zn a z.1 with(q | q) | q
      ·exact .inl q
      ·exact .inl (z.2.resolve_left λn=>n q)
      ·exact .inr q
     have B:Rep R (λa=>r a/\(a∉P1 \/ i a)) t d v P:=by
      refine w.thaw (λa C D ta=>⟨D,?_⟩) f;by_cases u:a∈P1
      ·exact absurd (Rd.agree (b.same a (j.dom a u)).symm ta) (j.notTup a u C)
      ·exact .inl u
     exact k (by simpa using o.pair g) B
noncomputable def sFz(i:Nat)(f:FS):FS:=λρ=>match ρ[i]? with
 | some (some d)=>f (ρ.set i (some (fz d)))
 | _=>f ρ
theorem jmP(h:DS R pm t f):DS R pm t (sFz i f):=by
 intro σ ρ Z H O o w s e m k;unfold sFz at e;split at e
 ·rename_i d hd;obtain⟨A,P,B,rfl,c,j,_⟩:=s.put (L9.mp hd).1;obtain⟨v,l,r⟩:=c d hd;have g:Go Z H (A++P++B) (λa=>Z a \/ a∈P) H (A++[]++B):=(Go.freeze w.mid).frame w;have b:=j (r.freeze (Z':=λa=>Z a \/ a∈P) (λa z=>.inl z) λa z=>.inr z) (λa z=>.inl z) (λ_ _=>rfl) (λ_ _=>rfl) (λ_ _=>rfl);rw[yS l] at b;exact h g.wf b e (k.pre g (Keep.refl _ _))
 ·exact h w s e k
noncomputable def wA(i:Nat)(p:PF):FS:=λρ=>match p ρ with
 | none=>none
 | some d=>match ρ[i]? with
  | some (some (.lst true l))=>bif lim l.length then some (.nx (ρ.set i (some (.lst true (l++[d]))))) else none
  | _=>none
theorem jla(h:PP R te p):DS R pm (zu (tBM R.K "list" xk (JP i) (Y3 te jav))) (wA i p):=by
 intro σ ρ Z H O o w s e D' k;unfold wA at e;cases e1:p ρ with
 | none=>rw[e1] at e;cases e
 | some d =>
  rw[e1] at e;dsimp only at e;split at e
  ·rename_i l U;cases hlim:lim l.length with
   | false=>rw[hlim] at e;cases e
   | true =>
    rw[hlim] at e;cases e;obtain⟨A,P,B,rfl,k1,k2,_⟩:=s.put (L9.mp U).1;obtain⟨v,V,r⟩:=k1 _ U;rw[Rep] at r;obtain⟨a,j,t,rfl,W,J,rfl⟩:=r;refine⟨.ref a,V,.inl ⟨rfl,j,SqL.of J⟩,?_⟩;refine h w.zd s e1 λ{u C m P1} n r1=>?_;have L:m a=some (.lst j):=by rw[n.same a (by rw[J];exact λz=>(nomatch z))];exact J
    refine⟨a,j,u,rfl,rfl,L,by rw[W.length];exact x8 hlim,?_⟩;have F:Go Z H (A++(a::t)++B) C m (A++(a::(t++P1))++B):=by
     have q:=n.widen w;refine q.drop (λb c=>by simp at c ⊢;rcases c with c | c | c | c | c<;>simp[c]) ?_;have nd:=q.wf.nd;simp only[X1,N3,List.nodup_cons,M5,not_or] at nd ⊢;obtain⟨X,⟨⟨M,⟨N,Y⟩,G⟩,n6,D⟩,I⟩:=nd;refine⟨⟨M,⟨⟨N,λq=>I a q a (.inl (.inr (.inl rfl))) rfl⟩,Y,X,λx f y g e=>I y g x (.inl (.inr (.inr f))) e.symm⟩,λx f y g e=>?_⟩,n6,λx f y g e=>?_⟩
     ·rcases g with g | g | g
      ·exact G x f y (.inl g) e
      ·exact G x f y (.inr g) e
      ·exact I y g x (.inl (.inl f)) e.symm
     ·rcases f with f | f | f | f
      ·exact D x (.inl f) y g e
      ·exact D x (.inr (.inl f)) y g e
      ·exact D x (.inr (.inr f)) y g e
      ·exact I x f y (.inr g) e
    have gB:Go C m (A++(a::(t++P1))++B) C (upd m a (.lst (j++[u]))) (A++(a::(t++P1))++B):=Go.put F.wf (by simp);have nd:=F.wf.nd;simp only[X1,N3,List.nodup_cons,M5,not_or] at nd;obtain⟨⟨X,⟨⟨M,N⟩,Y⟩,G⟩,n6,D⟩:=nd;have E:∀ b,C b->upd m a (.lst (j++[u])) b=m b:=λb c=>jm λz=>F.wf.nz a (by simp) (z▸c);have hr:Rep R C (upd m a (.lst (j++[u]))) (.lst true (l++[d])) (.ref a) (a::(t++P1)):=by
     rw[Rep];refine⟨a,j++[u],t++P1,rfl,?_,jy,rfl⟩;refine((n.reps w.zd W).append (.one r1)).frame (λb z=>z) E λb c=>jm λz=>?_;subst z;rcases N3.mp c with q | q
     ·exact M q
     ·exact N q
    have Q:∀ b,Z b->upd m a (.lst (j++[u])) b=H b:=λb c=>by rw[E b (n.zz b c)];exact n.same b (w.zd b c)
    have S:∀ b∈A,upd m a (.lst (j++[u])) b=H b:=λb c=>by
     rw[jm λz=>G b c b (.inl z) rfl];exact n.same b (w.od b (by simp[c]))
    have T:∀ b∈B,upd m a (.lst (j++[u])) b=H b:=λb c=>by
     rw[jm λz=>D b (.inr (.inl z)) b c rfl];exact n.same b (w.od b (by simp[c]))
    have sl:=k2 hr (λb z=>n.zz b z) Q S T;rw[yS V] at sl;exact k (F.trans gB) sl (Keep.refl _ _)
  ·cases e
end QD
namespace L2
open PySem PySem.Spec PyProof.Rows
section
variable {X:Cx}{pins:List (Addr×Obj)}{σ:St}{H:Hp}{s:Shared}{h':Heap}
theorem Inv.turnedNew{t':Nat}{wr:List Addr}{T:Addr}{xs:List V}{its:Array Value}(I:Inv X pins σ H s)(k:∀ b o,b∉wr->s.heap.get? b=some o->h'.get? b=some o)(g:∀ b∈wr,jcs X pins H b)
  (h:s.heap.objs.size<=T) (j:IsTupN h' T its) (l:Vals xs its.toList) (hz:xs.length<=sizeLine):Inv X pins σ (upd H T (.tup xs)) { s with heap:=h',toks:=t' }:=by
 have p:=I.hok.fresh h;have i:∀ b u,H b=some u->b∉wr:=λb u e z=>by rw[(g b z).1] at e;cases e
 have d:∀ b u,H b=some u->b≠T:=λb u e z=>by rw[z,p] at e;cases e
 refine I.step (g':=s.gens) (d':=s.drawn) (ch:=wr) (λb f=>?_) (λb o _ _ a e _=>k b o a e) (λb o _ _ a e _=>⟨o.slots,k b o a e⟩) (λb o _ e n=>?_)
  (λb o a e=>⟨o,k b o a e⟩) (λb t e=>by rw[jm (d b _ e)];exact e) (λb o u e=>by rw[jm (d b _ e)];exact e) (λb F e=>⟨#[],by rw[jm (d b _ e),e];simp⟩) (λm w=>?_) (λb u e=>?_) I.bare
 ·obtain⟨_,x,_,y,A,B⟩:=g b f;exact⟨y,x,A,B⟩
 ·rw[jm (λz=>absurd (N1 e) (by rw[z];exact Nat.not_lt.mpr h))];exact n
 ·obtain⟨o,C,D,E,r⟩:=w;refine⟨o,C,D,k _ o (λz=>(g _ z).2.1 rfl) E,r⟩
 ·by_cases f:b=T
  ·subst f;rw[jy] at e;cases e;exact⟨hz,its.toList,l,by simpa using j⟩
  ·rw[jm f] at e;refine(I.hok b u e).stay (λc v a q=>k c v ?_ q) (λc q=>by rw[jm (d c _ q)];exact q) λc t q=>by rw[jm (d c _ q)];exact q
   rcases a with z | z
   ·rw[z];exact i b u e
   ·exact i c _ z
theorem Inv.turnedL{t':Nat}{wr:List Addr}(I:Inv X pins σ H s)(k:∀ b o,b∉wr->s.heap.get? b=some o->h'.get? b=some o)(d:∀ b∈wr,jcs X pins H b):Inv X pins σ H { s with heap:=h',toks:=t' }:=by
 have f:∀ b u,H b=some u->b∉wr:=λb u e z=>by rw[(d b z).1] at e;cases e
 refine I.step (g':=s.gens) (d':=s.drawn) (ch:=wr) (λb g=>?_) (λb o _ _ a e _=>k b o a e) (λb o _ _ a e _=>⟨o.slots,k b o a e⟩) (λb o _ e n=>n)
  (λb o a e=>⟨o,k b o a e⟩) (λb y e=>e) (λb o u e=>e) (λb A e=>⟨#[],by rw[e];simp⟩) (λm h=>?_) (λb u e=>?_) I.bare
 ·obtain⟨_,i,_,j,l,p⟩:=d b g;exact⟨j,i,l,p⟩
 ·obtain⟨o,t,w,x,r⟩:=h;refine⟨o,t,w,k _ o (λz=>(d _ z).2.1 rfl) x,r⟩
 ·refine(I.hok b u e).stay (λc v a q=>k c v ?_ q) (λ_ q=>q) λ_ _ q=>q;rcases a with z | z
  ·rw[z];exact f b u e
  ·exact f c _ z
end
noncomputable def Ite(K:PySem.W.Frag)(l:Addr):It :=
 ⟨λi H=>∃ xs x,SqL K H l xs/\xs[i]?=some x,λi H x H'=>∃ p v,(∀ xs,SqL K H l xs->xs[i]?=some v)/\x=.ref p/\H p=none/\H'=upd H p (.tup [.int i,v]),λi H=>∃ xs,SqL K H l xs/\xs.length<=i⟩
theorem jd3{P:Program}{w:World}{K:PySem.W.Frag}{r:List Expr}{n:Nat}{pos:Pos}(e it l:Addr)(t:e≠it)(hle:l≠e)(hli:l≠it) :
  Turn P w K (.Tuple r n pos) (Ite K l) [e,it] e (λi h=>(∃ old,IsEnum h e it i old)/\h.IsListIter it l i) where
 mem:=by simp
 obj:=λi h d b f=>by
  obtain⟨⟨old,g⟩,o,J,L,hd⟩:=d;rcases(by simpa using f:b=e \/ b=it) with z | z
  ·subst z;exact⟨_,g,λv q=>by cases q⟩
  ·subst z;exact⟨o,J,λv q=>by rw[hd] at q;cases q⟩
 keep:=λi h h' d k=>by
  obtain⟨⟨old,g⟩,a⟩:=d;exact⟨⟨old,k e (by simp) _ g⟩,a.at λo q=>k it (by simp) o q⟩
 item:=by
  intro X M N O L i y s σ H E I D d Q;subst M N O;obtain⟨Z,x,F,R⟩:=Q;obtain⟨A,S,p,hz⟩:=I.list F;obtain⟨u,hu,ru⟩:=S.get R;obtain⟨⟨old,g⟩,a⟩:=d;refine wpAny_pyNext_enum_item g a p.isList (x:=u) (by simpa using hu) t λU J B hT hsz hk=>?_;refine⟨_,rfl,wpAny_letOwnedTupleGo_enum (s:={ s with heap:=U,toks:=s.toks+1 }) J λG V c=>?_⟩;replace c:Heap.SameBut e U G:=c;have j:e < s.heap.objs.size:=N1 g;have C:G.get? s.heap.objs.size=_:=(c.2 _ (Nat.ne_of_gt j)).trans hT;have kk:∀ b o,b∉[e,it]->s.heap.get? b=some o->G.get? b=some o:=λb o f q=>by
   have m:b≠e/\b≠it:=by simpa using f
   exact(c.2 b m.1).trans (hk b o m.1 m.2 q)
  have I1:=I.turnedNew (h':=G) (t':=s.toks+1) (wr:=[e,it]) (T:=s.heap.objs.size) (xs:=[.int i,x]) (its:=#[.int i s.toks,u]) kk D (M9 _) ⟨⟨_,C,rfl,_,rfl⟩,_,C,rfl⟩ (.cons ⟨_,rfl⟩ (.cons ru .nil)) (by show 2<=sizeLine;decide);refine⟨.ref s.heap.objs.size,_,I1,rfl,⟨_,x,(λys hy=>by rw[I.list_inj hy F];exact R),rfl,I.hok.fresh (M9 _),rfl⟩,⟨⟨_,by simpa using V⟩,B.at λo q=>(c.2 it t.symm).trans q⟩,λb f=>?_⟩;rw[jm]
  ·exact(D b f).1
  ·intro z;have:b < s.heap.objs.size:=by
    obtain⟨oi,Y,_⟩:=id a;rcases(by simpa using f:b=e \/ b=it) with q | q
    ·rw[q];exact j
    ·rw[q];exact N1 Y
   exact absurd this (by rw[z];exact Nat.lt_irrefl _)
 done:=by
  intro X M N O L i y s σ H E I D d Q;subst M N O;obtain⟨Z,F,R⟩:=Q;obtain⟨A,S,p,hz⟩:=I.list F;obtain⟨⟨old,g⟩,a⟩:=d;have hl:=S.length;exact wpAny_pyNext_enum_end (I.ok.hd L) g a p.isList (by simp;omega) λU eb=>⟨rfl,I.turnedL (t':=s.toks) (wr:=[e,it]) (λb o f q=>eb b o (by simp at f;exact f.2) q) D⟩
 self:=λ_ _ _ _ _ d h=>wpAny_pyIter_enum d.1.choose_spec h
noncomputable def jii(K:PySem.W.Frag)(tl:TA):TI:=λσ H R=>tl σ H λvs H1=>∃ a xs,vs=[.ref a]/\SqL K H1 a xs/\R (Ite K a) H1
section
variable {X:Cx}
theorem jjW{f:List Expr}{n:Nat}{tpos p pos:Pos}{a:Expr}{ta:TA}(w:Gl X "enumerate")(x:X.mg "enumerate" = none)(y:PA X [a] ta)(A:starEach [a] X.env=[(false,eval a X.env)]:=by rfl) :
  PI X (.Tuple f n tpos) (.Call (.Name "enumerate" p) [a] [] pos) (jii X.K ta):=by
 intro d s σ H R I h;refine Call_ (VB I w x (show bootBuiltins "enumerate" = some (.type "enumerate") by decide +kernel) (PyProof.Rows.callWith_type1 (thn (y pos d s σ H _ I h) λN c ⟨O,m,j,B,C⟩=>?_) A rfl));obtain⟨l,P,rfl,D,q⟩:=C;obtain⟨u,rfl,E⟩:=B.one;cases E;obtain⟨F,Q,r,S⟩:=j.list D;have g:l < c.heap.objs.size:=by
  obtain⟨o,_,e,_⟩:=r;exact N1 e
 refine call_enumerate_list r.isList λt v k G J=>?_;have L:Inv X d σ m { c with heap:=t }:=j.kept (t':=c.toks) J;refine PySem.wpAny_pyIter_enum (s:={ c with heap:=t }) v ?_;refine⟨c.heap.objs.size+1,[c.heap.objs.size+1,c.heap.objs.size],_,_,m,rfl,L,jd3 _ _ l (Nat.succ_ne_self _) (N7 (Nat.lt_succ_of_lt g)) (N7 g),⟨⟨_,v⟩,k⟩,λb M=>?_,q⟩;have i:c.heap.objs.size<=b:=by
  rcases(by simpa using M:b=c.heap.objs.size+1 \/ b=c.heap.objs.size) with z | z
  ·rw[z];exact Nat.le_succ _
  ·rw[z];exact M9 _
 exact j.fpOk i (j.hok.fresh i)
end
theorem jfv(n a l2:Nat)(h1:a < n)(h2:l2 < n):ZipApart (n+4) (n+2) (n+3) n (n+1) a l2:=by
 constructor<;>(show @Ne Nat _ _)<;>omega
section
variable {X:Cx}
theorem jam(g:X.calm=true):Vy X (.builtin "sum") (λxs H Q=>∃(p:Addr) (ns:List Int),xs=[.ref p]/\SqL X.K H p (ns.map V.int)/\Q (.int ns.sum) H):=by
 intro d s σ H xs t Q I r h;obtain⟨p,ns,rfl,i,q⟩:=h;obtain⟨u,rfl,j⟩:=r.one;cases j;obtain⟨a,k,l,v⟩:=I.list i;have e:IntsAre a ns:=x3 k;obtain⟨b,f⟩:=e.allInts.items;have c:s.heap.IsList p (intItems b):=f▸l.isList;refine sum_intListG (I.ok.hd g) c λw x y m=>?_;have n:ns=b.toList.map (·.1):=by
  rw[<- nums_intItems,<- f];exact(show numsOf a.toArray.toList=ns from e.numsOf).symm
 have o:preSum (numAt b) b.size=ns.sum:=by
  rw[preSum_eq,List.take_of_length_le (by simp),n]
 rw[o];exact⟨.int ns.sum,H,I.kept m,⟨_,rfl⟩,q⟩
inductive TyQ (K:PySem.W.Frag) (H:Hp):V->String->Prop where
 | non:TyQ K H .non "NoneType"
 | bl (x:Bool):TyQ K H (.bl x) "bool"
 | int (i:Int):TyQ K H (.int i) "int"
 | str (x:Str):TyQ K H (.str x) "str"
 | lst {a:Addr}{xs:List V}(e:SqL K H a xs):TyQ K H (.ref a) "list"
 | tup {a:Addr}{xs:List V}(e:SqT K H a xs):TyQ K H (.ref a) "tuple"
 | dK {a:Addr}{kvs:List (Key×V)}(e:H a=some (.dK kvs)):TyQ K H (.ref a) "dict"
theorem ul:Vy X (.builtin "isinstance") (λxs H Q=>∃ x T t b,xs=[x,.ty T]/\TyQ X.K H x t/\PySem.W.kitOne X.K (.type t) (.type T)=some b/\Q (.bl b) H):=by
 intro f s σ H xs C Q I r h;obtain⟨x,T,t,b,rfl,ty,e,q⟩:=h;obtain⟨u,v,rfl,d,B⟩:=r.two;cases B;have c:∀ l,EP X f σ Q (.bool b) { s with toks:=l }:=λl=>⟨.bl b,H,I.tok l,rfl,q⟩;cases ty with
 | non=>cases(show u=Value.none from d);exact PySem.W.kia_one PySem.W.kitx_none I.kIn True.intro e (λz=>nomatch z) c
 | bl y=>cases(show u=Value.bool y from d);exact PySem.W.kia_one PySem.W.kitx_bool I.kIn True.intro e (λz=>nomatch z) c
 | int i=>obtain⟨t,q⟩:=(show ∃ t,u=Value.int i t from d);cases q;exact PySem.W.kia_one PySem.W.kitx_int I.kIn True.intro e (λz=>nomatch z) c
 | str y=>obtain⟨t,q⟩:=(show ∃ t,u=Value.str y t from d);cases q;exact PySem.W.kia_one PySem.W.kitx_str I.kIn True.intro e (λz=>nomatch z) c
 | @lst a xs g =>
  cases(show u=Value.ref a from d);obtain⟨m,_,⟨o,n,j,k,_,_⟩,_⟩:=I.list g;exact PySem.W.kia_one PySem.W.kitx_list I.kIn ⟨o,j,k⟩ e (λz=>nomatch z) c
 | @tup a xs g =>
  cases(show u=Value.ref a from d);obtain⟨m,_,⟨o,j,k,_⟩,_⟩:=I.tuple g;exact PySem.W.kia_one PySem.W.kitx_tuple I.kIn ⟨o,j,k⟩ e (λz=>nomatch z) c
 | @dK a A g =>
  cases(show u=Value.ref a from d);obtain⟨_,_,D,_,p⟩:=(show ObjOk X.prog X.w H s.heap a (.dK A) from I.hok a _ g);obtain⟨o,E,F,j,k,_⟩:=p;exact PySem.W.kia_one PySem.W.kitx_dict I.kIn ⟨o,j,k.1⟩ e (λz=>nomatch z) c
end
end L2
namespace QD
open PySem L2
theorem Qs(h:OpR X f r)(h':OpR X f r'):OpR X f (λx y H Q=>r x y H Q \/ r' x y H Q):=by
 intro a s σ H x y v u Q I b c q;rcases q with q | q
 ·exact h a s σ H x y v u Q I b c q
 ·exact h' a s σ H x y v u Q I b c q
theorem Rep.lst_of(r:Rep R Z H (.lst o l) v O):∃ a vs O',v=.ref a/\SqX R.K H a vs/\Reps R Z H l vs O':=by
 rw[Rep] at r;obtain⟨a,vs,O',rfl,b,h⟩:=r;cases o with
 | true=>exact⟨a,vs,O',rfl,SqX.of h.1,b⟩
 | false=>exact⟨a,vs,O',rfl,FL.sqx h.1,b⟩
theorem Rep.tup_of(r:Rep R Z H (.tup l) v O):∃ a vs,v=.ref a/\SqT R.K H a vs/\Reps R Z H l vs O:=by
 rw[Rep] at r;obtain⟨a,vs,rfl,h,b⟩:=r;exact⟨a,vs,rfl,h.sq,b⟩
theorem Reps.frozen(r:Reps R Z H l vs O)(f:frzs l=true):Reps R Z H l vs []:=by
 cases r.nil f;exact r
noncomputable def jic(i:Int):Bool:=decide (Builtin.Int.intBits i<=2 ^ 20)
theorem jdC(h:i.natAbs < 2 ^ 1000):jic i=true:=X4 (jcD h (by decide))
noncomputable def jG(x y:D):Option D:=match x with
 | .int i=>(match y with
  | .int j=>some (.int (i+j))
  | _=>none)
 | .str a=>(match y with
  | .str b=>bif lim (a.length+b.length) then some (.str (a++b)) else none
  | _=>none)
 | .lst _ a=>(match y with
  | .lst _ b=>bif lim (a.length+b.length)&&(frzs a&&frzs b) then some (.lst true (a++b)) else none
  | _=>none)
 | .tup a=>(match y with
  | .tup b=>bif lim (a.length+b.length)&&(frzs a&&frzs b)&&!a.isEmpty then some (.tup (a++b)) else none
  | _=>none)
 | _=>none
noncomputable def jmu:R2:=λx y H Q=>∃ a b,x=.str (S a)/\y=.str (S b)/\a.length+b.length<=sizeLine/\Q (.str (S (a++b))) H
noncomputable def jes(K:PySem.W.Frag):R2:=λx y H Q=>rI0 (λi j=>.int (i+j)) x y H Q \/ jmu x y H Q \/ jkD K x y H Q \/ jlS K x y H Q
theorem jeM:OpR X (binaryOp .Add) (jes X.K):=Qs jlr (Qs jiH (Qs jh4 jiu))
theorem jg8:BO R (jes R.K) jG:=by
 intro Z H x y d v u O1 O2 z f h e Q k;cases x with
 | int i =>
  cases y with
  | int j =>
   cases e;obtain⟨rfl,_⟩:=f.int_of;obtain⟨rfl,_⟩:=h.int_of;exact .inl ⟨i,j,rfl,rfl,k (Go.id z) .int_mk⟩
  | _=>cases e
 | str a =>
  cases y with
  | str b =>
   simp only[jG] at e;cases hl:lim (a.length+b.length) with
   | false=>rw[hl] at e;cases e
   | true =>
    rw[hl] at e;cases e;obtain⟨rfl,_⟩:=f.str_of;obtain⟨rfl,_⟩:=h.str_of;exact .inr (.inl ⟨a,b,rfl,rfl,KR hl,k (Go.id z) .str_mk⟩)
  | _=>cases e
 | lst o a =>
  cases y with
  | lst E b =>
   simp only[jG] at e;cases hl:lim (a.length+b.length)&&(frzs a&&frzs b) with
   | false=>rw[hl] at e;cases e
   | true =>
    rw[hl] at e;cases e;simp only[M0] at hl;obtain⟨p,l,F,rfl,m,c⟩:=f.lst_of;obtain⟨q,n,A,rfl,r,rt⟩:=h.lst_of;have s:=(c.frozen hl.2.1).append (rt.frozen hl.2.2);exact .inr (.inr (.inl ⟨p,q,l,n,rfl,rfl,m,r,by rw[c.length,rt.length];exact KR hl.1,λb g=>k (Go.newO (wf0 z) g) (Rep.lstNew (wf0 z) g s)⟩))
  | _=>cases e
 | tup a =>
  cases y with
  | tup b =>
   simp only[jG] at e;cases hl:lim (a.length+b.length)&&(frzs a&&frzs b)&&!a.isEmpty with
   | false=>rw[hl] at e;cases e
   | true =>
    rw[hl] at e;cases e;simp only[M0] at hl;obtain⟨p,l,rfl,m,c⟩:=f.tup_of;obtain⟨q,n,rfl,r,rt⟩:=h.tup_of;have s:=(c.frozen hl.1.2.1).append (rt.frozen hl.1.2.2);have t:l≠[]:=by
     intro B;have:=c.length;rw[B] at this;have w:a=[]:=List.eq_nil_of_length_eq_zero this.symm;rw[w] at hl;simp at hl
    refine .inr (.inr (.inr ⟨p,q,l,n,rfl,rfl,m,r,t,by rw[c.length,rt.length];exact KR hl.1.1,(λw=>?_),λ_ b g=>k (Go.newF (wf0 z) g) (Rep.tupNew (wf0 z) g s)⟩));have C:b=[]:=List.eq_nil_of_length_eq_zero (by rw[<- rt.length,w];rfl);subst C;rw[N0] at k;have D:=c.nil hl.1.2.1;subst D;exact k (Go.id z) f
  | _=>cases e
 | _=>cases e
noncomputable def two(f:Int->Int->Option D):D->D->Option D
 | .int i,.int j=>f i j
 | _,_=>none
theorem two_of(e:two f x y=some d):∃ i j,x=.int i/\y=.int j/\f i j=some d:=by
 cases x with
 | int i =>
  cases y with
  | int j=>exact⟨i,j,rfl,rfl,e⟩
  | _=>cases e
 | _=>cases y<;>cases e
noncomputable def jfx:D->D->Option D:=two λi j=>some (.int (i - j))
theorem jkl:BO R (rI0 λi j=>.int (i - j)) jfx:=by
 intro Z H x y d v u O1 O2 z a b e Q k;replace e:=two_of e;obtain⟨i,j,rfl,rfl,e⟩:=e;cases e;obtain⟨rfl,_⟩:=a.int_of;obtain⟨rfl,_⟩:=b.int_of;exact⟨i,j,rfl,rfl,k (Go.id z) .int_mk⟩
noncomputable def vw(x y:D):Option D:=match y with
 | .int n=>(match x with
  | .int i=>bif jic i&&jic n then some (.int (i*n)) else none
  | .str a=>bif decide (a.length<=1000)&&(decide (0<=n)&&decide (n<=1000)) then some (.str (List.replicate n.toNat a).flatten) else none
  | _=>none)
 | _=>none
noncomputable def jjq:R2:=λx y H Q=>rI (λi j=>Builtin.Int.intBits i<=2 ^ 20/\Builtin.Int.intBits j<=2 ^ 20) (λi j=>.int (i*j)) x y H Q \/
 ∃(a:List Nat) (n:Int),x=.str (S a)/\y=.int n/\a.length<=1000/\0<=n/\n<=1000/\Q (.str (S (List.replicate n.toNat a).flatten)) H
theorem jit:OpR X (binaryOp .Mult) jjq:=Qs jhR jjn
theorem jmh:BO R jjq vw:=by
 intro Z H x y d v u O1 O2 z b c e Q k;cases y with
 | int n =>
  cases x with
  | int i =>
   simp only[vw] at e;cases hl:jic i&&jic n with
   | false=>rw[hl] at e;cases e
   | true =>
    rw[hl] at e;cases e;rw[M0] at hl;obtain⟨rfl,_⟩:=b.int_of;obtain⟨rfl,_⟩:=c.int_of;exact .inl ⟨i,n,rfl,rfl,⟨X6 hl.1,X6 hl.2⟩,k (Go.id z) .int_mk⟩
  | str a =>
   simp only[vw] at e;cases hl:decide (a.length<=1000)&&(decide (0<=n)&&decide (n<=1000)) with
   | false=>rw[hl] at e;cases e
   | true =>
    rw[hl] at e;cases e;simp only[M0,decide_eq_true_eq] at hl;obtain⟨rfl,_⟩:=b.str_of;obtain⟨rfl,_⟩:=c.int_of;exact .inr ⟨a,n,rfl,rfl,hl.1,hl.2.1,hl.2.2,k (Go.id z) .str_mk⟩
  | _=>cases e
 | _=>cases e
noncomputable def jaA(j:Int):Bool:=decide (0 < j)&&decide (j < 2 ^ 300)
theorem jed(h:jaA j=true):0 < j/\j.natAbs.log2 < 9000:=by
 unfold jaA at h;simp only[M0,decide_eq_true_eq] at h;refine⟨h.1,?_⟩;have a:j.natAbs < 2 ^ 300:=by omega
 have b:j.natAbs≠0:=by omega
 have:=(Nat.log2_lt b (k:=300)).mpr a;omega
theorem jfP:OpR X (binaryOp .FloorDiv) (rI (λ_ j=>jaA j=true) λi j=>.int (i / j)):=opI λi j t u s Q E a q=>by
 obtain⟨b,c⟩:=jed a;have e:i / j=i.fdiv j:=(Int.fdiv_eq_ediv_of_nonneg i (Int.le_of_lt b)).symm;rw[e] at q;exact PyProof.Rows.floordiv_int (by omega) q (.inl (PyProof.noPylong_of_log2 c))
noncomputable def jZ:D->D->Option D:=two λi j=>bif jaA j then some (.int (i / j)) else none
noncomputable def jC:D->D->Option D:=two λi j=>bif decide (0 < j) then some (.int (i % j)) else none
noncomputable def jgj:D->D->Option D:=two λi j=>bif decide (0<=j)&&decide (j<=100)&&decide (i.natAbs < 2 ^ 64) then some (.int (i ^ j.toNat)) else none
theorem jkr:BO R (rI (λ_ j=>jaA j=true) λi j=>.int (i / j)) jZ:=by
 intro Z H x y d v u O1 O2 z a b e Q k;replace e:=two_of e;obtain⟨i,j,rfl,rfl,e⟩:=e;cases hl:jaA j with
 | false=>rw[hl] at e;cases e
 | true =>
  rw[hl] at e;cases e;obtain⟨rfl,_⟩:=a.int_of;obtain⟨rfl,_⟩:=b.int_of;exact⟨i,j,rfl,rfl,hl,k (Go.id z) .int_mk⟩
theorem jlJ:BO R (rI (λ_ j=>0 < j) λi j=>.int (i % j)) jC:=by
 intro Z H x y d v u O1 O2 z b c e Q k;replace e:=two_of e;obtain⟨i,j,rfl,rfl,e⟩:=e;by_cases a:0 < j
 ·rw[X4 a] at e;cases e;obtain⟨rfl,_⟩:=b.int_of;obtain⟨rfl,_⟩:=c.int_of;exact⟨i,j,rfl,rfl,a,k (Go.id z) .int_mk⟩
 ·rw[X5 a] at e;cases e
theorem jl7:BO R (rI jmK λi j=>.int (i ^ j.toNat)) jgj:=by
 intro Z H x y d v u O1 O2 z a b e Q k;replace e:=two_of e;obtain⟨i,j,rfl,rfl,e⟩:=e;cases hl:decide (0<=j)&&decide (j<=100)&&decide (i.natAbs < 2 ^ 64) with
 | false=>rw[hl] at e;cases e
 | true =>
  rw[hl] at e;cases e;simp only[M0,decide_eq_true_eq] at hl;obtain⟨rfl,_⟩:=a.int_of;obtain⟨rfl,_⟩:=b.int_of;exact⟨i,j,rfl,rfl,⟨hl.1.1,by omega,hl.2⟩,k (Go.id z) .int_mk⟩
noncomputable def jcQ:D->Option D
 | .int i=>some (.int (-i))
 | _=>none
theorem jka:BU R (rU λi=>.int (-i)) jcQ:=by
 intro Z H x d v O z a e Q k;cases x with
 | int i =>
  cases e;obtain⟨rfl,_⟩:=a.int_of;exact⟨i,rfl,k (Go.id z) .int_mk⟩
 | _=>cases e
noncomputable def opB(g:Int->Int->Bool):D->D->Option D:=two λi j=>some (.bl (g i j))
theorem jmL:BO R (rI0 λi j=>.bl (g i j)) (opB g):=by
 intro Z H x y d v u O1 O2 z a b e Q k;replace e:=two_of e;obtain⟨i,j,rfl,rfl,e⟩:=e;cases e;obtain⟨rfl,_⟩:=a.int_of;obtain⟨rfl,_⟩:=b.int_of;exact⟨i,j,rfl,rfl,k (Go.id z) .bl_mk⟩
noncomputable abbrev jir:D->D->Option D:=opB λi j=>decide (i < j)
noncomputable abbrev ug:D->D->Option D:=opB λi j=>decide (j < i)
noncomputable abbrev jj3:D->D->Option D:=opB λi j=>decide (j<=i)
noncomputable def VL:D->Bool
 | .non=>true | .bl _=>true | .int _=>true | .str _=>true
 | _=>false
noncomputable def eqF:D->D->Bool
 | .non,.non=>true
 | .bl a,.bl b=>a==b
 | .int a,.int b=>a==b
 | .str a,.str b=>a==b
 | _,_=>false
noncomputable def wy:D->D->Bool
 | .bl _,.int _=>false
 | .int _,.bl _=>false
 | _,_=>true
theorem jd2(d:Rep R Z H x v O1)(c:Rep R Z H y u O2)(h:(VL x&&VL y&&wy x y)=true):jmN v u=true/\decide (v=u)=eqF x y:=by
 cases x with
 | non =>
  obtain⟨rfl,_⟩:=d.non_of;cases y with
  | non=>obtain⟨rfl,_⟩:=c.non_of;exact⟨rfl,rfl⟩
  | bl b=>obtain⟨rfl,_⟩:=c.bl_of;exact⟨rfl,rfl⟩
  | int b=>obtain⟨rfl,_⟩:=c.int_of;exact⟨rfl,rfl⟩
  | str b=>obtain⟨rfl,_⟩:=c.str_of;exact⟨rfl,rfl⟩
  | _=>cases h
 | bl a =>
  obtain⟨rfl,_⟩:=d.bl_of;cases y with
  | non=>obtain⟨rfl,_⟩:=c.non_of;exact⟨rfl,rfl⟩
  | bl b=>obtain⟨rfl,_⟩:=c.bl_of;exact⟨rfl,by rw[jd0];rfl⟩
  | str b=>obtain⟨rfl,_⟩:=c.str_of;exact⟨rfl,rfl⟩
  | _=>cases h
 | int a =>
  obtain⟨rfl,_⟩:=d.int_of;cases y with
  | non=>obtain⟨rfl,_⟩:=c.non_of;exact⟨rfl,rfl⟩
  | int b=>obtain⟨rfl,_⟩:=c.int_of;exact⟨rfl,by rw[jaN];rfl⟩
  | str b=>obtain⟨rfl,_⟩:=c.str_of;exact⟨rfl,rfl⟩
  | _=>cases h
 | str a =>
  obtain⟨rfl,_⟩:=d.str_of;cases y with
  | non=>obtain⟨rfl,_⟩:=c.non_of;exact⟨rfl,rfl⟩
  | bl b=>obtain⟨rfl,_⟩:=c.bl_of;exact⟨rfl,rfl⟩
  | int b=>obtain⟨rfl,_⟩:=c.int_of;exact⟨rfl,rfl⟩
  | str b =>
   obtain⟨rfl,_⟩:=c.str_of;refine⟨rfl,?_⟩;rw[Bool.eq_iff_iff];simp[eqF,jmT]
  | _=>cases h
 | _=>cases h
noncomputable def inL(x:D)(l:List D):Bool:=l.any λy=>eqF y x
noncomputable def jcW(x:D)(l:List D):Bool:=VL x&&l.all λy=>VL y&&wy y x
noncomputable def QM(neg:Bool)(x y:D):Option D:=match y with
 | .str s=>(match x with
  | .str [c]=>some (.bl (neg != decide (c∈s)))
  | _=>none)
 | .lst _ l=>bif jcW x l then some (.bl (neg != inL x l)) else none
 | .tup l=>bif jcW x l then some (.bl (neg != inL x l)) else none
 | _=>none
theorem Reps.flat(c:Rep R Z H x v P)(d:VL x=true):∀{l:List D}{vs:List V}{O:List Addr},Reps R Z H l vs O->(l.all λy=>VL y&&wy y x)=true->Q8 v=true/\vs.all Q8=true/\inV v vs=inL x l
 | [],_,_,h,_=>by
  rw[Reps] at h;obtain⟨rfl,_⟩:=h;refine⟨?_,rfl,rfl⟩;cases x with
  | non=>obtain⟨rfl,_⟩:=c.non_of;rfl
  | bl b=>obtain⟨rfl,_⟩:=c.bl_of;rfl
  | int b=>obtain⟨rfl,_⟩:=c.int_of;rfl
  | str b=>obtain⟨rfl,_⟩:=c.str_of;rfl
  | _=>cases d
 | y::l,_,_,h,f=>by
  rw[Reps] at h;obtain⟨u,vs,O1,O2,rfl,rfl,g,i⟩:=h;rw[List.all_cons,M0] at f;obtain⟨j,k,m⟩:=Reps.flat c d i f.2;have e:Q8 u=true/\eqV u v=eqF y x:=by
   cases y with
   | non =>
    obtain⟨rfl,_⟩:=g.non_of;cases x with
    | non=>obtain⟨rfl,_⟩:=c.non_of;exact⟨rfl,rfl⟩
    | bl b=>obtain⟨rfl,_⟩:=c.bl_of;exact⟨rfl,rfl⟩
    | int b=>obtain⟨rfl,_⟩:=c.int_of;exact⟨rfl,rfl⟩
    | str b=>obtain⟨rfl,_⟩:=c.str_of;exact⟨rfl,rfl⟩
    | _=>cases d
   | bl a =>
    obtain⟨rfl,_⟩:=g.bl_of;cases x with
    | non=>obtain⟨rfl,_⟩:=c.non_of;exact⟨rfl,rfl⟩
    | bl b=>obtain⟨rfl,_⟩:=c.bl_of;exact⟨rfl,rfl⟩
    | str b=>obtain⟨rfl,_⟩:=c.str_of;exact⟨rfl,rfl⟩
    | int b=>exact absurd f.1 (by simp[wy])
    | _=>cases d
   | int a =>
    obtain⟨rfl,_⟩:=g.int_of;cases x with
    | non=>obtain⟨rfl,_⟩:=c.non_of;exact⟨rfl,rfl⟩
    | int b=>obtain⟨rfl,_⟩:=c.int_of;exact⟨rfl,rfl⟩
    | str b=>obtain⟨rfl,_⟩:=c.str_of;exact⟨rfl,rfl⟩
    | bl b=>exact absurd f.1 (by simp[wy])
    | _=>cases d
   | str a =>
    obtain⟨rfl,_⟩:=g.str_of;cases x with
    | non=>obtain⟨rfl,_⟩:=c.non_of;exact⟨rfl,rfl⟩
    | bl b=>obtain⟨rfl,_⟩:=c.bl_of;exact⟨rfl,rfl⟩
    | int b=>obtain⟨rfl,_⟩:=c.int_of;exact⟨rfl,rfl⟩
    | str b =>
     obtain⟨rfl,_⟩:=c.str_of;refine⟨rfl,?_⟩;rw[Bool.eq_iff_iff];simp[eqF,eqV,jmT]
    | _=>cases d
   | _=>exact absurd f.1 (by simp[VL])
  refine⟨j,by rw[List.all_cons,e.1,k];rfl,?_⟩;show(eqV u v||inV v vs)=(eqF y x||inL x l);rw[e.2,m]
noncomputable def jnP(neg:Bool):R2:=λx y H Q=>∃ c l,x=.str (S [c])/\y=.str (S l)/\Q (.bl (if neg then !decide (c∈l) else decide (c∈l))) H
noncomputable def jj4(K:PySem.W.Frag)(neg:Bool):R2:=λx y H Q=>jnP neg x y H Q \/ rIn K neg x y H Q
theorem jl4:OpR X (compareOp .In) (jj4 X.K false):=Qs jkq jdt
theorem jeh:OpR X (compareOp .NotIn) (jj4 X.K true):=Qs jfl jaj
theorem jaE(neg b:Bool):(if neg=true then !b else b)=(neg != b):=by cases neg<;>cases b<;>rfl
theorem jmc:BO R (jj4 R.K neg) (QM neg):=by
 intro Z H x y d v u O1 O2 z b f e Q k;cases y with
 | str s =>
  cases x with
  | str t =>
   match t,e,b with
   | [c],e,b =>
    cases e;obtain⟨rfl,_⟩:=b.str_of;obtain⟨rfl,_⟩:=f.str_of;refine .inl ⟨c,s,rfl,rfl,?_⟩;rw[jaE];exact k (Go.id z) .bl_mk
   | [],e,b=>cases e
   | _::_::_,e,b=>cases e
  | _=>cases e
 | lst o l =>
  have a:(bif jcW x l then some (D.bl (neg != inL x l)) else none)=some d:=e;cases hl:jcW x l with
  | false=>rw[hl] at a;cases a
  | true =>
   rw[hl] at a;cases a;unfold jcW at hl;rw[M0] at hl;obtain⟨p,g,q,rfl,h,i⟩:=f.lst_of;obtain⟨j,m,n⟩:=i.flat b hl.1 hl.2;refine .inr ⟨p,g,rfl,.inl h.sq,j,m,?_⟩;rw[n,jaE];exact k (Go.id z) .bl_mk
 | tup l =>
  have a:(bif jcW x l then some (D.bl (neg != inL x l)) else none)=some d:=e;cases hl:jcW x l with
  | false=>rw[hl] at a;cases a
  | true =>
   rw[hl] at a;cases a;unfold jcW at hl;rw[M0] at hl;obtain⟨p,g,rfl,h,i⟩:=f.tup_of;obtain⟨j,m,n⟩:=i.flat b hl.1 hl.2;refine .inr ⟨p,g,rfl,.inr h,j,m,?_⟩;rw[n,jaE];exact k (Go.id z) .bl_mk
 | _=>cases e
noncomputable def jq(x y:D):Option D:=match y with
 | .int i=>(match x with
  | .lst _ l=>atI l i
  | .tup l=>atI l i
  | .str s=>bif lim s.length then(match atI s i with
   | some c=>some (.str [c])
   | none=>none) else none
  | _=>none)
 | _=>none
theorem Reps.atI(r:Reps R Z H l vs O)(e:L2.atI l i=some d):∃ v P,L2.atI vs i=some v/\Rep R Z H d v P:=by
 unfold L2.atI at e ⊢;rw[r.length];cases h:ixN l.length i with
 | none=>rw[h] at e;cases e
 | some j =>
  rw[h] at e;obtain⟨v,A,P,B,a,_,b,_⟩:=r.at (show l[j]?=some d from e);exact⟨v,P,a,b⟩
theorem jm0:BO' R (rIx R.K) jq:=by
 intro Z H x y d v u O1 O2 z a n e Q k;cases y with
 | int i =>
  obtain⟨rfl,_⟩:=n.int_of;cases x with
  | lst o l =>
   obtain⟨p,b,q,rfl,f,g⟩:=a.lst_of;obtain⟨w,P,j,m⟩:=g.atI e;exact .inl ⟨p,b,i,w,rfl,rfl,f.sq,j,k m⟩
  | tup l =>
   obtain⟨p,b,rfl,f,g⟩:=a.tup_of;obtain⟨w,P,j,m⟩:=g.atI e;exact .inr (.inl ⟨p,b,i,w,rfl,rfl,f,j,k m⟩)
  | str s =>
   obtain⟨rfl,_⟩:=a.str_of;simp only[jq] at e;cases hl:lim s.length with
   | false=>rw[hl] at e;cases e
   | true =>
    rw[hl,cond_true] at e;cases h:L2.atI s i with
    | none=>rw[h] at e;cases e
    | some c =>
     rw[h] at e;cases e;refine .inr (.inr ⟨S s,i,c,rfl,rfl,by rw[xg];exact KR hl,by rw[VE];exact h,?_⟩);rw[jh2];exact k .str_mk
  | _=>cases e
 | _=>cases e
noncomputable abbrev OF:=Rh->Option (Option Int)
def PO'(R:RC)(t:TO)(p:OF):Prop:=∀{σ:St}{ρ:Rh}{Z:Zn}{H:Hp}{O:List Addr}{i:Option Int},Zd Z H->Slots R Z H ρ σ O->p ρ=some i ->
 ∀{Q:Option Int->Hp->Prop},(∀{Z':Zn}{H':Hp},Go Z H [] Z' H' []->Q i H')->t σ H Q
noncomputable def oN:OF:=λ_=>some none
noncomputable def oS(p:PF):OF:=λρ=>match p ρ with
 | some (.int i)=>some (some i)
 | _=>none
theorem jnH:PO' R jaV oN:=by
 intro σ ρ Z H O i z s e Q k;cases e;exact k (Go.id z)
theorem jnK(h:PB R te p):PO' R (jjr te) (oS p):=by
 intro σ ρ Z H O i z s e Q k;unfold oS at e;split at e
 ·rename_i j a;cases e;refine h z s a λ{v d f P1} b c=>?_;obtain⟨rfl,_⟩:=c.int_of;exact⟨j,rfl,k b⟩
 ·cases e
noncomputable def jft(lo hi:Option Int):D->Option D
 | .str s=>bif lim s.length then some (.str (vy s lo hi)) else none
 | .lst _ l=>bif frzs l then some (.lst true (vy l lo hi)) else none
 | .tup l=>bif frzs l&&decide ((vy l lo hi).length < l.length) then some (.tup (vy l lo hi)) else none
 | _=>none
def jmq(K:PySem.W.Frag):V->Option Int->Option Int->Hp->VK->Prop:=λx lo hi H Q=>jnw x lo hi H Q \/ jnz K x lo hi H Q \/ jnC K x lo hi H Q
theorem jnI:SlR X (jmq X.K):=SlR.or jkY (SlR.or jjb jkn)
noncomputable def pSl(pa:PF)(pl ph:OF):PF:=λρ=>match pa ρ with
 | none=>none
 | some x=>match pl ρ with
  | none=>none
  | some lo=>match ph ρ with
   | none=>none
   | some hi=>jft lo hi x
theorem Reps.cut(r:Reps R Z H l vs [])(lo hi:Option Int):Reps R Z H (vy l lo hi) (jhD vs lo hi) []:=by
 unfold vy jhD;rw[r.length];exact(r.drop _).take _
theorem jm7(C:PB R te pa)(D:PO' R tl pl)(E:PO' R th ph):PP R (tSl (jmq R.K) te tl th) (pSl pa pl ph):=by
 intro σ ρ Z H O d z s e Q k;unfold pSl at e;cases e1:pa ρ with
 | none=>rw[e1] at e;cases e
 | some x =>
  rw[e1] at e;dsimp only at e;cases e2:pl ρ with
  | none=>rw[e2] at e;cases e
  | some m =>
   rw[e2] at e;dsimp only at e;cases e3:ph ρ with
   | none=>rw[e3] at e;cases e
   | some n =>
    rw[e3] at e;dsimp only at e;refine C z s e1 λ{v I J P1} h F=>?_;refine D h.wf.zd (h.slots z s) e2 λ{L M} q=>?_;have c:=h.pair q;refine E q.wf.zd (c.slots z s) e3 λ{Z3 G} i=>?_;have a:Go Z H [] Z3 G []:=c.pair i;have r:=(q.pair i).rep h.wf.zd F;cases x with
    | str t =>
     simp only[jft] at e;cases hm:lim t.length with
     | false=>rw[hm] at e;cases e
     | true =>
      rw[hm] at e;cases e;obtain⟨rfl,_⟩:=r.str_of;exact .inl ⟨t,rfl,KR hm,k a .str_mk⟩
    | lst o l =>
     simp only[jft] at e;cases hm:frzs l with
     | false=>rw[hm] at e;cases e
     | true =>
      rw[hm] at e;cases e;obtain⟨p,u,N,rfl,w,j⟩:=r.lst_of;have f:=i.wf.zd;exact .inr (.inl ⟨p,u,rfl,w.sq,λb g=>k (by simpa using a.pair (Go.newO (wf0 f) g)) (Rep.lstNew (wf0 f) g ((j.frozen hm).cut m n))⟩)
    | tup l =>
     simp only[jft] at e;cases hm:frzs l&&decide ((vy l m n).length < l.length) with
     | false=>rw[hm] at e;cases e
     | true =>
      rw[hm] at e;cases e;simp only[M0,decide_eq_true_eq] at hm;obtain⟨p,u,rfl,w,j⟩:=r.tup_of;have f:=i.wf.zd;refine .inr (.inr ⟨p,u,rfl,w,?_,λb g=>k (by simpa using a.pair (Go.newF (wf0 f) g)) (Rep.tupNew (wf0 f) g ((j.frozen hm.1).cut m n))⟩);rintro⟨A,B⟩;have y:=hm.2;unfold vy at y;rw[j.length] at A B;rw[A,B,List.drop_zero,Nat.sub_zero,List.take_length] at y;exact absurd y (Nat.lt_irrefl _)
    | _=>cases e
noncomputable def kJ:List D->Option D
 | [.lst _ l]=>some (.int l.length)
 | [.tup l]=>some (.int l.length)
 | [.str s]=>bif lim s.length then some (.int s.length) else none
 | _=>none
theorem jlN:BC R (λxs H Q=>∃ x n,xs=[x]/\jml R.K x H n/\Q (.int n) H) kJ:=by
 intro Z H xs d g O z r e Q k
 match xs,e,r with
 | [.lst o l],e,r =>
  cases e;obtain⟨v,rfl,a⟩:=r.one_of;obtain⟨p,b,h,rfl,c,f⟩:=a.lst_of;exact⟨_,_,rfl,.inl ⟨b,c.sq,rfl⟩,by rw[f.length];exact k (Go.id z) .int_mk⟩
 | [.tup l],e,r =>
  cases e;obtain⟨v,rfl,a⟩:=r.one_of;obtain⟨p,b,rfl,c,f⟩:=a.tup_of;exact⟨_,_,rfl,.inr ⟨b,c,rfl⟩,by rw[f.length];exact k (Go.id z) .int_mk⟩
 | [.str s],e,r =>
  simp only[kJ] at e;cases hm:lim s.length with
  | false=>rw[hm] at e;cases e
  | true =>
   rw[hm] at e;cases e;obtain⟨v,rfl,a⟩:=r.one_of;obtain⟨rfl,_⟩:=a.str_of;exact⟨_,_,rfl,⟨by rw[xg];exact KR hm,rfl⟩,by rw[xg];exact k (Go.id z) .int_mk⟩
noncomputable def Y6:List D->Option (List Int)
 | []=>some []
 | d::l=>match d with
  | .int i=>(match Y6 l with
   | some r=>some (i::r)
   | none=>none)
  | _=>none
theorem Reps.ints:∀{l:List D}{vs:List V}{O:List Addr}{ns:List Int},Reps R Z H l vs O->Y6 l=some ns->vs=ns.map V.int:=by
 intro l
 induction l with
 | nil=>intro vs O ns h e;rw[Reps] at h;cases e;exact h.1
 | cons d l a =>
  intro vs O ns h e;rw[Reps] at h;obtain⟨v,vs,O1,O2,rfl,rfl,b,c⟩:=h;cases d with
  | int i =>
   have e:(match Y6 l with | some r=>some (i::r) | none=>none)=some ns:=e;cases e1:Y6 l with
   | none=>rw[e1] at e;cases e
   | some r =>
    rw[e1] at e;cases e;rw[a c e1,b.int_of.1];rfl
  | _=>cases e
noncomputable def VA:List D->Option (List Bool)
 | []=>some []
 | d::l=>match d with
  | .bl i=>(match VA l with
   | some r=>some (i::r)
   | none=>none)
  | _=>none
theorem Reps.bools:∀{l:List D}{vs:List V}{O:List Addr}{ns:List Bool},Reps R Z H l vs O->VA l=some ns->vs=ns.map V.bl:=by
 intro l
 induction l with
 | nil=>intro vs O ns h e;rw[Reps] at h;cases e;exact h.1
 | cons d l a =>
  intro vs O ns h e;rw[Reps] at h;obtain⟨v,vs,O1,O2,rfl,rfl,b,c⟩:=h;cases d with
  | bl i =>
   have e:(match VA l with | some r=>some (i::r) | none=>none)=some ns:=e;cases e1:VA l with
   | none=>rw[e1] at e;cases e
   | some r =>
    rw[e1] at e;cases e;rw[a c e1,b.bl_of.1];rfl
  | _=>cases e
noncomputable def jj1:List D->Option D
 | [.lst _ l]=>match Y6 l with
  | some ns=>some (.int ns.sum)
  | none=>none
 | _=>none
theorem jho:BC R (λxs H Q=>∃(p:Addr) (ns:List Int),xs=[.ref p]/\SqL R.K H p (ns.map V.int)/\Q (.int ns.sum) H) jj1:=by
 intro Z H xs d f O z r e Q k
 match xs,e,r with
 | [.lst o l],e,r =>
  simp only[jj1] at e;cases e1:Y6 l with
  | none=>rw[e1] at e;cases e
  | some ns =>
   rw[e1] at e;cases e;obtain⟨v,rfl,a⟩:=r.one_of;obtain⟨p,g,h,rfl,b,c⟩:=a.lst_of;have:=c.ints e1;subst this;exact⟨p,ns,rfl,b.sq,k (Go.id z) .int_mk⟩
noncomputable def jkb:List D->Option D
 | [.lst _ l]=>match VA l with
  | some ns=>some (.bl (ns.any λb=>b))
  | none=>none
 | _=>none
theorem jj8:BC R (λxs H Q=>∃(p:Addr) (bs:List Bool),xs=[.ref p]/\SqL R.K H p (bs.map V.bl)/\Q (.bl (bs.any λb=>b)) H) jkb:=by
 intro Z H xs d g O z r e Q k
 match xs,e,r with
 | [.lst o l],e,r =>
  simp only[jkb] at e;cases e1:VA l with
  | none=>rw[e1] at e;cases e
  | some ns =>
   rw[e1] at e;cases e;obtain⟨v,rfl,a⟩:=r.one_of;obtain⟨p,h,i,rfl,c,f⟩:=a.lst_of;have:=f.bools e1;subst this;exact⟨p,ns,rfl,c.sq,k (Go.id z) .bl_mk⟩
noncomputable def f2I(g:Int->Int->Int):List D->Option D
 | [.int i,.int j]=>some (.int (g i j))
 | _=>none
theorem jcA:BC R (λxs H Q=>∃ i j,xs=[.int i,.int j]/\Q (.int (g i j)) H) (f2I g):=by
 intro Z H xs d c O z r e Q k
 match xs,e,r with
 | [.int i,.int j],e,r =>
  cases e;obtain⟨v,u,O1,O2,rfl,_,a,b⟩:=r.two_of;obtain⟨rfl,_⟩:=a.int_of;obtain⟨rfl,_⟩:=b.int_of;exact⟨i,j,rfl,k (Go.id z) .int_mk⟩
noncomputable abbrev jk9:List D->Option D:=f2I λi j=>if j > i then j else i
noncomputable abbrev jj2:List D->Option D:=f2I λi j=>if j < i then j else i
noncomputable def YV:List D->Option D
 | [.lst _ l]=>bif frzs l then some (.tup l) else none
 | _=>none
theorem Jz:BC R (λxs H Q=>∃ p ys,xs=[.ref p]/\((SqL R.K H p ys/\∀ l,H l=none->Q (.ref l) (upd H l (.tup ys))) \/ (SqT R.K H p ys/\Q (.ref p) H))) YV:=by
 intro Z H xs d i O z r e Q k
 match xs,e,r with
 | [.lst o l],e,r =>
  simp only[YV] at e;cases hm:frzs l with
  | false=>rw[hm] at e;cases e
  | true =>
   rw[hm] at e;cases e;obtain⟨v,rfl,c⟩:=r.one_of;obtain⟨p,f,j,rfl,g,h⟩:=c.lst_of;exact⟨p,f,rfl,.inl ⟨g.sq,λb a=>k (Go.newF (wf0 z) a) (Rep.tupNew (wf0 z) a (h.frozen hm))⟩⟩
noncomputable def tyD:D->Option String
 | .non=>some "NoneType" | .bl _=>some "bool" | .int _=>some "int" | .str _=>some "str" | .tup _=>some "tuple" | .lst _ _=>some "list"
 | .dK true _ _=>some "dict"
 | _=>none
noncomputable def wS(t T:String):Bool:=t==T||(t=="bool"&&T=="int")
noncomputable def jax(T:String)(p:PF):PF:=λρ=>match p ρ with
 | none=>none
 | some d=>match tyD d with
  | none=>none
  | some t=>some (.bl (wS t T))
theorem jh6(K:PySem.W.Frag)  (a:t∈["NoneType","bool","int","str","tuple","list","dict"]) (b:T∈["bool","int","str","tuple","list","dict"]):PySem.W.kitOne K (.type t) (.type T)=some (wS t T):=by
 simp only[M5,List.not_mem_nil,or_false] at a b;rcases a with rfl | rfl | rfl | rfl | rfl | rfl | rfl<;>rcases b with rfl | rfl | rfl | rfl | rfl | rfl<;>rfl
theorem Rep.ty(r:Rep R Z H x v O)(e:tyD x=some t):TyQ R.K H v t/\t∈["NoneType","bool","int","str","tuple","list","dict"]:=by
 cases x with
 | non=>cases e;obtain⟨rfl,_⟩:=r.non_of;exact⟨.non,by simp⟩
 | bl b=>cases e;obtain⟨rfl,_⟩:=r.bl_of;exact⟨.bl _,by simp⟩
 | int i=>cases e;obtain⟨rfl,_⟩:=r.int_of;exact⟨.int _,by simp⟩
 | str s=>cases e;obtain⟨rfl,_⟩:=r.str_of;exact⟨.str _,by simp⟩
 | tup l=>cases e;obtain⟨p,d,rfl,c,f⟩:=r.tup_of;exact⟨.tup c,by simp⟩
 | lst o l=>cases e;obtain⟨p,d,g,rfl,c,f⟩:=r.lst_of;exact⟨.lst c.sq,by simp⟩
 | dK o h l=>cases o with
  | false=>cases e
  | true=>cases e;rw[Rep] at r;obtain⟨a,j,g,rfl,_,_,hd,_⟩:=r;exact⟨.dK hd,by simp⟩
 | _=>cases e
theorem jl9(a:T∈["bool","int","str","tuple","list","dict"])  (h:PB R te p) :
  PP R (tCB (λxs H Q=>∃ x T t b,xs=[x,.ty T]/\TyQ R.K H x t/\PySem.W.kitOne R.K (.type t) (.type T)=some b/\Q (.bl b) H) (Y3 te (Y3 (tC (.ty T)) jav))) (jax T p):=by
 intro σ ρ Z H O d z s e Q k;unfold jax at e;cases e1:p ρ with
 | none=>rw[e1] at e;cases e
 | some x =>
  rw[e1] at e;dsimp only at e;cases e2:tyD x with
  | none=>rw[e2] at e;cases e
  | some t =>
   rw[e2] at e;cases e;refine h z s e1 λ{v j l P1} c f=>?_;obtain⟨g,i⟩:=f.ty e2;exact⟨v,T,t,wS t T,rfl,g,jh6 _ i a,k c .bl_mk⟩
noncomputable def yq:Nat->List D->List D
 | _,[]=>[]
 | k,x::l=>.tup [.int k,x]::yq (k+1) l
theorem v7:∀(k:Nat) (l:List D),(yq k l).length=l.length
 | _,[]=>rfl
 | k,x::l=>by rw[yq,M3,M3,v7]
theorem k6:∀(k:Nat) (l:List D) (i:Nat) (y:D),(yq k l)[i]?=some y->∃ x,l[i]?=some x/\y=.tup [.int ((k+i:Nat):Int),x]
 | _,[],_,_,e=>by simp[yq] at e
 | k,x::l,0,y,e=>by simp[yq] at e;exact⟨x,rfl,e.symm⟩
 | k,x::l,i+1,y,e=>by
  obtain⟨z,a,b⟩:=k6 (k+1) l i y (by simpa [yq] using e);exact⟨z,by simpa using a,by rw[b];congr 3;omega⟩
noncomputable def Qg(p:PAf):PAf:=λρ=>match p ρ with
 | some [.lst _ l]=>some (yq 0 (fzs l))
 | _=>none
theorem jcj(z:Zd Z H)(b:H p=none)(c:Rep R Z H x u [])(d:Rep R Z H y v []):Rep R (λa=>Z a \/ a=p) (upd H p (.tup [u,v])) (.tup [x,y]) (.ref p) [] :=
 Rep.tupNew (wf0 z) b (.cons c (.cons d .empty))
theorem jfw(h:PPs R ta p):PIt R (jii R.K ta) (Qg p):=by
 intro σ ρ Z H O T z s e Q k;unfold Qg at e;split at e
 ·rename_i o l C;cases e;refine h z s C λ{U D V P1} E F=>?_;obtain⟨v,rfl,G⟩:=F.one_of;have g:=G.freeze (Z':=λa=>D a \/ a∈P1) (λa z=>.inl z) λa z=>.inr z;rw[fz,Rep] at g;obtain⟨a,b,W,rfl,I,j,rfl,_⟩:=g;refine⟨a,b,rfl,FL.sq j,k E.fz ?_⟩;intro J L m n zd i;have c:=(j.frame m n).sq;have r:Reps R J L (fzs l) b []:=I.frame m n λa M=>(nomatch M);refine⟨λt=>⟨b,c,by rw[r.length];rw[v7] at t;exact t⟩,λx N=>?_⟩;obtain⟨y,P,rfl⟩:=k6 0 _ i x N;obtain⟨u,A,S⟩:=r.item P;refine⟨⟨b,u,c,A⟩,λw X d=>?_⟩;obtain⟨q,Y,f,rfl,B,rfl⟩:=d;have:=f b c;rw[A] at this;cases this;refine⟨_,Go.newF (wf0 zd) B,?_⟩;have:=jcj (R:=R) (x:=.int i) (u:=.int i) zd B .int_mk S;simpa using this
 ·cases e
end QD
namespace QD
open PySem L2 PySem.Spec PyProof.Rows
section
variable (c:Nat->Addr)(pm:List Nat)(X:Cx)
structure QP(e:Expr)(te:TE)(p:PF):Prop where
 sem:PE X e te
 den:PP ⟨X.K,c⟩ te p
structure QB(e:Expr)(te:TE)(p:PF):Prop where
 sem:PE X e te
 den:PB ⟨X.K,c⟩ te p
structure QPs(es:List Expr)(ta:TA)(p:PAf):Prop where
 sem:PA X es ta
 den:PPs ⟨X.K,c⟩ ta p
structure QBs(es:List Expr)(ta:TA)(p:PAf):Prop where
 sem:PA X es ta
 den:PBs ⟨X.K,c⟩ ta p
 n:∀ ρ ds,p ρ=some ds->ds.length=es.length
structure QT(e:Expr)(tt:TT)(q:PTf):Prop where
 sem:PT X e tt
 den:PTt ⟨X.K,c⟩ tt q
structure QW(e:Expr)(tt:TT)(q:PTf):Prop where
 sem:PW X e tt
 den:PTt ⟨X.K,c⟩ tt q
structure QI(tg e:Expr)(wi:TI)(p:PAf):Prop where
 sem:PI X tg e wi
 den:PIt ⟨X.K,c⟩ wi p
structure QG(tg:Expr)(t:TG)(g:D->Rh->Option Rh):Prop where
 sem:PG X tg t
 den:PGt ⟨X.K,c⟩ pm t g
structure QGs(tg:List Expr)(t:TGs)(g:List D->Rh->Option Rh):Prop where
 sem:PGs X tg t
 den:jlm ⟨X.K,c⟩ pm t g
structure QE(e:Expr)(te:TE)(f:FE):Prop where
 sem:PE X e te
 den:DE ⟨X.K,c⟩ te f
structure QS(st:Stmt)(ts:TS)(f:FS):Prop where
 sem:PS X st ts
 den:DS ⟨X.K,c⟩ pm ts f
structure QSs(st:List Stmt)(ts:TS)(f:FS):Prop where
 sem:PSs X st ts
 den:DS ⟨X.K,c⟩ pm ts f
structure QO(e:Option Expr)(t:TO)(p:OF):Prop where
 sem:PO X e t
 den:PO' ⟨X.K,c⟩ t p
structure QIf(ifs:List Expr)(tc:TT)(q:PTf):Prop where
 sem:PIf X ifs tc
 den:PTt ⟨X.K,c⟩ tc q
end
theorem QP.bb(h:QP cl X e te pe):QB cl X e te pe:=⟨h.sem,PP.b h.den⟩
theorem QB.f(h:QB cl X e te pe):QP cl X e te (pF pe):=⟨h.sem,PB.f h.den⟩
theorem QP.d(h:QP cl X e te pe):QE cl X e te (dP pe):=⟨h.sem,PP.d h.den⟩
theorem jb(i:Nat)  (b:X.N[i]?=some x:=by rfl) (c:Vis X.env.scope x:=by first | exact Or.inl rfl | exact Or.inr (Or.inl rfl) | exact Or.inr (Or.inr rfl)) (hd:(x==("__debug__" : Str))=false:=by decide)
  (a:(x==("__classdict__" : Str))=false:=by decide):QB cl X (.Name x pos) (JP i) (pV i):=⟨jhE b c hd a,jls⟩
theorem jfs(i:Nat)  (b:X.N[i]?=some x:=by rfl) (c:Vis X.env.scope x:=by first | exact Or.inl rfl | exact Or.inr (Or.inl rfl) | exact Or.inr (Or.inr rfl)) (hd:(x==("__debug__" : Str))=false:=by decide)
  (a:(x==("__classdict__" : Str))=false:=by decide):QE cl X (.Name x pos) (JP i) (dMv i):=⟨jhE b c hd a,jnj⟩
theorem jdX{j}:QP cl X (.Constant (.int i) j pos) (tC (.int i)) (pC (.int i)):=⟨jhb,jmj λ_ _=>.int_mk⟩
theorem jck{j}:QP cl X (.Constant (.bool i) j pos) (tC (.bl i)) (pC (.bl i)):=⟨jmB,jmj λ_ _=>.bl_mk⟩
theorem jnc{j}:QP cl X (.Constant .none j pos) (tC .non) (pC .non):=⟨jk7,jmj λ_ _=>.non_mk⟩
theorem jmt{j}(l:List Nat)(h:x=S l):QP cl X (.Constant (.str x) j pos) (tC (.str x)) (pC (.str l)):=⟨jlZ,by subst h;exact jmj λ_ _=>.str_mk⟩
theorem yL(c:QB cl X a ta pa)(d:QB cl X b tb pb):QP cl X (.BinOp a .Add b pos) (tOp (jes X.K) ta tb) (p2 jG pa pb):=⟨jbd jeM c.sem d.sem,uk jg8 c.den d.den⟩
theorem jm6(c:QB cl X a ta pa)(d:QB cl X b tb pb):QP cl X (.BinOp a .Sub b pos) (tOp (rI0 λi j=>.int (i - j)) ta tb) (p2 jfx pa pb):=⟨jbd jlX c.sem d.sem,uk jkl c.den d.den⟩
theorem Kt(c:QB cl X a ta pa)(d:QB cl X b tb pb):QP cl X (.BinOp a .Mult b pos) (tOp jjq ta tb) (p2 vw pa pb):=⟨jbd jit c.sem d.sem,uk jmh c.den d.den⟩
theorem vx(c:QB cl X a ta pa)(d:QB cl X b tb pb):QP cl X (.BinOp a .FloorDiv b pos) (tOp (rI (λ_ j=>jaA j=true) λi j=>.int (i / j)) ta tb) (p2 jZ pa pb):=⟨jbd jfP c.sem d.sem,uk jkr c.den d.den⟩
theorem yJ(c:QB cl X a ta pa)(d:QB cl X b tb pb):QP cl X (.BinOp a .Mod b pos) (tOp (rI (λ_ j=>0 < j) λi j=>.int (i % j)) ta tb) (p2 jC pa pb):=⟨jbd jl8 c.sem d.sem,uk jlJ c.den d.den⟩
theorem jm2(c:QB cl X a ta pa)(d:QB cl X b tb pb):QP cl X (.BinOp a .Pow b pos) (tOp (rI jmK λi j=>.int (i ^ j.toNat)) ta tb) (p2 jgj pa pb):=⟨jbd jlt c.sem d.sem,uk jl7 c.den d.den⟩
theorem jf6(b:QB cl X a ta pa):QP cl X (.UnaryOp .USub a pos) (tUn (rU λi=>.int (-i)) ta) (p1 jcQ pa):=⟨jmF jkQ b.sem,jmS jka b.den⟩
theorem jlg(b:QB cl X a ta pa):QP cl X (.UnaryOp .Not a pos) (jjH ta) (jio pa):=⟨jkv b.sem,jlj b.den⟩
structure CmpR(cl:Nat->Addr)(X:Cx)(op:CmpOp)(b:Expr)(r:R2)(g:D->D->Option D):Prop where
 o:OpR X (compareOp op) r
 g:BO ⟨X.K,cl⟩ r g
 m:behindInMarks op b=false
theorem jno:CmpR cl X .Lt b (rI0 λi j=>.bl (decide (i < j))) jir:=⟨jm9,jmL,jac _⟩
theorem jfK:CmpR cl X .Gt b (rI0 λi j=>.bl (decide (j < i))) ug:=⟨jmy,jmL,jac _⟩
theorem jlO:CmpR cl X .GtE b (rI0 λi j=>.bl (decide (j<=i))) jj3:=⟨jmI,jmL,jac _⟩
theorem jnx(a:behindInMarks .In b=false):CmpR cl X .In b (jj4 X.K false) (QM false):=⟨jl4,jmc,a⟩
theorem c_notin(a:behindInMarks .NotIn b=false):CmpR cl X .NotIn b (jj4 X.K true) (QM true):=⟨jeh,jmc,a⟩
theorem jaD(h:CmpR cl X op b r g)(c:QB cl X a ta pa)(d:QB cl X b tb pb):QP cl X (.Compare a [op] [b] pos) (tOp r ta tb) (p2 g pa pb):=⟨jiI h.o c.sem d.sem h.m,uk h.g c.den d.den⟩
theorem jP(h:CmpR cl X op b r g)(c:QB cl X a ta pa)(d:QB cl X b tb pb):QT cl X (.Compare a [op] [b] pos) (jjl (tOp r ta tb)) (jx (p2 g pa pb)):=⟨jhO h.o c.sem d.sem h.m,jbp (PP.b (uk h.g c.den d.den))⟩
theorem qe(b:QB cl X a ta pa)(c:∀ whole,isTrue a X.env whole=(do let v <- whole;standAt a.pos;holding [v] (truthy v)):=by intro _;rfl):QT cl X a (L2.tB ta) (jx pa):=⟨jlx b.sem c,jbp b.den⟩
theorem jaa(b:QT cl X a tA qa):QT cl X (.UnaryOp .Not a pos) (jmO tA) (jfq qa):=⟨jli b.sem,ji7 b.den⟩
theorem JF(b:QT cl X a tA qa):QW cl X (.BoolOp .And [a] pos) tA qa:=⟨jjc b.sem,b.den⟩
theorem jhC(b:QT cl X a tA qa):QW cl X (.BoolOp .Or [a] pos) tA qa:=⟨jkW b.sem,b.den⟩
theorem JV{cl:Nat->Addr}{X:Cx}{a b:Expr}{es:List Expr}{tA tB:TT}{c d:PTf}{pos:Pos}(e:QT cl X a tA c)(f:QW cl X (.BoolOp .And (b::es) pos) tB d):QW cl X (.BoolOp .And (a::b::es) pos) (jmE tA tB) (zh c d):=⟨jlf e.sem f.sem,jkL e.den f.den⟩
theorem jle{cl:Nat->Addr}{X:Cx}{a b:Expr}{es:List Expr}{tA tB:TT}{c d:PTf}{pos:Pos}(e:QT cl X a tA c)(f:QW cl X (.BoolOp .Or (b::es) pos) tB d):QW cl X (.BoolOp .Or (a::b::es) pos) (tOr tA tB) (qOr c d):=⟨jns e.sem f.sem,jnf e.den f.den⟩
theorem QW.t(h:QW cl X a tA qa):QT cl X a tA qa:=⟨PW.pt h.sem,h.den⟩
theorem wv{op}(h:QP cl X a ta pa):QP cl X (.BoolOp op [a] pos) ta pa:=⟨jl2 h.sem,h.den⟩
theorem xu(c:QB cl X a ta pa)(d:QP cl X (.BoolOp .And (b::es) pos) tb pb):QP cl X (.BoolOp .And (a::b::es) pos) (jhY ta tb) (QN pa pb):=⟨jkH c.sem d.sem,jkX c.den d.den⟩
theorem jnv(d:QT cl X c tA qa)(e:QP cl X a ta pa)(f:QP cl X b tb pb):QP cl X (.IfExp c a b pos) (tIf tA ta tb) (pIf qa pa pb):=⟨jgT d.sem e.sem f.sem,jmW d.den e.den f.den⟩
theorem jv:QPs cl X [] jav pN:=⟨zE,pps_nil⟩
theorem jf(a:QP cl X e te pe)(b:QPs cl X es tr pr)(c:starEach (e::es) X.env=(false,eval e X.env)::starEach es X.env:=by rfl):QPs cl X (e::es) (Y3 te tr) (jc pe pr):=⟨Y9 a.sem b.sem c,jgV a.den b.den⟩
theorem jk:QBs cl X [] jav pN:=⟨zE,jeW,λρ a e=>by cases e;rfl⟩
theorem jd(b:QB cl X e te pe)(a:QBs cl X es tr pr)(c:starEach (e::es) X.env=(false,eval e X.env)::starEach es X.env:=by rfl):QBs cl X (e::es) (Y3 te tr) (jc pe pr) :=
 ⟨Y9 b.sem a.sem c,jgx b.den a.den,λρ f h=>by
  unfold jc at h;cases e1:pe ρ with
  | none=>rw[e1] at h;cases h
  | some x =>
   rw[e1] at h;dsimp only at h;cases e2:pr ρ with
   | none=>rw[e2] at h;cases h
   | some d =>
    rw[e2] at h;cases h;rw[M3,M3,a.n ρ d e2]⟩
theorem vY{x1}(h:QPs cl X es tr pr):QP cl X (.Tuple es x1 pos) (jlM tr) (kH pr):=⟨jhq h.sem,jkf h.den⟩
theorem qm(h:QPs cl X es tr pr):QP cl X (.List es pos) (jnd tr) (Vn pr):=⟨jlB h.sem,jlQ h.den⟩
theorem yH(c:QB cl X a ta pa)(d:QB cl X b tb pb)(e:z9 b:=by exact λ_ _=>rfl):QB cl X (.Subscript a b pos) (tOp (rIx X.K) ta tb) (p2 jq pa pb):=⟨jhT jdA c.sem d.sem e,jmR jm0 c.den d.den⟩
theorem qk:QO cl X none jaV oN:=⟨jiQ,jnH⟩
theorem vo(h:QB cl X e te pe):QO cl X (some e) (jjr te) (oS pe):=⟨jiT h.sem,jnK h.den⟩
theorem jbc{cl:Nat->Addr}{X:Cx}{lo hi:Option Expr}(b:QB cl X a ta pa)(c:QO cl X lo tl pl)(d:QO cl X hi th ph):QP cl X (.Subscript a (.Slice lo hi none p2') pos) (tSl (jmq X.K) ta tl th) (pSl pa pl ph) :=
 ⟨jgH jnI b.sem c.sem d.sem,jm7 b.den c.den d.den⟩
theorem jX{cl:Nat->Addr}{X:Cx}{e:Expr}{es:List Expr}{tr:TA}{pr:PAf}{pos:Pos}{k n:Nat}{f:Addr}{fd:FuncData}{ps:List Str}{m:List D->Option D}{x qual:Str}{st:Stmt}{p:Pos}(F:FnFact X.K X.mg x qual st f fd ps)(G:FnOk X.prog X.w X.K X.mg X.base CX0 k f fd ps (spP ⟨X.K,cl⟩ m n))(d:Room k X.A)
  (a:QBs cl X (e::es) tr pr) (hn:(e::es).length=n:=by rfl) (g:Gl X x:=by rfl) (b:(x==("__debug__" : Str))=false:=by decide)
  (i:starEach (e::es) X.env=(false,eval e X.env)::starEach es X.env:=by rfl) (c:(backTo pos (starEach es X.env)).any (·.1)=false:=by rfl):QP cl X (.Call (.Name x p) (e::es) [] pos) (jdj (spP ⟨X.K,cl⟩ m n) [] E0 tr) (yh m pr) :=
 ⟨jmU F G d a.sem g b i c,jhK a.den λρ j h=>(a.n ρ j h).trans hn⟩
theorem JC{cl:Nat->Addr}{X:Cx}{e:Expr}{es:List Expr}{tr:TA}{pr:PAf}{pos:Pos}{x:Str}{p:Pos}{id:String}{r:List V->Hp->VK->Prop}{g:List D->Option D}(d:Vy X (.builtin id) r)(f:BC ⟨X.K,cl⟩ r g)(h:X.mg x=none)(i:bootBuiltins x=some (.builtin id))(c:QBs cl X (e::es) tr pr)(j:Gl X x:=by rfl)
  (hn:x≠"__name__":=by decide) (a:(x==("__debug__" : Str))=false:=by decide) (k:starEach (e::es) X.env=(false,eval e X.env)::starEach es X.env:=by rfl) (b:(backTo pos (starEach es X.env)).any (·.1)=false:=by rfl) :
  QP cl X (.Call (.Name x p) (e::es) [] pos) (tCB r tr) (pCB g pr):=⟨wH d j h i c.sem hn a k b,jiC f c.den⟩
theorem qR(d:Vy X (.type T) r)(f:BC ⟨X.K,cl⟩ r g)(h:X.mg x=none)(i:bootBuiltins x=some (.type T))(c:QBs cl X (e::es) tr pr)(j:Gl X x:=by rfl)
  (hn:x≠"__name__":=by decide) (a:(x==("__debug__" : Str))=false:=by decide) (k:starEach (e::es) X.env=(false,eval e X.env)::starEach es X.env:=by rfl) (b:(backTo pos (starEach es X.env)).any (·.1)=false:=by rfl) :
  QP cl X (.Call (.Name x p) (e::es) [] pos) (tCB r tr) (pCB g pr):=⟨uR d j h i c.sem hn a k b,jiC f c.den⟩
theorem ka(b:X.mg "len" = none)  (c:QBs cl X [e] tr pr) (d:Gl X "len":=by rfl) (f:starEach [e] X.env=(false,eval e X.env)::starEach [] X.env:=by rfl) (a:(backTo pos (starEach [] X.env)).any (·.1)=false:=by rfl) :
  QP cl X (.Call (.Name "len" p) [e] [] pos) (tCB (λxs H Q=>∃ x n,xs=[x]/\jml X.K x H n/\Q (.int n) H) tr) (pCB kJ pr):=JC jgN jlN b PySem.boot_len c d (by decide) (by decide) f a
theorem jas:bootBuiltins "sum" = some (.builtin "sum"):=by decide +kernel
theorem jfg:bootBuiltins "any" = some (.builtin "any"):=by decide +kernel
theorem zY:bootBuiltins "max" = some (.builtin "max"):=by decide +kernel
theorem Q0:bootBuiltins "min" = some (.builtin "min"):=by decide +kernel
theorem QC:bootBuiltins "isinstance" = some (.builtin "isinstance"):=by decide +kernel
theorem uZ:bootBuiltins "int" = some (.type "int"):=by decide +kernel
theorem uB:bootBuiltins "str" = some (.type "str"):=by decide +kernel
theorem xN:bootBuiltins "list" = some (.type "list"):=by decide +kernel
theorem yX:bootBuiltins "tuple" = some (.type "tuple"):=by decide +kernel
theorem Ql:bootBuiltins "bool" = some (.type "bool"):=by decide +kernel
theorem Vk:bootBuiltins "dict" = some (.type "dict"):=by decide +kernel
theorem zt{cl:Nat->Addr}{X:Cx}{a:Expr}{ta:TE}{pa:PF}{pos:Pos}{T:String}{x:Str}{p p1:Pos}(j:T∈["bool","int","str","tuple","list","dict"])(k:X.mg "isinstance" = none)(c:X.mg x=none)(d:bootBuiltins x=some (.type T))(h:QB cl X a ta pa)(l:Gl X "isinstance":=by rfl)(e:Gl X x:=by rfl)
  (hn:x≠"__name__":=by decide) (f:(x==("__debug__" : Str))=false:=by decide) (i:starEach [a,.Name x p1] X.env=(false,eval a X.env)::starEach [.Name x p1] X.env:=by rfl) (g:(backTo pos (starEach [.Name x p1] X.env)).any (·.1)=false:=by rfl)
  (h1:starEach [.Name x p1] X.env=(false,eval (.Name x p1) X.env)::starEach [] X.env:=by rfl) :
  QP cl X (.Call (.Name "isinstance" p) [a,.Name x p1] [] pos) (tCB (λxs H Q=>∃ x T t b,xs=[x,.ty T]/\TyQ X.K H x t/\PySem.W.kitOne X.K (.type t) (.type T)=some b/\Q (.bl b) H) (Y3 ta (Y3 (tC (.ty T)) jav))) (jax T pa) :=
 ⟨wH ul l k QC (Y9 h.sem (Y9 (jjv e c d rfl hn f) zE h1) i) (by decide) (by decide) i g,jl9 j h.den⟩
theorem Y0(h:QP cl X e te pe):QI cl X tg e (ji6 X.K te) (pIt pe):=⟨jd8 h.sem,jmD h.den⟩
theorem JL(b:X.mg "range" = none)(h:QBs cl X [a] tr pr)(c:Gl X "range":=by rfl)(d:starEach [a] X.env=[(false,eval a X.env)]:=by rfl):QI cl X tg (.Call (.Name "range" p) [a] [] pos) (jjS tr) (VW pr):=⟨jej c b h.sem d,ji1 h.den⟩
theorem YK(b:X.mg "enumerate" = none)(h:QPs cl X [a] tr pr)(c:Gl X "enumerate":=by rfl)(d:starEach [a] X.env=[(false,eval a X.env)]:=by rfl):QI cl X (.Tuple elts n tpos) (.Call (.Name "enumerate" p) [a] [] pos) (jii X.K tr) (Qg pr):=⟨jjW c b h.sem d,jfw h.den⟩
theorem jr(a:X.N.Nodup)(hi:X.N[i]?=some x:=by rfl)(b:Loc X.env.scope x:=by first | exact Or.inl rfl | exact Or.inr rfl)(c:X.fn x=true \/ X.env.scope.names.lookup x=some .local:=by first | exact .inl rfl | exact .inr rfl) :
  QG cl pm X (.Name x pos) (QH i) (ji pm i):=⟨je0 a hi b c,jgp⟩
theorem vh:QGs cl pm X [] jke gN:=⟨jeX,jfN⟩
theorem js(h1:QG cl pm X e t g)(h2:QGs cl pm X es ts gs)(a:(assignEach (e::es) X.env).map (·.2)=assign e X.env::(assignEach es X.env).map (·.2):=by rfl):QGs cl pm X (e::es) (jeg t ts) (gC g gs):=⟨jcd h1.sem h2.sem a,je7 h1.den h2.den⟩
theorem Jy(b:X.calm=true)(h:QGs cl pm X es ts gs)(hn:(assignEach es X.env).length=n:=by rfl)(a:(assignEach es X.env).findIdx? (·.1)=none:=by rfl):QG cl pm X (.Tuple es k pos) (jjY X.K n ts) (gT n gs):=⟨jhg b h.sem hn a,jja h.den⟩
theorem jgu:QIf cl X [] (λ_ H Q=>Q true H) qT:=⟨.inl ⟨rfl,rfl⟩,jhS⟩
theorem QY(h:QT cl X c tA qa):QIf cl X [c] tA qa:=⟨.inr ⟨c,rfl,h.sem⟩,h.den⟩
theorem jN:QSs cl pm X [] jjM yG:=⟨jjx,jiG⟩
theorem jh{cl:Nat->Addr}{pm:List Nat}{X:Cx}{st:Stmt}{a:TS}{f:FS}(h:QS cl pm X st a f):QSs cl pm X [st] a f:=⟨jdP h.sem,h.den⟩
theorem je{cl:Nat->Addr}{pm:List Nat}{X:Cx}{st:Stmt}{rest:List Stmt}{a b:TS}{f fe:FS}(h:QS cl pm X st a f)(k:QSs cl pm X rest b fe):QSs cl pm X (st::rest) (jlE a b) (jQ f fe):=⟨jbV h.sem k.sem,jkx h.den k.den⟩
theorem jix(h:QE cl X e te fE)(a:swapsWith e none pos.line X.env=pure false:=by rfl):QS cl pm X (.Expr e pos) (zu te) (jcl fE):=⟨xo h.sem a,jiM h.den⟩
theorem jD(h:QE cl X e te fE):QS cl pm X (.Return (some e) pos) (jm5 te) (kr fE):=⟨jkt h.sem,jlk h.den⟩
theorem yR(a:QT cl X c tA qa)(b:QSs cl pm X x ts f)(e:QSs cl pm X y tu fe):QS cl pm X (.If c x y pos) (jks tA ts tu) (sIf (dPT qa) f fe):=⟨jmb a.sem b.sem e.sem,jna (PTt.d a.den) b.den e.den⟩
theorem jt(a:X.N.Nodup)(h:QE cl X e te fE)(hi:X.N[i]?=some x:=by rfl)(b:Loc X.env.scope x:=by first | exact Or.inl rfl | exact Or.inr rfl)(c:swapsWith e (some (.Name x pos')) pos.line X.env=pure false:=by rfl)
  (d:X.fn x=true \/ X.env.scope.names.lookup x=some .local:=by first | exact .inl rfl | exact .inr rfl):QS cl pm X (.Assign [.Name x pos'] e pos) (jgg te (QH i)) (yx fE (ji pm i)):=⟨jhr a hi b h.sem c d,jdF h.den jaQ⟩
theorem JO(j:QB cl X (.Name x xpos) (JP i) (pV i))(h:QP cl X e te pe)(b:attributeBase (.Name x xpos) "append" X.env (eval (.Name x xpos) X.env)=eval (.Name x xpos) X.env:=by rfl)
  (d:((backTo cpos (starEach [e] X.env)).all (λx=>!x.1)&&(backToKw cpos (keywordEach [] X.env)).all (λx=>x.1.isSome)
   && decide ([e].length+([]:List Keyword).length+(if([]:List Keyword).isEmpty then 0 else 1) < 30))=true:=by rfl)
  (c:(apos.endLine==cpos.line)=true:=by rfl) (g:starEach [e] X.env=(false,eval e X.env)::starEach [] X.env:=by rfl) (a:(backTo cpos (starEach [] X.env)).any (·.1)=false:=by rfl)
  (f:swapsWith (.Call (.Attribute (.Name x xpos) "append" apos) [e] [] cpos) none pos.line X.env=pure false:=by rfl) :
  QS cl pm X (.Expr (.Call (.Attribute (.Name x xpos) "append" apos) [e] [] cpos) pos) (zu (tBM X.K "list" xk (JP i) (Y3 te jav))) (wA i pe) :=
 ⟨xo (jga PySem.F.plainAttrs_list PySem.F.slot_list_append PySem.F.type_list_append Q6 j.sem (Y9 h.sem zE g) b d c g a) f,jla h.den⟩
theorem vt(c:PassesOwn (model X.prog X.w) X.A X.env X.xe)(d:X.calm=true)(hi:QI cl X tg iter wi pi)(a:QG cl pm X tg t g)(b:QSs cl pm X body ts f)(e:∀ x,foldedSetIterable iter X.env x=pure x:=by intro _;rfl):QS cl pm X (.For tg iter body [] pos) (jl0 wi t ts) (Kc pi g f) :=
 ⟨jhd c d hi.sem a.sem b.sem e,jj7 hi.den a.den b.den⟩
theorem QS.fz{cl:Nat->Addr}{pm:List Nat}{X:Cx}{st:Stmt}{a:TS}{f:FS}(i:Nat)(h:QS cl pm X st a f):QS cl pm X st a (sFz i f):=⟨h.sem,jmP h.den⟩
theorem kq{cl:Nat->Addr}{P:Program}{w:World}{K:PySem.W.Frag}{mg:Str->Option Value}{base:Heap}{x qual:Str}{fst:Stmt}{fa:Addr}{fd:FuncData}{N ps:List Str}{k n:Nat}{fs:FS}(F:Fun K x qual fst fa fd)(b:FnScope N ps (jo fst))(hn:ps.length=n)
  (a:∀(cdv:Value) (A:Around) (outer:List Env) (s:Shared) (H:Hp) (E:XK),Room k (A.deeper (envOfC qual (jo fst) s.heap.objs.size fa cdv)) ->
   ∃ ts,QSs cl [] (jhl CX0 P w K mg base N qual (jo fst) fa cdv A outer s H E).nox (qp fst) ts fs):FnOk P w K mg base CX0 (k+1) fa fd ps (spP ⟨K,cl⟩ (fnP N.length fs) n):=by
 refine F.ok b (λc H Q E h=>by rw[jjC h,hn]) λcdv A outer s H c Q E d h=>?_;obtain⟨ts,q⟩:=a cdv A outer s H E d;exact⟨ts,q.sem,jik q.den h⟩
mutual
noncomputable def je6:D->PyData
 | .non=>.none | .bl b=>.bool b | .int i=>.int i | .str s=>.str (S s)
 | .tup l=>.tuple (YL l)
 | .lst _ l=>.list (YL l)
 | .dK _ _ _=>.none | .dT _ _ _=>.none | .ins _ _ _ _=>.none | .dead=>.none
noncomputable def YL:List D->List PyData
 | []=>[]
 | d::l=>je6 d::YL l
end
mutual
noncomputable def okE:Nat->D->Bool
 | _,.non=>true | _,.bl _=>true | _,.int _=>true
 | _,.str s=>s.all λc=>decide (c < 1114112)
 | n+1,.tup l=>jaw n l
 | n+1,.lst _ l=>jaw n l
 | _,_=>false
noncomputable def jaw:Nat->List D->Bool
 | _,[]=>true
 | n,d::l=>okE n d&&jaw n l
end
mutual
noncomputable def eqD:D->D->Bool
 | .non,.non=>true
 | .bl a,.bl b=>a==b
 | .bl a,.int j=>(if a then 1 else 0)==j
 | .int i,.bl b=>i==(if b then 1 else 0)
 | .int i,.int j=>i==j
 | .str a,.str b=>a==b
 | .tup l,.tup m=>jcI l m
 | .lst _ l,.lst _ m=>jcI l m
 | _,_=>false
noncomputable def jcI:List D->List D->Bool
 | [],[]=>true
 | x::l,y::m=>eqD x y&&jcI l m
 | _,_=>false
end
mutual
theorem jeQ:∀(n:Nat) (x y:D),okE n x=true->okE n y=true->PyData.eqv (je6 x) (je6 y)=eqD x y
 | n,.non,y,hx,hy=>by cases y<;>first | rfl | (cases n<;>simp_all [okE])
 | n,.bl a,y,hx,hy=>by cases y<;>first | rfl | (cases n<;>simp_all [okE])
 | n,.int a,y,hx,hy=>by cases y<;>first | rfl | (cases n<;>simp_all [okE])
 | n,.str a,y,hx,hy=>by
  cases y with
  | str b =>
   show(S a==S b)=(a==b);rw[Bool.eq_iff_iff];simp[jmT]
  | _=>first | rfl | (cases n<;>simp_all [okE])
 | 0,.tup l,y,hx,hy=>by simp[okE] at hx
 | n+1,.tup l,y,hx,hy=>by
  cases y with
  | tup m=>show PyData.eqvAll (YL l) (YL m)=jcI l m;exact jaB n l m (by simpa [okE] using hx) (by simpa [okE] using hy)
  | _=>first | rfl | (simp_all [okE])
 | 0,.lst o l,y,hx,hy=>by simp[okE] at hx
 | n+1,.lst o l,y,hx,hy=>by
  cases y with
  | lst o' m=>show PyData.eqvAll (YL l) (YL m)=jcI l m;exact jaB n l m (by simpa [okE] using hx) (by simpa [okE] using hy)
  | _=>first | rfl | (simp_all [okE])
 | n,.dK _ _ _,y,hx,hy=>by cases n<;>simp[okE] at hx
 | n,.dT _ _ _,y,hx,hy=>by cases n<;>simp[okE] at hx
 | n,.ins _ _ _ _,y,hx,hy=>by cases n<;>simp[okE] at hx
 | n,.dead,y,hx,hy=>by cases n<;>simp[okE] at hx
theorem jaB:∀(n:Nat) (l m:List D),jaw n l=true->jaw n m=true->PyData.eqvAll (YL l) (YL m)=jcI l m
 | n,[],[],_,_=>rfl
 | n,[],_::_,_,_=>rfl
 | n,_::_,[],_,_=>rfl
 | n,x::l,y::m,hx,hy=>by
  rw[jaw,M0] at hx hy;show(PyData.eqv (je6 x) (je6 y)&&PyData.eqvAll (YL l) (YL m))=(eqD x y&&jcI l m);rw[jeQ n x y hx.1 hy.1,jaB n l m hx.2 hy.2]
end
mutual
theorem jb5:∀(n:Nat) (x:D),okE n x=true->(je6 x).canLay0=true/\(je6 x).depth<=n
 | n,.non,_=>⟨rfl,U6 _⟩
 | n,.bl _,_=>⟨rfl,U6 _⟩
 | n,.int _,_=>⟨rfl,U6 _⟩
 | n,.str s,h=>by
  refine⟨?_,U6 _⟩;have h:(s.all λc=>decide (c < 1114112))=true:=by cases n<;>simpa [okE] using h
  show PyData.strOk (S s)=true;unfold PyData.strOk S;rw[Array.all_eq_true'];intro c hc;rw[List.all_eq_true] at h;exact h c (by simpa using hc)
 | 0,.tup l,h=>by simp[okE] at h
 | n+1,.tup l,h=>by
  obtain⟨h1,h2⟩:=zm n l (by simpa [okE] using h);exact⟨h1,Nat.succ_le_succ h2⟩
 | 0,.lst o l,h=>by simp[okE] at h
 | n+1,.lst o l,h=>by
  obtain⟨h1,h2⟩:=zm n l (by simpa [okE] using h);exact⟨h1,Nat.succ_le_succ h2⟩
 | n,.dK _ _ _,hx=>by cases n<;>simp[okE] at hx
 | n,.dT _ _ _,hx=>by cases n<;>simp[okE] at hx
 | n,.ins _ _ _ _,hx=>by cases n<;>simp[okE] at hx
 | n,.dead,hx=>by cases n<;>simp[okE] at hx
theorem zm:∀(n:Nat) (l:List D),jaw n l=true->PyData.canLayAll0 (YL l)=true/\PyData.depthAll (YL l)<=n
 | n,[],_=>⟨rfl,U6 _⟩
 | n,x::l,h=>by
  rw[jaw,M0] at h;obtain⟨h1,h2⟩:=jb5 n x h.1;obtain⟨h3,h4⟩:=zm n l h.2;rw[YL];refine⟨?_,?_⟩
  ·show((je6 x).canLay0&&PyData.canLayAll0 (YL l))=true;rw[h1,h3];rfl
  ·show max (je6 x).depth (PyData.depthAll (YL l))<=n;exact Nat.max_le.mpr ⟨h2,h4⟩
end
mutual
theorem Rep.reads(I:Inv X pins σ H s):∀(n:Nat) {x:D}{v:V}{u:Value}{O:List Addr},Rep ⟨X.K,cl⟩ Z H x v O->RelV v u->okE n x=true->∃ as,Reads s.heap u (je6 x) as
 | n,.non,_,_,_,r,q,_=>by obtain⟨rfl,_⟩:=r.non_of;cases q;exact⟨_,.none⟩
 | n,.bl b,_,_,_,r,q,_=>by obtain⟨rfl,_⟩:=r.bl_of;cases q;exact⟨_,.bool b⟩
 | n,.int i,_,_,_,r,q,_=>by obtain⟨rfl,_⟩:=r.int_of;obtain⟨t,rfl⟩:=q;exact⟨_,.int i t⟩
 | n,.str w,_,_,_,r,q,_=>by obtain⟨rfl,_⟩:=r.str_of;obtain⟨t,rfl⟩:=q;exact⟨_,.str _ t⟩
 | 0,.tup l,_,_,_,r,q,h=>by simp[okE] at h
 | n+1,.tup l,_,_,_,r,q,h=>by
  obtain⟨a,vs,rfl,hx,rs⟩:=r.tup_of;cases q;obtain⟨its,rv,⟨o,h1,h2,k,h3⟩,_⟩:=I.tuple hx;obtain⟨as,hr⟩:=Reps.reads I n rs rv (by simpa [okE] using h);exact⟨_,reads_tuple_at h1 h2 h3 (by simpa using hr)⟩
 | 0,.lst o l,_,_,_,r,q,h=>by simp[okE] at h
 | n+1,.lst o l,_,_,_,r,q,h=>by
  obtain⟨a,vs,O',rfl,hx,rs⟩:=r.lst_of;cases q;obtain⟨its,rv,⟨o,k,h1,h2,_,h3⟩,_⟩:=I.list hx.sq;obtain⟨as,hr⟩:=Reps.reads I n rs rv (by simpa [okE] using h);exact⟨_,reads_list_at h1 h2 h3 (by simpa using hr)⟩
 | n,.dK _ _ _,_,_,_,_,_,hx=>by cases n<;>simp[okE] at hx
 | n,.dT _ _ _,_,_,_,_,_,hx=>by cases n<;>simp[okE] at hx
 | n,.ins _ _ _ _,_,_,_,_,_,hx=>by cases n<;>simp[okE] at hx
 | n,.dead,_,_,_,_,_,hx=>by cases n<;>simp[okE] at hx
theorem Reps.reads(I:Inv X pins σ H s):∀(n:Nat) {l:List D}{vs:List V}{us:List Value}{O:List Addr},Reps ⟨X.K,cl⟩ Z H l vs O->Vals vs us->jaw n l=true->∃ as,ReadsAll s.heap us (YL l) as
 | n,[],_,_,_,r,q,_=>by rw[Reps] at r;obtain⟨rfl,_⟩:=r;cases q;exact⟨_,.nil⟩
 | n,x::l,_,_,_,r,q,h=>by
  rw[Reps] at r;obtain⟨v,vs,O1,O2,rfl,rfl,r1,r2⟩:=r;rw[jaw,M0] at h;cases q with
  | cons q1 q2 =>
   obtain⟨as,h1⟩:=Rep.reads I n r1 q1 h.1;obtain⟨bs,h2⟩:=Reps.reads I n r2 q2 h.2;exact⟨_,.cons h1 h2⟩
end
noncomputable def jh7(R:RC)(neg:Bool):R2:=λx y H Q=>∃ Z d e O P,Rep R Z H d x O/\Rep R Z H e y P/\okE 20 d=true/\okE 20 e=true/\Q (.bl (neg != eqD d e)) H
theorem jmi(h:okE 20 x=true):SeqAt.shaped (je6 x)=true:=by
 obtain⟨a,b⟩:=jb5 20 x h;unfold SeqAt.shaped;rw[a,Bool.true_and];exact X4 (N8 b (by decide))
theorem jkO(f:X.A.units+64 < cLine):OpR X (compareOp .Eq) (jh7 ⟨X.K,cl⟩ false):=by
 intro c s σ H x y v u Q I g i h;obtain⟨Z,d,e,O,P,j,k,a,b,q⟩:=h;obtain⟨n,l⟩:=j.reads I 20 g a;obtain⟨bs,m⟩:=k.reads I 20 i b;refine eq_dataH l m (jmi a) (jmi b) f ?_;rw[jeQ 20 d e a b];exact⟨.bl _,H,I,rfl,by simpa using q⟩
theorem jme(f:X.A.units+64 < cLine):OpR X (compareOp .NotEq) (jh7 ⟨X.K,cl⟩ true):=by
 intro c s σ H x y v u Q I g i h;obtain⟨Z,d,e,O,P,j,k,a,b,q⟩:=h;obtain⟨n,l⟩:=j.reads I 20 g a;obtain⟨bs,m⟩:=k.reads I 20 i b;refine ne_dataH l m (jmi a) (jmi b) f ?_;rw[jeQ 20 d e a b];exact⟨.bl _,H,I,rfl,by simpa using q⟩
noncomputable def Jd(x y:D):Option D:=bif VL x&&VL y&&wy x y then some (.bl (eqF x y)) else bif okE 20 x&&okE 20 y then some (.bl (eqD x y)) else none
noncomputable def jjZ(x y:D):Option D:=bif VL x&&VL y&&wy x y then some (.bl (!eqF x y)) else bif okE 20 x&&okE 20 y then some (.bl (!eqD x y)) else none
theorem jm4:BO R (λx y H Q=>rEq x y H Q \/ jh7 R false x y H Q) Jd:=by
 intro Z H x y d v u O1 O2 z a b e Q k;unfold Jd at e;cases hl:VL x&&VL y&&wy x y with
 | true =>
  rw[hl] at e;cases e;obtain⟨c,f⟩:=jd2 a b hl;exact .inl ⟨c,by rw[f];exact k (Go.id z) .bl_mk⟩
 | false =>
  rw[hl,cond_false] at e;cases hm:okE 20 x&&okE 20 y with
  | false=>rw[hm] at e;cases e
  | true =>
   rw[hm] at e;cases e;rw[M0] at hm;exact .inr ⟨Z,x,y,O1,O2,a,b,hm.1,hm.2,by simpa using k (Go.id z) .bl_mk⟩
theorem jnn:BO R (λx y H Q=>rNe x y H Q \/ jh7 R true x y H Q) jjZ:=by
 intro Z H x y d v u O1 O2 z a b e Q k;unfold jjZ at e;cases hl:VL x&&VL y&&wy x y with
 | true =>
  rw[hl] at e;cases e;obtain⟨c,f⟩:=jd2 a b hl;exact .inl ⟨c,by rw[f];exact k (Go.id z) .bl_mk⟩
 | false =>
  rw[hl,cond_false] at e;cases hm:okE 20 x&&okE 20 y with
  | false=>rw[hm] at e;cases e
  | true =>
   rw[hm] at e;cases e;rw[M0] at hm;exact .inr ⟨Z,x,y,O1,O2,a,b,hm.1,hm.2,by simpa using k (Go.id z) .bl_mk⟩
theorem c_eq(a:Room k X.A):CmpR cl X .Eq b (λx y H Q=>rEq x y H Q \/ jh7 ⟨X.K,cl⟩ false x y H Q) Jd:=⟨Qs jnm (jkO a.units),jm4,jac _⟩
theorem jnO(a:Room k X.A):CmpR cl X .NotEq b (λx y H Q=>rNe x y H Q \/ jh7 ⟨X.K,cl⟩ true x y H Q) jjZ:=⟨Qs jnq (jme a.units),jnn,jac _⟩
def BM(R:RC)(T:String)(r:V->List V->Hp->VK->Prop)(g:D->List D->Option D):Prop:=∀{Z:Zn}{H:Hp}{x d:D}{xs:List D}{v:V}{vs:List V}{O1 O2:List Addr},Zd Z H->Rep R Z H x v O1->Reps R Z H xs vs O2->g x xs=some d ->
 ∀{Q:VK},(∀{w:V}{Z':Zn}{H':Hp}{P:List Addr},Go Z H [] Z' H' P->Rep R Z' H' d w P->Q w H')->r v vs H Q
noncomputable def isT:String->D->Bool
 | "str",.str _=>true
 | _,_=>false
noncomputable def pBM(T:String)(g:D->List D->Option D)(pa:PF)(pr:PAf):PF:=λρ=>match pa ρ with
 | none=>none
 | some x=>bif isT T x then(match pr ρ with
  | none=>none
  | some xs=>g x xs) else none
theorem jma(r:Rep R Z H x v O)(h:isT T x=true):tyV R.K T v H:=by
 unfold isT at h;split at h
 ·obtain⟨rfl,_⟩:=r.str_of;rfl
 ·cases h
theorem jng(f:BM R T r g)(h:PB R to pa)(i:PBs R ta pr):PP R (tBM R.K T r to ta) (pBM T g pa pr):=by
 intro σ ρ Z H O d z s e Q k;unfold pBM at e;cases e1:pa ρ with
 | none=>rw[e1] at e;cases e
 | some x =>
  rw[e1] at e;dsimp only at e;cases ht:isT T x with
  | false=>rw[ht] at e;cases e
  | true =>
   rw[ht,cond_true] at e;cases e2:pr ρ with
   | none=>rw[e2] at e;cases e
   | some n =>
    rw[e2] at e;refine h z s e1 λ{v o p P1} a c=>⟨jma c ht,?_⟩;refine i a.wf.zd (a.slots z s) e2 λ{q t u P2} b j=>?_;exact f b.wf.zd (b.rep a.wf.zd c) j e λl m=>k ((a.pair b).pair l) m
end QD
namespace QD
open PySem L2
noncomputable def KF(i:Nat)(g:D->Rh->Option Rh)(f:FS):Nat->Nat->FS
 | 0,_,_=>none
 | n+1,j,ρ=>match ρ[i]? with
  | some (some (.lst _ l))=>(match l[j]? with
   | none=>some (.nx ρ)
   | some x=>bif frz x then(match g x ρ with
    | none=>none
    | some ρ1=>match f ρ1 with
     | none=>none
     | some (.nx ρ2)=>KF i g f n (j+1) ρ2
     | some (.ct ρ2)=>KF i g f n (j+1) ρ2
     | some (.bk ρ2)=>some (.nx ρ2)
     | some (.rt d ρ2)=>some (.rt d ρ2)) else none)
  | _=>none
noncomputable def jaP(i:Nat)(g:D->Rh->Option Rh)(f:FS):FS:=λρ=>match ρ[i]? with
 | some (some (.lst _ l))=>KF i g f (l.length+1) 0 ρ
 | _=>none
theorem Keep.sub(h:∀ i∈pm,i∈pm')(k:Keep pm' σ σ'):Keep pm σ σ':=λi a=>k i (h i a)
theorem Slots.lst{ρ:Rh}{O:List Addr}{i:Nat}{l:List D}(s:Slots R Z H ρ σ O)(h:ρ[i]?=some (some (.lst o l))):∃ a vs O',σ[i]?=some (some (.ref a))/\SqX R.K H a vs/\Reps R Z H l vs O':=by
 obtain⟨A,P,B,rfl,b,_,_⟩:=s.put (L9.mp h).1;obtain⟨v,c,r⟩:=b _ h;obtain⟨a,vs,O',rfl,d,e⟩:=r.lst_of;exact⟨a,vs,O',c,d,e⟩
theorem jjk{pm:List Nat}{i:Nat}{g:D->Rh->Option Rh}(hg:PGt R (i::pm) tg g)(hf:DS R (i::pm) tb f)(inj:∀{H a xs ys},SqL R.K H a xs->SqL R.K H a ys->True):DS R pm (jl0 (ji6 R.K (JP i)) tg tb) (jaP i g f):=by
 intro σ ρ Z H O o w s e D' k;unfold jaP at e;split at e
 ·rename_i o0 l0 N;obtain⟨a,Q,O0,ea,S,rs0⟩:=s.lst N;refine⟨.ref a,ea,.inl ⟨a,rfl,⟨Q,S.sq⟩,?_⟩⟩;refine⟨λj m T U=>∃ n I J V,m=n/\Go Z H O J U V/\Slots R J U I T V/\Keep (i::pm) σ T/\KF i g f n j I=some o,⟨l0.length+1,_,ρ,Z,O,rfl,Go.refl w,s,Keep.refl _ _,e⟩,?_⟩;rintro j m T U ⟨n,I,J,V,em,W,X,kp,c⟩;subst em;cases m with
  | zero=>cases c
  | succ n =>
   unfold KF at c;split at c
   ·rename_i o1 l hl;obtain⟨a',Y,O1,ea',hx,rs⟩:=X.lst hl;have:a'=a:=by
     have q:=kp i L7;rw[ea',ea] at q;cases q;rfl
    subst this;cases hj:l[j]? with
    | none =>
     rw[hj] at c;cases c
     left
     refine⟨⟨Y,hx.sq,?_⟩,k W X (kp.sub λb y=>L6 _ y)⟩;rw[rs.length];exact List.getElem?_eq_none_iff.mp hj
    | some x =>
     rw[hj] at c;dsimp only at c;cases hf':frz x with
     | false=>rw[hf'] at c;cases c
     | true =>
      rw[hf',cond_true] at c
      right
      obtain⟨v,A,P,B,ev,_,rv,_⟩:=rs.at hj;cases rv.nil hf';cases e3:g x I with
      | none=>rw[e3] at c;cases c
      | some ρ1 =>
       rw[e3] at c;dsimp only at c;cases e4:f ρ1 with
       | none=>rw[e4] at c;cases c
       | some o2 =>
        rw[e4] at c;refine⟨⟨Y,v,hx.sq,ev⟩,λσ2 z=>∃ h L O2,Go Z H O L z O2/\Slots R L z h σ2 O2/\Keep (i::pm) σ σ2/\KF i g f n (j+1) h=some o,λσ2 z ⟨h,L,O2,a1,a2,a3,a4⟩=>⟨n,Nat.lt_succ_self _,n,h,L,O2,rfl,a1,a2,a3,a4⟩,λu z hy=>?_⟩;obtain⟨rfl,hy⟩:=hy;have C:=hy Y hx.sq;rw[ev] at C;cases C;refine hg rv X e3 λ{σ3 O3} sub nd s3 M=>?_;have E:Go Z H O J z O3:=W.drop sub (nd W.wf.nd);refine hf E.wf s3 e4 ?_;cases o2 with
        | nx h=>exact λ{σ4 F H4 G} p r t=>⟨h,F,G,E.trans p,r,kp.trans (M.trans t),c⟩
        | ct h=>exact λ{σ4 F H4 G} p r t=>⟨h,F,G,E.trans p,r,kp.trans (M.trans t),c⟩
        | bk h=>cases c;exact λ{σ4 F H4 G} p r t=>k (E.trans p) r ((kp.trans (M.trans t)).sub λb y=>L6 _ y)
        | rt d h=>cases c;exact λ{v4 σ4 F H4 P4 G} p r4 r t=>k (E.trans p) r4 r ((kp.trans (M.trans t)).sub λb y=>L6 _ y)
   ·cases c
 ·cases e
def ItB(R:RC)(J:It)(Z:Zn)(H:Hp)(xs:List D):Prop:=∀{Z1:Zn}{H1:Hp},(∀ a,Z a->Z1 a)->(∀ a,H a≠none->H1 a=H a)->Zd Z1 H1->∀ i:Nat,
 (xs.length<=i->J.stop i H1)/\∀ x,xs[i]?=some x->J.go i H1/\∀ u H2,J.yld i H1 u H2->∃ Z2,Go Z1 H1 [] Z2 H2 []/\Rep R Z2 H2 x u []
def jmo(R:RC)(wi:TI)(p:PAf):Prop:=∀{σ:St}{ρ:Rh}{Z:Zn}{H:Hp}{O:List Addr}{xs:List D},Zd Z H->Slots R Z H ρ σ O->p ρ=some xs ->
 ∀{Q:It->Hp->Prop},(∀{J:It}{Z':Zn}{H':Hp},Go Z H [] Z' H' []->ItB R J Z' H' xs->Q J H')->wi σ H Q
theorem PIt.b(h:PIt R wi p):jmo R wi p:=by
 intro σ ρ Z H O j z s e Q k;refine h z s e λg c=>k g ?_;intro l m d f zd i;exact c d (λa z=>f a (g.wf.zd a z)) zd i
noncomputable def K1(p:PF):PAf:=λρ=>match p ρ with
 | some (.lst _ l)=>bif frzs l then some l else none
 | some (.tup l)=>bif frzs l then some l else none
 | some (.str s)=>some (s.map λc=>.str [c])
 | _=>none
theorem jgR(b:∀ a,H a≠none->H' a=H a)(h:SqX K H a vs):SqX K H' a vs:=by
 rcases h with h | h
 ·refine .inl (Rd.agree (b a ?_) h);rcases h with h | ⟨o,h⟩<;>rw[h]<;>exact λz=>(nomatch z)
 ·exact .inr h
theorem jg0(b:∀ a,H a≠none->H' a=H a)(h:SqT K H a vs):SqT K H' a vs:=by
 rcases h with h | h
 ·refine .inl (Rd.agree (b a ?_) h);rcases h with h | ⟨o,h⟩<;>rw[h]<;>exact λz=>(nomatch z)
 ·exact .inr h
theorem jlb(h:PB R te p):jmo R (ji6 R.K te) (K1 p):=by
 intro σ ρ Z H O P z s e Q k;unfold K1 at e;split at e
 ·rename_i o l y;cases hf:frzs l with
  | false=>rw[hf] at e;cases e
  | true =>
   rw[hf] at e;cases e;refine h z s y λ{v I J P1} f A=>?_;obtain⟨a,d,T,rfl,B,C⟩:=A.lst_of;have g:=C.frozen hf;refine .inl ⟨a,rfl,⟨d,B.sq⟩,k f ?_⟩;intro r G D j zd i;have c:=SqX.sq (jgR j B);have m:Reps R r G P d []:=g.frame D (λb z=>j b (f.wf.zd b z)) λb L=>(nomatch L);refine⟨λM=>⟨d,c,by rw[C.length];exact M⟩,λx n=>?_⟩;obtain⟨u,E,N⟩:=m.item n;refine⟨⟨d,u,c,E⟩,λw S q=>?_⟩;obtain⟨rfl,q⟩:=q;have F:=q d c;rw[E] at F;cases F;exact⟨r,Go.id zd,N⟩
 ·rename_i l y;cases hf:frzs l with
  | false=>rw[hf] at e;cases e
  | true =>
   rw[hf] at e;cases e;refine h z s y λ{v I J P1} f A=>?_;obtain⟨a,d,rfl,B,C⟩:=A.tup_of;have g:=C.frozen hf;refine .inr (.inl ⟨a,rfl,⟨d,B⟩,k f ?_⟩);intro r G D j zd i;have c:=jg0 j B;have m:Reps R r G P d []:=g.frame D (λb z=>j b (f.wf.zd b z)) λb L=>(nomatch L);refine⟨λM=>⟨d,c,by rw[C.length];exact M⟩,λx n=>?_⟩;obtain⟨u,E,N⟩:=m.item n;refine⟨⟨d,u,c,E⟩,λw S q=>?_⟩;obtain⟨rfl,q⟩:=q;have F:=q d c;rw[E] at F;cases F;exact⟨r,Go.id zd,N⟩
 ·rename_i t y;cases e;refine h z s y λ{v I J P1} f A=>?_;obtain⟨rfl,_⟩:=A.str_of;refine .inr (.inr ⟨t,rfl,k f ?_⟩);intro r G D j zd i;exact jht (Z:=I) (H:=J) D (λb z=>j b (f.wf.zd b z)) zd i
 ·cases e
theorem jb3(hi:jmo R wi pi)(hg:PGt R [] tg g)(hq:PTt R tc q)(he:PP R te p) :
  PP R (wK wi tg tc te ix) (vR pi g q p ix):=by
 intro σ ρ Z H O d z s e Q k;unfold vR at e;cases e1:pi ρ with
 | none=>rw[e1] at e;cases e
 | some h =>
  rw[e1] at e;dsimp only at e;cases hl:lim h.length with
  | false=>rw[hl] at e;cases e
  | true =>
   rw[hl,cond_true] at e;cases e2:jJ g q p h (jI ix ρ) with
   | none=>rw[e2] at e;cases e
   | some all =>
    rw[e2] at e;cases e;refine hi z s e1 λ{J F L} g0 it=>?_;intro a ha;have M:=g0.wf.zd;obtain⟨Oi,si⟩:=V4 (g0.slots z s) ix;have gp:Go F L [] F (upd L a (.lst [])) [a]:=Go.newO (wf0 M) ha;refine⟨λi m σ2 w=>m=h.length - i/\i<=h.length/\∃ W G O2 x l j rest,Go F L [] G w (a::j)/\w a=some (.lst l)/\Reps R G w x l j/\(∀ b∈O2,b≠a)/\Slots R G w W σ2 O2/\jJ g q p (h.drop i) W=some rest/\all=x++rest/\x.length<=i,
     ⟨h.length,rfl,U6 _,_,F,Oi,[],[],[],all,gp,jy,Reps.empty,λb o e=>si.dom b o (e▸ha),gp.slots M si,e2,rfl,M9 _⟩,?_⟩
    rintro i m σ2 w ⟨rfl,hi',W,G,O2,x,l,j,rest,r,N,X,na,s2,c,Y,C⟩;have S:=it (Z1:=G) (H1:=w) r.zz (λb z=>r.same b z) r.wf.zd i;by_cases D:i < h.length
    ·right
     have hx:h[i]?=some h[i]:=by simp[D]
     obtain⟨go,yl⟩:=S.2 _ hx;refine⟨go,λu H3 hy=>?_⟩;obtain⟨Z3,I,r3⟩:=yl u H3 hy;rw[Kh hx] at c;unfold jJ at c;cases e5:g h[i] W with
     | none=>rw[e5] at c;cases c
     | some T =>
      rw[e5] at c;dsimp only at c;refine hg r3 (I.slots r.wf.zd s2) e5 λ{σ4 O4} sub nd s4 _=>?_;cases e6:q T with
      | none=>rw[e6] at c;cases c
      | some b =>
       rw[e6] at c;dsimp only at c;refine hq I.wf.zd s4 e6 λ{Z5 H5} U=>?_;have t:=I.pair U;cases b with
       | true =>
        refine jhB ?_;rw[cond_true] at c;cases e7:p T with
        | none=>rw[e7] at c;cases c
        | some y =>
         rw[e7] at c;dsimp only at c;cases e8:jJ g q p (h.drop (i+1)) T with
         | none=>rw[e8] at c;cases c
         | some ys2 =>
          rw[e8] at c;cases c;refine he U.wf.zd (U.slots I.wf.zd s4) e7 λ{v6 K v P6} g6 r6=>?_;have E:Go G w [] K v P6:=by simpa using t.pair g6
          have ea6:v a=some (.lst l):=by rw[E.same a (by rw[N];exact λz=>(nomatch z))];exact N
          have hvl:l.length < sizeLine:=by
           rw[X.length];exact x8 (n:=x.length) (X4 (N8 C (N8 hi' (X6 hl))))
          have gA:Go F L [] K v (a::j++P6):=by
           have f:=E.frame (A:=a::j) (B:=[]) (by simpa using r.wf);exact r.trans (by simpa using f)
          have w6:=gA.wf;have gB:Go K v (a::j++P6) K (upd v a (.lst (l++[v6]))) (a::j++P6):=Go.put w6 L7;have nd6:=List.nodup_cons.mp w6.nd;have ne:∀ b,b∈j++P6->upd v a (.lst (l++[v6])) b=v b:=λb o=>jm λz=>nd6.1 (z▸o);have V:∀ b,K b->upd v a (.lst (l++[v6])) b=v b:=λb o=>jm λz=>w6.nz a L7 (z▸o);refine⟨l,ea6,hvl,h.length - (i+1),by omega,rfl,D,T,K,O4,x++[y],l++[v6],j++P6,ys2,gA.trans gB,jy,?_,λb o=>na b (sub b o),?_,e8,by rw[Y];simp,by rw[N5];exact Nat.add_le_add_right C 1⟩
          ·refine((E.reps r.wf.zd X).append (.one r6)).frame (λb z=>z) V ne
          ·exact((U.pair g6).slots I.wf.zd s4).frame (λb z=>z) V λb o=>jm (na b (sub b o))
       | false =>
        refine jhz ?_;rw[cond_false] at c;have gA:Go F L [] Z5 H5 (a::j):=by
         have f:=t.frame (A:=a::j) (B:=[]) (by simpa using r.wf);exact r.trans (by simpa using f)
        exact⟨h.length - (i+1),by omega,rfl,D,T,Z5,O4,x,l,j,rest,gA,by rw[t.same a (by rw[N];exact λz=>(nomatch z))];exact N,t.reps r.wf.zd X,λb o=>na b (sub b o),U.slots I.wf.zd s4,c,Y,Nat.le_succ_of_le C⟩
    ·left
     have hi2:i=h.length:=by omega
     refine⟨S.1 (by omega),?_⟩;rw[hi2,List.drop_length] at c;cases c;rw[N0] at Y;subst Y;refine k (P:=a::j) (by simpa using g0.pair r) ?_;rw[Rep];exact⟨a,l,j,rfl,X,N,rfl⟩
structure QIb(cl:Nat->Addr)(X:Cx)(tg e:Expr)(wi:TI)(p:PAf):Prop where
 sem:PI X tg e wi
 den:jmo ⟨X.K,cl⟩ wi p
theorem QI.b'(h:QI cl X tg e wi pi):QIb cl X tg e wi pi:=⟨h.sem,PIt.b h.den⟩
theorem vB(h:QB cl X e te pe):QIb cl X tg e (ji6 X.K te) (K1 pe):=⟨jd8 h.sem,jlb h.den⟩
theorem kf(B:BlockOk X scope N' ix)(d:X.calm=true)(hi:QIb cl X tg iter wi pi)
  (b:∀ C s H fp,QG cl [] (yT X scope N' C s H fp) tg t g) (a:∀ C s H fp,QIf cl (yT X scope N' C s H fp) ifs tcc qq) (c:∀ C s H fp,QP cl (yT X scope N' C s H fp) elt te pe)
  (e:∀ x,foldedSetIterable iter X.env x=pure x:=by intro _;rfl):QP cl X (.ListComp elt [⟨tg,iter,ifs,0⟩] scope pos) (wK wi t tcc te ix) (vR pi g qq pe ix) :=
 ⟨jbw B d hi.sem (λC s H fp=>(b C s H fp).sem) (λC s H fp=>(a C s H fp).sem) (λC s H fp=>(c C s H fp).sem) e,
  jb3 hi.den (b 0 X.s₀ X.H₀ []).den (a 0 X.s₀ X.H₀ []).den (c 0 X.s₀ X.H₀ []).den⟩
theorem vG(B:BlockOk X scope N' ix)(h:X.calm=true)(hi:QIb cl X tg iter wi pi)
  (e:∀ C s H fp,QG cl [] (yT X scope N' C s H fp) tg t g) (a:∀ C s H fp,QIf cl (yT X scope N' C s H fp) ifs tcc qq) (f:∀ C s H fp,QP cl (yT X scope N' C s H fp) elt te pe)
  (j:X.N.Nodup) (b:X.N[i]?=some x:=by rfl) (k:Loc X.env.scope x:=by first | exact Or.inl rfl | exact Or.inr rfl)
  (c:swapsWith (.ListComp elt [⟨tg,iter,ifs,0⟩] scope pos) (some (.Name x pos')) spos.line X.env=pure true:=by with_unfolding_all rfl)
  (l:∀ x,foldedSetIterable iter X.env x=pure x:=by intro _;rfl)
  (m:X.fn x=true \/ X.env.scope.names.lookup x=some .local:=by first | exact .inl rfl | exact .inr rfl) :
  QS cl pm X (.Assign [.Name x pos'] (.ListComp elt [⟨tg,iter,ifs,0⟩] scope pos) spos) (jgg (wK wi t tcc te ix) (QH i)) (yx (dP (vR pi g qq pe ix)) (ji pm i)) :=
 ⟨jct B h hi.sem (λC s H fp=>(e C s H fp).sem) (λC s H fp=>(a C s H fp).sem) (λC s H fp=>(f C s H fp).sem) j b k c l m,
  jdF (PP.d (jb3 hi.den (e 0 X.s₀ X.H₀ []).den (a 0 X.s₀ X.H₀ []).den (f 0 X.s₀ X.H₀ []).den)) jaQ⟩
theorem jjt(c:PassesOwn (model X.prog X.w) X.A X.env X.xe)(d:X.calm=true)(e:QB cl X (.Name x xpos) (JP i) (pV i))(a:QG cl (i::pm) X tg t g)(b:QSs cl (i::pm) X body ts f)
  (h:∀ z,foldedSetIterable (.Name x xpos) X.env z=pure z:=by intro _;rfl):QS cl pm X (.For tg (.Name x xpos) body [] pos) (jl0 (ji6 X.K (JP i)) t ts) (jaP i g f) :=
 ⟨jhd c d (jd8 e.sem) a.sem b.sem h,jjk a.den b.den λ_ _=>trivial⟩
noncomputable def Out.thn:Out->FS->Option Out
 | .nx ρ,g=>g ρ
 | .rt d ρ,_=>some (.rt d ρ)
 | .bk ρ,_=>some (.bk ρ)
 | .ct ρ,_=>some (.ct ρ)
@[simp] theorem jdi(ρ:Rh)(g:FS):(Out.nx ρ).thn g=g ρ:=rfl
@[simp] theorem thn_rt(d:D)(ρ:Rh)(g:FS):(Out.rt d ρ).thn g=some (.rt d ρ):=rfl
@[simp] theorem thn_bk(ρ:Rh)(g:FS):(Out.bk ρ).thn g=some (.bk ρ):=rfl
@[simp] theorem thn_ct(ρ:Rh)(g:FS):(Out.ct ρ).thn g=some (.ct ρ):=rfl
@[simp] theorem je4:jQ f g ρ=(f ρ).bind λo=>o.thn g:=by
 unfold jQ;cases h:f ρ with
 | none=>rfl
 | some o=>cases o<;>rfl
@[simp] theorem sNext_e:yG ρ=some (.nx ρ):=rfl
@[simp] theorem sRet_e:kr fe ρ=(fe ρ).bind λx=>some (.rt x.1 x.2):=by unfold kr;cases fe ρ<;>rfl
@[simp] theorem sDrop_e:jcl fe ρ=(fe ρ).bind λx=>some (.nx x.2):=by unfold jcl;cases fe ρ<;>rfl
@[simp] theorem jlK:yx fe G ρ=(fe ρ).bind λx=>(G x.1 x.2).bind λr=>some (.nx r):=by
 unfold yx;cases fe ρ with
 | none=>rfl
 | some x=>obtain⟨d,r⟩:=x;dsimp only[Option.bind];cases G d r<;>rfl
@[simp] theorem sIf_e:sIf ft f g ρ=(ft ρ).bind λx=>bif x.1 then f x.2 else g x.2:=by unfold sIf;cases ft ρ<;>rfl
@[simp] theorem dP_e:dP pa ρ=(pa ρ).bind λd=>some (d,ρ):=by unfold dP;cases pa ρ<;>rfl
@[simp] theorem dPT_e:dPT q ρ=(q ρ).bind λd=>some (d,ρ):=by unfold dPT;cases q ρ<;>rfl
@[simp] theorem dMv_e:dMv i ρ=(pV i ρ).bind λd=>some (d,ρ.set i none):=by
 unfold dMv pV;cases ρ[i]? with
 | none=>rfl
 | some o=>cases o<;>rfl
@[simp] theorem pC_e:pC d ρ=some d:=rfl
@[simp] theorem pN_e:pN ρ=some []:=rfl
@[simp] theorem qT_e:qT ρ=some true:=rfl
@[simp] theorem oN_e:oN ρ=some none:=rfl
@[simp] theorem pV0:pV 0 (o::ρ)=o:=by unfold pV;cases o<;>rfl
@[simp] theorem pVs:pV (i+1) (o::ρ)=pV i ρ:=rfl
@[simp] theorem p2_e:p2 G pa pb ρ=(pa ρ).bind λx=>(pb ρ).bind λy=>G x y:=by
 unfold p2;cases pa ρ with
 | none=>rfl
 | some x=>dsimp only[Option.bind];cases pb ρ<;>rfl
@[simp] theorem p1_e:p1 G pa ρ=(pa ρ).bind G:=by unfold p1;cases pa ρ<;>rfl
@[simp] theorem pF_e:pF pa ρ=(pa ρ).bind λd=>bif frz d then some d else none:=by unfold pF;cases pa ρ<;>rfl
@[simp] theorem jjh:jc pa p ρ=(pa ρ).bind λx=>(p ρ).bind λxs=>some (x::xs):=by
 unfold jc;cases pa ρ with
 | none=>rfl
 | some x=>dsimp only[Option.bind];cases p ρ<;>rfl
@[simp] theorem jly:pCB G p ρ=(p ρ).bind G:=by unfold pCB;cases p ρ<;>rfl
@[simp] theorem pTup_e:kH p ρ=(p ρ).bind λxs=>bif lim xs.length then some (.tup xs) else none:=by unfold kH;rw[jly]
@[simp] theorem pLst_e:Vn p ρ=(p ρ).bind λxs=>bif lim xs.length then some (.lst true xs) else none:=by unfold Vn;rw[jly]
@[simp] theorem pCall_e:yh m p ρ=(p ρ).bind λds=>(m (fzs ds)).bind λd=>bif frzs ds||kt d then some d else none:=by
 unfold yh;cases p ρ with
 | none=>rfl
 | some x=>dsimp only[Option.bind];cases m (fzs x)<;>rfl
noncomputable def jmp:D->Option Bool
 | .bl b=>some b
 | _=>none
@[simp] theorem blOf_bl(b:Bool):jmp (.bl b)=some b:=rfl
@[simp] theorem jiS:jx pa ρ=(pa ρ).bind jmp:=by
 unfold jx;cases pa ρ with
 | none=>rfl
 | some d=>cases d<;>rfl
@[simp] theorem qNot_e:jfq q ρ=(q ρ).bind λb=>some (!b):=by unfold jfq;cases q ρ<;>rfl
@[simp] theorem jkI:zh q q' ρ=(q ρ).bind λb=>bif b then q' ρ else some false:=by unfold zh;cases q ρ<;>rfl
@[simp] theorem qOr_e:qOr q q' ρ=(q ρ).bind λb=>bif b then some true else q' ρ:=by unfold qOr;cases q ρ<;>rfl
@[simp] theorem pNot_e:jio pa ρ=(pa ρ).bind λd=>(jmp d).bind λb=>some (.bl (!b)):=by
 unfold jio;cases pa ρ with
 | none=>rfl
 | some d=>cases d<;>rfl
@[simp] theorem pAnd_e:QN pa pb ρ=(pa ρ).bind λd=>(jmp d).bind λb=>bif b then pb ρ else some (.bl false):=by
 unfold QN;cases pa ρ with
 | none=>rfl
 | some d=>cases d<;>rfl
@[simp] theorem pIf_e:pIf q pa pb ρ=(q ρ).bind λb=>bif b then pa ρ else pb ρ:=by unfold pIf;cases q ρ<;>rfl
@[simp] theorem oS_e:oS pa ρ=(pa ρ).bind λd=>match d with | .int i=>some (some i) | _=>none:=by
 unfold oS;cases pa ρ with
 | none=>rfl
 | some d=>cases d<;>rfl
@[simp] theorem pSl_e:pSl pa pl ph ρ=(pa ρ).bind λx=>(pl ρ).bind λlo=>(ph ρ).bind λhi=>jft lo hi x:=by
 unfold pSl;cases pa ρ with
 | none=>rfl
 | some x =>
  dsimp only[Option.bind];cases pl ρ with
  | none=>rfl
  | some lo=>dsimp only;cases ph ρ<;>rfl
@[simp] theorem gSet_e:ji pm i d ρ=bif decide (i < ρ.length)&&!decide (i∈pm) then some (ρ.set i (some d)) else none:=rfl
@[simp] theorem gN_e:gN [] ρ=some ρ:=rfl
@[simp] theorem gC_e:gC G Gs (d::r) ρ=(G d ρ).bind λρ1=>Gs r ρ1:=by
 show(match G d ρ with | none=>none | some ρ1=>Gs r ρ1)=_;cases G d ρ<;>rfl
@[simp] theorem gT_e:gT n Gs (.tup l) ρ=bif decide (l.length=n) then Gs l ρ else none:=rfl
@[simp] theorem sFz_e:sFz i f ρ=match pV i ρ with | some d=>f (ρ.set i (some (fz d))) | none=>f ρ:=by
 unfold sFz pV;cases ρ[i]? with
 | none=>rfl
 | some o=>cases o<;>rfl
noncomputable def jjF:D->Option (List D)
 | .lst true l=>some l
 | _=>none
@[simp] theorem lstOf_lst(l:List D):jjF (.lst true l)=some l:=rfl
@[simp] theorem sApp_e:wA i pa ρ=(pa ρ).bind λd=>(pV i ρ).bind λx=>(jjF x).bind λl=>bif lim l.length then some (.nx (ρ.set i (some (.lst true (l++[d]))))) else none:=by
 unfold wA pV;cases pa ρ with
 | none=>rfl
 | some d =>
  dsimp only[Option.bind];cases ρ[i]? with
  | none=>rfl
  | some o=>cases o with
   | none=>rfl
   | some x=>cases x with
    | lst o l=>cases o<;>rfl
    | _=>rfl
@[simp] theorem sFor_e:Kc p G f ρ=(p ρ).bind λxs=>vW G f xs ρ:=by unfold Kc;cases p ρ<;>rfl
@[simp] theorem pIt_e:pIt pa ρ=(pa ρ).bind zX:=by unfold pIt;cases pa ρ<;>rfl
@[simp] theorem pItB_lst:K1 pa ρ=(pa ρ).bind λd=>match d with | .lst _ l=>bif frzs l then some l else none | .tup l=>bif frzs l then some l else none | .str s=>some (s.map λc=>D.str [c]) | _=>none:=by
 unfold K1;cases pa ρ with
 | none=>rfl
 | some d=>cases d<;>rfl
noncomputable def Kx:List D->Option (List D)
 | [.lst _ l]=>some (yq 0 (fzs l))
 | _=>none
noncomputable def jhy:List D->Option (List D)
 | [.int j]=>bif xM j then some (YG 0 j.toNat) else none
 | _=>none
@[simp] theorem enumOf_e(o:Bool)(l:List D):Kx [.lst o l]=some (yq 0 (fzs l)):=rfl
theorem jfh(h:-(2 ^ 62) < j)(k:j < 2 ^ 62):xM j=true:=Nat.ble_eq_true_of_le (by omega)
theorem kB(h:-(2 ^ 62) < j)(k:j < 2 ^ 62):jhy [.int j]=some (YG 0 j.toNat):=by
 show(bif xM j then some (YG 0 j.toNat) else none)=_;rw[jfh h k];rfl
@[simp] theorem pEnum_e:Qg p ρ=(p ρ).bind Kx:=by
 unfold Qg;cases p ρ with
 | none=>rfl
 | some d =>
  match d with
  | []=>rfl
  | [x]=>cases x<;>rfl
  | x::y::r=>cases x<;>rfl
@[simp] theorem pRng1_e:VW p ρ=(p ρ).bind jhy:=by
 unfold VW;cases p ρ with
 | none=>rfl
 | some d =>
  match d with
  | []=>rfl
  | [x]=>cases x<;>rfl
  | x::y::r=>cases x<;>rfl
@[simp] theorem jeK:vR pi G q pa ix ρ=(pi ρ).bind λxs=>bif lim xs.length then((jJ G q pa xs (jI ix ρ)).bind λys=>some (.lst true ys)) else none:=by
 unfold vR;cases pi ρ with
 | none=>rfl
 | some xs =>
  dsimp only[Option.bind];cases lim xs.length with
  | false=>rfl
  | true=>dsimp only[cond];cases jJ G q pa xs (jI ix ρ)<;>rfl
@[simp] theorem pIsI_e:jax T pa ρ=(pa ρ).bind λd=>(tyD d).bind λt=>some (.bl (wS t T)):=by
 unfold jax;cases pa ρ with
 | none=>rfl
 | some d=>dsimp only[Option.bind];cases tyD d<;>rfl
noncomputable def Out.val:Out->Option D
 | .rt d _=>some d
 | .nx _=>some .non
 | _=>none
@[simp] theorem val_rt(d:D)(ρ:Rh):(Out.rt d ρ).val=some d:=rfl
@[simp] theorem val_nx(ρ:Rh):(Out.nx ρ).val=some .non:=rfl
theorem j7(n:Nat)(f:FS)(ds:List D):fnP n f ds=(f (ds.map some++List.replicate (n - ds.length) none)).bind Out.val:=by
 unfold fnP;cases f (ds.map some++List.replicate (n - ds.length) none) with
 | none=>rfl
 | some o=>cases o<;>rfl
@[simp] theorem sLoop_nil:vW G f [] ρ=some (.nx ρ):=rfl
noncomputable def Out.loop:Out->FS->Option Out
 | .nx ρ,g=>g ρ
 | .ct ρ,g=>g ρ
 | .bk ρ,_=>some (.nx ρ)
 | .rt d ρ,_=>some (.rt d ρ)
@[simp] theorem kK(ρ:Rh)(g:FS):(Out.nx ρ).loop g=g ρ:=rfl
@[simp] theorem loop_ct(ρ:Rh)(g:FS):(Out.ct ρ).loop g=g ρ:=rfl
@[simp] theorem loop_bk(ρ:Rh)(g:FS):(Out.bk ρ).loop g=some (.nx ρ):=rfl
@[simp] theorem loop_rt(d:D)(ρ:Rh)(g:FS):(Out.rt d ρ).loop g=some (.rt d ρ):=rfl
theorem yy:vW G f (x::xs) ρ=(G x ρ).bind λr=>(f r).bind λo=>o.loop (vW G f xs):=by
 rw[vW];cases G x ρ with
 | none=>rfl
 | some r =>
  dsimp only[Option.bind];cases f r with
  | none=>rfl
  | some o=>cases o<;>rfl
@[simp] theorem cLoop_nil:jJ G q p [] ρ=some []:=rfl
theorem jL:jJ G q p (x::xs) ρ=(G x ρ).bind λr=>(q r).bind λb=>bif b then((p r).bind λy=>(jJ G q p xs r).bind λys=>some (y::ys)) else jJ G q p xs r:=by
 rw[jJ];cases G x ρ with
 | none=>rfl
 | some r =>
  dsimp only[Option.bind];cases q r with
  | none=>rfl
  | some b=>cases b with
   | false=>rfl
   | true =>
    dsimp only[cond];cases p r with
    | none=>rfl
    | some y=>dsimp only;cases jJ G q p xs r<;>rfl
theorem vj(P:Nat->Rh->Prop)(step:∀ i x ρ,xs[i]?=some x->P i ρ->∃ ρ1 ρ2,G x ρ=some ρ1/\(f ρ1=some (.nx ρ2) \/ f ρ1=some (.ct ρ2))/\P (i+1) ρ2)  (h0:P 0 ρ) :
  ∃ ρ',vW G f xs ρ=some (.nx ρ')/\P xs.length ρ':=by
 have c:∀(n i:Nat) (ρ:Rh),xs.length - i=n->i<=xs.length->P i ρ->∃ ρ',vW G f (xs.drop i) ρ=some (.nx ρ')/\P xs.length ρ':=by
  intro n
  induction n with
  | zero =>
   intro i ρ e g p;have:i=xs.length:=by omega
   subst this;exact⟨ρ,by rw[List.drop_length];rfl,p⟩
  | succ n h =>
   intro i ρ e g p;have a:i < xs.length:=by omega
   have d:xs[i]?=some xs[i]:=by simp[a]
   obtain⟨ρ1,ρ2,j,b,p2⟩:=step i _ ρ d p;obtain⟨ρ',k,p3⟩:=h (i+1) ρ2 (by omega) a p2;refine⟨ρ',?_,p3⟩;rw[Kh d,yy,j];rcases b with b | b<;>simp[b,k]
 exact c _ 0 ρ rfl (U6 _) h0
theorem jeG(P:Nat->Rh->Prop)(k:∀ j ρ,P j ρ->pV i ρ=some (.lst o l))
  (step:∀ j x ρ,l[j]?=some x->P j ρ->frz x=true/\∃ ρ1 ρ2,G x ρ=some ρ1/\(f ρ1=some (.nx ρ2) \/ f ρ1=some (.ct ρ2))/\P (j+1) ρ2)  (h0:P 0 ρ) :
  ∃ ρ',jaP i G f ρ=some (.nx ρ')/\P l.length ρ':=by
 have at_:∀ j ρ,P j ρ->ρ[i]?=some (some (.lst o l)):=by
  intro j ρ p;have h:=k j ρ p;unfold pV at h;split at h
  ·rename_i d hd;cases h;exact hd
  ·cases h
 have c:∀(n j:Nat) (ρ:Rh),l.length - j=n->j<=l.length->P j ρ->∃ ρ',KF i G f (n+1) j ρ=some (.nx ρ')/\P l.length ρ':=by
  intro n
  induction n with
  | zero =>
   intro j ρ m q p;have:j=l.length:=by omega
   subst this;refine⟨ρ,?_,p⟩;unfold KF;rw[at_ _ ρ p];simp
  | succ n r =>
   intro j ρ m q p;have a:j < l.length:=by omega
   have g:l[j]?=some l[j]:=by simp[a]
   obtain⟨s,ρ1,ρ2,t,b,p2⟩:=step j _ ρ g p;obtain⟨ρ',u,p3⟩:=r (j+1) ρ2 (by omega) a p2;refine⟨ρ',?_,p3⟩;unfold KF;rw[at_ _ ρ p];dsimp only;rw[g];dsimp only;rw[s,cond_true,t];rcases b with b | b<;>simp[b,u]
 obtain⟨ρ',e,p⟩:=c _ 0 ρ rfl (U6 _) h0;refine⟨ρ',?_,p⟩;unfold jaP;rw[at_ _ ρ h0];simpa using e
theorem jep{G:D->Rh->Option Rh}{xs:List D}{l:List α}{en:α->D}{out:α->D}(a:xs=l.map en)(P:Rh->Prop)(step:∀ x∈l,∀ ρ,P ρ->∃ ρ1,G (en x) ρ=some ρ1/\p ρ1=some (out x)/\P ρ1){ρ:Rh}(h0:P ρ):jJ G qT p xs ρ=some (l.map out):=by
 subst a
 induction l generalizing ρ with
 | nil=>rfl
 | cons x l b =>
  obtain⟨ρ1,c,d,p1⟩:=step x L7 ρ h0;rw[L5,jL,c];simp[d,b (λy e=>step y (L6 _ e)) p1]
@[simp] theorem cond_dec(p:Prop) [Decidable p] (x y:α):(bif decide p then x else y)=if p then x else y:=by by_cases h:p<;>simp[h]
@[simp] theorem cond_beq_int(i j:Int)(x y:α):(bif i==j then x else y)=if i=j then x else y:=by
 by_cases h:i=j
 ·subst h;simp
 ·rw[if_neg h,U3.mpr h];rfl
@[simp] theorem ite_bind(p:Prop) [Decidable p] (x y:Option α) (f:α->Option β):(if p then x else y).bind f=if p then x.bind f else y.bind f:=by by_cases h:p<;>simp[h]
@[simp] theorem add_ii(i j:Int):jG (.int i) (.int j)=some (.int (i+j)):=rfl
@[simp] theorem sub_ii(i j:Int):jfx (.int i) (.int j)=some (.int (i - j)):=rfl
theorem Ji(h:i.natAbs < 2 ^ 1000)(k:j.natAbs < 2 ^ 1000):vw (.int i) (.int j)=some (.int (i*j)):=by
 show(bif jic i&&jic j then some (D.int (i*j)) else none)=_;rw[jdC h,jdC k];rfl
theorem yn(h:0 < j)(k:j < 2 ^ 300):jZ (.int i) (.int j)=some (.int (i / j)):=by
 show(bif decide (0 < j)&&decide (j < 2 ^ 300) then some (D.int (i / j)) else none)=_;rw[X4 h,X4 k];rfl
theorem jH(h:0 < j):jC (.int i) (.int j)=some (.int (i % j)):=by
 show(bif decide (0 < j) then some (D.int (i % j)) else none)=_;rw[X4 h];rfl
@[simp] theorem opB_ii(g:Int->Int->Bool)(i j:Int):opB g (.int i) (.int j)=some (.bl (g i j)):=rfl
@[simp] theorem eq_ii(i j:Int):Jd (.int i) (.int j)=some (.bl (i==j)):=rfl
@[simp] theorem ne_ii(i j:Int):jjZ (.int i) (.int j)=some (.bl (!(i==j))):=rfl
@[simp] theorem jg6(g:Int->Int->Int)(i j:Int):f2I g [.int i,.int j]=some (.int (g i j)):=rfl
@[simp] theorem frz_int(i:Int):frz (.int i)=true:=rfl
@[simp] theorem frz_bl(i:Bool):frz (.bl i)=true:=rfl
@[simp] theorem frz_str(i:List Nat):frz (.str i)=true:=rfl
@[simp] theorem frz_non:frz .non=true:=rfl
@[simp] theorem fz_int(i:Int):fz (.int i)=.int i:=rfl
@[simp] theorem fz_bl(i:Bool):fz (.bl i)=.bl i:=rfl
@[simp] theorem fz_str(i:List Nat):fz (.str i)=.str i:=rfl
@[simp] theorem fz_non:fz .non=.non:=rfl
@[simp] theorem fz_lst(o:Bool)(l:List D):fz (.lst o l)=.lst false (fzs l):=rfl
@[simp] theorem fz_tup(l:List D):fz (.tup l)=.tup (fzs l):=rfl
@[simp] theorem frz_lst(o:Bool)(l:List D):frz (.lst o l)=(!o&&frzs l):=rfl
@[simp] theorem frz_tup(l:List D):frz (.tup l)=frzs l:=rfl
@[simp] theorem fzs_nil:fzs []=[]:=rfl
@[simp] theorem fzs_cons(d:D)(l:List D):fzs (d::l)=fz d::fzs l:=rfl
@[simp] theorem frzs_nil:frzs []=true:=rfl
@[simp] theorem KG(d:D)(l:List D):frzs (d::l)=(frz d&&frzs l):=rfl
@[simp] theorem clean_int(i:Int):kt (.int i)=true:=rfl
@[simp] theorem clean_bl(i:Bool):kt (.bl i)=true:=rfl
@[simp] theorem clean_str(i:List Nat):kt (.str i)=true:=rfl
@[simp] theorem clean_non:kt .non=true:=rfl
@[simp] theorem clean_lst(o:Bool)(l:List D):kt (.lst o l)=(o&&yg l):=rfl
@[simp] theorem clean_tup(l:List D):kt (.tup l)=yg l:=rfl
@[simp] theorem cleans_nil:yg []=true:=rfl
@[simp] theorem cleans_cons(d:D)(l:List D):yg (d::l)=(kt d&&yg l):=rfl
@[simp] theorem fzs_ints(l:List Int):fzs (l.map D.int)=l.map D.int:=by
 rw[JJ,U2];rfl
@[simp] theorem frzs_ints(l:List Int):frzs (l.map D.int)=true:=by
 rw[Vw,List.all_map,List.all_eq_true];intro x _;rfl
theorem vU:∀ l:List D,yg l=l.all kt
 | []=>rfl
 | d::l=>by rw[yg,vU l];rfl
@[simp] theorem VN(l:List Int):yg (l.map D.int)=true:=by
 rw[vU,List.all_map,List.all_eq_true];intro x _;rfl
@[simp] theorem intsD_ints(l:List Int):Y6 (l.map D.int)=some l:=by
 induction l with
 | nil=>rfl
 | cons x l a=>show(match Y6 (l.map D.int) with | some r=>some (x::r) | none=>none)=_;rw[a]
@[simp] theorem boolsD_bools(l:List Bool):VA (l.map D.bl)=some l:=by
 induction l with
 | nil=>rfl
 | cons x l a=>show(match VA (l.map D.bl) with | some r=>some (x::r) | none=>none)=_;rw[a]
@[simp] theorem jbQ(o:Bool)(l:List D):jj1 [.lst o l]=(Y6 l).bind λns=>some (.int ns.sum):=by
 show(match Y6 l with | some ns=>some (D.int ns.sum) | none=>none)=_;cases Y6 l<;>rfl
@[simp] theorem fLen_lst(o:Bool)(l:List D):kJ [.lst o l]=some (.int l.length):=rfl
@[simp] theorem fLen_tup(l:List D):kJ [.tup l]=some (.int l.length):=rfl
@[simp] theorem itemsOf_lst(o:Bool)(l:List D):zX (.lst o l)=some (fzs l):=rfl
@[simp] theorem itemsOf_tup(l:List D):zX (.tup l)=some (fzs l):=rfl
@[simp] theorem tyD_int(i:Int):tyD (.int i)=some "int":=rfl
@[simp] theorem tyD_bl(i:Bool):tyD (.bl i)=some "bool":=rfl
@[simp] theorem tyD_str(i:List Nat):tyD (.str i)=some "str":=rfl
@[simp] theorem tyD_non:tyD .non=some "NoneType":=rfl
@[simp] theorem tyD_lst(o:Bool)(l:List D):tyD (.lst o l)=some "list":=rfl
@[simp] theorem tyD_tup(l:List D):tyD (.tup l)=some "tuple":=rfl
theorem jkN{c:Nat->Addr}{m:List D->Option D}{ns:List Int}(h:m [.lst false (ns.map D.int)]=some (.bl true))(d:SqX K H a (ns.map V.int)):spP ⟨K,c⟩ m 1 [.ref a] H (λv _=>v=.bl true) E:=by
 refine⟨λb=>b=a/\H a≠none,[.lst false (ns.map D.int)],.bl true,λb e=>by rw[e.1];exact e.2,rfl,.one ?_,h,λg r=>r.bl_of.1⟩;rw[Rep];have f:∀(l:List Int),Reps ⟨K,c⟩ (λb=>b=a/\H a≠none) H (l.map D.int) (l.map V.int) []:=by
  intro l
  induction l with
  | nil=>exact .empty
  | cons x l i=>exact .cons (O:=[]) (P:=[]) .int_mk i
 refine⟨a,ns.map V.int,[],rfl,f ns,?_⟩;show FL _ _ _ _ _/\_;refine⟨?_,rfl,rfl⟩;rcases d with d | d
 ·refine .inl ⟨⟨rfl,?_⟩,d⟩;rcases d with d | ⟨o,d⟩<;>rw[d]<;>exact λz=>(nomatch z)
 ·exact .inr d
end QD
namespace L2
open PySem PySem.Spec PyProof.Rows
end L2
namespace QD
open PySem L2 PySem.Spec PyProof.Rows
section
variable {R:RC}{Z:Zn}{H:Hp}
noncomputable def Vz(a b:List Nat):Int:=Txt.find (S a) (S b)
end
section
variable {cl:Nat->Addr}{X:Cx}{o e:Expr}{es:List Expr}{to:TE}{po:PF}{tr:TA}{pr:PAf}{name:Str}{apos cpos:Pos}{T id:String}{r:V->List V->Hp->VK->Prop}{g:D->List D->Option D}
theorem jnF(pa:PlainAttrs T)(slot:Slot T name id)(f:typeOf (.builtin id)=pure (.type "method_descriptor"))(j:MtR X id r)(k:BM ⟨X.K,cl⟩ T r g)(h:QB cl X o to po)(i:QBs cl X (e::es) tr pr)
  (b:attributeBase o name X.env (eval o X.env)=eval o X.env:=by rfl)
  (d:((backTo cpos (starEach (e::es) X.env)).all (λx=>!x.1)&&(backToKw cpos (keywordEach [] X.env)).all (λx=>x.1.isSome)
   && decide ((e::es).length+([]:List Keyword).length+(if([]:List Keyword).isEmpty then 0 else 1) < 30))=true:=by rfl)
  (c:(apos.endLine==cpos.line)=true:=by rfl) (l:starEach (e::es) X.env=(false,eval e X.env)::starEach es X.env:=by rfl) (a:(backTo cpos (starEach es X.env)).any (·.1)=false:=by rfl) :
  QP cl X (.Call (.Attribute o name apos) (e::es) [] cpos) (tBM X.K T r to tr) (pBM T g po pr) :=
 ⟨jga pa slot f j h.sem i.sem b d c l a,jng k h.den i.den⟩
end
@[simp] theorem pBM_e{g:D->List D->Option D}{pa:PF}{pr:PAf}{ρ:Rh}:pBM "str" g pa pr ρ=(pa ρ).bind λx=>bif isT "str" x then(pr ρ).bind λxs=>g x xs else none:=by
 unfold pBM;cases pa ρ with
 | none=>rfl
 | some x=>dsimp only[Option.bind];cases isT "str" x<;>cases pr ρ<;>rfl
@[simp] theorem isT_str(w:List Nat):isT "str" (.str w)=true:=rfl
end QD
namespace QK
open PySem L2 QD PySem.Spec PyProof.Rows
section
variable {cl:Nat->Addr}{pm:List Nat}{X:Cx}{a b c e o:Expr}{es:List Expr}{ta tb tc te to:TE}{pa pb pc pe po:PF}{tr:TA}{pr:PAf}{pos:Pos}{K:PySem.W.Frag}
variable {tg iter elt:Expr}{ifs:List Expr}{wi:TI}{pi:PAf}{t:TG}{g:D->Rh->Option Rh}
theorem add(c:X.K=K)(d:QB cl X a ta pa)(e:QB cl X b tb pb):QP cl X (.BinOp a .Add b pos) (tOp (jes K) ta tb) (p2 jG pa pb):=by subst c;exact yL d e
theorem ix(c:X.K=K)(d:QB cl X a ta pa)(e:QB cl X b tb pb)(f:z9 b:=by exact λ_ _=>rfl):QB cl X (.Subscript a b pos) (tOp (rIx K) ta tb) (p2 jq pa pb):=by subst c;exact yH d e f
theorem sl{lo hi:Option Expr}{tl th:TO}{pl c:OF}{b:Pos}(d:X.K=K)(e:QB cl X a ta pa)(f:QO cl X lo tl pl)(g:QO cl X hi th c):QP cl X (.Subscript a (.Slice lo hi none b) pos) (tSl (jmq K) ta tl th) (pSl pa pl c):=by subst d;exact jbc e f g
theorem call{k n:Nat}{f:Addr}{fd:FuncData}{ps:List Str}{m:List D->Option D}{x qual:Str}{st:Stmt}{p:Pos}(c:X.K=K)(F:FnFact X.K X.mg x qual st f fd ps)(G:FnOk X.prog X.w X.K X.mg X.base CX0 k f fd ps (spP ⟨X.K,cl⟩ m n))(d:Room k X.A)
  (g:QBs cl X (e::es) tr pr) (hn:(e::es).length=n:=by rfl) (h:Gl X x:=by rfl) (a:(x==("__debug__" : Str))=false:=by decide)
  (i:starEach (e::es) X.env=(false,eval e X.env)::starEach es X.env:=by rfl) (b:(backTo pos (starEach es X.env)).any (·.1)=false:=by rfl):QP cl X (.Call (.Name x p) (e::es) [] pos) (jdj (spP ⟨K,cl⟩ m n) [] E0 tr) (yh m pr):=by
 subst c;exact jX F G d g hn h a i b
theorem len(b:X.K=K)(c:X.mg "len" = none){p:Pos}(d:QBs cl X [e] tr pr)(f:Gl X "len":=by rfl)(g:starEach [e] X.env=(false,eval e X.env)::starEach [] X.env:=by rfl)(a:(backTo pos (starEach [] X.env)).any (·.1)=false:=by rfl) :
  QP cl X (.Call (.Name "len" p) [e] [] pos) (tCB (λxs H Q=>∃ x n,xs=[x]/\jml K x H n/\Q (.int n) H) tr) (pCB kJ pr):=by subst b;exact ka c d f g a
theorem c_notin(a:X.K=K)(c:behindInMarks .NotIn b=false):CmpR cl X .NotIn b (jj4 K true) (QM true):=by subst a;exact QD.c_notin c
theorem c_eq{k:Nat}(a:X.K=K)(c:Room k X.A):CmpR cl X .Eq b (λx y H Q=>rEq x y H Q \/ jh7 ⟨K,cl⟩ false x y H Q) Jd:=by subst a;exact QD.c_eq c
theorem g_tup{b:TGs}{c:List D->Rh->Option Rh}{k n:Nat}(d:X.K=K)(e:X.calm=true)(h:QGs cl pm X es b c)(hn:(assignEach es X.env).length=n:=by rfl)(a:(assignEach es X.env).findIdx? (·.1)=none:=by rfl):QG cl pm X (.Tuple es k pos) (jjY K n b) (gT n c):=by subst d;exact Jy e h hn a
end
end QK
namespace QD
open PySem L2 PySem.Spec PyProof.Rows
structure QGo(cl:Nat->Addr)(pm:List Nat)(X:Cx)(tg:Expr)(t:TG)(g:D->Rh->Option Rh):Prop where
 sem:PG X tg t
 den:DG ⟨X.K,cl⟩ pm t g
structure QGos(cl:Nat->Addr)(pm:List Nat)(X:Cx)(tg:List Expr)(t:TGs)(g:List D->Rh->Option Rh):Prop where
 sem:PGs X tg t
 den:DGs ⟨X.K,cl⟩ pm t g
theorem jfn(a:X.N.Nodup)(hi:X.N[i]?=some x:=by rfl)(b:Loc X.env.scope x:=by first | exact Or.inl rfl | exact Or.inr rfl)(c:X.fn x=true \/ X.env.scope.names.lookup x=some .local:=by first | exact .inl rfl | exact .inr rfl) :
  QGo cl pm X (.Name x pos) (QH i) (ji pm i):=⟨je0 a hi b c,jaQ⟩
theorem ji2:QGos cl pm X [] jke gN:=⟨jeX,jis⟩
theorem jb7(h1:QGo cl pm X e t g)(h2:QGos cl pm X es ts gs)(a:(assignEach (e::es) X.env).map (·.2)=assign e X.env::(assignEach es X.env).map (·.2):=by rfl):QGos cl pm X (e::es) (jeg t ts) (gC g gs):=⟨jcd h1.sem h2.sem a,jfS h1.den h2.den⟩
theorem jkg(b:X.calm=true)(h:QGos cl pm X es ts gs)(hn:(assignEach es X.env).length=n:=by rfl)(a:(assignEach es X.env).findIdx? (·.1)=none:=by rfl):QGo cl pm X (.Tuple es k pos) (jjY X.K n ts) (gT n gs):=⟨jhg b h.sem hn a,jj6 h.den⟩
theorem jjg(h:QE cl X e te fE)(a:QGo cl pm X tgt t g)(b:swapsWithSole [tgt] e pos.line X.env=pure false:=by rfl)(c:swappedStores [tgt] e X.env=pure none:=by rfl)
  (h1:(assignEach [tgt] X.env).map (·.2)=[assign tgt X.env]:=by rfl):QS cl pm X (.Assign [tgt] e pos) (jgg te t) (yx fE g):=⟨jlp h.sem a.sem b c h1,jdF h.den a.den⟩
end QD
namespace L2
open PySem PySem.Spec PyProof.Rows
section
variable {κ:Type} [DecidableEq κ]
noncomputable def jbh(kvs:List (κ×V))(k:κ):Option V:=(kvs.find? λkv=>decide (kv.1=k)).map (·.2)
noncomputable def Kb(kvs:List (κ×V))(k:κ)(v:V):List (κ×V) :=
 if(kvs.any λkv=>decide (kv.1=k))=true then kvs.map (λkv=>if kv.1=k then(kv.1,v) else kv) else kvs++[(k,v)]
theorem QV{p:κ×V}{r:List (κ×V)}{k:κ}(e:p.1=k):jbh (p::r) k=some p.2:=by simp[jbh,List.find?_cons,e]
theorem QR{p:κ×V}{r:List (κ×V)}{k:κ}(e:¬ p.1=k):jbh (p::r) k=jbh r k:=by simp[jbh,List.find?_cons,e]
theorem jb4(k:κ):∀ kvs:List (κ×V),(kvs.any λkv=>decide (kv.1=k))=(jbh kvs k).isSome
 | []=>rfl
 | p::r=>by
  rw[List.any_cons];by_cases e:p.1=k
  ·simp only[QV e,X4 e,Bool.true_or,Option.isSome_some]
  ·rw[QR e,X5 e,Bool.false_or];exact jb4 k r
theorem xc(a:List (κ×V))(k:κ)(v:V):(Kb a k v).length<=a.length+1:=by
 unfold Kb;split
 ·rw[L1];omega
 ·rw[N5,M3,List.length_nil];omega
theorem RelO.isSome_eq{o:Option V}{u:Option Value}(r:RelO o u):o.isSome=u.isSome:=by
 cases o with
 | none=>cases u with
  | none=>rfl
  | some _=>exact(show False from r).elim
 | some _=>cases u with
  | none=>exact(show False from r).elim
  | some _=>rfl
theorem RelO.getD{o:Option V}{u:Option Value}{d:V}{d':Value}(r:RelO o u)(rd:RelV d d'):RelV (o.getD d) (u.getD d'):=by
 cases o with
 | none=>cases u with
  | none=>exact rd
  | some _=>exact(show False from r).elim
 | some _=>cases u with
  | none=>exact(show False from r).elim
  | some _=>exact r
theorem KV.val{a:List (κ×V)}{vs:List (κ×Value)}(r:KV a vs)(k:κ):RelO (jbh a k) (valueAt vs k):=by
 unfold KV at r
 induction r with
 | nil=>exact True.intro
 | @cons p q j c h t g =>
  obtain⟨f,i⟩:=h;by_cases e:p.1=k
  ·have d:q.1=k:=f.symm.trans e;have b:valueAt (q::c) k=some q.2:=by simp[valueAt,List.find?_cons,d]
   rw[QV e,b];exact i
  ·have d:¬ q.1=k:=λz=>e (f.trans z);have b:valueAt (q::c) k=valueAt c k:=by simp[valueAt,List.find?_cons,d]
   rw[QR e,b];exact g
theorem KV.any{a:List (κ×V)}{vs:List (κ×Value)}(r:KV a vs)(k:κ):(a.any λkv=>decide (kv.1=k))=vs.any λkv=>decide (kv.1=k):=by
 unfold KV at r
 induction r with
 | nil=>rfl
 | cons h t b=>rw[List.any_cons,List.any_cons,b,h.1]
theorem KV.repl{a:List (κ×V)}{vs:List (κ×Value)}(r:KV a vs)(k:κ){y:V}{u:Value}(c:RelV y u) :
  KV (a.map λkv=>if kv.1=k then(kv.1,y) else kv) (vs.map λkv=>if kv.1=k then(kv.1,u) else kv):=by
 unfold KV at r ⊢
 induction r with
 | nil=>exact .nil
 | @cons p q g i h t d =>
  rw[L5,L5];refine .cons ?_ d;obtain⟨b,f⟩:=h;by_cases e:p.1=k
  ·rw[if_pos e,if_pos (b.symm.trans e)];exact⟨b,c⟩
  ·rw[if_neg e,if_neg (λz=>e (b.trans z))];exact⟨b,f⟩
theorem KV.put{a:List (κ×V)}{vs:List (κ×Value)}(r:KV a vs)(k:κ){y:V}{u:Value}(b:RelV y u):KV (Kb a k y) (stored vs k u):=by
 unfold Kb stored;rw[r.any k];by_cases e:(vs.any λc=>decide (c.1=k))=true
 ·rw[if_pos e,if_pos e];exact r.repl k b
 ·rw[if_neg e,if_neg e];exact Paired.snoc r ⟨rfl,b⟩
theorem KV.keys{a:List (κ×V)}{vs:List (κ×Value)}(r:KV a vs):a.map (·.1)=vs.map (·.1):=by
 unfold KV at r
 induction r with
 | nil=>rfl
 | cons h t b=>rw[L5,L5,b,h.1]
theorem KV.length{a:List (κ×V)}{vs:List (κ×Value)}(r:KV a vs):a.length=vs.length:=Paired.length r
end
theorem ja8{P:Program}{w:World}{k:Key}{u:Value}(r:RelV (kV k) u):(yp P w).is k u=true:=by
 cases k with
 | inl i=>obtain⟨t,e⟩:=(show ∃ t,u=Value.int i t from r);subst e;exact jbe P w i t
 | inr x=>obtain⟨t,e⟩:=(show ∃ t,u=Value.str x t from r);subst e;exact jbl P w x t
theorem ur{P:Program}{w:World}:∀{ks:List Key}{us:List Value},Vals (ks.map kV) us->ItemsAre (yp P w) ks us
 | [],_,r=>by rw[List.map_nil] at r;cases r;exact .nil
 | k::ks,_,r=>by
  rw[L5] at r;cases r with
  | cons h t=>exact .cons (ja8 h) (ur t)
abbrev KT(H:Hp):List (List Key×V)->List (List Key×Addr×Value)->Prop:=Paired λp q=>p.1=q.1/\H q.2.1=some (.tup (p.1.map kV))/\RelV p.2 q.2.2
theorem KT.val{H:Hp}{a:List (List Key×V)}{xs:List (List Key×Addr×Value)}(r:KT H a xs)(k:List Key):RelO (jbh a k) ((atKey xs k).map (·.2)):=by
 induction r with
 | nil=>exact True.intro
 | @cons p q j c h t g =>
  obtain⟨f,_,i⟩:=h;by_cases e:p.1=k
  ·have d:q.1=k:=f.symm.trans e;have b:atKey (q::c) k=some q.2:=by simp[atKey,List.find?_cons,d]
   rw[QV e,b];exact i
  ·have d:¬ q.1=k:=λz=>e (f.trans z);have b:atKey (q::c) k=atKey c k:=by simp[atKey,List.find?_cons,d]
   rw[QR e,b];exact g
theorem KT.repl{H:Hp}{a:List (List Key×V)}{xs:List (List Key×Addr×Value)}(r:KT H a xs)(k:List Key){y:V}{u:Value}(d:RelV y u) :
  KT H (a.map λkv=>if kv.1=k then(kv.1,y) else kv) (xs.map (putAt k u)):=by
 induction r with
 | nil=>exact .nil
 | @cons p q i j h t f =>
  rw[L5,L5];refine .cons ?_ f;obtain⟨b,c,g⟩:=h;unfold putAt;by_cases e:p.1=k
  ·rw[if_pos e,if_pos (b.symm.trans e)];exact⟨b,c,d⟩
  ·rw[if_neg e,if_neg (λz=>e (b.trans z))];exact⟨b,c,g⟩
theorem KT.put{H:Hp}{a:List (List Key×V)}{xs:List (List Key×Addr×Value)}(r:KT H a xs)(k:List Key){b:Addr}{y:V}{u:Value}(d:H b=some (.tup (k.map kV)))(c:RelV y u) :
  KT H (Kb a k y) (storedH xs k b u):=by
 have e:(a.any λf=>decide (f.1=k))=(atKey xs k).isSome:=by
  rw[jb4,(r.val k).isSome_eq,Option.isSome_map]
 unfold Kb storedH;rw[e];by_cases q:(atKey xs k).isSome=true
 ·rw[if_pos q,if_pos q];exact r.repl k c
 ·rw[if_neg q,if_neg q];exact Paired.snoc r ⟨rfl,d,c⟩
theorem KT.keeps{H H':Hp}{a:List (List Key×V)}{xs:List (List Key×Addr×Value)}(r:KT H a xs)(c:∀ b ys,H b=some (.tup ys)->H' b=some (.tup ys)):KT H' a xs :=
 Paired.mapP r λ_ _ z=>⟨z.1,c _ _ z.2.1,z.2.2⟩
section
variable {P:Program}{w:World}{H:Hp}{h:Heap}{a:Addr}
theorem jlC{u:HO}(ok:HOk P w H h)(e:Rd H a u):ObjOk P w H h a u:=e.ok ok
theorem jcz{b:List (Key×V)}(ok:HOk P w H h)(e:Rd H a (.dK b)):b.length<=sizeLine/\(a==sysModules)=false/\∃ vs,KV b vs/\h.DictOf (yp P w) a vs :=
 show ObjOk P w H h a (.dK b) from jlC ok e
theorem jlV{b:List (Key×V)}(ok:HOk P w H h)(e:H a=some (.dK b)):b.length<=sizeLine/\(a==sysModules)=false/\∃ vs,KV b vs/\h.DictOf (yp P w) a vs:=jcz ok (.inl e)
theorem u5{ks:List Key}(ok:HOk P w H h)(e:H a=some (.tup (ks.map kV))):(tupleKind (yp P w)).is h ks a:=by
 obtain⟨_,b,r,⟨o,c,d,n,f⟩,_⟩:=(show ObjOk P w H h a (.tup (ks.map kV)) from ok a _ e);exact⟨o,b.toArray,n,c,d,f,by simpa using ur r⟩
theorem jcw{b:List (List Key×V)}(ok:HOk P w H h)(e:Rd H a (.dT b)):b.length<=sizeLine/\(a==sysModules)=false /\
  ∃ xs,KT H b xs/\h.DictOfH (tupleKind (yp P w)) a xs:=by
 obtain⟨z,y,xs,r,o,f,g,i,j,k,n,s⟩:=(show ObjOk P w H h a (.dT b) from jlC ok e);refine⟨z,y,xs,r,o,f,g,i,j,k,n,λx c=>?_,s⟩;have all:∀{l:List (List Key×V)}{m:List (List Key×Addr×Value)},KT H l m->∀ x∈m,(tupleKind (yp P w)).is h x.1 x.2.1:=by
  intro l m q
  induction q with
  | nil=>intro x c;exact nomatch c
  | @cons p q v A d t u =>
   intro x c;rcases M5.mp c with e | c
   ·subst e;exact u5 ok (by rw[<- d.1];exact d.2.1)
   ·exact u x c
 exact all r x c
theorem jmz{b:List (List Key×V)}(ok:HOk P w H h)(e:H a=some (.dT b)):b.length<=sizeLine/\(a==sysModules)=false /\
  ∃ xs,KT H b xs/\h.DictOfH (tupleKind (yp P w)) a xs:=jcw ok (.inl e)
end
def DGet(H:Hp)(a:Addr)(y:V)(r:Option V):Prop :=
 (∃ kvs k,Rd H a (.dK kvs)/\y=kV k/\r=jbh kvs k) \/ ∃ kvs k b,Rd H a (.dT kvs)/\y=.ref b/\H b=some (.tup (k.map kV))/\r=jbh kvs k
def DPut(H:Hp)(a:Addr)(y v:V)(H':Hp):Prop :=
 (∃ kvs k,H a=some (.dK kvs)/\y=kV k/\kvs.length < sizeLine/\H'=upd H a (.dK (Kb kvs k v))) \/
 ∃ kvs k b,H a=some (.dT kvs)/\y=.ref b/\H b=some (.tup (k.map kV))/\kvs.length < sizeLine/\H'=upd H a (.dT (Kb kvs k v))
theorem DPut.k{H:Hp}{a:Addr}{b:List (Key×V)}{k:Key}{v:V}(e:H a=some (.dK b))(c:b.length < sizeLine):DPut H a (kV k) v (upd H a (.dK (Kb b k v))):=.inl ⟨b,k,e,rfl,c,rfl⟩
section
variable {X:Cx}{pins:List (Addr×Obj)}{σ:St}{H:Hp}{s:Shared}{a:Addr}{y v:V}{u r:Value}{o:Option V}{A:Around}{E:Value->Shared->Prop}
theorem Inv.big(I:Inv X pins σ H s):sysModules < s.heap.objs.size:=by
 have h:mainGlobals < s.heap.objs.size:=(I.mod.glob.keeps I.bk).lt;exact Nat.lt_trans (by decide) h
theorem jdK{Q:Value->Shared->Prop}(n:A.units+1 < cLine)(I:Inv X pins σ H s)(g:DGet H a y (some v))(m:RelV y u)(h:∀ w' s',Inv X pins σ H s'->RelV v w'->Q w' s') :
  wpAny (model X.prog X.w) A (getItem (.ref a) u) Q E s:=by
 rcases g with⟨d,k,e,f,l⟩ | ⟨d,k,b,e,f,q,l⟩
 ·subst f;obtain⟨z,hd,r,rel,dd⟩:=jcz I.hok e;obtain⟨w',i,c⟩:=RelO.some_of (v:=v) (o:=valueAt r k) (by rw[l];exact rel.val k);exact wpAny_getItem_of (ja8 m) dd.mapOf i (h w' _ (I.tok _) c)
 ·subst f;cases(show u=Value.ref b from m);obtain⟨z,hd,t,rel,dd⟩:=jcw I.hok e;obtain⟨w',i,c⟩:=RelO.some_of (v:=v) (o:=(atKey t k).map (·.2)) (by rw[l];exact rel.val k);obtain⟨p,x,j⟩:=Option.map_eq_some_iff.mp i;refine wpAny_getItem_heap (tupleKind_room_in1 n) (u5 I.hok q) dd x ?_;rw[j];exact h w' _ (I.tok _) c
theorem jjB{Q:Value->Shared->Prop}(i:A.units+1 < cLine)(I:Inv X pins σ H s)(g:DGet H a y o)(f:RelV y u)(h:∀ s',Inv X pins σ H s'->Q (.bool (!o.isSome)) s') :
  wpAny (model X.prog X.w) A (compareOp .NotIn u (.ref a)) Q E s:=by
 rcases g with⟨c,k,e,d,l⟩ | ⟨c,k,b,e,d,j,l⟩
 ·subst d;obtain⟨z,hd,m,rel,dd⟩:=jcz I.hok e;refine wpAny_notIn_of (ja8 f) hd dd.mapOf ?_;rw[<- (rel.val k).isSome_eq,<- l];exact h _ (I.tok _)
 ·subst d;cases(show u=Value.ref b from f);obtain⟨z,hd,n,rel,dd⟩:=jcw I.hok e;refine wpAny_notIn_heap (tupleKind_room_in1 i) (u5 I.hok j) hd dd ?_;have q:=(rel.val k).isSome_eq;rw[Option.isSome_map] at q;rw[<- q,<- l];exact h _ (I.tok _)
theorem jaJ{h':Heap}{t':Nat}{ob:HO}(I:Inv X pins σ H s)(c:Mut (H a))(d:Heap.SameBut a s.heap h')(f:∃ q,h'.get? a=some q)(new:ObjOk X.prog X.w (upd H a ob) h' a ob) :
  Inv X pins σ (upd H a ob) { s with heap:=h',toks:=t' } :=
 I.write (x:=a) (e:=a) c (.inl rfl) (λb q g z=>(d.2 b g).trans z) f new
theorem jb0{P:Program}{w:World}{H':Hp}{h':Heap}{b:List (Key×V)}{vs:List (Key×Value)}(z:b.length<=sizeLine)(hd:(a==sysModules)=false)(rel:KV b vs)(dd:h'.DictOf (yp P w) a vs) :
  ObjOk P w H' h' a (.dK b):=⟨z,hd,vs,rel,dd⟩
theorem jdf{H':Hp}{Q:Unit->Shared->Prop}(F:A.units+1 < cLine)(I:Inv X pins σ H s)(g:DPut H a y v H')(t:RelV y u)(x:RelV v r)(h:∀ s',Inv X pins σ H' s'->Q () s') :
  wpAny (model X.prog X.w) A (setItem (.ref a) u r) Q E s:=by
 rcases g with⟨d,k,e,j,l,m⟩ | ⟨d,k,b,e,j,B,l,m⟩
 ·subst j m;obtain⟨z,hd,G,rel,dd⟩:=jlV I.hok e;have n:G.length<=sizeLine:=by rw[<- rel.length];exact z
  have o:(Kb d k v).length<=sizeLine:=by have:=xc d k v;omega
  refine wpAny_setItem_pairs (hsz:=n) (ja8 t) dd λC f p=>h _ ?_;have J:∃ q,C.get? a=some q:=let ⟨q,_,_,i,_⟩:=f;⟨q,i⟩
  exact jaJ I (by rw[e];exact True.intro) p J (jb0 o hd (rel.put k x) f)
 ·subst j m;cases(show u=Value.ref b from t);obtain⟨z,hd,K,rel,dd⟩:=jmz I.hok e;have n:K.length<=sizeLine:=by rw[<- Paired.length rel];exact z
  have o:(Kb d k v).length<=sizeLine:=by have:=xc d k v;omega
  refine wpAny_setItem_heap (hsz:=n) (tupleKind_room_in1 F) (u5 I.hok B) dd λC f p=>h _ ?_;obtain⟨q,L,M,i,N,O,P,_,R⟩:=f;refine jaJ I (by rw[e];exact True.intro) p ⟨q,i⟩ ⟨o,hd,_,(rel.put k B x).keeps λc S D=>?_,q,L,M,i,N,O,P,R⟩;rw[jm (jms D e (λz=>nomatch z))];exact D
end
def jmC(i:Expr):Prop:=∀ ov iv,subscripted i false ov iv=operate [ov,iv] (getItem ov iv)
theorem jhZ{prog:Program}{w:World}{A:Around}{E:Value->Shared->Prop}{s:Shared}{env:Env}{value slice:Expr}{pos:Pos}{T id:String}{Q:Value->Shared->Prop}
  (e:typeLookup (.type T) "__getitem__" = pure (some (.builtin id))) (f:jmC slice)
  (h:wpAny (model prog w) A (eval value env) (λo s₁=>wpAny (model prog w) A (eval slice env) (λi s₂=>s₂.TypeIs o T/\wpAny (model prog w) A (getItem o i) Q E s₂) E s₁) E s) :
  wpAny (model prog w) A (eval (.Subscript value slice pos) env) Q E s:=by
 refine Subscript_ (wpAny_mono h (λo s₁ g=>wpAny_mono g (λi s₂ b=>?_) λ_ _ x=>x) λ_ _ x=>x);obtain⟨c,b⟩:=b;unfold subscriptTail;refine L3 ?_;rw[getitemInPython_of_ne c.not_modules];refine L3 (wpAny_specialOf c e ?_);have a:wpAny (model prog w) A (subscripted slice false o i) (λr d=>wpAny (model prog w) A (letTemporaryGo value o r >>= λ_=>pure r) Q E d) E s₂:=by
  rw[f o i];exact wpAny_operating (wpAny_mono b (λr d j=>L3 (wpAny_letTemporaryGo (M7 j))) λ_ _ x=>x)
 first
  | exact M7 (L3 a)
  | exact L3 (M7 (L3 a))
  | exact L3 a
theorem jbx{X:Cx}{pins:List (Addr×Obj)}{σ:St}{H:Hp}{s:Shared}{a:Addr}{y:V}{o:Option V}(I:Inv X pins σ H s)(g:DGet H a y o):s.TypeIs (.ref a) "dict":=by
 rcases g with⟨c,k,e,_,_⟩ | ⟨c,k,b,e,_,_,_⟩
 ·obtain⟨_,_,d,_,dd⟩:=jcz I.hok e;exact dd.typeIs
 ·obtain⟨_,_,f,_,dd⟩:=jcw I.hok e;exact dd.typeIs
noncomputable def jif(td ty:TE):TE:=λσ H Q=>td σ H λx H1=>ty σ H1 λy H2=>∃ a v,x=.ref a/\DGet H2 a y (some v)/\Q v H2
noncomputable def zI(ty td:TE):TE:=λσ H Q=>ty σ H λy H1=>td σ H1 λx H2=>∃ a o,x=.ref a/\DGet H2 a y o/\Q (.bl (!o.isSome)) H2
noncomputable def jdg(td ty tv:TE):TS:=λD σ H=>tv σ H λv H1=>td σ H1 λx H2=>ty σ H2 λy H3=>∃ a H4,x=.ref a/\DPut H3 a y v H4/\D.nx σ H4
section
variable {X:Cx}{o i e value:Expr}{pos pos' tpos:Pos}{td ty tv:TE}
theorem jh5(e:X.A.units+1 < cLine)(f:PE X o td)(hi:PE X i ty)(j:jmC i):PE X (.Subscript o i pos) (jif td ty):=by
 intro b s σ H Q I h;refine jhZ PySem.F.slot_dict_getitem.lookup j (thn (f b s σ H _ I h) λu k ⟨x,l,m,n,p⟩=>thn (hi b k σ l _ m p) λz B ⟨y,q,d,r,a,v,ex,g,t⟩=>?_);subst ex;obtain rfl:u=Value.ref a:=n;exact⟨jbx d g,jdK e d g r λC D w c=>⟨v,q,w,c,t⟩⟩
theorem uA(c:X.A.units+1 < cLine)(hi:PE X i ty)(d:PE X o td):PC X .NotIn i o (zI ty td):=by
 intro b s σ H Q I h;refine thn (hi b s σ H _ I h) λv e ⟨y,f,j,k,l⟩=>thn (d b e σ f _ j l) λu w ⟨x,m,n,p,a,q,ex,g,r⟩=>?_;subst ex;obtain rfl:u=Value.ref a:=p;exact jjB c n g k λz t=>⟨.bl (!q.isSome),m,t,rfl,r⟩
theorem jdv(c:X.A.units+1 < cLine)(d:PE X o td)(hi:PE X i ty)(e:PE X value tv)(f:swapsWith value (some (.Subscript o i pos')) pos.line X.env=pure false) :
  PS X (.Assign [.Subscript o i pos'] value pos) (jdg td ty tv):=by
 intro b s σ H D I h;refine wpAny_Assign_Subscript (thn (e b s σ H _ I h) λr j ⟨v,k,l,m,n⟩=>thn (d b j σ k _ l n) λu p ⟨x,q,t,w,z⟩=>thn (hi b p σ q _ t z) λJ K ⟨y,L,B,C,a,E,ex,g,F⟩=>?_) f;subst ex;obtain rfl:u=Value.ref a:=w;exact jdf c B g C m λM G=>⟨σ,E,G,F⟩
end
theorem jfL{P:Program}{w:World}{H:Hp}(h:Heap)(a:sysModules < h.objs.size):ObjOk P w H (h.push { cls:=.type "dict",data:=.dict #[] }) h.objs.size (.dK []) :=
 ⟨U6 _,U3.mpr (Ne.symm (N7 a)),[],.nil,Heap.DictOf.new h⟩
noncomputable def jdn:TE:=λ_ H Q=>∀ p,H p=none->Q (.ref p) (upd H p (.dK []))
section
variable {X:Cx}{pos:Pos}
theorem jgD:PE X (.Dict [] [] pos) jdn:=λb s σ H Q I h =>
 wpAny_Dict_empty ⟨.ref s.heap.objs.size,_,I.laid (a:=s.heap.objs.size) (o:=.dK []) (t':=s.toks) (λ_ _ q=>L8 _ q) (M9 _) (jfL s.heap I.big),rfl,h _ (I.hok.fresh (M9 _))⟩
end
structure M1(X:Cx)(o:Expr)(m:Str)(apos:Pos)(e:Expr)(cpos:Pos):Prop where
 base:attributeBase o m X.env (eval o X.env)=eval o X.env
 few:((backTo cpos (starEach [e] X.env)).all (λx=>!x.1)&&(backToKw cpos (keywordEach [] X.env)).all (λx=>x.1.isSome)
  && decide (([e]:List Expr).length+([]:List Keyword).length+(if([]:List Keyword).isEmpty then 0 else 1) < 30))=true
 line:(apos.endLine==cpos.line)=true
 trees:backTo cpos (starEach [e] X.env)=[(false,eval e X.env)]
structure M2(X:Cx)(o:Expr)(m:Str)(apos:Pos)(e f:Expr)(cpos:Pos):Prop where
 base:attributeBase o m X.env (eval o X.env)=eval o X.env
 few:((backTo cpos (starEach [e,f] X.env)).all (λx=>!x.1)&&(backToKw cpos (keywordEach [] X.env)).all (λx=>x.1.isSome)
  && decide (([e,f]:List Expr).length+([]:List Keyword).length+(if([]:List Keyword).isEmpty then 0 else 1) < 30))=true
 line:(apos.endLine==cpos.line)=true
 trees:backTo cpos (starEach [e,f] X.env)=[(false,eval e X.env),(false,eval f X.env)]
def IsD(H:Hp)(a:Addr):Prop:=(∃ kvs,Rd H a (.dK kvs)) \/ ∃ kvs,Rd H a (.dT kvs)
theorem jlL{X:Cx}{pins:List (Addr×Obj)}{σ:St}{H:Hp}{s:Shared}{a:Addr}(I:Inv X pins σ H s)(d:IsD H a) :
  s.TypeIs (.ref a) "dict"/\(∀ b,Value.ref a=.ref b->∃ ob,s.heap.get? b=some ob/\ob.dict=none)/\(a==sysModules)=false:=by
 rcases d with⟨c,e⟩ | ⟨c,e⟩
 ·obtain⟨_,hd,h,_,dd⟩:=jcz I.hok e;refine⟨dd.typeIs,λb q=>?_,hd⟩;cases q;obtain⟨ob,_,_,f,g,_⟩:=dd;exact⟨ob,f,g.2.1⟩
 ·obtain⟨_,hd,i,_,dd⟩:=jcw I.hok e;refine⟨dd.typeIs,λb q=>?_,hd⟩;cases q;obtain⟨ob,_,_,f,g,_⟩:=dd;exact⟨ob,f,g.2.1⟩
section
variable {X:Cx}{pins:List (Addr×Obj)}{σ:St}{H:Hp}{s:Shared}{a:Addr}{y d:V}{u r:Value}{o:Option V}{A:Around}{E:Value->Shared->Prop}
theorem jlq{Q:Value->Shared->Prop}(j:A.units+1 < cLine)(I:Inv X pins σ H s)(g:DGet H a y o)(i:RelV y u)(rd:RelV d r)(h:∀ w' s',Inv X pins σ H s'->RelV (o.getD d) w'->Q w' s') :
  wpAny (model X.prog X.w) A (call (.builtin "dict.get") [.ref a,u,r]) Q E s:=by
 rcases g with⟨c,k,e,f,l⟩ | ⟨c,k,b,e,f,m,l⟩
 ·subst f;obtain⟨z,hd,p,rel,dd⟩:=jcz I.hok e;refine call_meetsIn PySem.F.slot_dict_get dd.typeIs PySem.F.entry_dict_get (PySem.F.args_dict_get_3 _ _ _) (meets_dict_get_default (yp X.prog X.w) a (ja8 i) hd r) ⟨_,dd.mapOf,h _ _ (I.tok _) ?_⟩;rw[l];exact(rel.val k).getD rd
 ·subst f;cases(show u=Value.ref b from i);obtain⟨z,hd,n,rel,dd⟩:=jcw I.hok e;refine call_meetsIn PySem.F.slot_dict_get dd.typeIs PySem.F.entry_dict_get (PySem.F.args_dict_get_3 _ _ _) (meetsH_dict_get_default (tupleKind (yp X.prog X.w)) a b hd r) ⟨tupleKind_room_in1 j,k,n,u5 I.hok m,dd,h _ _ (I.tok _) ?_⟩;rw[l];exact(rel.val k).getD rd
end
noncomputable def jen(td ty tx:TE):TE:=λσ H Q=>td σ H λx H1=>∃ a,x=.ref a/\IsD H1 a/\ty σ H1 λy H2=>tx σ H2 λz H3=>∃ o,DGet H3 a y o/\Q (o.getD z) H3
section
variable {X:Cx}{o e f:Expr}{apos cpos:Pos}{td ty tx:TE}
theorem jfY(j:X.A.units+1 < cLine)(k:PE X o td)(l:PE X e ty)(n:PE X f tx)(m:M2 X o "get" apos e f cpos):PE X (.Call (.Attribute o "get" apos) [e,f] [] cpos) (jen td ty tx):=by
 intro b s σ H Q I h;refine wpAny_Call_method m.base m.few m.line PySem.F.plainAttrs_dict PySem.F.slot_dict_get PySem.F.type_dict_get (thn (k b s σ H _ I h) λu p ⟨x,q,i,r,a,ex,d,t⟩=>?_);subst ex;obtain rfl:u=Value.ref a:=r;obtain⟨v,w,_⟩:=jlL i d;refine⟨v,w,?_⟩;rw[m.trees];refine Calls.callWith_builtin rfl (Calls.evalArgs_plain (Calls.spliced_cons (thn (l b p σ q _ i t) λO B ⟨y,C,D,E,G⟩ =>
  Calls.spliced_cons (thn (n b B σ C _ D G) λP R ⟨z,J,K,L,S,g,M⟩=>Calls.spliced_nil ?_))))
 exact jlq j K g E L λT U N c=>⟨_,J,N,c,M⟩
end
end L2
namespace QD
open PySem L2 PySem.Spec PyProof.Rows
section
variable {R:RC}{Z Z':Zn}{H H':Hp}{pm:List Nat}
noncomputable def qV:D->Option KA
 | .int i=>some (.int i)
 | .str s=>some (.str s)
 | _=>none
theorem Ja(e:qV d=some k)(r:Rep R Z H d v O):v=kV (kaV k)/\O=[]:=by
 cases d with
 | int i=>cases e;rw[Rep] at r;exact r
 | str s=>cases e;rw[Rep] at r;exact r
 | _=>cases e
theorem jaZ(h:kaV a=kaV b):a=b:=by
 cases a<;>cases b<;>simp only[kaV] at h
 ·cases h;rfl
 ·cases h
 ·cases h
 ·have:=jkA (Sum.inr.inj h);rw[this]
noncomputable def VX:List KA->List D->KA->Option D
 | k::ks,d::l,a=>if k=a then some d else VX ks l a
 | _,_,_=>none
theorem Vd:∀{ks:List KA}{l:List D}{vs:List V}{O:List Addr}{a:KA},Reps R Z H l vs O->ks.length=l.length ->
  (∀ d,VX ks l a=some d->∃ v P,jbh ((ks.map kaV).zip vs) (kaV a)=some v/\Rep R Z H d v P)/\(VX ks l a=none->jbh ((ks.map kaV).zip vs) (kaV a)=none)
 | [],l,vs,O,a,r,c=>⟨λd e=>(by cases l<;>cases e),λ_=>rfl⟩
 | k::ks,[],vs,O,a,r,c=>by simp at c
 | k::ks,x::l,vs,O,a,r,c=>by
  rw[Reps] at r;obtain⟨v,b,O1,O2,rfl,rfl,f,g⟩:=r;have i:=Vd (a:=a) g (by simpa using c);by_cases e:k=a
  ·subst e;refine⟨λd h=>?_,λh=>?_⟩
   ·simp only[VX,if_true] at h;cases h;exact⟨v,O1,QV rfl,f⟩
   ·simp[VX] at h
  ·have j:¬ (kaV k=kaV a):=λz=>e (jaZ z);have q:jbh (((k::ks).map kaV).zip (v::b)) (kaV a)=jbh ((ks.map kaV).zip b) (kaV a):=QR j;rw[q];simp only[VX,if_neg e];exact i
theorem DkA.rd(h:DkA o H a kvs):Rd H a (.dK kvs):=by
 cases o with
 | true=>exact .inl h
 | false=>exact h
theorem DGet.r(e:Rd H a (.dK kvs)):DGet H a (kV k) (jbh kvs k):=.inl ⟨kvs,k,e,rfl,rfl⟩
theorem Rep.dK_of(r:Rep R Z H (.dK o ks l) v O):∃ a vs O',v=.ref a/\Rd H a (.dK ((ks.map kaV).zip vs))/\Reps R Z H l vs O'/\ks.length=l.length:=by
 rw[Rep] at r;obtain⟨a,vs,O',rfl,b,c,d,_⟩:=r;exact⟨a,vs,O',rfl,d.rd,b,c⟩
theorem jjK:PP R jdn (pC (.dK true [] [])):=by
 intro σ ρ Z H O d z s e Q k;cases e;intro p a;refine k (Go.newO (wf0 z) a) ?_;rw[Rep];exact⟨p,[],[],rfl,.empty,rfl,jy,rfl⟩
noncomputable def y6:D->D->Option D
 | .dK _ ks l,y=>(qV y).bind λk=>VX ks l k
 | _,_=>none
theorem jhQ(f:PB R td pa)(g:PB R ty pb):PB R (jif td ty) (p2 y6 pa pb):=by
 intro σ ρ Z H O d z s e Q k;unfold p2 at e;cases e1:pa ρ with
 | none=>rw[e1] at e;cases e
 | some x =>
  rw[e1] at e;dsimp only at e;cases e2:pb ρ with
  | none=>rw[e2] at e;cases e
  | some y =>
   rw[e2] at e;dsimp only at e;refine f z s e1 λ{v A B P1} b h=>?_;refine g b.wf.zd (b.slots z s) e2 λ{u C D P2} c i=>?_;have j:=c.rep b.wf.zd h;cases x with
   | dK o E l =>
    simp only[y6] at e;cases e3:qV y with
    | none=>rw[e3] at e;cases e
    | some a =>
     rw[e3,L4] at e;obtain⟨p,F,G,rfl,m,n,q⟩:=j.dK_of;obtain⟨rfl,_⟩:=Ja e3 i;obtain⟨w,P,t,rw⟩:=(Vd n q).1 d e;exact⟨p,w,rfl,t▸DGet.r m,k (b.pair c) rw⟩
   | _=>cases e
noncomputable def Ki(x y z:D):Option D:=match x with
 | .dK _ ks l=>(qV y).bind λk=>some ((VX ks l k).getD z)
 | _=>none
noncomputable def p3(g:D->D->D->Option D)(pa pb pc:PF):PF:=λρ=>match pa ρ with
 | none=>none
 | some x=>match pb ρ with
  | none=>none
  | some y=>match pc ρ with
   | none=>none
   | some z=>g x y z
theorem jgK(C:PB R td pa)(D:PB R ty pb)(E:PB R tx pc):PB R (jen td ty tx) (p3 Ki pa pb pc):=by
 intro σ ρ Z H O d z s e Q k;unfold p3 at e;cases e1:pa ρ with
 | none=>rw[e1] at e;cases e
 | some x =>
  rw[e1] at e;dsimp only at e;cases e2:pb ρ with
  | none=>rw[e2] at e;cases e
  | some y =>
   rw[e2] at e;dsimp only at e;cases e4:pc ρ with
   | none=>rw[e4] at e;cases e
   | some c =>
    rw[e4] at e;dsimp only at e;cases x with
    | dK o j l =>
     simp only[Ki] at e;cases e3:qV y with
     | none=>rw[e3] at e;cases e
     | some a =>
      rw[e3,L4] at e;cases e;refine C z s e1 λ{v N S P1} i q=>?_;obtain⟨p,T,U,rfl,F,V,W⟩:=q.dK_of;refine⟨p,rfl,.inl ⟨_,F⟩,?_⟩;refine D i.wf.zd (i.slots z s) e2 λ{u X Y P2} m G=>?_;have b:=i.pair m;refine E m.wf.zd (b.slots z s) e4 λ{t Z3 A P3} n I=>?_;have B:=(m.pair n).rep i.wf.zd q;rw[Rep] at B;obtain⟨p',J,K,L,f,g,h,_⟩:=B;cases L;obtain⟨rfl,_⟩:=Ja e3 G;cases ev:VX j l a with
      | none=>exact⟨none,(Vd f g).2 ev▸DGet.r h.rd,k (b.pair n) (show Rep R Z3 A ((VX j l a).getD c) t P3 by rw[ev];exact I)⟩
      | some d =>
       obtain⟨w,P,M,rw⟩:=(Vd f g).1 d ev;exact⟨some w,M▸DGet.r h.rd,k (b.pair n) (show Rep R Z3 A ((VX j l a).getD c) w P by rw[ev];exact rw)⟩
    | _=>cases e
noncomputable def Kv(neg:Bool)(y x:D):Option D:=match x with
 | .dK _ ks l=>(qV y).bind λk=>some (.bl (neg != (VX ks l k).isSome))
 | _=>none
theorem jgd{td ty:TE}{pa pb:PF}{neg:Bool}(i:PB R ty pa)(j:PB R td pb){σ:L2.St}{ρ:Rh}{Z:Zn}{H:Hp}{O:List Addr}{d:D}(z:Zd Z H)(s:Slots R Z H ρ σ O)(e:p2 (Kv neg) pa pb ρ=some d)
  {Q:VK}(k:∀{v:V}{Z':Zn}{H':Hp}{P:List Addr},Go Z H [] Z' H' P->Rep R Z' H' d v P->Q v H'):ty σ H λy H1=>td σ H1 λx H2=>∃ a o,x=.ref a/\DGet H2 a y o/\Q (.bl (neg != o.isSome)) H2:=by
 unfold p2 at e;cases e1:pa ρ with
 | none=>rw[e1] at e;cases e
 | some y =>
  rw[e1] at e;dsimp only at e;cases e2:pb ρ with
  | none=>rw[e2] at e;cases e
  | some x =>
   rw[e2] at e;dsimp only at e;refine i z s e1 λ{v B H1 P1} b m=>?_;refine j b.wf.zd (b.slots z s) e2 λ{u C H2 P2} c n=>?_;cases x with
   | dK o q l =>
    simp only[Kv] at e;cases e3:qV y with
    | none=>rw[e3] at e;cases e
    | some a =>
     rw[e3,L4] at e;cases e;obtain⟨p,E,F,rfl,f,g,h⟩:=n.dK_of;obtain⟨rfl,_⟩:=Ja e3 m;cases ev:VX q l a with
     | none =>
      refine⟨p,none,rfl,(Vd g h).2 ev▸DGet.r f,k (b.pair c) ?_⟩;rw[ev];exact .bl_mk
     | some d =>
      obtain⟨w,P,t,A⟩:=(Vd g h).1 d ev;refine⟨p,some w,rfl,t▸DGet.r f,k (b.pair c) ?_⟩;rw[ev];exact .bl_mk
   | _=>cases e
theorem uJ{td ty:TE}{pa pb:PF}(a:PB R ty pa)(b:PB R td pb):PP R (zI ty td) (p2 (Kv true) pa pb):=λz s e _ k=>by
 have:=jgd (neg:=true) a b z s e k;simpa [zI] using this
noncomputable def jeA:List KA->List D->KA->D->List D
 | k::ks,x::l,a,d=>(if k=a then d else x)::jeA ks l a d
 | _,_,_,_=>[]
theorem jb8:∀{ks:List KA}{l:List D}(a:KA) (d:D),ks.length=l.length->(jeA ks l a d).length=l.length
 | [],[],_,_,_=>rfl
 | [],_::_,_,_,h=>by simp at h
 | _::_,[],_,_,h=>by simp at h
 | k::ks,x::l,a,d,h=>by rw[jeA,M3,M3,jb8 a d (by simpa using h)]
theorem jbB(rd:Rep R Z H d v [])(a:KA):∀{ks:List KA}{l:List D}{vs:List V}{O:List Addr},Reps R Z H l vs O->ks.length=l.length ->
  ∃ vs2 O2,Reps R Z H (jeA ks l a d) vs2 O2/\(ks.map kaV).zip vs2=((ks.map kaV).zip vs).map (λkv=>if kv.1=kaV a then(kv.1,v) else kv)/\O2.Sublist O
 | [],[],vs,O,r,b=>by
  rw[Reps] at r;obtain⟨rfl,rfl⟩:=r;exact⟨[],[],.empty,rfl,.slnil⟩
 | [],_::_,_,_,_,h=>by simp at h
 | _::_,[],_,_,_,h=>by simp at h
 | k::ks,x::l,vs,O,r,b=>by
  rw[Reps] at r;obtain⟨w,i,O1,O2,rfl,rfl,j,m⟩:=r;obtain⟨c,P2,f,g,sl⟩:=jbB rd a m (by simpa using b);by_cases e:k=a
  ·subst e;refine⟨v::c,[]++P2,?_,?_,?_⟩
   ·rw[jeA,if_pos rfl];exact Reps.cons rd f
   ·simp only[L5,U8,if_true,g]
   ·exact sl.trans (List.sublist_append_right _ _)
  ·have n:¬ (kaV k=kaV a):=λz=>e (jaZ z);refine⟨w::c,O1++P2,?_,?_,?_⟩
   ·rw[jeA,if_neg e];exact Reps.cons j f
   ·simp only[L5,U8,if_neg n,g]
   ·exact List.Sublist.append (List.Sublist.refl _) sl
theorem ja2(a:KA):∀{ks:List KA}{vs:List V},ks.length=vs.length->(((ks.map kaV).zip vs).any λkv=>decide (kv.1=kaV a))=decide (a∈ks)
 | [],vs,_=>by simp
 | k::ks,[],h=>by simp at h
 | k::ks,v::vs,h=>by
  rw[L5,U8,List.any_cons,ja2 a (by simpa using h)];by_cases e:k=a
  ·subst e;simp
  ·have b:¬ (kaV k=kaV a):=λz=>e (jaZ z);have c:¬ (a=k):=λz=>e z.symm;simp[b,c]
noncomputable def qD(ks:List KA)(l:List D)(a:KA)(d:D):List KA×List D:=if a∈ks then(ks,jeA ks l a d) else(ks++[a],l++[d])
theorem we(rd:Rep R Z H d v [])(a:KA)  (r:Reps R Z H l vs O) (b:ks.length=l.length) :
  ∃ vs2 O2,Reps R Z H (qD ks l a d).2 vs2 O2/\(((qD ks l a d).1).map kaV).zip vs2=Kb ((ks.map kaV).zip vs) (kaV a) v/\O2.Sublist O/\(qD ks l a d).1.length=(qD ks l a d).2.length:=by
 have c:ks.length=vs.length:=by rw[r.length];exact b
 unfold qD Kb;rw[ja2 a c];by_cases e:a∈ks
 ·rw[if_pos e,X4 e,if_pos rfl];obtain⟨f,P,g,h,sl⟩:=jbB rd a r b;exact⟨f,P,g,h,sl,by rw[jb8 a d b];exact b⟩
 ·rw[if_neg e,X5 e,if_neg (λz=>(nomatch z))];refine⟨vs++[v],O++[],r.append (Reps.one rd),?_,by simp,by simp[b]⟩;rw[N6,List.zip_append (by simpa using c)];rfl
noncomputable def u4(i:Nat)(pk pv:PF):FS:=λρ=>match pv ρ with
 | none=>none
 | some d=>match ρ[i]? with
  | some (some (.dK true ks l))=>match pk ρ with
   | none=>none
   | some y=>match qV y with
    | none=>none
    | some a=>bif frz d&&lim ks.length then some (.nx (ρ.set i (some (.dK true (qD ks l a d).1 (qD ks l a d).2)))) else none
  | _=>none
theorem jjj{i:Nat}{ty tv:TE}{pk pv:PF}(U:PB R ty pk)(V:PB R tv pv):DS R pm (jdg (JP i) ty tv) (u4 i pk pv):=by
 intro σ ρ Z H O o w s e D' k;unfold u4 at e;cases e1:pv ρ with
 | none=>rw[e1] at e;cases e
 | some d =>
  rw[e1] at e;dsimp only at e;split at e
  ·rename_i m l L;cases e2:pk ρ with
   | none=>rw[e2] at e;cases e
   | some y =>
    rw[e2] at e;dsimp only at e;cases e3:qV y with
    | none=>rw[e3] at e;cases e
    | some c =>
     rw[e3] at e;dsimp only at e;cases hm:frz d&&lim m.length with
     | false=>rw[hm] at e;cases e
     | true =>
      rw[hm] at e;cases e;rw[M0] at hm;refine V w.zd s e1 λ{u Z1 W P1} q M=>?_;cases M.nil hm.1;have g:=q.widen w;rw[X8] at g;have N:=q.slots w.zd s;obtain⟨A,P,B,rfl,X,Y,_⟩:=N.put (L9.mp L).1;obtain⟨v,Q,r⟩:=X _ L;rw[Rep] at r;obtain⟨a,S,E,rfl,rs,F,D,rfl⟩:=r;have D:W a=some (.dK ((m.map kaV).zip S)):=D;refine⟨.ref a,Q,?_⟩;refine U q.wf.zd N e2 λ{t x p P2} n r2=>?_;obtain⟨rfl,_⟩:=Ja e3 r2;have h:=n.widen g.wf;rw[X8] at h;have G:p a=some (.dK ((m.map kaV).zip S)):=by rw[n.same a (by rw[D];exact λz=>(nomatch z))];exact D
      have I:=n.reps q.wf.zd rs;have J:=n.rep q.wf.zd M;obtain⟨j,O2,r3,e4,sl,K⟩:=we J c I F;refine⟨a,_,rfl,DPut.k G (by rw[List.length_zip,L1];exact E3 (Nat.min_le_left _ _) (x8 hm.2)),?_⟩;rw[<- e4];have nd:=h.wf.nd;have gB:Go x p (A++(a::E)++B) x (upd p a (.dK (((qD m l c d).1.map kaV).zip j))) (A++(a::E)++B):=Go.put h.wf (by simp);have gC:Go x p (A++(a::E)++B) x (upd p a (.dK (((qD m l c d).1.map kaV).zip j))) (A++(a::O2)++B):=gB.drop (λb f=>by
       simp at f ⊢;rcases f with f | f | f | f
       ·exact .inl f
       ·exact .inr (.inl f)
       ·exact .inr (.inr (.inl (sl.subset f)))
       ·exact .inr (.inr (.inr f))) (List.Nodup.sublist (List.Sublist.append (List.Sublist.append (List.Sublist.refl A) (List.Sublist.cons_cons a sl)) (List.Sublist.refl B)) nd)
      have C:∀ b,x b->upd p a (.dK (((qD m l c d).1.map kaV).zip j)) b=p b:=λb f=>jm λz=>h.wf.nz a (by simp) (z▸f);simp only[X1,N3,List.nodup_cons,M5,not_or] at nd;obtain⟨⟨n1,⟨n2,n3⟩,n5⟩,n6,n7⟩:=nd;have hr:Rep R x (upd p a (.dK (((qD m l c d).1.map kaV).zip j))) (.dK true (qD m l c d).1 (qD m l c d).2) (.ref a) (a::O2):=by
       rw[Rep];exact⟨a,j,O2,rfl,r3.frame (λb z=>z) C (λb f=>jm λz=>n2 (z▸sl.subset f)),K,jy,rfl⟩
      have T:=Y (v':=.ref a) hr (λb f=>n.zz b f) (λb f=>(C b (n.zz b f)).trans (n.same b (q.wf.zd b f))) (λb f=>(jm λz=>n5 b f a (.inl rfl) z).trans (n.same b (g.wf.od b (by simp[f])))) (λb f=>(jm λz=>n7 a (.inr (.inl rfl)) b f z.symm).trans (n.same b (g.wf.od b (by simp[f]))));rw[yS Q] at T;exact k ((g.trans h).trans gC) T (Keep.refl _ _)
  ·cases e
end
theorem jaq:QP cl X (.Dict [] [] pos) jdn (pC (.dK true [] [])):=⟨jgD,jjK⟩
theorem qu(e:Room k X.A)(c:QB cl X a ta pa)(d:QB cl X b tb pb)(f:jmC b:=by exact λ_ _=>rfl):QB cl X (.Subscript a b pos) (jif ta tb) (p2 y6 pa pb):=⟨jh5 (jcR e) c.sem d.sem f,jhQ c.den d.den⟩
theorem jaO(d:Room k X.A)(a:QB cl X o to po)(b:QB cl X e te pe)(c:QB cl X f tf pf)(m:M2 X o "get" apos e f cpos:=by exact⟨rfl,rfl,rfl,rfl⟩) :
  QB cl X (.Call (.Attribute o "get" apos) [e,f] [] cpos) (jen to te tf) (p3 Ki po pe pf):=⟨jfY (jcR d) a.sem b.sem c.sem m,jgK a.den b.den c.den⟩
theorem jdp(e:Room k X.A)(c:QB cl X a ta pa)(d:QB cl X b tb pb)(f:behindInMarks .NotIn b=false:=by with_unfolding_all rfl):QT cl X (.Compare a [.NotIn] [b] pos) (L2.tB (zI ta tb)) (jx (p2 (Kv true) pa pb)) :=
 ⟨jk5 (uA (jcR e) c.sem d.sem) f,jbp (PP.b (uJ c.den d.den))⟩
theorem ja3(d:Room k X.A)(f:QB cl X (.Name x xpos) (JP i) (pV i))(a:QB cl X b tb pb)(c:QB cl X e te pe)(g:swapsWith e (some (.Subscript (.Name x xpos) b pos')) pos.line X.env=pure false:=by rfl) :
  QS cl pm X (.Assign [.Subscript (.Name x xpos) b pos'] e pos) (jdg (JP i) tb te) (u4 i pb pe):=⟨jdv (jcR d) f.sem a.sem c.sem g,jjj a.den c.den⟩
@[simp] theorem p3_e:p3 g pa pb pc ρ=(pa ρ).bind λx=>(pb ρ).bind λy=>(pc ρ).bind λz=>g x y z:=by
 unfold p3;cases pa ρ with
 | none=>rfl
 | some x =>
  dsimp only[Option.bind];cases pb ρ with
  | none=>rfl
  | some y=>dsimp only;cases pc ρ<;>rfl
noncomputable def jj0:D->Option (List KA×List D)
 | .dK true ks l=>some (ks,l)
 | _=>none
@[simp] theorem dkOf_dK(ks:List KA)(l:List D):jj0 (.dK true ks l)=some (ks,l):=rfl
@[simp] theorem sDSet_e{i:Nat}{pk pv:PF}{ρ:Rh}:u4 i pk pv ρ=(pv ρ).bind λd=>(pV i ρ).bind λx=>(jj0 x).bind λp=>(pk ρ).bind λy=>(qV y).bind λa=>bif frz d&&lim p.1.length then some (.nx (ρ.set i (some (.dK true (qD p.1 p.2 a d).1 (qD p.1 p.2 a d).2)))) else none:=by
 unfold u4 pV;cases pv ρ with
 | none=>rfl
 | some d =>
  dsimp only[Option.bind];cases h:ρ[i]? with
  | none=>rfl
  | some o=>cases o with
   | none=>rfl
   | some x=>cases x with
    | dK o b l=>cases o with
     | false=>rfl
     | true =>
      dsimp only[jj0];cases pk ρ with
      | none=>rfl
      | some y=>dsimp only;cases qV y<;>rfl
    | _=>rfl
@[simp] theorem keyOf_int(i:Int):qV (.int i)=some (.int i):=rfl
@[simp] theorem uN(s:List Nat):qV (.str s)=some (.str s):=rfl
@[simp] theorem opDIx_e(o:Bool)(ks:List KA)(l:List D)(y:D):y6 (.dK o ks l) y=(qV y).bind λk=>VX ks l k:=rfl
@[simp] theorem jfy(o:Bool)(ks:List KA)(l:List D)(y z:D):Ki (.dK o ks l) y z=(qV y).bind λk=>some ((VX ks l k).getD z):=rfl
@[simp] theorem opDIn_e(neg o:Bool)(ks:List KA)(l:List D)(y:D):Kv neg y (.dK o ks l)=(qV y).bind λk=>some (.bl (neg != (VX ks l k).isSome)):=rfl
theorem jhN{P:Program}{w:World}{K:PySem.W.Frag}{cl:Nat->Addr}{mg:Str->Option Value}{base:Heap}{k n:Nat}{f:Addr}{fd:FuncData}{ps:List Str}:FnOk P w K mg base CX0 k f fd ps (spP ⟨K,cl⟩ (λ_=>none) n) :=
 ⟨λb H Q E ⟨_,_,_,_,_,_,h,_⟩=>(nomatch h),λA outer s H a c b Q E _ _ _ _ ⟨_,_,_,_,_,_,h,_⟩=>(nomatch h)⟩
end QD
namespace PySem
open Sem (wp)
namespace F
theorem lk_list_keys:typeLookup (.type "list") "keys" = pure none:=by rw[typeLookup_type,builtinLookup_eq_fast];kernel_rfl
theorem lk_list_getattr:typeLookup (.type "list") "__getattr__" = pure none:=by rw[typeLookup_type,builtinLookup_eq_fast];kernel_rfl
theorem plain_dict_loop:plainId "dict.update.loop" = true:=by decide +kernel
theorem entry_dict_loop:entryFor table "dict.update.loop" = some Builtin.«dict.update.loop»:=entryFor_of_fast (by kernel_rfl)
end F
section
variable {prog:Program}{w:World}{A:Around}{E:Value->Shared->Prop}{h:Heap}{g:Array GenState}{d:Drawn}{t:Nat}{os:OsState}{a:Addr}{o:Obj}
theorem F.sub_attrErr:isSubtype (.type "AttributeError") (.type "AttributeError")=pure true:=by rw[isSubtype_type];kernel_rfl
theorem jgo{x nm:Value}{e:Addr}{y:Value}{Q:Unit->Shared->Prop}(a:h.get? e=some { cls:=.type "AttributeError",data:=.fields #[y,.none,.none,.none,.bool false,.none,unsetMember,unsetMember] })
  (c:∀ h',(∀ b o,b≠e->h.get? b=some o->h'.get? b=some o)->(∃ ob,h'.get? e=some ob/\ob.cls=.type "AttributeError")->Q () ⟨h',g,d,t,os⟩) :
  wpAny (model prog w) A (noteAttr (.ref e) x nm) Q E ⟨h,g,d,t,os⟩:=by
 have j:(⟨h,g,d,t,os⟩:Shared).TypeIs (.ref e) "AttributeError":=⟨_,a,rfl⟩;have k:=F.sub_attrErr;unfold noteAttr
 repeat (any_goals (first | assumption | wp_step))
 refine c _ (λb o f i=>?_) ?_
 ·rw[Heap.get?_update_ne _ _ _ _ f];exact i
 ·exact⟨_,Heap.get?_update_self _ a rfl,rfl⟩
theorem KU{α:Type}{x:Value}{nm c:Str}{Q:α->Shared->Prop}(l:c.length<=sizeLine)(n:A.handled=none)
  (p:∀ h' e t',(∀ b o,h.get? b=some o->h'.get? b=some o)->h.get? e=none->(∃ ob,h'.get? e=some ob/\ob.cls=.type "AttributeError")->E (.ref e) ⟨h',g,d,t',os⟩) :
  wpAny (model prog w) A (raiseAttrError x nm c:Sem α) Q E ⟨h,g,d,t,os⟩:=by
 unfold raiseAttrError;refine L3 (wpAny_mkStr (L3 ?_) l);unfold newExc newTuple;refine L3 (wpAny_newObj_type ?_);refine L3 (m:=firstArgMember _ _) (wpAny_of_eq (a:=Value.none) (by simp only[firstArgMember];rfl) ?_);refine wpAny_newObj_type ?_;refine L3 (wpAny_mkText (L3 ?_));refine jgo (y:=.ref h.objs.size) (E2 _ rfl) λh' q r=>?_;unfold raiseNew;refine L3 (wpAny_handled ?_);rw[n];have f:∀ i,E (.ref (h.push { cls:=.type "tuple",data:=.seq #[Value.str c t] }).objs.size) ⟨h',g,d,i,os⟩:=λi=>p h' _ _ (λb o j=>q b o (λz=>by
  have k:=N1 j;rw[z] at k;exact absurd k (Nat.not_lt.mpr (by simp))) (L8 _ (L8 _ j))) (Heap.get?_none_of_le (by simp)) r
 first
  | exact wpAny_throw (f _)
  | exact L3 (M7 (wpAny_throw (f _)))
theorem jcv{its:Array Value}{n:Nat}{sl:Array (Option Value)}{tk:Tok}{Q:Fin->Shared->Prop}(c:A.handled=none)(f:h.get? a=some { cls:=.type "list",data:=.seq its n,slots:=sl })
  (i:∀ h' e t',(∀ b o,h.get? b=some o->h'.get? b=some o)->h.get? e=none->(∃ ob,h'.get? e=some ob/\ob.cls=.type "AttributeError")->E (.ref e) ⟨h',g,d,t',os⟩) :
  wpAny (model prog w) A (Builtin.«object.__getattribute__» ⟨[.ref a,.str "keys" tk],[]⟩) Q E ⟨h,g,d,t,os⟩:=by
 have j:(⟨h,g,d,t,os⟩:Shared).TypeIs (.ref a) "list":=⟨_,f,rfl⟩;have k:=F.lk_list_keys
 repeat (any_goals (first | assumption | wp_step))
 exact KU (by decide +kernel) c i
theorem jfk{its:Array Value}{n:Nat}{sl:Array (Option Value)}{tk:Tok}{R:Result->Shared->Prop}(f:A.handled=none)(c:h.get? a=some { cls:=.type "list",data:=.seq its n,slots:=sl })
  (i:∀ h' e t',(∀ b o,h.get? b=some o->h'.get? b=some o)->h.get? e=none->(∃ ob,h'.get? e=some ob/\ob.cls=.type "AttributeError")->R (.error (.ref e)) ⟨h',g,d,t',os⟩) :
  codeAny (model prog w) A (.call (.builtin "list.__getattribute__") ⟨[.ref a,.str "keys" tk],[]⟩) R ⟨h,g,d,t,os⟩:=by
 refine codeAny_call_builtin F.slot_list_getattribute.plain F.entry_list_ga (F.slot_list_getattribute.check _ _ _ _ _ _ _ _ (show(⟨h,g,d,t,os⟩:Shared).TypeIs (.ref a) "list" from⟨_,c,rfl⟩) (F.args_list_getattribute_2 _ _) ?_);exact jcv (show A.in1.handled=none from f) c i
theorem jjL{its:Array Value}{n:Nat}{sl:Array (Option Value)}{tk:Tok}{Q:Value->Shared->Prop}(k:A.handled=none)(i:h.get? a=some { cls:=.type "list",data:=.seq its n,slots:=sl })
  (l:∀ h' e t',(∀ b o,h.get? b=some o->h'.get? b=some o)->h.get? e=none->(∃ ob,h'.get? e=some ob/\ob.cls=.type "AttributeError")->E (.ref e) ⟨h',g,d,t',os⟩) :
  wpAny (model prog w) A (getAttrBy (.ref a) (.str "keys" tk) false) Q E ⟨h,g,d,t,os⟩:=by
 have u:(⟨h,g,d,t,os⟩:Shared).TypeIs (.ref a) "list":=⟨_,i,rfl⟩;have v:=F.sub_attrErr;have x:=F.slot_list_getattribute.lookup;have y:=F.slot_list_getattribute.bind (.ref a);have z:=F.lk_list_getattr
 repeat (any_goals (first | assumption | wp_step))
 refine jfk k i λh' e t' m p j=>?_;have c:=j;obtain⟨ob,f,q⟩:=j;have r:(⟨h',g,d,t',os⟩:Shared).TypeIs (.ref e) "AttributeError":=⟨_,f,q⟩;have s:=l h' e t' m p c;show wpAny (model prog w) A (getattributeRaised (Value.ref a) (Value.str (Str.ofString "keys") tk) (Value.type "list") (.ref e) none false false) Q E _;unfold getattributeRaised
 repeat (any_goals (first | assumption | wp_step))
theorem jdM{its:Array Value}{n:Nat}{sl:Array (Option Value)}{Q:Option Value->Shared->Prop}(f:A.handled=none)(i:h.get? a=some { cls:=.type "list",data:=.seq its n,slots:=sl })
  (j:∀ h' t',(∀ b o,h.get? b=some o->h'.get? b=some o)->Q none ⟨h',g,d,t',os⟩):wpAny (model prog w) A (getAttr? (.ref a) "keys") Q E ⟨h,g,d,t,os⟩:=by
 unfold getAttr? getAttrBy?
 refine L3 (wpAny_mkText (L3 ?_));refine wpAny_attempt ?_;refine jjL f i λh' e t' k r l=>?_;obtain⟨ob,c,m⟩:=l;have p:(⟨h',g,d,t',os⟩:Shared).TypeIs (.ref e) "AttributeError":=⟨_,c,m⟩;have s:=F.sub_attrErr;have q:=j h' t' k
 repeat (any_goals (first | assumption | wp_step))
end
section
variable {prog:Program}{w:World}{K:Type} [DecidableEq K] {knd:KeyKind prog w K}{A:Around}{E:Value->Shared->Prop}{s:Shared}
theorem K4(c:s.heap.get? p=some o)(b:o.cls=.type "tuple")(hd:o.data=.seq #[key,x] m)(e:Q [key,x] s):wpAny (model prog w) A (Builtin.Dict.pairItems (.ref p)) Q E s:=by
 obtain⟨f,od,a,d⟩:=o;dsimp only at b hd;subst b;subst hd;have g:s.TypeIs (.ref p) "tuple":=⟨_,c,rfl⟩;unfold Builtin.Dict.pairItems
 repeat (any_goals (first | assumption | wp_step))
def u9(knd:KeyKind prog w K)(h:Heap)(v:Value)(kv:K×Value):Prop:=∃ p key m o,v=.ref p/\h.get? p=some o/\o.cls=.type "tuple"/\o.data=.seq #[key,kv.2] m/\knd.is kv.1 key=true
theorem jdI{R:Result->Shared->Prop}(hh:A.handled=none)  (q:ax≠I) (h:D≠I) (P:D≠ax) {items:Array Value}{ps:List (K×Value)}(r:items.size=ps.length):∀(k i:Nat) (s:Shared) (kvs:List (K×Value)),
  items.size - i=k->i<=items.size->(s.heap.IsListIter I ax i/\s.heap.IsList ax items)->s.heap.DictOf knd D kvs ->
  (∀(j:Nat) (v:Value),items[j]?=some v->∃ kv,ps[j]?=some kv/\u9 knd s.heap v kv/\v≠.ref I/\v≠.ref D)->kvs.length+k<=100000 ->
  (∀ h' tk,h'.DictOf knd D ((ps.drop i).foldl (λa kv=>stored a kv.1 kv.2) kvs)->(∀ b o,b≠I->b≠D->s.heap.get? b=some o->h'.get? b=some o)->R (.ok (.ret .none)) { s with heap:=h',toks:=tk }) ->
  codeAny (model prog w) A (.builtin "dict.update.loop" ⟨[.ref D,.ref I,rawInt i,.none],[]⟩) R s:=by
 intro k
 induction k with
 | zero =>
  intro i s kvs hk hi l hd Q hz S;have T:i=items.size:=by omega
  subst T;have W:=Walks.list (prog:=prog) (w:=w) (A:=A.in1) (by exact hh) I ax q items;refine codeAny_builtin F.entry_dict_loop ?_;rw[Around.under_plainId F.plain_dict_loop _];show wpAny _ A.in1 (pyNext (.ref I) >>= _) _ _ s;refine L3 (W.done s _ _ l λh' tk c=>?_);have fin:=S h' tk (by rw[r,List.drop_length];exact hd.extBut (b:=I) (λb o d e=>c b o (by simpa using d) e) h) (λb o d _ e=>c b o (by simpa using d) e);unfold Builtin.Dict.addKeywords
  repeat (any_goals (first | assumption | wp_step))
 | succ k ih =>
  intro i s kvs hk hi l hd Q hz S;have t:i < items.size:=by omega
  have W:=Walks.list (prog:=prog) (w:=w) (A:=A.in1) (by exact hh) I ax q items;refine codeAny_builtin F.entry_dict_loop ?_;rw[Around.under_plainId F.plain_dict_loop _];show wpAny _ A.in1 (pyNext (.ref I) >>= _) _ _ s;refine L3 (W.item i s _ _ t l λv h' tk hP u c=>?_);obtain⟨kv,x,⟨p,y,m,po,rfl,U,V,X,B⟩,Y,hvD⟩:=Q i v hP;have C:h'.get? p=some po:=c p _ (by simpa using λz=>Y (by rw[z])) U;have Z:h'.DictOf knd D kvs:=hd.extBut (b:=I) (λb o d e=>c b o (by simpa using d) e) h;refine L3 (wpAny_holding ?_);refine L3 (wpAny_tryCatch (K4 C V X ?_));show wpAny _ _ (holding [y,kv.2] (dictSet D y kv.2)) _ _ _;have hsz:sizeLine=16777216:=by decide
  refine wpAny_holding (wpAny_dictSet_pairs B Z (λh'' E hs=>?_) (by omega));refine M7 ⟨plainId_quiet F.plain_dict_loop _,?_⟩;have hd2:ps.drop i=kv::ps.drop (i+1):=by
   have G:i < ps.length:=by omega
   rw[List.drop_eq_getElem_cons G];have:ps[i]=kv:=by
    rw[X9 G] at x;exact X7 x
   rw[this]
  refine ih (i+1) _ (stored kvs kv.1 kv.2) (by omega) t (W.frame (i+1) h' h'' u λb d o e=>(hs.2 b ?_).trans e) E (λj v hv=>?_) ?_ λh3 tk3 hd3 hk3=>?_
  ·rcases M5.mp d with rfl | d
   ·exact λz=>h z.symm
   ·rw[M8.mp d];exact λz=>P z.symm
  ·obtain⟨kv',H,⟨p',J,m',po',rfl,L,M,N,n⟩,f,g⟩:=Q j v hv;refine⟨kv',H,⟨p',J,m',po',rfl,?_,M,N,n⟩,f,g⟩;exact(hs.2 p' λz=>g (by rw[z])).trans (c p' _ (by simpa using λz=>f (by rw[z])) L)
  ·have:=stored_length_le kvs kv.1 kv.2;omega
  ·refine S h3 tk3 ?_ λb o d O e=>hk3 b o d O ((hs.2 b O).trans (c b o (by simpa using d) e));rw[hd2,X2];exact hd3
end
section
variable {prog:Program}{w:World}{K:Type} [DecidableEq K] {knd:KeyKind prog w K}{A:Around}{E:Value->Shared->Prop}{s:Shared}
theorem xy{its:Array Value}{n:Nat}{sl:Array (Option Value)}{ps:List (K×Value)}{Q:Value->Shared->Prop}(O:A.handled=none)(x:s.heap.get? p=some { cls:=.type "list",data:=.seq its n,slots:=sl })(k:its.size=ps.length)
  (S:∀(j:Nat) (v:Value),its[j]?=some v->∃ kv,ps[j]?=some kv/\u9 knd s.heap v kv) (hz:ps.length<=100000)
  (h:∀ h' tk,h'.DictOf knd s.heap.objs.size (ps.foldl (λa kv=>stored a kv.1 kv.2) [])->(∀ b o,s.heap.get? b=some o->h'.get? b=some o)->Q (.ref s.heap.objs.size) { s with heap:=h',toks:=tk }) :
  wpAny (model prog w) A (call (.type "dict") [.ref p]) Q E s:=by
 refine callType_codes (Q₁:=λobj P=>obj=.ref s.heap.objs.size/\P={ s with heap:=s.heap.push { cls:=.type "dict",data:=.dict #[] } }) F.kt_called_dict (F.kt_typeCall_dict_1 _) F.entry_dict_init (kt_code_dict_new _ ⟨rfl,rfl⟩) ?_;rintro obj P ⟨rfl,rfl⟩;have c:(s.heap.push { cls:=.type "dict",data:=.dict #[] }).DictOf knd s.heap.objs.size []:=Heap.DictOf.new s.heap;refine⟨c.typeIs,F.args_dict_init_2 _ _,?_⟩;have f:(s.heap.push { cls:=.type "dict",data:=.dict #[] }).get? p=some { cls:=.type "list",data:=.seq its n,slots:=sl }:=L8 _ x;have R:s.heap.get? s.heap.objs.size=none:=Heap.get?_none_of_le (M9 _);unfold Builtin.«dict.__init__»;refine L3 ?_;unfold Builtin.Dict.selfAndRest;refine L3 (wpAny_notOrdered_dict c.typeIs ?_);show wpAny _ _ (pure (s.heap.objs.size,[Value.ref p])) _ _ _;refine M7 ?_;show wpAny _ _ (Builtin.Dict.updateFrom "dict.__init__" s.heap.objs.size (.ref p) [] .none) _ _ _;unfold Builtin.Dict.updateFrom;refine L3 (wpAny_typeOf (T:="list") ⟨_,f,rfl⟩ ?_);rw[if_pos (by decide)];refine L3 ?_;refine jdM (its:=its) (n:=n) ?_ f λl X d=>?_
 ·exact O
 ·rw[if_pos (show(Option.isNone (none:Option Value))=true from rfl)];refine L3 (wpAny_rule ?_);have g:=d p _ f;have y:l.IsList p its:=⟨_,g,rfl,n,rfl⟩;refine L3 (wpAny_pyIter_list y ?_);have B:=d s.heap.objs.size _ (E2 _ rfl);have C:p≠l.objs.size:=N7 (N1 g);have q:s.heap.objs.size≠l.objs.size:=N7 (N1 B);have D:s.heap.objs.size≠p:=λz=>by rw[<- z,R] at x;cases x
  refine M7 ⟨plainId_quiet F.plain_dict_loop _,?_⟩;refine jdI (A:=A.in1) (knd:=knd) (show A.in1.handled=none from O) C q D k its.size 0 _ [] (by omega) (U6 _) ⟨⟨_,E2 _ rfl,rfl,rfl⟩,?_⟩ ?_ (λU v V=>?_) (by simp;omega) λW G H I=>?_
  ·exact⟨_,L8 _ g,rfl,n,rfl⟩
  ·exact c.extBut (b:=l.objs.size) (λb o Y e=>L8 _ (d b o e)) q
  ·obtain⟨kv,J,u,L,m,po,rfl,i,M,N,r⟩:=S U v V;have t:=d u _ (L8 _ i);refine⟨kv,J,⟨u,L,m,po,rfl,L8 _ t,M,N,r⟩,λz=>?_,λz=>?_⟩
   ·have z:u=l.objs.size:=by injection z
    exact absurd z (N7 (N1 t))
   ·have z:u=s.heap.objs.size:=by injection z
    rw[z,R] at i;cases i
  ·refine⟨rfl,h W G H λb o e=>?_⟩;have t:=d b o (L8 _ e);exact I b o (N7 (N1 t)) (N7 (N1 e)) (L8 _ t)
end
end PySem
namespace L2
open PySem PySem.Spec PyProof.Rows
theorem ue(I:Inv X pins σ H s):∀{ys:List V}{its:List Value}{ps:List (Key×V)},Vals ys its->ys.length=ps.length ->
  (∀(j:Nat) (y:V),ys[j]?=some y->∃ kv t,ps[j]?=some kv/\y=.ref t/\SqT X.K H t [kV kv.1,kv.2]) ->
  ∃ qs:List (Key×Value),KV ps qs/\∀(j:Nat) (v:Value),its[j]?=some v->∃ kv,qs[j]?=some kv/\u9 (yp X.prog X.w) s.heap v kv
 | [],its,ps,b,a,c=>by
  cases b;have:ps=[]:=List.length_eq_zero_iff.mp a.symm;subst this;exact⟨[],.nil,λj v e=>by simp at e⟩
 | y::ys,its,[],b,a,c=>by simp at a
 | y::ys,its,kv::ps,b,a,c=>by
  cases b with
  | cons i k =>
   rename_i u D;obtain⟨qs,r,q⟩:=ue I (ps:=ps) k (by simpa using a) λj y e=>c (j+1) y (by simpa using e);obtain⟨l,t,m,rfl,d⟩:=c 0 y rfl;cases m;cases(show u=Value.ref t from i);obtain⟨g,p,⟨o,e,x,n,hd⟩,_⟩:=I.tuple d;cases p with
   | cons z A =>
    cases A with
    | cons B C =>
     cases C;rename_i f val;refine⟨(kv.1,val)::qs,.cons ⟨rfl,B⟩ r,λj v h=>?_⟩;cases j with
     | zero =>
      cases h;exact⟨_,rfl,t,f,n,o,rfl,e,x,hd,ja8 z⟩
     | succ j=>exact q j v (by simpa using h)
theorem wJ:∀{ps:List (Key×V)}{qs:List (Key×Value)}{a:List (Key×V)}{b:List (Key×Value)},KV ps qs->KV a b->KV (ps.foldl (λa kv=>Kb a kv.1 kv.2) a) (qs.foldl (λa kv=>stored a kv.1 kv.2) b)
 | [],_,_,_,.nil,h=>h
 | p::ps,q::qs,a,b,.cons c d,h=>by
  rw[X2,X2];refine wJ d ?_;have:=h.put p.1 c.2;rw[c.1] at this ⊢;exact this
theorem jaK{ps:List (Key×V)}:∀{qs:List (Key×V)},(ps.foldl (λa kv=>Kb a kv.1 kv.2) qs).length<=qs.length+ps.length:=by
 induction ps with
 | nil=>intro qs;simp
 | cons p ps b =>
  intro qs;rw[X2];have c:=b (qs:=Kb qs p.1 p.2);have d:(Kb qs p.1 p.2).length<=qs.length+1:=by unfold Kb;split<;>simp
  rw[M3];omega
theorem xH{X:Cx}(C:X.calm=true):Vy X (.type "dict") (λxs H Q=>∃(p:Addr) (ys:List V) (ps:List (Key×V)),xs=[.ref p]/\SqL X.K H p ys/\ys.length=ps.length/\ps.length<=100000 /\
  (∀(j:Nat) (y:V),ys[j]?=some y->∃ kv t,ps[j]?=some kv/\y=.ref t/\SqT X.K H t [kV kv.1,kv.2])/\∀ D,H D=none->Q (.ref D) (upd H D (.dK (ps.foldl (λa kv=>Kb a kv.1 kv.2) [])))):=by
 intro x s σ H xs R Q I r h;obtain⟨p,ys,ps,rfl,E,z,F,G,q⟩:=h;obtain⟨u,rfl,J⟩:=r.one;cases J;obtain⟨i,A,⟨o,n,e,b,c,d⟩,_⟩:=I.list E;obtain⟨S,od,k,L⟩:=o;dsimp only at b c d;subst b c d;obtain⟨B,rel,l⟩:=ue I A z G;have f:i.toArray.size=B.length:=by rw[N4,<- A.length,z,rel.length]
 refine xy (knd:=yp X.prog X.w) (I.ok.hd C) e f (λj v M=>l j v (by simpa using M)) (by rw[<- rel.length];exact F) λT N hd O=>?_;have g:=wJ rel (.nil:KV ([]:List (Key×V)) []);have m:=jaK (ps:=ps) (qs:=[]);have P:sizeLine=16777216:=by decide
 exact⟨.ref s.heap.objs.size,_,I.laid (a:=s.heap.objs.size) (o:=.dK (ps.foldl (λa kv=>Kb a kv.1 kv.2) [])) (t':=N) O (M9 _) (jb0 (by simp at m;omega) (U3.mpr (Ne.symm (N7 I.big))) g hd),rfl,q _ (I.hok.fresh (M9 _))⟩
end L2
namespace QD
open PySem L2 PySem.Spec PyProof.Rows
noncomputable def JW:List D->Option (List (KA×D))
 | []=>some []
 | .tup [k,v]::l=>(qV k).bind λa=>(JW l).bind λr=>some ((a,v)::r)
 | _::_=>none
noncomputable def YJ(ps:List (KA×D)):List KA×List D:=ps.foldl (λacc kv=>qD acc.1 acc.2 kv.1 kv.2) ([],[])
noncomputable def xB:List D->Option D
 | [.lst _ l]=>(JW l).bind λps=>bif frzs (ps.map (·.2))&&lim ps.length then some (.dK true (YJ ps).1 (YJ ps).2) else none
 | _=>none
theorem Qd:∀{l:List D}{ps:List (KA×D)}{ys:List V}{O:List Addr},JW l=some ps->Reps R Z H l ys O->frzs (ps.map (·.2))=true ->
  ∃ ws:List V,Reps R Z H (ps.map (·.2)) ws []/\ys.length=ps.length/\∀(j:Nat) (y:V),ys[j]?=some y->∃ kv t,((ps.map λp=>kaV p.1).zip ws)[j]?=some kv/\y=.ref t/\SqT R.K H t [kV kv.1,kv.2]
 | [],ps,ys,O,e,r,b=>by
  cases e;rw[Reps] at r;obtain⟨rfl,rfl⟩:=r;exact⟨[],.empty,rfl,λj y c=>by simp at c⟩
 | d::l,ps,ys,O,e,r,b=>by
  match d,e with
  | .tup [k,v],e =>
   simp only[JW] at e;cases e1:qV k with
   | none=>rw[e1] at e;cases e
   | some a =>
    rw[e1,L4] at e;cases e2:JW l with
    | none=>rw[e2] at e;cases e
    | some i =>
     rw[e2] at e;cases e;rw[Reps] at r;obtain⟨B,m,O1,O2,rfl,rfl,g,n⟩:=r;rw[L5,KG,M0] at b;obtain⟨ws,f,o,q⟩:=Qd e2 n b.2;rw[Rep] at g;obtain⟨t,C,rfl,s,x⟩:=g;obtain⟨u,w,P1,P2,rfl,-,z,h⟩:=x.two_of;obtain⟨rfl,_⟩:=Ja e1 z;have A:=h.nil b.1;subst A;refine⟨w::ws,Reps.cons (O:=[]) (P:=[]) h f,by simp[o],λj y c=>?_⟩;cases j with
     | zero =>
      cases c;exact⟨(kaV a,w),t,rfl,rfl,s.sq⟩
     | succ j=>exact q j y (by simpa using c)
theorem KO:∀{ps:List (KA×D)}{ws:List V}{ks:List KA}{l:List D}{us:List V},Reps R Z H (ps.map (·.2)) ws []->Reps R Z H l us []->ks.length=l.length ->
  ∃ us',Reps R Z H (ps.foldl (λacc kv=>qD acc.1 acc.2 kv.1 kv.2) (ks,l)).2 us' []/\(((ps.foldl (λacc kv=>qD acc.1 acc.2 kv.1 kv.2) (ks,l)).1).map kaV).zip us'=(((ps.map λp=>kaV p.1).zip ws).foldl (λa kv=>Kb a kv.1 kv.2) ((ks.map kaV).zip us)) /\
   (ps.foldl (λacc kv=>qD acc.1 acc.2 kv.1 kv.2) (ks,l)).1.length=(ps.foldl (λacc kv=>qD acc.1 acc.2 kv.1 kv.2) (ks,l)).2.length
 | [],ws,ks,l,us,b,r,c=>⟨us,r,by simp,c⟩
 | p::ps,ws,ks,l,us,b,r,c=>by
  rw[L5,Reps] at b;obtain⟨w,g,O1,O2,rfl,e,h,i⟩:=b;obtain⟨rfl,rfl⟩:=List.append_eq_nil_iff.mp e.symm;obtain⟨j,k,m,n,sl,d⟩:=we h p.1 r c;have:k=[]:=List.sublist_nil.mp sl;subst this;obtain⟨us',o,q,f⟩:=KO (ps:=ps) i m d;refine⟨us',o,?_,f⟩;rw[L5,U8,X2,X2,q,n]
theorem jd4:BC R (λxs H Q=>∃(p:Addr) (ys:List V) (ps:List (Key×V)),xs=[.ref p]/\SqL R.K H p ys/\ys.length=ps.length/\ps.length<=100000 /\
  (∀(j:Nat) (y:V),ys[j]?=some y->∃ kv t,ps[j]?=some kv/\y=.ref t/\SqT R.K H t [kV kv.1,kv.2])/\∀ D,H D=none->Q (.ref D) (upd H D (.dK (ps.foldl (λa kv=>Kb a kv.1 kv.2) [])))) xB:=by
 intro Z H xs d C O z r e Q k
 match xs,e,r with
 | [.lst o l],e,r =>
  simp only[xB] at e;cases e1:JW l with
  | none=>rw[e1] at e;cases e
  | some ps =>
   rw[e1,L4] at e;cases hm:frzs (ps.map (·.2))&&lim ps.length with
   | false=>rw[hm] at e;cases e
   | true =>
    rw[hm] at e;cases e;rw[M0] at hm;obtain⟨v,rfl,n⟩:=r.one_of;obtain⟨p,ys,E,rfl,s,u⟩:=n.lst_of;obtain⟨i,b,w,q⟩:=Qd e1 u hm.1;obtain⟨f,A,B,g⟩:=KO (ks:=[]) (l:=[]) (us:=[]) b .empty rfl;have c:i.length=ps.length:=by rw[b.length];simp
    refine⟨p,ys,(ps.map λp=>kaV p.1).zip i,rfl,s.sq,by simp[w,c],by simp[c];exact X6 hm.2,q,λD m=>?_⟩;refine k (Go.newO (wf0 z) m) ?_;have ne:∀ a,H a≠none->a≠D:=λa h e=>h (e▸m);rw[Rep];exact⟨D,f,[],rfl,A.frame (λa z=>z) (λa h=>jm (ne a (z a h))) (λa h=>(nomatch h)),g,by show upd H D _ D=some _;rw[jy];exact congrArg (λx=>some (HO.dK x)) B.symm,rfl⟩
@[simp] theorem jd9(o:Bool)(l:List D):xB [.lst o l]=(JW l).bind λps=>bif frzs (ps.map (·.2))&&lim ps.length then some (.dK true (YJ ps).1 (YJ ps).2) else none:=rfl
end QD
namespace QK
open PySem L2 QD PySem.Spec PyProof.Rows
end QK
namespace QD
open PySem L2 PySem.Spec PyProof.Rows
end QD
namespace L2
open PySem PySem.Spec PyProof.Rows
end L2
namespace QD
open PySem L2 PySem.Spec PyProof.Rows
theorem jeS(h:ixN l.length j=some i)(k:l[i]?=some x):L2.atI l j=some x:=by
 unfold L2.atI;rw[h];exact k
theorem Go.frz1(w:WF Z H (a::O)):Go Z H (a::O) (λb=>Z b \/ b=a) H O:=by
 have nd:=List.nodup_cons.mp w.nd;refine⟨⟨nd.2,λb c z=>?_,λb c=>w.od b (L6 _ c),λb z=>?_⟩,λb z=>.inl z,λ_ _ _=>rfl,λb z=>?_,λb c=>.inl (L6 _ c),λ_ h=>h⟩
 ·rcases z with z | rfl
  ·exact w.nz b (L6 _ c) z
  ·exact nd.1 c
 ·rcases z with z | rfl
  ·exact w.zd b z
  ·exact w.od b L7
 ·rcases z with z | rfl
  ·exact .inl z
  ·exact .inr (.inl L7)
structure QDs(cl:Nat->Addr)(X:Cx)(es:List Expr)(ta:TA)(f:FA):Prop where
 sem:PA X es ta
 den:DA ⟨X.K,cl⟩ ta f
theorem jfa:QDs cl X [] jav jhn:=⟨zE,jkk⟩
theorem wG(h1:QE cl X e te fE)(h2:QDs cl X es tr fr)(a:starEach (e::es) X.env=(false,eval e X.env)::starEach es X.env:=by rfl):QDs cl X (e::es) (Y3 te tr) (zU fE fr):=⟨Y9 h1.sem h2.sem a,jhI h1.den h2.den⟩
theorem jl5{x1}(h:QDs cl X es tr fr):QE cl X (.Tuple es x1 pos) (jlM tr) (jl6 fr):=⟨jhq h.sem,jk4 h.den⟩
@[simp] theorem jjN:zU fa fr ρ=(fa ρ).bind λx=>(fr x.2).bind λy=>some (x.1::y.1,y.2):=by
 unfold zU;cases fa ρ with
 | none=>rfl
 | some x=>obtain⟨d,r⟩:=x;dsimp only[Option.bind];cases fr r<;>rfl
@[simp] theorem jlw:jhn ρ=some ([],ρ):=rfl
@[simp] theorem dTup_e:jl6 fa ρ=(fa ρ).bind λx=>bif decide (x.1.length<=1000) then some (.tup x.1,x.2) else none:=by
 unfold jl6 dCB;cases fa ρ with
 | none=>rfl
 | some x =>
  obtain⟨d,r⟩:=x;dsimp only[Option.bind];cases decide (d.length<=1000)<;>rfl
end QD
namespace L2
open PySem PySem.Spec PyProof.Rows
theorem jmV(h:(yp P w).is k u=true):RelV (kV k) u:=by
 rw[jcX] at h;rcases yW h with⟨i,t,rfl,rfl⟩ | ⟨x,t,rfl,rfl⟩
 ·exact⟨t,rfl⟩
 ·exact⟨t,rfl⟩
end L2
namespace QD
open PySem L2 PySem.Spec PyProof.Rows
section
variable {R:RC}{Z Z':Zn}{H H':Hp}{pm:List Nat}
noncomputable def kaD:KA->D
 | .int i=>.int i
 | .str s=>.str s
theorem jjP(a:KA):Rep R Z H (kaD a) (kV (kaV a)) []:=by
 cases a with
 | int i=>exact .int_mk
 | str s=>exact .str_mk
end
end QD
namespace L2
open PySem PySem.Spec PyProof.Rows
structure BlockOkC(X:Cx)(scope:Scope)(N':List Str)(ix:List (Option Nat)):Prop where
 kind:scope.kind=.function
 names:∀ y∈scope.names,y.2=.local->scope.names.lookup y.1=some .local
 cells:∀ y∈scope.names,y.2=.cell->scope.names.lookup y.1=some .cell
 uniq:∀ y∈scope.names,y.2=.free->scope.names.lookup y.1=some .free
 outer:∀ y∈scope.names,y.2=.free->X.env.kindOf y.1=some .cell \/ X.env.kindOf y.1=some .free
 nd:N'.Nodup
 len:ix.length=N'.length
 at_:∀(i j:Nat) (x:Str),ix[i]?=some (some j)->N'[i]?=some x->X.N[j]?=some x/\(x,NameKind.free)∈scope.names
 func:X.env.scope.kind=.function
end L2
namespace QD
open PySem L2 PySem.Spec PyProof.Rows
end QD
namespace L2
open PySem PySem.Spec PyProof.Rows
structure KD(P:Program)(w:World)(K:PySem.W.Frag)(a:Addr)(kvs:List (Key×V)):Prop where
 nm:(a==sysModules)=false
 dd:∀ h:Heap,K.In h->∃ vs,KV kvs vs/\h.DictOf (yp P w) a vs
section
variable {prog:Program}{w:World}{A:Around}{E:Value->Shared->Prop}{s:Shared}
theorem ua{j t:Addr}{n:Nat}{a:Array Value}{y:Value}{C:Value->Shared->Prop}(d:s.heap.IsTupleIter j t n)(e:s.heap.IsTuple t a)(f:a[n]?=some y)
  (go:∀ k,k.IsTupleIter j t (n+1)->Heap.SameBut j s.heap k->C y { s with heap:=k }):wpAny (model prog w) A (Builtin.SmallTypes.nextOf (.ref j)) C E s:=by
 obtain⟨l,c,g,b⟩:=id d;obtain⟨m,h,_,mt,i⟩:=e;delta Builtin.SmallTypes.nextOf;refine L3 (wpAny_callSpecial?_slot (name:=Str.ofString "__next__") d.typeIs F.slot_tuple_iterator_next (wpAny_call_entry F.slot_tuple_iterator_next d.typeIs F.entry_tuple_iterator_next ?_ (F.args_tuple_iterator_next_1 _)));show wpAny _ _ (field (.ref j) 0 >>= _) _ _ s;refine L3 (U7 c b (x:=.ref t) rfl ?_);show wpAny (model prog w) _ (if(Value.ref t==Value.none)=true then _ else _) _ _ s;rw[if_neg (by exact M4)];show wpAny _ _ (field (.ref j) 1 >>= _) _ _ s;refine L3 (U7 c b (x:=.int n 0) rfl ?_);show wpAny (model prog w) _ (seqItems? (.ref t) >>= _) _ _ s;refine L3 (wpAny_seqItems h i ?_);simp only[N9,f];refine L3 (wpAny_setField c b (by simp) (M7 ⟨y,rfl,M7 (go _ ⟨_,Heap.get?_update_self _ c (Obj.isFreed_of_fields (Obj.data_mapFields b _)),(Obj.cls_mapFields ..).trans g,?_⟩ (Heap.SameBut.update ..))⟩));rw[Obj.data_mapFields b];simp[rawInt]
variable {z TI TO j1 j2 l t:Addr}{m:Nat}{us vs:Array Value}{u v a b:Value}
theorem jg1{C:Value->Shared->Prop}(D:ZipApart z TI TO j1 j2 l t)(j:IsZip s.heap z TI TO .none)(qI:IsPair s.heap TI (.ref j1) (.ref j2))(W:IsPair s.heap TO a b)
  (X:s.heap.IsListIter j1 l m) (q2:s.heap.IsTupleIter j2 t m) (Y:s.heap.IsList l us) (Z:s.heap.IsTuple t vs) (eu:us[m]?=some u) (ev:vs[m]?=some v)
  (go:∀ k,IsZip k z TI TO (rawInt s.heap.objs.size)->IsPair k TO u v->k.IsListIter j1 l (m+1)->k.IsTupleIter j2 t (m+1)->IsPair k s.heap.objs.size u v->k.objs.size=s.heap.objs.size+1 ->
   (∀ c o,c≠z->c≠TO->c≠j1->c≠j2->s.heap.get? c=some o->k.get? c=some o)->C (.ref s.heap.objs.size) { s with heap:=k }) :
  wpAny (model prog w) A (Builtin.«zip.__next__» ⟨[.ref z],[]⟩) (λfin s'=>∃ v,fin=.done (.ret v)/\C v s') E s:=by
 show wpAny (model prog w) A (field (.ref z) 2 >>= _) _ _ _;refine L3 (U7 j rfl (x:=.bool false) rfl ?_);show wpAny (model prog w) A (field (.ref z) 3 >>= _) _ _ _;refine L3 (U7 j rfl (x:=.ref TI) rfl (L3 (wpAny_seqItems qI rfl ?_)));show wpAny (model prog w) A (Builtin.SmallTypes.ownedTupleIsFree (.ref z) >>= _) _ _ _;refine L3 ?_;delta Builtin.SmallTypes.ownedTupleIsFree;refine L3 (U7 j rfl (x:=.none) rfl (M7 ?_));simp only[if_true];refine L3 (wpAny_rule (L3 (U7 j rfl (x:=.ref TO) rfl (L3 (wpAny_setField_rec j (by simp) λk1 G f=>?_)))));replace G:IsZip k1 z TI TO .ellipsis:=G;refine L3 ?_;simp only[List.forIn_cons,List.forIn_nil,List.zipIdx_cons,List.zipIdx_nil];refine L3<|L3<|wpAny_onRaise ?_
 show wpAny _ _ (Builtin.SmallTypes.nextOf (.ref j1) >>= _) _ _ _;refine L3 (wpAny_nextOf_list_item (X.extBut f.extBut D.i1z) (Y.extBut f.extBut D.l1z) eu λk2 p1 h=>M7 ?_);have P:IsPair k2 TO a b:=h.extBut _ _ D.TOi1 (f.extBut _ _ D.TOz W);refine L3 (wpAny_seqItems P rfl (L3 (wpAny_updateSeq_pair P λk3 H i=>?_)));replace H:IsPair k3 TO u b:=H;refine L3 (wpAny_letGo (M7 (L3 (L3 (wpAny_onRaise ?_)))));show wpAny _ _ (Builtin.SmallTypes.nextOf (.ref j2) >>= _) _ _ _;refine L3 (ua (((q2.extBut f.extBut D.i2z).extBut h.extBut D.i12.symm).extBut i.extBut D.TOi2.symm) (((Z.extBut f.extBut D.l2z).extBut h.extBut D.l2i1).extBut i.extBut D.l2TO) ev λk4 p2 n=>M7 ?_);have Q:IsPair k4 TO u b:=n.extBut _ _ D.TOi2 H;refine L3 (wpAny_seqItems Q rfl (L3 (wpAny_updateSeq_pair Q λd r p=>?_)));replace r:IsPair d TO u v:=r;refine L3 (wpAny_letGo (M7 (M7 (L3 (wpAny_seqItems r rfl (L3 (wpAny_newTuple ?_)))))));have R:d.objs.size=s.heap.objs.size:=by rw[p.1,n.1,i.1,h.1,f.1]
 have S:IsZip d z TI TO .ellipsis:=p.extBut _ _ D.TOz.symm (n.extBut _ _ D.i2z.symm (i.extBut _ _ D.TOz.symm (h.extBut _ _ D.i1z.symm G)));have kp:∀ c o,c≠z->c≠TO->c≠j1->c≠j2->s.heap.get? c=some o->d.get? c=some o:=λc o g y I J e=>p.extBut _ _ y (n.extBut _ _ J (i.extBut _ _ y (h.extBut _ _ I (f.extBut _ _ g e))));have K:d.IsListIter j1 l (m+1):=((p1.extBut i.extBut D.TOi1.symm).extBut n.extBut D.i12).extBut p.extBut D.TOi1.symm;have L:d.IsTupleIter j2 t (m+1):=p2.extBut p.extBut D.TOi2.symm;have T:z < d.objs.size:=N1 S;show wpAny (model prog w) A (Builtin.SmallTypes.ownedTupleHandOut (.ref z) (.ref d.objs.size) >>= _) _ _ _;refine L3 ?_;delta Builtin.SmallTypes.ownedTupleHandOut;have z6:IsZip (d.push { cls:=.type "tuple",data:=.seq #[u,v] }) z TI TO .ellipsis:=L8 _ S;refine L3 (wpAny_setField_rec z6 (by simp) λk7 M N=>?_);replace M:IsZip k7 z TI TO (rawInt d.objs.size):=M;refine wpAny_setField_rec M (by simp) λq B O=>?_;replace B:IsZip q z TI TO (rawInt d.objs.size):=B;have F:∀ c o,c≠z->d.get? c=some o->q.get? c=some o:=λc o g e=>O.extBut _ _ g (N.extBut _ _ g (L8 _ e));have U:IsPair q d.objs.size u v:=O.extBut _ _ (Nat.ne_of_gt T) (N.extBut _ _ (Nat.ne_of_gt T) (E2 _ rfl));have V:q.objs.size=d.objs.size+1:=by rw[O.1,N.1,Heap.size_push]
 rw[R] at B U V;refine M7 ⟨_,rfl,?_⟩;show C (.ref d.objs.size) _;rw[R];obtain⟨x1,y1,r1⟩:=K;obtain⟨x2,y2,r2⟩:=L;exact go q B (F _ _ D.TOz r) ⟨x1,F _ _ D.i1z y1,r1⟩ ⟨x2,F _ _ D.i2z y2,r2⟩ U V λc o g y I J e=>F c o g (kp c o g y I J e)
theorem jjR{C:PySem.Fin->Shared->Prop}(p:A.handled=none)(D:ZipApart z TI TO j1 j2 l t)(a:IsZip s.heap z TI TO .none)(qI:IsPair s.heap TI (.ref j1) (.ref j2))
  (q:s.heap.IsListIter j1 l m) (r:s.heap.IsList l us) (u:us[m]?=none)
  (go:∀ k e,(∀ c o,c≠z->c≠TO->c≠j1->c≠j2->s.heap.get? c=some o->k.get? c=some o)->(∃ o,k.get? e=some o/\o.cls=.type "StopIteration")->E (.ref e) { s with heap:=k }) :
  wpAny (model prog w) A (Builtin.«zip.__next__» ⟨[.ref z],[]⟩) C E s:=by
 show wpAny (model prog w) A (field (.ref z) 2 >>= _) _ _ _;refine L3 (U7 a rfl (x:=.bool false) rfl ?_);show wpAny (model prog w) A (field (.ref z) 3 >>= _) _ _ _;refine L3 (U7 a rfl (x:=.ref TI) rfl (L3 (wpAny_seqItems qI rfl ?_)));show wpAny (model prog w) A (Builtin.SmallTypes.ownedTupleIsFree (.ref z) >>= _) _ _ _;refine L3 ?_;delta Builtin.SmallTypes.ownedTupleIsFree;refine L3 (U7 a rfl (x:=.none) rfl (M7 ?_));simp only[if_true];refine L3 (wpAny_rule (L3 (U7 a rfl (x:=.ref TO) rfl (L3 (wpAny_setField_rec a (by simp) λv b d=>?_)))));replace b:IsZip v z TI TO .ellipsis:=b;refine L3 ?_;simp only[List.forIn_cons,List.forIn_nil,List.zipIdx_cons,List.zipIdx_nil];refine L3<|L3<|wpAny_onRaise ?_
 show wpAny _ _ (Builtin.SmallTypes.nextOf (.ref j1) >>= _) _ _ _;refine L3 (wpAny_nextOf_list_end p (q.extBut d.extBut D.i1z) (r.extBut d.extBut D.l1z) u λy e g B=>?_);obtain⟨F,f,h⟩:=B;have i:IsZip y z TI TO .ellipsis:=g _ _ D.i1z.symm b;have ne:e≠z:=λx=>by subst x;rw[i] at f;cases f;simp at h
 exact wpAny_setField_rec i (by simp) λG _ j=>go G e (λc o n _ H _ x=>j.extBut _ _ n (g _ _ H (d.extBut _ _ n x))) ⟨F,j.extBut _ _ ne f,h⟩
theorem jfA{C:Option Value->Shared->Prop}(D:ZipApart z TI TO j1 j2 l t)(d:IsZip s.heap z TI TO .none)(qI:IsPair s.heap TI (.ref j1) (.ref j2))(e:IsPair s.heap TO a b)
  (f:s.heap.IsListIter j1 l m) (q2:s.heap.IsTupleIter j2 t m) (g:s.heap.IsList l us) (h:s.heap.IsTuple t vs) (i:us[m]?=some u) (j:vs[m]?=some v)
  (go:∀ k,IsZip k z TI TO (rawInt s.heap.objs.size)->IsPair k TO u v->k.IsListIter j1 l (m+1)->k.IsTupleIter j2 t (m+1)->IsPair k s.heap.objs.size u v->k.objs.size=s.heap.objs.size+1 ->
   (∀ c o,c≠z->c≠TO->c≠j1->c≠j2->s.heap.get? c=some o->k.get? c=some o)->C (some (.ref s.heap.objs.size)) { s with heap:=k }):wpAny (model prog w) A (pyNext (.ref z)) C E s:=by
 have ty:s.TypeIs (.ref z) "zip":=⟨_,d,rfl⟩;unfold pyNext;exact L3 (wpAny_attempt (wpAny_callSpecial?_slot (name:=Str.ofString "__next__") ty F.slot_zip_next (wpAny_call_entry F.slot_zip_next ty F.entry_zip_next
  (jg1 D d qI e f q2 g h i j λk c1 n p q r c6 x=>M7 (go k c1 n p q r c6 x)) (F.args_zip_next_1 _))))
theorem jgk{C:Option Value->Shared->Prop}(d:A.handled=none)(D:ZipApart z TI TO j1 j2 l t)(a:IsZip s.heap z TI TO .none)(qI:IsPair s.heap TI (.ref j1) (.ref j2))
  (f:s.heap.IsListIter j1 l m) (g:s.heap.IsList l us) (h:us[m]?=none)
  (go:∀ k,(∀ c o,c≠z->c≠TO->c≠j1->c≠j2->s.heap.get? c=some o->k.get? c=some o)->C none { s with heap:=k }):wpAny (model prog w) A (pyNext (.ref z)) C E s:=by
 have ty:s.TypeIs (.ref z) "zip":=⟨_,a,rfl⟩;unfold pyNext;refine L3 (wpAny_attempt (wpAny_callSpecial?_slot (name:=Str.ofString "__next__") ty F.slot_zip_next (wpAny_call_entry F.slot_zip_next ty F.entry_zip_next (jjR d D a qI f g h λk e kp i=>?_) (F.args_zip_next_1 _))));obtain⟨o,j,n⟩:=i;exact L3 (wpAny_isInstance (T:="StopIteration") (b:=true) ⟨o,j,n⟩ isSubtype_stop (M7 (go _ kp)))
end
noncomputable abbrev zlA(h:Heap)(l:Addr):Heap:=h.push { cls:=.type "list_iterator",data:=.fields #[.ref l,.int 0 0] }
noncomputable abbrev zlB(h:Heap)(l t:Addr):Heap:=(zlA h l).push { cls:=.type "tuple_iterator",data:=.fields #[.ref t,.int 0 0] }
noncomputable abbrev zlC(h:Heap)(l t:Addr):Heap:=(zlB h l t).push { cls:=.type "tuple",data:=.seq #[.ref h.objs.size,.ref (zlA h l).objs.size] }
noncomputable abbrev zlD(h:Heap)(l t:Addr):Heap:=(zlC h l t).push { cls:=.type "tuple",data:=.seq #[.none,.none] }
noncomputable abbrev zlE(h:Heap)(l t:Addr):Heap:=(zlD h l t).push { cls:=.type "zip",data:=.fields #[.none,.bool false,.bool false,.ref (zlB h l t).objs.size,.ref (zlC h l t).objs.size] }
theorem jgA(l t:Addr)(us vs:Array Value):Meets (Builtin.«zip.__new__» ⟨[.type "zip",.ref l,.ref t],[]⟩) (λ_ R s=>s.heap.IsList l us/\s.heap.IsTuple t vs/\R (.ok (.ret (.ref (zlD s.heap l t).objs.size))) { s with heap:=zlE s.heap l t }) :=
 .of_wp λprog w A R s h=>by
  obtain⟨a,g,d,b,os⟩:=s;obtain⟨e,f,h⟩:=h;have c:=sub_zip;have i:Heap.IsList (Shared.heap ⟨a,g,d,b,os⟩) l us:=e;have j:Heap.IsTuple (Shared.heap ⟨a.push { cls:=.type "list_iterator",data:=.fields #[.ref l,.int 0 0] },g,d,b,os⟩) t vs:=Heap.IsTuple.push f _
  wp_walk using wpAny_pyIter_list i,wpAny_pyIter_tuple j
  exact⟨_,rfl,h⟩
section
variable {prog:Program}{w:World}{A:Around}{E:Value->Shared->Prop}{s:Shared}
theorem jgQ{l t:Addr}{us vs:Array Value}{C:Value->Shared->Prop}(h1:s.heap.IsList l us)(h2:s.heap.IsTuple t vs)
  (go:∀ k,IsZip k (s.heap.objs.size+4) (s.heap.objs.size+2) (s.heap.objs.size+3) .none->IsPair k (s.heap.objs.size+2) (.ref s.heap.objs.size) (.ref (s.heap.objs.size+1))->IsPair k (s.heap.objs.size+3) .none .none ->
   k.IsListIter s.heap.objs.size l 0->k.IsTupleIter (s.heap.objs.size+1) t 0->(∀ c o,s.heap.get? c=some o->k.get? c=some o)->C (.ref (s.heap.objs.size+4)) { s with heap:=k }) :
  wpAny (model prog w) A (call (.type "zip") [.ref l,.ref t]) C E s:=by
 refine callType_new F.called_zip (by decide) (F.typeCall_zip_2 _ _) (F.newCall_zip_2 _ _) (λobj=>F.args_object_init_3 obj _ _) F.entry_zip_new (jgA l t us vs) ⟨h1,h2,?_⟩;have a:(zlA s.heap l).objs.size=s.heap.objs.size+1:=Heap.size_push ..;have b:(zlB s.heap l t).objs.size=s.heap.objs.size+2:=by rw[Heap.size_push,a]
 have d:(zlC s.heap l t).objs.size=s.heap.objs.size+3:=by rw[Heap.size_push,b]
 have f:(zlD s.heap l t).objs.size=s.heap.objs.size+4:=by rw[Heap.size_push,d]
 have e:(zlE s.heap l t).get? (zlD s.heap l t).objs.size=some _:=E2 _ rfl;have g:(zlE s.heap l t).get? (zlC s.heap l t).objs.size=some _:=L8 _ (E2 _ rfl);have h:(zlE s.heap l t).get? (zlB s.heap l t).objs.size=some _:=L8 _ (L8 _ (E2 _ rfl));have i:(zlE s.heap l t).get? (zlA s.heap l).objs.size=some _:=L8 _ (L8 _ (L8 _ (E2 _ rfl)));have j:(zlE s.heap l t).get? s.heap.objs.size=some _:=L8 _ (L8 _ (L8 _ (L8 _ (E2 _ rfl))));show _/\_;rw[b,d,f] at e;rw[a,b] at h;rw[d] at g;rw[a] at i;rw[f];exact⟨⟨_,e,rfl⟩,go _ e h g ⟨_,j,rfl,rfl⟩ ⟨_,i,rfl,rfl⟩ λc o x=>L8 _ (L8 _ (L8 _ (L8 _ (L8 _ x))))⟩
end
end L2
namespace QD
open PySem L2 PySem.Spec PyProof.Rows
end QD
namespace L2
open PySem PySem.Spec PyProof.Rows
end L2
namespace QD
open PySem L2 PySem.Spec PyProof.Rows
noncomputable def spM(R:RC)(m:List D->Option (D×D))(n j:Nat):Sp:=λvs H Q _=>∃ Z ds d c O u,WF Z H O/\ds.length=n/\Reps R Z H ds vs O/\vs[j]?=some u/\m ds=some (d,c) /\
 ∀{v:V}{Z':Zn}{H':Hp}{P O':List Addr},Go Z H O Z' H' (P++O')->Rep R Z' H' d v P->Rep R Z' H' c u O'->Q v H'
noncomputable def jfV(j:Nat):Out->Option (D×D)
 | .rt d ρ=>match ρ[j]? with
  | some (some c)=>some (d,c)
  | _=>none
 | .nx ρ=>match ρ[j]? with
  | some (some c)=>some (.non,c)
  | _=>none
 | _=>none
noncomputable def fnM(n j:Nat)(f:FS):List D->Option (D×D):=λds=>(f (ds.map some++List.replicate (n - ds.length) none)).bind (jfV j)
theorem jeq:fnM n j f ds=(f (ds.map some++List.replicate (n - ds.length) none)).bind (jfV j):=rfl
theorem Go.pick(g:Go Z H O Z' H' (P++(A++Q++B))):Go Z H O Z' H' (P++Q):=g.drop (λa h=>by simp at h ⊢;rcases h with h | h<;>simp[h]) (by
 have nd:=g.wf.nd;simp only[X1,N3] at nd ⊢;exact⟨nd.1,nd.2.1.1.2.1,λa c b d=>nd.2.2 a c b (.inl (.inr d))⟩)
theorem jiK(D:DS R [j] ts f)(h:spM R (fnM N.length j f) n j vs H Q E):ts { nx:=λ_ H'=>Q .non H',rt:=Q } (L2.start N vs) H:=by
 obtain⟨Z,i,d,c,O,u,w,M,r,F,e,k⟩:=h;rw[jeq] at e;have s:Slots R Z H (i.map some++List.replicate (N.length - i.length) none) (L2.start N vs) O:=by
  have q:=K5 r (K3 (R:=R) (Z:=Z) (H:=H) (N.length - i.length));unfold L2.start;rw[r.length];rw[N0] at q;exact q
 have x:(L2.start N vs)[j]?=some (some u):=by
  unfold L2.start;have G:j < vs.length:=(L9.mp F).1;rw[List.getElem?_append_left (by simpa using G),List.getElem?_map,F];rfl
 have l:∀{b:Rh}{p:L2.St}{t:Zn}{H':Hp}{P y:List Addr}{v:V},b[j]?=some (some c)->Go Z H O t H' (P++y)->Rep R t H' d v P->Slots R t H' b p y->Keep [j] (L2.start N vs) p->Q v H':=by
  intro b p t H' P y v a g z m kp;obtain⟨A,S,B,rfl,I,_,_⟩:=m.put (L9.mp a).1;obtain⟨T,J,K⟩:=I c a;have:p[j]?=some (some u):=by rw[kp j (by simp),x]
  rw[J] at this;cases this;exact k g.pick z K
 cases e1:f (i.map some++List.replicate (N.length - i.length) none) with
 | none=>rw[e1] at e;cases e
 | some o =>
  rw[e1,L4] at e;cases o with
  | rt U b =>
   unfold jfV at e;dsimp only at e;cases a:b[j]? with
   | none=>rw[a] at e;cases e
   | some C =>
    cases C with
    | none=>rw[a] at e;cases e
    | some L =>
     rw[a] at e;cases e;exact D w s e1 λg z m kp=>l a g z m kp
  | nx b =>
   unfold jfV at e;dsimp only at e;cases a:b[j]? with
   | none=>rw[a] at e;cases e
   | some C =>
    cases C with
    | none=>rw[a] at e;cases e
    | some L =>
     rw[a] at e;cases e;exact D w s e1 λg m kp=>l (P:=[]) a (by simpa using g) .non_mk m kp
  | bk b=>cases e
  | ct b=>cases e
theorem jjQ(h:spM R m n j vs H Q E):vs.length=n:=by
 obtain⟨Z,b,d,c,O,u,w,a,r,_⟩:=h;rw[r.length,a]
def PJ(R:RC)(i j:Nat)(ta:TA)(p:PAf):Prop:=∀{σ:L2.St}{ρ:Rh}{Z:Zn}{H:Hp}{O:List Addr}{ds:List D},Zd Z H->Slots R Z H ρ σ O->p ρ=some ds->∀{u:V},σ[i]?=some (some u) ->
 ∀{Q:List V->Hp->Prop},(∀{v1 v2:List V}{Z':Zn}{H':Hp},Go Z H [] Z' H' []->v1.length=j->Reps R Z' H' (ds.take j) v1 []->Reps R Z' H' (ds.drop j) v2 []->Q (v1++u::v2) H')->ta σ H Q
theorem Go.turn(g:Go Z H O Z' H' (A++(P++Q)++B)):Go Z H O Z' H' (P++(A++Q++B)):=g.drop (λa h=>by simp at h ⊢;rcases h with h | h | h | h<;>simp[h]) (by
 have nd:=g.wf.nd;simp only[X1,N3] at nd ⊢;obtain⟨⟨j,⟨k,l,m⟩,f⟩,n,i⟩:=nd;refine⟨k,⟨⟨j,l,λa d b c=>f a d b (.inr c)⟩,n,λa d b c=>i a (d.elim .inl λq=>.inr (.inr q)) b c⟩,λa d b c e=>?_⟩;rcases c with(c | c) | c
 ·exact f b c a (.inl d) e.symm
 ·exact m a d b c e
 ·exact i a (.inr (.inl d)) b c e)
structure QJ(cl:Nat->Addr)(X:Cx)(i j:Nat)(es:List Expr)(ta:TA)(p:PAf):Prop where
 sem:PA X es ta
 den:PJ ⟨X.K,cl⟩ i j ta p
 n:∀ ρ ds,p ρ=some ds->ds.length+1=es.length/\j<=ds.length
theorem jhA{cl:Nat->Addr}{P:Program}{w:World}{K:PySem.W.Frag}{mg:Str->Option Value}{base:Heap}{x qual:Str}{fst:Stmt}{fa:Addr}{fd:FuncData}{N ps:List Str}{k n j:Nat}{fs:FS}(F:Fun K x qual fst fa fd)(b:FnScope N ps (jo fst))(hn:ps.length=n)
  (a:∀(cdv:Value) (A:Around) (outer:List Env) (s:Shared) (H:Hp) (E:XK),Room k (A.deeper (envOfC qual (jo fst) s.heap.objs.size fa cdv)) ->
   ∃ ts,QSs cl [j] (jhl CX0 P w K mg base N qual (jo fst) fa cdv A outer s H E).nox (qp fst) ts fs):FnOk P w K mg base CX0 (k+1) fa fd ps (spM ⟨K,cl⟩ (fnM N.length j fs) n j):=by
 refine F.ok b (λc H Q E h=>by rw[jjQ h,hn]) λcdv A outer s H c Q E d h=>?_;obtain⟨ts,q⟩:=a cdv A outer s H E d;exact⟨ts,q.sem,jiK q.den h⟩
theorem BO.o(h:BO R r g):DO R r g:=λw a b e _ k=>h w.zd a b e λc d=>k (c.widen w).dropR d
noncomputable def oF(g:D->D->Option D):D->D->Option D:=λx y=>(g x y).bind λd=>bif frz d then some d else none
theorem BC.o(h:BC R r g):DC R r g:=λw a e _ k=>h w.zd a e λb c=>k (b.widen w).dropR c
def DIt(R:RC)(wi:TI)(fi:FA):Prop:=∀{σ:L2.St}{ρ ρ':Rh}{Z:Zn}{H:Hp}{O:List Addr}{xs:List D},WF Z H O->Slots R Z H ρ σ O->fi ρ=some (xs,ρ') ->
 ∀{Q:It->Hp->Prop},(∀{J:It}{Z':Zn}{H':Hp}{O':List Addr},Go Z H O Z' H' O'->Slots R Z' H' ρ' σ O'->jh3 R J Z' H' xs->Q J H')->wi σ H Q
structure QTE(cl:Nat->Addr)(X:Cx)(e:Expr)(tt:TT)(f:FT'):Prop where
 sem:PT X e tt
 den:DT ⟨X.K,cl⟩ tt f
structure QWE(cl:Nat->Addr)(X:Cx)(e:Expr)(tt:TT)(f:FT'):Prop where
 sem:PW X e tt
 den:DT ⟨X.K,cl⟩ tt f
theorem jlT{cl:Nat->Addr}{X:Cx}{a b:Expr}{ta tb:TE}{fa fb:FE}{pos:Pos}{K:PySem.W.Frag}(e:X.K=K)(c:QE cl X a ta fa)(d:QE cl X b tb fb):QE cl X (.BinOp a .Add b pos) (tOp (jes K) ta tb) (dOp jG fa fb):=by subst e;exact⟨jbd jeM c.sem d.sem,jmX (BO.o jg8) c.den d.den⟩
theorem jgv{cl:Nat->Addr}{X:Cx}{e:Expr}{es:List Expr}{tr:TA}{fr:FA}{pos:Pos}{x:Str}{p:Pos}{id:String}{r:List V->Hp->VK->Prop}{c:List D->Option D}(f:Vy X (.builtin id) r)(g:BC ⟨X.K,cl⟩ r c)(h:X.mg x=none)(i:bootBuiltins x=some (.builtin id))(d:QDs cl X (e::es) tr fr)(j:Gl X x:=by rfl)
  (hn:x≠"__name__":=by decide) (a:(x==("__debug__" : Str))=false:=by decide) (k:starEach (e::es) X.env=(false,eval e X.env)::starEach es X.env:=by rfl) (b:(backTo pos (starEach es X.env)).any (·.1)=false:=by rfl) :
  QE cl X (.Call (.Name x p) (e::es) [] pos) (tCB r tr) (dCB c fr):=⟨wH f j h i d.sem hn a k b,jiR (BC.o g) d.den⟩
structure QIE(cl:Nat->Addr)(X:Cx)(tg e:Expr)(wi:TI)(p:FA):Prop where
 sem:PI X tg e wi
 den:DIt ⟨X.K,cl⟩ wi p
theorem jbN:∀(ρ:Rh) (ds:List D),pN ρ=some ds->ds.length=0:=λρ ds h=>by cases h;rfl
theorem Kl(h:∀(ρ:Rh) (ds:List D),pr ρ=some ds->ds.length=n):∀(ρ:Rh) (ds:List D),jc p pr ρ=some ds->ds.length=n+1:=λρ ds e=>by
 rw[jjh] at e;cases e1:p ρ with
 | none=>rw[e1] at e;cases e
 | some d =>
  rw[e1,L4] at e;cases e2:pr ρ with
  | none=>rw[e2] at e;cases e
  | some l =>
   rw[e2,L4] at e;cases e;rw[M3,h ρ l e2]
end QD
namespace L2
open PySem PySem.Spec PyProof.Rows
theorem jmQ(l:Addr)(items:Array Value)(n:Nat)(b:Addr)(a:Array Value)(e:Nat)(dd:Option Addr)(sl:Array (Option Value))(h0:¬(!items.isEmpty&&Builtin.List.listTooLong (items.size+a.size))=true)(h1:items.size<=sizeLine)(h2:items.size+a.size<=sizeLine+1) :
  Meets (Builtin.«list.extend» ⟨[.ref l,.ref b],[]⟩) (λ_ R s=>s.heap.get? l=some { cls:=.type "list",dict:=none,data:=.seq items n,slots:=#[] }/\s.heap.get? b=some { cls:=.type "list",dict:=dd,data:=.seq a e,slots:=sl }/\R (.ok (.ret Value.none)) { s with heap:=s.heap.update l (Obj.mapSeq λx=>x++a) }) :=
 .of_wp λprog w A R s h=>by
  rcases s with⟨g,i,j,k,os⟩;obtain⟨c,f,q⟩:=h;have m:=AutoSeq1.idx_int;have o:=AutoSeq1.sub_tuple_tuple;have p:=AutoSeq1.sub_list_list;have r:=AutoSeq1.sub_tuple_list;have t:=AutoSeq1.sub_list_tuple;have d:(items++a).size<=sizeLine+1:=by rw[Array.size_append];exact h2
  wp_walk using(wpAny_updateSeq c rfl (hz:=h1) (_hz':=d)),wpAny_loadPart' c,wpAny_loadPart' f
  exact⟨_,rfl,q⟩
theorem jnb(l:Addr)(items:Array Value)(n:Nat)(b:Addr)(a:Array Value)(e:Nat)(dd:Option Addr)(sl:Array (Option Value))(h0:¬(!items.isEmpty&&Builtin.List.listTooLong (items.size+a.size))=true)(h1:items.size<=sizeLine)(h2:items.size+a.size<=sizeLine+1) :
  Meets (Builtin.«list.extend» ⟨[.ref l,.ref b],[]⟩) (λ_ R s=>s.heap.get? l=some { cls:=.type "list",dict:=none,data:=.seq items n,slots:=#[] }/\s.heap.get? b=some { cls:=.type "tuple",dict:=dd,data:=.seq a e,slots:=sl }/\R (.ok (.ret Value.none)) { s with heap:=s.heap.update l (Obj.mapSeq λx=>x++a) }) :=
 .of_wp λprog w A R s h=>by
  rcases s with⟨g,i,j,k,os⟩;obtain⟨c,f,q⟩:=h;have m:=AutoSeq1.idx_int;have o:=AutoSeq1.sub_tuple_tuple;have p:=AutoSeq1.sub_list_list;have r:=AutoSeq1.sub_tuple_list;have t:=AutoSeq1.sub_list_tuple;have d:(items++a).size<=sizeLine+1:=by rw[Array.size_append];exact h2
  wp_walk using(wpAny_updateSeq c rfl (hz:=h1) (_hz':=d)),wpAny_loadPart' c,wpAny_loadPart' f
  exact⟨_,rfl,q⟩
def ji9(K:PySem.W.Frag):V->List V->Hp->VK->Prop:=λx vs H Q=>∃ l b xs zs,x=.ref l/\vs=[.ref b]/\H l=some (.lst xs)/\(SqL K H b zs \/ SqT K H b zs)/\xs.length+zs.length<=sizeLine/\Q .non (upd H l (.lst (xs++zs)))
theorem jia:MtM X "list.extend" (ji9 X.K):=by
 intro w s σ H x D v E Q I A B h;obtain⟨l,b,G,J,rfl,rfl,m,g,y,q⟩:=h;cases A;obtain⟨u,rfl,C⟩:=B.one;cases C;obtain⟨z,c,n,r,L,e⟩:=I.lstM m;rcases g with g | g
 ·obtain⟨a,i,p2,_⟩:=I.list g;obtain⟨⟨cls,dd,data,sl⟩,k,o,j,hd,p⟩:=p2;simp only at j hd p
  first | subst j | skip
  have f:c.toArray.size+a.toArray.size<=sizeLine:=by rw[N4,N4,<- r.length,<- i.length];exact y
  have d:¬ (!c.toArray.isEmpty&&Builtin.List.listTooLong (c.toArray.size+a.toArray.size))=true:=by
   rw[jca f,Bool.and_false];exact M4
  have t:s.heap.get? b=some { cls:=.type "list",dict:=dd,data:=.seq a.toArray k,slots:=sl }:=by
   rw[o];simp_all
  refine call_meets PySem.F.slot_list_extend ⟨_,e,rfl⟩ PySem.F.entry_list_extend (PySem.F.args_list_extend_2 _ _) (jmQ l c.toArray n b a.toArray k dd sl d (by omega) (by omega)) ⟨e,t,?_⟩;refine⟨.non,_,I.lset (its':=c++a) m e (by simp) (r.append i) ?_,rfl,q⟩;rw[N5];omega
 ·obtain⟨a,i,p2,_⟩:=I.tuple g;obtain⟨⟨cls,dd,data,sl⟩,o,j,k,hd⟩:=p2;simp only at j hd;subst j hd;have f:c.toArray.size+a.toArray.size<=sizeLine:=by rw[N4,N4,<- r.length,<- i.length];exact y
  have d:¬ (!c.toArray.isEmpty&&Builtin.List.listTooLong (c.toArray.size+a.toArray.size))=true:=by
   rw[jca f,Bool.and_false];exact M4
  refine call_meets PySem.F.slot_list_extend ⟨_,e,rfl⟩ PySem.F.entry_list_extend (PySem.F.args_list_extend_2 _ _) (jnb l c.toArray n b a.toArray k dd sl d (by omega) (by omega)) ⟨e,o,?_⟩;refine⟨.non,_,I.lset (its':=c++a) m e (by simp) (r.append i) ?_,rfl,q⟩;rw[N5];omega
end L2
namespace QD
open PySem L2 PySem.Spec PyProof.Rows
noncomputable def jeT:D->Option (List D)
 | .lst _ m=>bif frzs m then some m else none
 | .tup m=>bif frzs m then some m else none
 | _=>none
noncomputable def jiD(i:Nat)(p:PF):FS:=λρ=>(p ρ).bind λe=>(jeT e).bind λm=>match ρ[i]? with
 | some (some (.lst true l))=>bif lim (l.length+m.length) then some (.nx (ρ.set i (some (.lst true (l++m))))) else none
 | _=>none
theorem jlD(h:PB R te p):DS R pm (zu (tBM R.K "list" (ji9 R.K) (JP i) (Y3 te jav))) (jiD i p):=by
 intro σ ρ Z H O o w s e D' k;unfold jiD at e;cases e1:p ρ with
 | none=>rw[e1] at e;cases e
 | some d =>
  rw[e1,L4] at e;cases e2:jeT d with
  | none=>rw[e2] at e;cases e
  | some m =>
   rw[e2,L4] at e;split at e
   ·rename_i l T;cases hlim:lim (l.length+m.length) with
    | false=>rw[hlim] at e;cases e
    | true =>
     rw[hlim] at e;cases e;obtain⟨A,P,B,rfl,k1,k2,_⟩:=s.put (L9.mp T).1;obtain⟨v,U,r⟩:=k1 _ T;rw[Rep] at r;obtain⟨a,j,y,rfl,V,E,rfl⟩:=r;refine⟨.ref a,U,.inl ⟨rfl,j,SqL.of E⟩,?_⟩;refine h w.zd s e1 λ{u x g P1} q F=>?_;have W:Go Z H (A++a::y++B) x g (A++a::y++B):=by simpa using q.widen w
     have G:=W.wf;have I:g a=some (.lst j):=by rw[q.same a (by rw[E];exact λz=>(nomatch z))];exact E
     have J:=q.reps w.zd V
     -- the things put behind
     have hm:∃ b f,u=.ref b/\(SqL R.K g b f \/ SqT R.K g b f)/\Reps R x g m f []:=by
      cases d with
      | lst o' L =>
       simp only[jeT] at e2;cases hf:frzs L with
       | false=>rw[hf] at e2;cases e2
       | true =>
        rw[hf] at e2;cases e2;rw[Rep] at F;obtain⟨b,f,O'',rfl,C,D⟩:=F;cases o' with
        | true=>exact⟨b,f,rfl,.inl (SqL.of D.1),C.frozen hf⟩
        | false=>exact⟨b,f,rfl,.inl (FL.sq D.1),C.frozen hf⟩
      | tup L =>
       simp only[jeT] at e2;cases hf:frzs L with
       | false=>rw[hf] at e2;cases e2
       | true =>
        rw[hf] at e2;cases e2;obtain⟨b,f,rfl,D,C⟩:=F.tup_of;exact⟨b,f,rfl,.inr D,C.frozen hf⟩
      | _=>cases e2
     obtain⟨b,f,rfl,hb,X⟩:=hm;refine⟨a,b,j,f,rfl,rfl,I,hb,by rw[V.length,X.length];exact KR hlim,?_⟩;have nd:=G.nd;simp only[X1,N3,List.nodup_cons,M5] at nd;obtain⟨⟨nA,⟨na,nO⟩,M⟩,nB,N⟩:=nd;have t:∀ c,x c->upd g a (.lst (j++f)) c=g c:=λc z=>jm λe=>G.nz a (by simp) (e▸z);have Q:Reps R x (upd g a (.lst (j++f))) l j y:=J.frame (λ_ z=>z) t λc n=>jm λe=>na (e▸n);have S:Reps R x (upd g a (.lst (j++f))) m f []:=X.frame (λ_ z=>z) t λc n=>(nomatch n);have r2:Rep R x (upd g a (.lst (j++f))) (.lst true (l++m)) (.ref a) (a::y):=by
      rw[Rep];refine⟨a,j++f,y,rfl,?_,jy,rfl⟩;have:=Q.append S;simpa using this
     have sA:∀ c,c∈A->upd g a (.lst (j++f)) c=H c:=λc n=>by
      rw[jm λe=>M c n a (.inl rfl) e];exact q.same c (w.od c (by simp[n]))
     have sB:∀ c,c∈B->upd g a (.lst (j++f)) c=H c:=λc n=>by
      rw[jm λe=>N a (.inr (.inl rfl)) c n e.symm];exact q.same c (w.od c (by simp[n]))
     have Y:=k2 r2 q.zz (λc z=>by rw[t c (q.zz c z)];exact q.same c (w.zd c z)) sA sB;rw[yS U] at Y;exact k (W.trans (Go.put G (by simp))) Y (Keep.refl _ _)
   ·cases e
theorem jg5(j:QB cl X (.Name x xpos) (JP i) (pV i))(h:QB cl X e te pe)(b:attributeBase (.Name x xpos) "extend" X.env (eval (.Name x xpos) X.env)=eval (.Name x xpos) X.env:=by rfl)
  (d:((backTo cpos (starEach [e] X.env)).all (λx=>!x.1)&&(backToKw cpos (keywordEach [] X.env)).all (λx=>x.1.isSome)
   && decide ([e].length+([]:List Keyword).length+(if([]:List Keyword).isEmpty then 0 else 1) < 30))=true:=by rfl)
  (c:(apos.endLine==cpos.line)=true:=by rfl) (g:starEach [e] X.env=(false,eval e X.env)::starEach [] X.env:=by rfl) (a:(backTo cpos (starEach [] X.env)).any (·.1)=false:=by rfl)
  (f:swapsWith (.Call (.Attribute (.Name x xpos) "extend" apos) [e] [] cpos) none pos.line X.env=pure false:=by rfl) :
  QS cl pm X (.Expr (.Call (.Attribute (.Name x xpos) "extend" apos) [e] [] cpos) pos) (zu (tBM X.K "list" (ji9 X.K) (JP i) (Y3 te jav))) (jiD i pe) :=
 ⟨xo (jga PySem.F.plainAttrs_list PySem.F.slot_list_extend PySem.F.type_list_extend jia j.sem (Y9 h.sem zE g) b d c g a) f,jlD h.den⟩
end QD
namespace QD
open PySem L2
theorem jg(h:n<=100000):lim n=true:=X4 h
theorem ja4(h0:0<=i)(h:i < l.length):atI l i=l[i.toNat]?:=by
 unfold atI ixN;rw[if_pos (by omega),if_pos (by omega)];rfl
theorem Yg(h:(YG lo n)[i]?=some x):x=.int (lo+i)/\i < n:=by
 unfold YG at h;rw[List.getElem?_map] at h;by_cases a:i < n
 ·rw[List.getElem?_range a] at h;cases h;exact⟨rfl,a⟩
 ·rw[List.getElem?_eq_none (by simpa using a)] at h;cases h
theorem v9(lo:Int)(n:Nat):(YG lo n).length=n:=by simp[YG]
@[simp] theorem jnl(a b:List Nat):Jd (.str a) (.str b)=some (.bl (a==b)):=rfl
@[simp] theorem ne_ss(a b:List Nat):jjZ (.str a) (.str b)=some (.bl (!(a==b))):=rfl
@[simp] theorem in_cs(neg:Bool)(c:Nat)(s:List Nat):QM neg (.str [c]) (.str s)=some (.bl (neg != decide (c∈s))):=rfl
@[simp] theorem neg_i(i:Int):jcQ (.int i)=some (.int (-i)):=rfl
theorem uy(h:a.length+b.length<=100000):jG (.str a) (.str b)=some (.str (a++b)):=by
 show(bif lim (a.length+b.length) then some (D.str (a++b)) else none)=_;rw[jg h];rfl
theorem jnA(a:s.length<=100000)(h0:0<=i)(h:i < s.length):jq (.str s) (.int i)=some (.str [s.getD i.toNat 0]):=by
 show(bif lim s.length then(match atI s i with | some c=>some (D.str [c]) | none=>none) else none)=_;rw[jg a,ja4 h0 h];have:i.toNat < s.length:=by omega
 simp[this]
theorem wo(xs:List α)  (h:0<=k):vy xs none (some k)=xs.take k.toNat:=by
 obtain⟨n,rfl⟩:∃ n:Nat,k=(n:Int):=⟨k.toNat,by omega⟩;rw[jiO];simp
theorem jkK(a:s.length<=100000):jft lo hi (.str s)=some (.str (vy s lo hi)):=by
 show(bif lim s.length then some (D.str (vy s lo hi)) else none)=_;rw[jg a];rfl
@[simp] theorem itemsOf_str(s:List Nat):zX (.str s)=some (s.map λc=>D.str [c]):=rfl
@[simp] theorem fTuple_lst(o:Bool)(l:List D):YV [.lst o l]=bif frzs l then some (.tup l) else none:=rfl
theorem zN(w:List Nat)(l:List (List Nat)):jcW (.str w) (l.map D.str)=true:=by
 unfold jcW;rw[M0];refine⟨rfl,List.all_eq_true.mpr λy a=>?_⟩;obtain⟨z,_,rfl⟩:=M6.mp a;rfl
theorem wW(w:List Nat)(l:List (List Nat)):inL (.str w) (l.map D.str)=decide (w∈l):=by
 unfold inL;rw[Bool.eq_iff_iff,List.any_eq_true,decide_eq_true_eq];constructor
 ·rintro⟨y,a,e⟩;obtain⟨z,b,rfl⟩:=M6.mp a;have:z=w:=by
   have e:(z==w)=true:=e;exact eq_of_beq e
  exact this▸b
 ·intro h;exact⟨.str w,M6.mpr ⟨w,h,rfl⟩,by show(w==w)=true;simp⟩
theorem jdu(neg o:Bool)(w:List Nat)(l:List (List Nat)):QM neg (.str w) (.lst o (l.map D.str))=some (.bl (neg != decide (w∈l))):=by
 show(bif jcW (.str w) (l.map D.str) then some (D.bl (neg != inL (.str w) (l.map D.str))) else none)=_;rw[zN,wW];rfl
mutual
theorem jgr:∀(n:Nat) (d:D),okE n d=true->eqD d d=true
 | n,.non,_=>rfl
 | n,.bl _,_=>by show(_==_)=true;simp
 | n,.int _,_=>by show(_==_)=true;simp
 | n,.str _,_=>by show(_==_)=true;simp
 | n+1,.tup l,h=>by rw[eqD];exact xq n l (by simpa [okE] using h)
 | n+1,.lst _ l,h=>by rw[eqD];exact xq n l (by simpa [okE] using h)
 | 0,.tup l,h=>by simp[okE] at h
 | 0,.lst _ l,h=>by simp[okE] at h
 | n,.dK _ _ _,h=>by cases n<;>simp[okE] at h
 | n,.dT _ _ _,h=>by cases n<;>simp[okE] at h
 | n,.ins _ _ _ _,h=>by cases n<;>simp[okE] at h
 | n,.dead,h=>by cases n<;>simp[okE] at h
theorem xq:∀(n:Nat) (l:List D),jaw n l=true->jcI l l=true
 | n,[],_=>rfl
 | n,d::l,h=>by
  rw[jaw,M0] at h;rw[jcI,jgr n d h.1,xq n l h.2];rfl
end
theorem kP:∀{l:List D},(∀ d∈l,frz d=true)->frzs l=true
 | [],_=>rfl
 | d::l,h=>by rw[KG,h d (by simp),kP λx a=>h x (by simp[a])];rfl
@[simp] theorem okE_int(n:Nat)(i:Int):okE n (.int i)=true:=by cases n<;>rfl
theorem KM{G:D->Rh->Option Rh}{Good:D->Prop}{P:Rh->Prop}:∀{xs:List D}(_:∀ x∈xs,∀ ρ,P ρ->∃ ρ1 y,G x ρ=some ρ1/\p ρ1=some y/\Good y/\P ρ1) {ρ:Rh}(_:P ρ),∃ ys,jJ G qT p xs ρ=some ys/\ys.length=xs.length/\∀ y∈ys,Good y
 | [],_,ρ,_=>⟨[],rfl,rfl,by simp⟩
 | x::xs,step,ρ,b=>by
  obtain⟨ρ1,y,c,d,e,p1⟩:=step x (by simp) ρ b;obtain⟨ys,f,g,h⟩:=KM (xs:=xs) (λz a=>step z (by simp[a])) p1;refine⟨y::ys,?_,by simp[g],?_⟩
  ·rw[jL,c];simp[d,f]
  ·intro z a;rcases M5.mp a with rfl | a
   ·exact e
   ·exact h z a
theorem Kp{f:α->D}{Q:α->Prop}:∀{ys:List D},(∀ y∈ys,∃ a,y=f a/\Q a)->∃ l:List α,ys=l.map f/\∀ a∈l,Q a
 | [],_=>⟨[],rfl,by simp⟩
 | y::ys,h=>by
  obtain⟨a,e,q⟩:=h y (by simp);obtain⟨l,c,d⟩:=Kp (ys:=ys) λz g=>h z (by simp[g]);exact⟨a::l,by rw[e,c];rfl,λb i=>(M5.mp i).elim (λz=>z▸q) (d b)⟩
theorem jm8(a:frzs l=true):jft lo hi (.lst o l)=some (.lst true (vy l lo hi)):=by
 show(bif frzs l then some (D.lst true (vy l lo hi)) else none)=_;rw[a];rfl
theorem jhx(h0:0<=i)(h:i < l.length):jq (.lst o l) (.int i)=l[i.toNat]?:=ja4 h0 h
theorem jbU(h0:0<=i)(h:i < l.length):jq (.tup l) (.int i)=l[i.toNat]?:=ja4 h0 h
@[simp] theorem yY(l:List (List Nat)):fzs (l.map D.str)=l.map D.str:=by
 rw[JJ,U2];rfl
@[simp] theorem jB(l:List (List Nat)):frzs (l.map D.str)=true:=by
 rw[Vw,List.all_map,List.all_eq_true];intro x _;rfl
@[simp] theorem cleans_strs(l:List (List Nat)):yg (l.map D.str)=true:=by
 rw[vU,List.all_map,List.all_eq_true];intro x _;rfl
theorem qo{l:List (List Nat)}{i:Int}(h0:0<=i)(h:i < l.length):jq (.lst o (l.map D.str)) (.int i)=some (.str (l.getD i.toNat [])):=by
 rw[jhx h0 (by rw[L1];exact h),List.getElem?_map,List.getD_eq_getElem?_getD,X9 (by omega)];rfl
theorem Jv{l:List α}{i:Nat}(h:i < l.length):l.getD i d∈l:=by
 rw[List.getD_eq_getElem?_getD,X9 h];exact List.getElem_mem h
theorem wB(f:α->β)(l:List α)(lo hi:Option Int):vy (l.map f) lo hi=(vy l lo hi).map f:=by
 unfold vy;rw[L1,List.map_take,List.map_drop]
theorem zk(o:Bool)(l:List (List Nat))(lo hi:Option Int):jft lo hi (.lst o (l.map D.str))=some (.lst true ((vy l lo hi).map D.str)):=by
 rw[jm8 (jB l),wB]
theorem xi(St:List α->Rh->Prop)(Ok:α->Prop)(b M:Nat):∀{xs:List D}{acc:List α}{ρ:Rh},
  (∀ x∈xs,∀(acc:List α) (ρ:Rh),acc.length<=M->(∀ a∈acc,Ok a)->St acc ρ->∃(ρ1 ρ2:Rh) (L:List α),G x ρ=some ρ1/\f ρ1=some (.nx ρ2)/\L.length<=b/\(∀ a∈L,Ok a)/\St (acc++L) ρ2) ->
  acc.length+b*xs.length<=M->(∀ a∈acc,Ok a)->St acc ρ->∃(ρ':Rh) (T:List α),vW G f xs ρ=some (.nx ρ')/\St (acc++T) ρ'/\T.length<=b*xs.length/\∀ a∈T,Ok a
 | [],acc,ρ,step,g,c,d=>⟨ρ,[],rfl,by rw[N0];exact d,by simp,by simp⟩
 | x::xs,acc,ρ,step,g,c,d=>by
  rw[M3,Nat.mul_succ] at g;obtain⟨ρ1,ρ2,L,i,j,o,h,k⟩:=step x (by simp) acc ρ (by omega) c d;obtain⟨ρ',T,l,m,p,e⟩:=xi St Ok b M (xs:=xs) (acc:=acc++L) (ρ:=ρ2) (λy n=>step y (by simp[n])) (by rw[N5];omega) (λa q=>(N3.mp q).elim (c a) (h a)) k;refine⟨ρ',L++T,?_,by rw[<- List.append_assoc];exact m,by rw[N5,M3,Nat.mul_succ];omega,λa q=>(N3.mp q).elim (h a) (e a)⟩;rw[yy,i,L4,j,L4,kK,l]
mutual
theorem jk0:∀(n:Nat) (d:D),okE n d=true->eqD (fz d) d=true
 | n,.non,_=>rfl
 | n,.bl _,_=>by show(_==_)=true;simp
 | n,.int _,_=>by show(_==_)=true;simp
 | n,.str _,_=>by show(_==_)=true;simp
 | n+1,.tup l,h=>by rw[fz,eqD];exact jaC n l (by simpa [okE] using h)
 | n+1,.lst _ l,h=>by rw[fz,eqD];exact jaC n l (by simpa [okE] using h)
 | 0,.tup l,h=>by simp[okE] at h
 | 0,.lst _ l,h=>by simp[okE] at h
 | n,.dK _ _ _,h=>by cases n<;>simp[okE] at h
 | n,.dT _ _ _,h=>by cases n<;>simp[okE] at h
 | n,.ins _ _ _ _,h=>by cases n<;>simp[okE] at h
 | n,.dead,h=>by cases n<;>simp[okE] at h
theorem jaC:∀(n:Nat) (l:List D),jaw n l=true->jcI (fzs l) l=true
 | n,[],_=>rfl
 | n,d::l,h=>by
  rw[jaw,M0] at h;rw[fzs,jcI,jk0 n d h.1,jaC n l h.2];rfl
end
mutual
theorem jlG:∀(n:Nat) (d e:D),okE n d=true->fz d=fz e->eqD d e=true
 | n,.non,e,_,h=>by cases e<;>simp[fz] at h;rfl
 | n,.bl _,e,_,h=>by cases e<;>simp[fz] at h;subst h;show(_==_)=true;simp
 | n,.int _,e,_,h=>by cases e<;>simp[fz] at h;subst h;show(_==_)=true;simp
 | n,.str _,e,_,h=>by cases e<;>simp[fz] at h;subst h;show(_==_)=true;simp
 | n+1,.tup l,e,h,q=>by
  cases e<;>simp[fz] at q;rw[eqD];exact jbA n l _ (by simpa [okE] using h) q
 | n+1,.lst _ l,e,h,q=>by
  cases e<;>simp[fz] at q;rw[eqD];exact jbA n l _ (by simpa [okE] using h) q
 | 0,.tup l,e,h,_=>by simp[okE] at h
 | 0,.lst _ l,e,h,_=>by simp[okE] at h
 | n,.dK _ _ _,e,h,_=>by cases n<;>simp[okE] at h
 | n,.dT _ _ _,e,h,_=>by cases n<;>simp[okE] at h
 | n,.ins _ _ _ _,e,h,_=>by cases n<;>simp[okE] at h
 | n,.dead,e,h,_=>by cases n<;>simp[okE] at h
theorem jbA:∀(n:Nat) (l m:List D),jaw n l=true->fzs l=fzs m->jcI l m=true
 | n,[],[],_,_=>rfl
 | n,[],_::_,_,q=>by simp[fzs] at q
 | n,_::_,[],_,q=>by simp[fzs] at q
 | n,d::l,e::m,h,q=>by
  rw[jaw,M0] at h;rw[fzs,fzs] at q;injection q with q1 q2;rw[jcI,jlG n d e h.1 q1,jbA n l m h.2 q2];rfl
end
theorem zy:∀ l:List (List Nat×D),JW (l.map λp=>.tup [.str p.1,p.2])=some (l.map λp=>(KA.str p.1,p.2))
 | []=>rfl
 | p::l=>by
  rw[L5,JW,zy l];rfl
theorem VQ:∀(ps:List (KA×D)) (ks:List KA) (vs:List D),(ks++ps.map (·.1)).Nodup->ps.foldl (λacc kv=>qD acc.1 acc.2 kv.1 kv.2) (ks,vs)=(ks++ps.map (·.1),vs++ps.map (·.2))
 | [],ks,vs,_=>by simp
 | p::ps,ks,vs,h=>by
  have a:p.1∉ks:=by
   rw[L5] at h;intro z;exact(X1.mp h).2.2 p.1 z p.1 (by simp) rfl
  rw[X2];have b:qD ks vs p.1 p.2=(ks++[p.1],vs++[p.2]):=by unfold qD;rw[if_neg a]
  show ps.foldl _ (qD ks vs p.1 p.2)=_;rw[b,VQ ps (ks++[p.1]) (vs++[p.2]) (by simpa using h)];simp
theorem xJ{l:List (List Nat×D)}(hn:(l.map (·.1)).Nodup)(g:∀ p∈l,frz p.2=true)(i:l.length<=100000):xB [.lst o (l.map λp=>.tup [.str p.1,p.2])]=some (.dK true (l.map λp=>KA.str p.1) (l.map (·.2))):=by
 have j:((l.map λp=>(KA.str p.1,p.2)).map (·.1)).Nodup:=by
  rw[U2];have:((λx:KA×D=>x.1) ∘ λp:List Nat×D=>(KA.str p.1,p.2))=KA.str ∘ (·.1):=rfl;rw[this,<- U2];exact List.Pairwise.map _ (λa b h z=>h (by cases z;rfl)) hn
 have e:=VQ (l.map λp=>(KA.str p.1,p.2)) [] [] (by simpa using j);show((JW (l.map λp=>.tup [.str p.1,p.2])).bind λc=>bif frzs (c.map (·.2))&&lim c.length then some (D.dK true (YJ c).1 (YJ c).2) else none)=_;rw[zy,L4];have f:((l.map λp=>(KA.str p.1,p.2)).map (·.2))=l.map (·.2):=by rw[U2];rfl
 rw[f,kP (by intro d hd;obtain⟨p,k,rfl⟩:=M6.mp hd;exact g p k),L1,jg i];unfold YJ;rw[e,f];simp[U2]
noncomputable def lkp{α:Type}(w:List Nat):List (List Nat×α)->Option α
 | []=>none
 | p::l=>if p.1=w then some p.2 else lkp w l
theorem uw(w:List Nat):∀ l:List (List Nat×D),VX (l.map λp=>KA.str p.1) (l.map (·.2)) (.str w)=lkp w l
 | []=>rfl
 | p::l=>by
  rw[L5,L5,VX,lkp,uw w l];by_cases h:p.1=w
  ·rw[if_pos h,if_pos (by rw[h])]
  ·rw[if_neg h,if_neg (λz=>h (by cases z;rfl))]
theorem je1(f:α->β)(w:List Nat):∀ l:List (List Nat×α),lkp w (l.map λp=>(p.1,f p.2))=(lkp w l).map f
 | []=>rfl
 | p::l=>by
  rw[L5,lkp,lkp,je1 f w l];by_cases h:p.1=w
  ·rw[if_pos h,if_pos h];rfl
  ·rw[if_neg h,if_neg h]
theorem wE:∀{l:List (List Nat×α)},w∈l.map (·.1)->∃ a,lkp w l=some a/\(w,a)∈l
 | [],h=>by cases h
 | p::l,h=>by
  rw[lkp];by_cases e:p.1=w
  ·rw[if_pos e];exact⟨p.2,rfl,by rw[<- e];simp⟩
  ·rw[if_neg e];rw[L5] at h;obtain⟨a,b,c⟩:=wE ((M5.mp h).resolve_left λz=>e z.symm);exact⟨a,b,by simp[c]⟩
noncomputable def dct(o:Bool)(N:List (List Nat))(f:List Nat->Int):D:=.dK o (N.map KA.str) (N.map λn=>D.int (f n))
theorem wx(f:List Nat->Int):∀{N:List (List Nat)},c∈N->VX (N.map KA.str) (N.map λn=>D.int (f n)) (.str c)=some (.int (f c))
 | [],h=>by cases h
 | n::N,h=>by
  rw[L5,L5,VX];by_cases e:n=c
  ·rw[if_pos (by rw[e]),e]
  ·rw[if_neg λz=>e (by cases z;rfl)];exact wx f ((M5.mp h).resolve_left λz=>e z.symm)
theorem wM(h:c∈N):y6 (dct o N f) (.str c)=some (.int (f c)):=wx f h
theorem jbD(f:List Nat->Int)(c:List Nat)(v:Int):∀ N:List (List Nat),jeA (N.map KA.str) (N.map λn=>D.int (f n)) (.str c) (.int v)=N.map λn=>D.int (if n=c then v else f n)
 | []=>rfl
 | n::N=>by
  rw[L5,L5,jeA,jbD f c v N,L5];by_cases e:n=c
  ·rw[if_pos (by rw[e]),if_pos e]
  ·rw[if_neg λz=>e (by cases z;rfl),if_neg e]
theorem jgC{N:List (List Nat)}{f:List Nat->Int}{c:List Nat}{v:Int}(h:c∈N):qD (N.map KA.str) (N.map λn=>D.int (f n)) (.str c) (.int v)=(N.map KA.str,N.map λn=>D.int (if n=c then v else f n)):=by
 unfold qD;rw[if_pos (M6.mpr ⟨c,h,rfl⟩),jbD]
theorem zZ:∀{l:List (List Nat×α)},(l.map (·.1)).Nodup->∀ p∈l,lkp p.1 l=some p.2
 | [],_,_,h=>by cases h
 | q::l,a,p,h=>by
  rw[L5,List.nodup_cons] at a;rw[lkp];rcases M5.mp h with rfl | h
  ·rw[if_pos rfl]
  ·rw[if_neg λz=>a.1 (by rw[z];exact M6.mpr ⟨p,h,rfl⟩)];exact zZ a.2 p h
noncomputable def fnOf(S:List (List Nat×Int))(n:List Nat):Int:=(lkp n S).getD 0
theorem jcU{S:List (List Nat×Int)}(hn:(S.map (·.1)).Nodup){p:List Nat×Int}(h:p∈S):fnOf S p.1=p.2:=by
 unfold fnOf;rw[zZ hn p h];rfl
theorem jeZ{S:List (List Nat×Int)}(hn:(S.map (·.1)).Nodup)(b:S.length<=100000):xB [.lst o (S.map λp=>.tup [.str p.1,.int p.2])]=some (dct true (S.map (·.1)) (fnOf S)):=by
 have e:=xJ (o:=o) (l:=S.map λq=>(q.1,D.int q.2)) (by rw[U2];exact hn) (by intro q c;obtain⟨a,_,rfl⟩:=M6.mp c;rfl) (by rw[L1];exact b);rw[U2,U2,U2] at e;refine e.trans ?_;unfold dct;rw[U2,U2];congr 2;refine List.map_congr_left λp d=>?_;show D.int p.2=D.int (fnOf S p.1);rw[jcU hn d]
theorem wI(N:List (List Nat))(f:List Nat->Int):frzs (N.map λn=>D.int (f n))=true:=kP λd hd=>by
 obtain⟨n,_,rfl⟩:=M6.mp hd;rfl
@[simp] theorem dkOf_dct(N:List (List Nat))(f:List Nat->Int):jj0 (dct true N f)=some (N.map KA.str,N.map λn=>D.int (f n)):=rfl
variable {ρ:Rh}{fa fb fe:FE}{ft fu:FT'}{fr:FA}{p:PAf}{pi:PAf}{g:D->D->Option D}{gl:List D->Option D}{G:D->Rh->Option Rh}{f:FS}{m:List D->Option (D×D)}{mp:List D->Option D}{i j:Nat}
@[simp] theorem dOp_e:dOp g fa fb ρ=(fa ρ).bind λr=>(fb r.2).bind λt=>(g r.1 t.1).bind λz=>some (z,t.2):=by
 unfold dOp;cases fa ρ with
 | none=>rfl
 | some r =>
  obtain⟨x,a⟩:=r;dsimp only[Option.bind];cases fb a with
  | none=>rfl
  | some t =>
   obtain⟨y,b⟩:=t;dsimp only;cases g x y<;>rfl
@[simp] theorem dCBx_e:dCB gl fr ρ=(fr ρ).bind λr=>(gl r.1).bind λz=>some (z,r.2):=by
 unfold dCB;cases fr ρ with
 | none=>rfl
 | some r =>
  obtain⟨a,b⟩:=r;dsimp only[Option.bind];cases gl a<;>rfl
@[simp] theorem oF_e:oF g x y=(g x y).bind λd=>bif frz d then some d else none:=rfl
theorem jhJ:pV i ρ=(ρ[i]?).join:=by
 unfold pV;cases h:ρ[i]? with
 | none=>rfl
 | some o=>cases o<;>rfl
end QD
namespace L2
open PySem PySem.Spec PyProof.Rows
end L2
namespace QD
open PySem L2 PySem.Spec PyProof.Rows
end QD
namespace L2
open PySem PySem.Spec PyProof.Rows
section
open AutoSeq1 (wpAny_loadPart') in
end
section
variable {prog:Program}{w:World}{A:Around}{E:Value->Shared->Prop}{s:Shared}
theorem jeu{j t:Addr}{n:Nat}{b:Array Value}{C:Value->Shared->Prop}(g:A.handled=none)(c:s.heap.IsTupleIter j t n)(h:s.heap.IsTuple t b)(i:b[n]?=none)
  (go:∀ k e,Heap.ExtBut j s.heap k->(∃ o,k.get? e=some o/\o.cls=.type "StopIteration")->E (.ref e) { s with heap:=k }):wpAny (model prog w) A (Builtin.SmallTypes.nextOf (.ref j)) C E s:=by
 obtain⟨q,d,r,f⟩:=id c;obtain⟨u,l,_,mt,p⟩:=h;delta Builtin.SmallTypes.nextOf;refine L3 (wpAny_callSpecial?_slot (name:=Str.ofString "__next__") c.typeIs F.slot_tuple_iterator_next (wpAny_call_entry F.slot_tuple_iterator_next c.typeIs F.entry_tuple_iterator_next ?_ (F.args_tuple_iterator_next_1 _)));show wpAny _ _ (field (.ref j) 0 >>= _) _ _ s;refine L3 (U7 d f (x:=.ref t) rfl ?_);show wpAny (model prog w) _ (if(Value.ref t==Value.none)=true then _ else _) _ _ s;rw[if_neg (by exact M4)];show wpAny _ _ (field (.ref j) 1 >>= _) _ _ s;refine L3 (U7 d f (x:=.int n 0) rfl ?_);show wpAny (model prog w) _ (seqItems? (.ref t) >>= _) _ _ s;refine L3 (wpAny_seqItems l p ?_);simp only[N9,i];refine L3 (wpAny_rule (L3 (wpAny_setField d f (by simp) ?_)));show wpAny _ _ (newExc (.type "StopIteration") [] >>= _) _ _ _;refine L3 ?_;simp only[newExc,newTuple];refine L3 (wpAny_newObj_type ?_ (by size_fits));refine L3 (m:=firstArgMember _ _) (wpAny_of_eq (a:=Value.none) (by first | rfl | (simp only[firstArgMember];rfl)) ?_);refine wpAny_newObj_type ?_ (by size_fits);simp only[raiseNew];refine L3 (wpAny_handled ?_)
 first | rw[show A.in1.handled=none from g] | rw[g]
 refine L3 (M7 (wpAny_throw ?_));exact go _ _ (((Heap.SameBut.update ..).extBut.push _).push _) ⟨_,E2 _ rfl,rfl⟩
variable {z TI TO j1 j2 l t:Addr}{m:Nat}{us vs:Array Value}{u v a b:Value}
end
end L2
namespace QD
open PySem L2 PySem.Spec PyProof.Rows
end QD
namespace L2
open PySem PySem.Spec PyProof.Rows
theorem jiU:typeLookup (.type "list_reverseiterator") "__len__" = pure none:=by rw[typeLookup_type,builtinLookup_eq_fast];kernel_rfl
theorem jf7:typeLookup (.type "list_reverseiterator") "__length_hint__" = pure (some (.builtin "list_reverseiterator.__length_hint__")):=by rw[typeLookup_type,builtinLookup_eq_fast];kernel_rfl
section
variable {prog:Program}{w:World}{A:Around}{s:Shared}{R:Result->Shared->Prop}
variable {I:Addr}{fp wr:List Addr}{G:Array GenState->Array GenState->Prop}{n:Nat}{P:Nat->Value->Prop}{St:Nat->Shared->Prop}
theorem jcT(W:WalksS prog w A.in1 I fp wr G n P St)(h:∀ i s,St i s->s.TypeIs (.ref I) "list_reverseiterator")(S:Addr)(res:Value)(l:Nat)(a:St 0 s)(d:S∉fp)(m:I∈fp)
  (o:s.heap.get? S=some { cls:=.type "list",data:=.seq #[] l })
  (p:∀ s' acc c,Moved (S::wr) G s s'->s'.heap.get? S=some { cls:=.type "list",dict:=none,data:=.seq acc c,slots:=#[] }->ItemsOf P acc n->R (.ok (.ret res)) s') (hn:n<=sizeLine) :
  wpAny (model prog w) A.in1 (Builtin.List.listExtendWith (.ref S) (.ref I) res)
   (λfin s'=>match fin with | .done f=>R (.ok f) s' | .again c'=>c'.quiet=true/\codeAny (model prog w) A c' R s') (λe s'=>R (.error e) s') s:=by
 have j:S≠I:=λe=>d (e▸m);unfold Builtin.List.listExtendWith;refine L3 (wpAny_typeOf (h 0 _ a) ?_);have q:Builtin.List.listSameRef (.ref S) (.ref I)=false:=by simp[Builtin.List.listSameRef,j]
 rw[if_neg (by rw[q];decide)];refine L3 (W.self 0 _ _ _ a ?_);refine L3 (wpAny_holding ?_);unfold Builtin.List.listLengthHint;refine L3 (wpAny_specialOf (h 0 _ a) jiU ?_);show wpAny _ A.in1 (specialOf (Value.ref I) (Str.ofString "__length_hint__") >>= _) _ _ _;refine L3 (wpAny_specialOf (h 0 _ a) jf7 ?_);generalize g:("list_reverseiterator.__length_hint__" : String)=id0
 wp_delta
 rw[show splitId id0=some ("list_reverseiterator","__length_hint__") from by subst g;decide +kernel];subst g;refine L3 (wpAny_isInstance (b:=true) (h 0 _ a) (by rw[isSubtype_type];kernel_rfl) ?_);refine M7 ?_;rw[if_neg (by decide)];refine M7 ⟨plainId_quiet F.plain_extend_loop _,codeAny_extend_loopS W hn _ d _ n 0 _ _ _ rfl (U6 _) a o (ItemsOf.nil P) λs' acc c r k t=>?_⟩;exact p s' acc c r k t
theorem jf1(W:WalksS prog w A.in1 I fp wr G n P St)(p:∀ i s,St i s->s.TypeIs (.ref I) "list_reverseiterator")(S:Addr)(j:St 0 s)(a:S∉fp)(q:I∈fp)
  (k:s.heap.get? S=some { cls:=.type "list",data:=.seq #[] })
  (r:∀ s' acc c,Moved (S::wr) G s s'->s'.heap.get? S=some { cls:=.type "list",dict:=none,data:=.seq acc c,slots:=#[] }->ItemsOf P acc n->R (.ok (.ret .none)) s') (hn:n<=sizeLine) :
  wpAny (model prog w) A.in1 (Builtin.«list.__init__» ⟨[.ref S,.ref I],[]⟩)
   (λfin s'=>match fin with | .done f=>R (.ok f) s' | .again c'=>c'.quiet=true/\codeAny (model prog w) A c' R s') (λe s'=>R (.error e) s') s:=by
 show wpAny _ A.in1 (do let was <- Builtin.List.listItems (.ref S);Builtin.List.listUpdate (.ref S) (λ_=>#[]);letGo was.toList.reverse;Builtin.List.listExtendWith (.ref S) (.ref I) .none) _ _ s;refine L3 ?_;unfold Builtin.List.listItems;refine L3 (wpAny_seqItems k rfl (M7 ?_));show wpAny _ A.in1 (updateSeq S (λ_=>#[]) >>= λ_=>letGo (#[]:Array Value).toList.reverse >>= λ_=>Builtin.List.listExtendWith (.ref S) (.ref I) .none) _ _ s;refine L3 (wpAny_updateSeq k rfl ?_);have l:=Heap.get?_update_self (Obj.mapSeq (λ_=>(#[]:Array Value))) k rfl;have d:∀ b o,b≠S->s.heap.get? b=some o->(s.heap.update S (Obj.mapSeq (λ_=>(#[]:Array Value)))).get? b=some o:=λb o g e=>(Heap.get?_update_other _ _ (Ne.symm g)).trans e;refine L3 (wpAny_letGo ?_);refine jcT (hn:=hn) W p S .none _ (W.frame 0 s _ s.toks j (M9 _) λb g o e=>d b o (λh=>a (h▸g)) e) a q l λs' acc c t m u=>?_;exact r s' acc c (Moved.trans W.gtrans ((Moved.refl W.grefl).then_heap (M9 _) λb o g e=>d b o (λh=>g (h▸L7)) e) t) m u
end
section
variable {prog:Program}{w:World}{A:Around}{E:Value->Shared->Prop}{s:Shared}{l:Addr}{us:Array Value}
theorem jfG{C:Value->Shared->Prop}(H:A.handled=none)(D:s.heap.IsList l us)(hz:us.size<=sizeLine)
  (go:∀ k c tk,(∀ b o,s.heap.get? b=some o->k.get? b=some o)->k.get? (s.heap.objs.size+1)=some { cls:=.type "list",dict:=none,data:=.seq us.reverse c,slots:=#[] }->C (.ref (s.heap.objs.size+1)) { s with heap:=k,toks:=tk }) :
  wpAny (model prog w) A (call (.type "list") [.ref s.heap.objs.size]) C E { s with heap:=s.heap.push (revObj l ((us.size:Int) - 1)) }:=by
 have a:(s.heap.push (revObj l ((us.size:Int) - 1))).objs.size=s.heap.objs.size+1:=Heap.size_push _ _;have f:l < s.heap.objs.size:=by
  obtain⟨o,e,_⟩:=id D;exact N1 e
 have t:l≠s.heap.objs.size:=N7 f;have W:=(Walks.listRev (prog:=prog) (w:=w) (A:=A.in1.in1) H s.heap.objs.size l t us).toS;refine callType_codes (Q₁:=λobj u=>obj=.ref (s.heap.push (revObj l ((us.size:Int) - 1))).objs.size/\u={ s with heap:=(s.heap.push (revObj l ((us.size:Int) - 1))).push { cls:=.type "list",data:=.seq #[] } }) F.called_list (F.typeCall_list_1 _) F.entry_list_init
  (code_list_new _ ⟨rfl,rfl⟩) λobj u v=>?_
 obtain⟨rfl,rfl⟩:=v;have G:((s.heap.push (revObj l ((us.size:Int) - 1))).push { cls:=.type "list",data:=.seq #[] }).get? (s.heap.push (revObj l ((us.size:Int) - 1))).objs.size=some { cls:=.type "list",data:=.seq #[] }:=E2 _ rfl;have I:((s.heap.push (revObj l ((us.size:Int) - 1))).push ({ cls:=.type "list",data:=.seq #[] }:Obj)).IsRevIter s.heap.objs.size l ((us.size:Int) - 1 - ((0:Nat):Int)):=⟨_,L8 _ (E2 _ rfl),rfl,by simp[revObj]⟩;have y:((s.heap.push (revObj l ((us.size:Int) - 1))).push ({ cls:=.type "list",data:=.seq #[] }:Obj)).IsList l us:=D.at λo e=>L8 _ (L8 _ e);refine⟨⟨_,G,rfl⟩,F.args_list_init_2 _ _,jf1 (hn:=hz) W (λi u x=>x.2.1.typeIs) _ ⟨U6 _,I,y⟩ (λz=>?_) (by simp) G λJ h c p m K=>?_⟩
 ·rw[a] at z;rcases M5.mp z with q | q
  ·exact absurd q (Nat.succ_ne_self _)
  ·have q:=M8.mp q;rw[<- q] at f;exact absurd f (Nat.not_lt.mpr (Nat.le_succ _))
 ·refine⟨rfl,?_⟩;have n:h=us.reverse:=by
   obtain⟨L,M⟩:=K;refine Array.ext (by simp[L]) λj v P=>?_;have q:=M j h[j] (by simp[v]);rw[Array.getElem_reverse];have N:us[us.size - 1 - j]?=some (us[us.size - 1 - j]'(by omega)):=Array.getElem?_eq_getElem (by omega);exact X7 (q.symm.trans N)
  subst n;rw[a] at m ⊢;have O:=p.gens;have hd:=p.drawn;have B:=p.os;obtain⟨k,g,d,tk,os⟩:=J;obtain rfl:g=s.gens:=O;obtain rfl:d=s.drawn:=hd;obtain rfl:os=s.os:=B;refine go k c tk (λb o e=>?_) m;have r:b < s.heap.objs.size:=N1 e;exact p.heap b o (by
   intro z;rw[a] at z;rcases M5.mp z with q | q
   ·rw[q] at r;exact absurd r (Nat.not_lt.mpr (Nat.le_succ _))
   ·rw[M8.mp q] at r;exact absurd r (Nat.lt_irrefl _)) (L8 _ (L8 _ e))
end
noncomputable def jnt(K:PySem.W.Frag)(t:TE):TE:=λσ H Q=>t σ H λx H1=>∃ a ys,x=.ref a/\SqL K H1 a ys/\∀ l,H1 l=none->Q (.ref l) (upd H1 l (.lst ys.reverse))
theorem Vals.rev:∀{xs:List V}{us:List Value},Vals xs us->Vals xs.reverse us.reverse
 | [],_,.nil=>.nil
 | x::xs,u::us,.cons h r=>by
  rw[List.reverse_cons,List.reverse_cons];exact(Vals.rev r).append (.cons h .nil)
section
variable {X:Cx}{a:Expr}{ta:TE}{p p2 pos pos2:Pos}
theorem jlz(z:X.calm=true)(A:Gl X "list")(B:X.mg "list" = none)(i:Gl X "reversed")(j:X.mg "reversed" = none)(C:PE X a ta)
  (D:starEach [.Call (.Name "reversed" p2) [a] [] pos2] X.env=(false,eval (.Call (.Name "reversed" p2) [a] [] pos2) X.env)::starEach [] X.env:=by rfl)
  (m:(backTo pos (starEach [] X.env)).any (·.1)=false:=by rfl)
  (n:backTo pos (starEach [.Call (.Name "reversed" p2) [a] [] pos2] X.env)=[(false,eval (.Call (.Name "reversed" p2) [a] [] pos2) X.env)]:=by rfl)
  (o:starEach [a] X.env=(false,eval a X.env)::starEach [] X.env:=by rfl) (b:(backTo pos2 (starEach [] X.env)).any (·.1)=false:=by rfl)
  (d:backTo pos2 (starEach [a] X.env)=[(false,eval a X.env)]:=by rfl) :
  PE X (.Call (.Name "list" p) [.Call (.Name "reversed" p2) [a] [] pos2] [] pos) (jnt X.K ta):=by
 intro e s σ H Q I h;refine wpAny_Call_Name_kw (VB I A B (show bootBuiltins "list" = some (.type "list") by decide +kernel) ?_ (by decide) (by decide));refine PyProof.Rows.callWith_type1 ?_ D m;rw[n];refine Calls.spliced_cons (wpAny_Call_Name_kw (VB I i j (show bootBuiltins "reversed" = some (.type "reversed") by decide +kernel) ?_ (by decide) (by decide)));refine PyProof.Rows.callWith_type1 ?_ o b;rw[d];refine Calls.spliced_cons (thn (C e s σ H _ I h) λv q ⟨x,P,g,E,l,F,ex,G,J⟩=>Calls.spliced_nil ?_);subst ex;obtain rfl:v=Value.ref l:=E;obtain⟨r,t,u,L⟩:=g.list G;have y:=t.length;refine call_reversed_list u.isList (Calls.spliced_nil ?_);refine jfG (g.ok.hd z) u.isList (by simp only[N4]<;>omega) λk c M N O=>?_;have f:q.heap.objs.size<=q.heap.objs.size+1:=Nat.le_succ _;refine⟨.ref (q.heap.objs.size+1),_,g.laid (t':=M) N f (show ObjOk X.prog X.w _ k _ (.lst F.reverse) from⟨by rw[List.length_reverse];exact L,r.reverse,c,Vals.rev t,by simpa using O⟩),rfl,J _ (g.hok.fresh f)⟩
end
noncomputable def Itk(a:Addr)(o:Obj)(kvs:List (Key×V)):It :=
 ⟨λi H=>H a=some (.frz o (.dK kvs))/\i < kvs.length,λi H x H'=>H'=H/\∃ kv,kvs[i]?=some kv/\x=kV kv.1,λi H=>H a=some (.frz o (.dK kvs))/\kvs.length<=i⟩
theorem jip(ok:HOk P w H h)(e:H a=some (.frz o (.dK kvs))) :
  h.get? a=some o/\(a==sysModules)=false/\∃ vs,KV kvs vs/\h.DictOf (yp P w) a vs:=by
 obtain⟨b,c⟩:=(show ObjOk P w H h a (.frz o (.dK kvs)) from ok a _ e);obtain⟨_,d,f⟩:=(show ObjOk P w H h a (.dK kvs) from c);exact⟨b,d,f⟩
theorem jiB{P:Program}{w:World}{K:PySem.W.Frag}{tg:Expr}(a it:Addr)(o:Obj)(g:List (Key×V))(es:Array DictEntry)(D:Nat)(ho:o.data=.dict es D):Turn P w K tg (Itk a o g) [it] it (λi h=>h.IsKeyIter it a i g.length D) where
 mem:=by simp
 obj:=λi h j b n=>by
  have e:b=it:=by simpa using n
  subst e;obtain⟨q,e,c,d⟩:=j;exact⟨q,e,λv z=>by rw[d] at z;cases z⟩
 keep:=λi h F j k=>j.at λo e=>k it (by simp) o e
 item:=by
  intro X M N O hc i m s σ H E I G j Q;subst M N O;obtain⟨R,S⟩:=Q;obtain⟨T,g2,J,L,dd⟩:=jip I.hok R;obtain⟨r,l⟩:=dd.dictAt;have t:r=D:=by
   obtain⟨o',U,y,_,A,_⟩:=id l;rw[T] at y;cases y;rw[ho] at A;cases A;rfl
  subst t;have f:=L.length;obtain⟨⟨k,u⟩,hu⟩:∃ p,J[i]?=some p:=⟨J[i]'(by omega),by simp[<- f,S]⟩;have hk:∃ v,g[i]?=some (k,v):=by
   have hi:i < g.length:=S;have B:(g.map (·.1))[i]?=(J.map (·.1))[i]?:=by rw[L.keys]
   rw[List.getElem?_map,List.getElem?_map,hu] at B;cases q:g[i]? with
   | none=>rw[q] at B;cases B
   | some p =>
    rw[q] at B;obtain⟨k',v⟩:=p;cases B;exact⟨v,rfl⟩
  obtain⟨v,Y⟩:=hk;obtain⟨Z,f1,f2,f3,f4,f5⟩:=G it (by simp);rw[f] at j;refine wpAny_pyNext_dict_item j l hu λkey F C x sb=>?_;rw[<- f] at x;have I1:Inv X m σ H { s with heap:=F }:=I.turned (t':=s.toks) (λb o n e=>(sb.2 b n).trans e) Z f1 f3 f4 f5;obtain⟨o2,e,c,d⟩:=id x;exact⟨key,rfl,jet (s:={ s with heap:=F }) e c d (by decide) ⟨kV k,H,I1,jmV C,⟨rfl,(k,v),Y,rfl⟩,x,λb n=>(G b n).1⟩⟩
 done:=by
  intro X M N O hc i m s σ H E I G j Q;subst M N O;obtain⟨R,S⟩:=Q;obtain⟨T,g2,J,L,dd⟩:=jip I.hok R;obtain⟨r,l⟩:=dd.dictAt;have t:r=D:=by
   obtain⟨o',U,y,_,A,_⟩:=id l;rw[T] at y;cases y;rw[ho] at A;cases A;rfl
  subst t;have f:=L.length;obtain⟨Z,f1,f2,f3,f4,f5⟩:=G it (by simp);rw[f] at j;exact wpAny_pyNext_dict_end (I.ok.hd hc) j l (List.getElem?_eq_none (by omega)) λF eb=>⟨rfl,I.turned (t':=s.toks) (λb o n e=>eb b o n e) Z f1 f3 f4 f5⟩
 self:=λ_ _ _ _ _ j h=>wpAny_pyIter_keyiter j h
noncomputable def iDK(te:TE):TI:=λσ H R=>te σ H λx H1=>∃ a kvs,x=.ref a/\H1 a=some (.dK kvs)/\∀ o,R (Itk a o kvs) (upd H1 a (.frz o (.dK kvs)))
theorem Inv.frzD(I:Inv X pins σ H s)(c:H a=some (.dK kvs)) :
  ∃ o es ep,o.data=.dict es ep/\s.heap.get? a=some o/\Inv X pins σ (upd H a (.frz o (.dK kvs))) s:=by
 obtain⟨z,hd,d,e,dd⟩:=jlV I.hok c;obtain⟨o,es,ep,b,g,f,h,i,j⟩:=id dd;refine⟨o,es,ep,f,b,?_⟩;exact jaJ (s:=s) (t':=s.toks) I (by rw[c];exact trivial) ⟨rfl,λ_ _=>rfl⟩ ⟨o,b⟩ (show ObjOk X.prog X.w _ s.heap a (.frz o (.dK kvs)) from⟨b,z,hd,d,e,dd⟩)
theorem jkR{X:Cx}{tg e:Expr}{te:TE}(r:PE X e te):PI X tg e (iDK te):=by
 intro g s σ H R I h;refine thn (r g s σ H _ I h) λv c ⟨x,t,y,z,a,d,ex,A,q⟩=>?_;subst ex;obtain rfl:v=Value.ref a:=z;obtain⟨o,B,C,m,D,k⟩:=y.frzD A;have E:upd t a (.frz o (.dK d)) a=some (.frz o (.dK d)):=jy;obtain⟨_,hd,F,G,dd⟩:=jip k.hok E;obtain⟨f,i⟩:=dd.dictAt;have l:f=C:=by
  obtain⟨M,J,n,_,p,_⟩:=id i;rw[D] at n;cases n;rw[m] at p;cases p;rfl
 subst l;refine wpAny_pyIter_dict (knd:=yp X.prog X.w) hd i ?_;have K:∀ b u,c.heap.get? b=some u->(c.heap.push ({ cls:=.type "dict_keyiterator",data:=.fields #[.ref a,.int 0 0,.int F.length 0,.int f 0] }:Obj)).get? b=some u:=λb u q=>L8 _ q;refine⟨c.heap.objs.size,[c.heap.objs.size],_,_,_,rfl,k.kept (t':=c.toks) K,jiB a _ o d B f m,⟨_,E2 _ rfl,rfl,by rw[G.length];rfl⟩,λb L=>?_,q o⟩;have j:c.heap.objs.size<=b:=by
  have:b=c.heap.objs.size:=by simpa using L
  rw[this];exact M9 _
 exact k.fpOk j (k.hok.fresh j)
end L2
namespace QD
open PySem L2 PySem.Spec PyProof.Rows
section
variable {R:RC}{Z Z':Zn}{H H':Hp}{pm:List Nat}
noncomputable def jjz(p:PF):PF:=λρ=>match p ρ with
 | some (.lst _ l)=>bif frzs l then some (.lst true l.reverse) else none
 | _=>none
theorem Reps.revR:∀{l:List D}{vs:List V},Reps R Z H l vs []->Reps R Z H l.reverse vs.reverse []
 | [],_,h=>by rw[Reps] at h;rw[h.1];exact .empty
 | d::l,_,h=>by
  rw[Reps] at h;obtain⟨v,vs,O1,O2,rfl,e,a,b⟩:=h;obtain⟨rfl,rfl⟩:=List.append_eq_nil_iff.mp e.symm;rw[List.reverse_cons,List.reverse_cons];exact Reps.append (O:=[]) (P:=[]) (Reps.revR b) (.one a)
theorem jlc(h:PB R te p):PP R (jnt R.K te) (jjz p):=by
 intro σ ρ Z H O d z s e Q k;unfold jjz at e;split at e
 ·rename_i o l q;cases hf:frzs l with
  | false=>rw[hf] at e;cases e
  | true =>
   rw[hf] at e;cases e;refine h z s q λ{v n i P} g r=>?_;obtain⟨a,j,y,rfl,t,u⟩:=r.lst_of;have m:=u.frozen hf;refine⟨a,j,rfl,t.sq,λf c=>?_⟩;have ne:∀ b,i b≠none->b≠f:=λb h e=>h (e▸c);have w:Go n i [] n (upd i f (.lst j.reverse)) [f]:=Go.newO (wf0 g.wf.zd) c;refine k (g.trans w) ?_;rw[Rep];exact⟨f,j.reverse,[],rfl,(Reps.revR m).frame (λb z=>z) (λb z=>jm (ne b (g.wf.zd b z))) (λb x=>(nomatch x)),jy,rfl⟩
 ·cases e
noncomputable def um:D->List D->Option D
 | .str a,[.str b]=>bif decide (0<=Vz a b) then some (.int (Vz a b)) else none
 | _,_=>none
theorem jfO:BM R "str" (λx vs H Q=>∃ a b,x=.str a/\vs=[.str b]/\0<=Txt.find a b/\Q (.int (Txt.find a b)) H) um:=by
 intro Z H x d h v vs O1 O2 z c f e Q k;unfold um at e;split at e
 ·rename_i a b;cases hd:decide (0<=Vz a b) with
  | false=>rw[hd] at e;cases e
  | true =>
   rw[hd] at e;cases e;have hd:=X6 hd;obtain⟨rfl,_⟩:=c.str_of;obtain⟨u,rfl,g⟩:=f.one_of;obtain⟨rfl,_⟩:=g.str_of;exact⟨_,_,rfl,rfl,hd,k (Go.id z) .int_mk⟩
 ·cases e
theorem jhv{o:Obj}{ks:List KA}{vs:List V}(h:ks.length=vs.length)(j:Z a)(k:H a=some (.frz o (.dK ((ks.map kaV).zip vs)))):jh3 R (Itk a o ((ks.map kaV).zip vs)) Z H (ks.map kaD):=by
 intro l m r n zd i;have f:m a=some (.frz o (.dK ((ks.map kaV).zip vs))):=by rw[n a j];exact k
 have b:((ks.map kaV).zip vs).length=ks.length:=by rw[List.length_zip,L1,h,Nat.min_self]
 refine⟨λe=>⟨f,by rw[b];rw[L1] at e;exact e⟩,λx d=>?_⟩;rw[List.getElem?_map] at d;cases hk:ks[i]? with
 | none=>rw[hk] at d;cases d
 | some c =>
  rw[hk] at d;cases d;have e:i < ks.length:=(L9.mp hk).1;refine⟨⟨f,by rw[b];exact e⟩,λu s p=>?_⟩;obtain⟨rfl,t,g,rfl⟩:=p;have q:((ks.map kaV).zip vs)[i]?=some (kaV c,vs[i]'(by omega)):=by
   rw[List.getElem?_zip_eq_some];exact⟨by rw[List.getElem?_map,hk];rfl,by simp⟩
  rw[q] at g;cases g;exact⟨l,Go.id zd,jjP c⟩
theorem jg4(w:WF Z H (a::O)):Go Z H (a::O) (λb=>Z b \/ b=a) (upd H a u) O :=
 (Go.put (o:=u) w L7).trans (Go.frz1 (Go.put (o:=u) w L7).wf)
noncomputable def JT(i:Nat):FA:=λρ=>match ρ[i]? with
 | some (some (.dK true ks l))=>bif frzs l then some (ks.map kaD,ρ.set i (some (.dK false ks l))) else none
 | _=>none
theorem jfJ:DIt R (iDK (JP i)) (JT i):=by
 intro σ ρ E Z H O F w s e Q k;unfold JT at e;split at e
 ·rename_i d l j;cases hf:frzs l with
  | false=>rw[hf] at e;cases e
  | true =>
   rw[hf] at e;cases e;obtain⟨A,P,B,rfl,u,x,_⟩:=s.put (L9.mp j).1;obtain⟨v,m,r⟩:=u _ j;rw[Rep] at r;obtain⟨a,f,G,rfl,g,c,y,rfl⟩:=r;cases g.nil hf;refine⟨.ref a,m,a,_,rfl,y,λo=>?_⟩;have n:Go Z H [a] (λb=>Z b \/ b=a) (upd H a (.frz o (.dK ((d.map kaV).zip f)))) []:=jg4 w.mid;have C:=n.frame w;have p:∀ b,Z b->upd H a (.frz o (.dK ((d.map kaV).zip f))) b=H b:=λb h=>jm λz=>w.nz a (by simp) (z▸h);have q:=Go.keepA w n;have D:Rep R (λb=>Z b \/ b=a) (upd H a (.frz o (.dK ((d.map kaV).zip f)))) (.dK false d l) (.ref a) []:=by
    rw[Rep];exact⟨a,f,[],rfl,g.frame (λb z=>.inl z) p (λb h=>(nomatch h)),c,.inr ⟨o,jy⟩,.inr rfl,rfl,rfl⟩
   have t:=x D (λb z=>.inl z) p q.1 q.2;rw[yS m] at t;exact k C t (jhv (by rw[g.length];exact c) (.inr rfl) jy)
 ·cases e
theorem YZ{tg:TG}{tc:TT}{te:TE}{g:D->Rh->Option Rh}{q:PTf}{p:PF}{ix:List (Option Nat)}(hg:PGt R [] tg g)(hq:PTt R tc q)(he:PP R te p)
  {J:It}{r:Zn}{j:Hp}{ρ:Rh}{σ:L2.St}{O:List Addr}{xs all:List D}(K:Zd r j) (s:Slots R r j ρ σ O) (it:ItB R J r j xs) (hl:lim xs.length=true) (e2:jJ g q p xs (jI ix ρ)=some all)
  {Q:VK}(k:∀{v:V}{Z':Zn}{H':Hp}{P:List Addr},Go r j [] Z' H' P->Rep R Z' H' (.lst true all) v P->Q v H'):∀ a,j a=none->jdR tc te tg J a (kU ix σ) (upd j a (.lst [])) λH2=>Q (.ref a) H2:=by
 intro a ha;obtain⟨Oi,si⟩:=V4 s ix;have gp:Go r j [] r (upd j a (.lst [])) [a]:=Go.newO (wf0 K) ha;refine⟨λi m σ2 H2=>m=xs.length - i/\i<=xs.length/\∃ U G O2 x h d rest,Go r j [] G H2 (a::d)/\H2 a=some (.lst h)/\Reps R G H2 x h d/\(∀ b∈O2,b≠a)/\Slots R G H2 U σ2 O2/\jJ g q p (xs.drop i) U=some rest/\all=x++rest/\x.length<=i,
  ⟨xs.length,rfl,U6 _,_,r,Oi,[],[],[],all,gp,jy,Reps.empty,λb l e=>si.dom b l (e▸ha),gp.slots K si,e2,rfl,M9 _⟩,?_⟩
 rintro i m σ2 H2 ⟨rfl,hi',U,G,O2,x,h,d,rest,o,L,W,na,s2,c,X,C⟩;have M:=it (Z1:=G) (H1:=H2) o.zz (λb z=>o.same b z) o.wf.zd i;by_cases E:i < xs.length
 ·right
  have hx:xs[i]?=some xs[i]:=by simp[E]
  obtain⟨go,yl⟩:=M.2 _ hx;refine⟨go,λu H3 hy=>?_⟩;obtain⟨Z3,H,r3⟩:=yl u H3 hy;rw[Kh hx] at c;unfold jJ at c;cases e5:g xs[i] U with
  | none=>rw[e5] at c;cases c
  | some N =>
   rw[e5] at c;dsimp only at c;refine hg r3 (H.slots o.wf.zd s2) e5 λ{σ4 O4} sub nd Y _=>?_;cases e6:q N with
   | none=>rw[e6] at c;cases c
   | some b =>
    rw[e6] at c;dsimp only at c;refine hq H.wf.zd Y e6 λ{Z5 H5} S=>?_;have t:=H.pair S;cases b with
    | true =>
     refine jhB ?_;rw[cond_true] at c;cases e7:p N with
     | none=>rw[e7] at c;cases c
     | some y =>
      rw[e7] at c;dsimp only at c;cases e8:jJ g q p (xs.drop (i+1)) N with
      | none=>rw[e8] at c;cases c
      | some ys2 =>
       rw[e8] at c;cases c;refine he S.wf.zd (S.slots H.wf.zd Y) e7 λ{Z I w P6} g6 r6=>?_;have F:Go G H2 [] I w P6:=by simpa using t.pair g6
       have ea6:w a=some (.lst h):=by rw[F.same a (by rw[L];exact λz=>(nomatch z))];exact L
       have hvl:h.length < sizeLine:=by
        rw[W.length];exact x8 (n:=x.length) (X4 (N8 C (N8 hi' (X6 hl))))
       have gA:Go r j [] I w (a::d++P6):=by
        have f:=F.frame (A:=a::d) (B:=[]) (by simpa using o.wf);exact o.trans (by simpa using f)
       have w6:=gA.wf;have gB:Go I w (a::d++P6) I (upd w a (.lst (h++[Z]))) (a::d++P6):=Go.put w6 L7;have nd6:=List.nodup_cons.mp w6.nd;have ne:∀ b,b∈d++P6->upd w a (.lst (h++[Z])) b=w b:=λb l=>jm λz=>nd6.1 (z▸l);have T:∀ b,I b->upd w a (.lst (h++[Z])) b=w b:=λb l=>jm λz=>w6.nz a L7 (z▸l);refine⟨h,ea6,hvl,xs.length - (i+1),by omega,rfl,E,N,I,O4,x++[y],h++[Z],d++P6,ys2,gA.trans gB,jy,?_,λb l=>na b (sub b l),?_,e8,by rw[X];simp,by rw[N5];exact Nat.add_le_add_right C 1⟩
       ·refine((F.reps o.wf.zd W).append (.one r6)).frame (λb z=>z) T ne
       ·exact((S.pair g6).slots H.wf.zd Y).frame (λb z=>z) T λb l=>jm (na b (sub b l))
    | false =>
     refine jhz ?_;rw[cond_false] at c;have gA:Go r j [] Z5 H5 (a::d):=by
      have f:=t.frame (A:=a::d) (B:=[]) (by simpa using o.wf);exact o.trans (by simpa using f)
     exact⟨xs.length - (i+1),by omega,rfl,E,N,Z5,O4,x,h,d,rest,gA,by rw[t.same a (by rw[L];exact λz=>(nomatch z))];exact L,t.reps o.wf.zd W,λb l=>na b (sub b l),S.slots H.wf.zd Y,c,X,Nat.le_succ_of_le C⟩
 ·left
  have hi2:i=xs.length:=by omega
  refine⟨M.1 (by omega),?_⟩;rw[hi2,List.drop_length] at c;cases c;rw[N0] at X;subst X;refine k (P:=a::d) o ?_;rw[Rep];exact⟨a,h,d,rfl,W,L,rfl⟩
noncomputable def uX(fi:FA)(g:D->Rh->Option Rh)(q:PTf)(p:PF)(ix:List (Option Nat)):FE:=λρ=>(fi ρ).bind λr=>bif lim r.1.length then((jJ g q p r.1 (jI ix r.2)).bind λys=>some (.lst true ys,r.2)) else none
@[simp] theorem dCompI_e:uX fi g q p ix ρ=(fi ρ).bind λr=>bif lim r.1.length then((jJ g q p r.1 (jI ix r.2)).bind λys=>some (.lst true ys,r.2)) else none:=rfl
theorem jgW{wi:TI}{tg:TG}{tc:TT}{te:TE}{fi:FA}{g:D->Rh->Option Rh}{q:PTf}{p:PF}{ix:List (Option Nat)}(hi:DIt R wi fi)(j:PGt R [] tg g)(l:PTt R tc q)(m:PP R te p):DE R (wK wi tg tc te ix) (uX fi g q p ix):=by
 intro σ ρ y Z H O d w s e Q k;unfold uX at e;cases e1:fi ρ with
 | none=>rw[e1] at e;cases e
 | some r =>
  obtain⟨c,n⟩:=r;rw[e1,L4] at e;dsimp only at e;cases hl:lim c.length with
  | false=>rw[hl] at e;cases e
  | true =>
   rw[hl,cond_true] at e;cases e2:jJ g q p c (jI ix n) with
   | none=>rw[e2] at e;cases e
   | some all =>
    rw[e2] at e;cases e;refine hi w s e1 λ{J A B O0} b f o=>?_;refine YZ j l m b.wf.zd f (λ{C E} t u zd i=>o t (λa z=>u a (b.wf.zd a z)) zd i) hl e2 λ{v F G P} h x=>?_;exact k (b.trans (h.widen b.wf)) x (h.slots b.wf.zd f)
end
section
variable {cl:Nat->Addr}{pm:List Nat}{X:Cx}{a e elt tg iter:Expr}{ta te:TE}{pa pe:PF}{ifs:List Expr}{wi:TI}{fi:FA}{t:TG}{g:D->Rh->Option Rh}{pos p p2 pos2:Pos}
theorem jlu(j:X.calm=true)(k:X.mg "list" = none)(d:X.mg "reversed" = none)(i:QB cl X a ta pa)(l:Gl X "list":=by rfl)(e:Gl X "reversed":=by rfl)
  (m:starEach [.Call (.Name "reversed" p2) [a] [] pos2] X.env=(false,eval (.Call (.Name "reversed" p2) [a] [] pos2) X.env)::starEach [] X.env:=by rfl)
  (f:(backTo pos (starEach [] X.env)).any (·.1)=false:=by rfl)
  (g:backTo pos (starEach [.Call (.Name "reversed" p2) [a] [] pos2] X.env)=[(false,eval (.Call (.Name "reversed" p2) [a] [] pos2) X.env)]:=by rfl)
  (h:starEach [a] X.env=(false,eval a X.env)::starEach [] X.env:=by rfl) (b:(backTo pos2 (starEach [] X.env)).any (·.1)=false:=by rfl)
  (c:backTo pos2 (starEach [a] X.env)=[(false,eval a X.env)]:=by rfl) :
  QP cl X (.Call (.Name "list" p) [.Call (.Name "reversed" p2) [a] [] pos2] [] pos) (jnt X.K ta) (jjz pa):=⟨jlz j l k e d i.sem m f g h b c,jlc i.den⟩
theorem jf9(h:QB cl X (.Name x p) (JP i) (pV i)):QIE cl X tg (.Name x p) (iDK (JP i)) (JT i):=⟨jkR h.sem,jfJ⟩
theorem jjy{scope:Scope}{N':List Str}{ix:List (Option Nat)}{a:TT}{c:PTf}(B:BlockOk X scope N' ix)(f:X.calm=true)(hi:QIE cl X tg iter wi fi)
  (d:∀ C s H fp,QG cl [] (yT X scope N' C s H fp) tg t g) (b:∀ C s H fp,QIf cl (yT X scope N' C s H fp) ifs a c) (e:∀ C s H fp,QP cl (yT X scope N' C s H fp) elt te pe)
  (h:∀ x,foldedSetIterable iter X.env x=pure x:=by intro _;rfl):QE cl X (.ListComp elt [⟨tg,iter,ifs,0⟩] scope pos) (wK wi t a te ix) (uX fi g c pe ix) :=
 ⟨jbw B f hi.sem (λC s H fp=>(d C s H fp).sem) (λC s H fp=>(b C s H fp).sem) (λC s H fp=>(e C s H fp).sem) h,
  jgW hi.den (d 0 X.s₀ X.H₀ []).den (b 0 X.s₀ X.H₀ []).den (e 0 X.s₀ X.H₀ []).den⟩
end
noncomputable def jj9:D->Option (List KA×List D)
 | .dK true ks l=>some (ks,l)
 | _=>none
@[simp] theorem dkOwn_e(ks:List KA)(l:List D):jj9 (.dK true ks l)=some (ks,l):=rfl
@[simp] theorem wl:JT i ρ=(pV i ρ).bind λd=>(jj9 d).bind λk=>bif frzs k.2 then some (k.1.map kaD,ρ.set i (some (.dK false k.1 k.2))) else none:=by
 unfold JT pV;cases ρ[i]? with
 | none=>rfl
 | some x=>cases x with
  | none=>rfl
  | some d=>cases d with
   | dK o a l=>cases o<;>rfl
   | _=>rfl
@[simp] theorem pRev_e:jjz p ρ=(p ρ).bind λd=>match d with | .lst _ l=>bif frzs l then some (.lst true l.reverse) else none | _=>none:=by
 unfold jjz;cases p ρ with
 | none=>rfl
 | some d=>cases d<;>rfl
@[simp] theorem jfM(a b:List Nat):um (.str a) [.str b]=bif decide (0<=Vz a b) then some (.int (Vz a b)) else none:=rfl
end QD
namespace L2
open PySem PySem.Spec PyProof.Rows
theorem jgt:MtR X "str.index" (λx vs H Q=>∃ a b,x=.str a/\vs=[.str b]/\0<=Txt.find a b/\Q (.int (Txt.find a b)) H):=by
 intro d s σ H x vs v k Q I f g h;obtain⟨a,b,rfl,rfl,c,q⟩:=h;obtain⟨t,rfl⟩:=f;obtain⟨u,rfl,j⟩:=g.one;obtain⟨l,rfl⟩:=j;cases ho:PySem.Builtin.Str.occurrences a b 0 a.length 1 with
 | nil =>
  unfold Txt.find at c;rw[ho] at c;exact absurd c (by decide)
 | cons i rest =>
  have e:Txt.find a b=(i:Int):=by unfold Txt.find;rw[ho]
  rw[e] at q;exact SC.index (i:=i) (rest:=rest) ho ⟨.int _,H,I.tok _,⟨_,rfl⟩,q⟩
end L2
namespace QD
open PySem L2 PySem.Spec PyProof.Rows
theorem Go.from(g:Go Z H O Z' H' E)(h:∀ a∈O,a∈O'):Go Z H O' Z' H' E :=
 ⟨g.wf,g.zz,λa q n=>g.fr a q λz=>n (h a z),λa z=>(g.zn a z).elim .inl λq=>q.elim (λq=>.inr (.inl (h a q))) λq=>.inr (.inr q),λa q=>(g.sub a q).elim (λq=>.inl (h a q)) .inr,g.dm⟩
theorem Vc{l m:List Addr}(h:∀ c,l.count c<=m.count c)(n:m.Nodup):l.Nodup:=List.nodup_iff_count.mpr λc=>N8 (h c) (List.nodup_iff_count.mp n c)
theorem xp{l m:List Addr}(h:∀ c,l.count c<=m.count c):∀ c∈l,c∈m:=λc a=>List.count_pos_iff.mp (U5 (List.count_pos_iff.mpr a) (h c))
noncomputable def Qf(i j:Nat)(p:PF):FS:=λρ=>match p ρ with
 | none=>none
 | some d=>match ρ[i]? with
  | some (some (.lst true l))=>match l[j]? with
   | some (.lst true l')=>bif lim l'.length then some (.nx (ρ.set i (some (.lst true (l.set j (.lst true (l'++[d]))))))) else none
   | _=>none
  | _=>none
theorem jhU{pm:List Nat}{i j:Nat}(h:PP R te p):DS R pm (zu (tBM R.K "list" xk (tOp (rIx R.K) (JP i) (tC (.int (j:Int)))) (Y3 te jav))) (Qf i j p):=by
 intro σ ρ Z H O o w s e D' k;unfold Qf at e;cases e1:p ρ with
 | none=>rw[e1] at e;cases e
 | some d =>
  rw[e1] at e;dsimp only at e;split at e
  ·rename_i l hl;split at e
   ·rename_i V hj;cases hlim:lim V.length with
    | false=>rw[hlim] at e;cases e
    | true =>
     rw[hlim] at e;cases e;obtain⟨A,P,B,rfl,k1,k2,_⟩:=s.put (L9.mp hl).1;obtain⟨v,ev,r⟩:=k1 _ hl;rw[Rep] at r;obtain⟨a,I,O0,rfl,rs,ea,rfl⟩:=r;obtain⟨u,C,P',D,W,rfl,ru,J⟩:=rs.at hj;rw[Rep] at ru;obtain⟨b,g,t,rfl,L,X,rfl⟩:=ru;have hjl:j < I.length:=(L9.mp W).1;have Y:L2.atI I (j:Int)=some (.ref b):=jeS (i:=j) (by unfold ixN;rw[if_pos (by omega),if_pos (by omega)];simp) W;refine⟨.ref a,ev,.inl ⟨a,I,(j:Int),.ref b,rfl,rfl,SqL.of ea,Y,.inl ⟨rfl,g,SqL.of X⟩,?_⟩⟩;refine h w.zd s e1 λ{x T y P1} E r1=>?_;have eb1:y b=some (.lst g):=by rw[E.same b (by rw[X];exact λz=>(nomatch z))];exact X
     refine⟨b,g,x,rfl,rfl,eb1,by rw[L.length];exact x8 hlim,?_⟩;have U:Go Z H (A++(a::(C++(b::t)++D))++B) T y (P1++(A++(a::(C++(b::t)++D))++B)):=E.widen w;have gB:=Go.put (o:=.lst (g++[x])) U.wf (show b∈P1++(A++(a::(C++(b::t)++D))++B) by simp);have gC:=U.trans gB;have nd:=U.wf.nd;have G:∀ c,c∈P1 \/ c∈A \/ c=a \/ c∈C \/ c∈t \/ c∈D \/ c∈B->c≠b:=λc f e=>by
      have q:=List.nodup_iff_count.mp nd b;simp only[U9,List.count_cons,beq_self_eq_true,if_true] at q;subst e;have pos:∀{m:List Addr},c∈m->0 < m.count c:=λh=>List.count_pos_iff.mpr h;rcases f with f | f | f | f | f | f | f
      ·have:=pos f;omega
      ·have:=pos f;omega
      ·subst f;simp at q;omega
      ·have:=pos f;omega
      ·have:=pos f;omega
      ·have:=pos f;omega
      ·have:=pos f;omega
     have M:∀ c,T c->upd y b (.lst (g++[x])) c=y c:=λc f=>jm λz=>U.wf.nz b (by simp) (z▸f);have N:∀ c,Z c->upd y b (.lst (g++[x])) c=H c:=λc f=>by rw[M c (E.zz c f)];exact E.same c (w.zd c f)
     have n:∀ c,c∈A++(a::(C++(b::t)++D))++B->c≠b->upd y b (.lst (g++[x])) c=H c:=λc f hn=>by
      rw[jm hn];exact E.same c (w.od c f)
     have Q:=E.reps w.zd L;have S:Rep R T (upd y b (.lst (g++[x]))) (.lst true (V++[d])) (.ref b) (b::(t++P1)):=by
      rw[Rep];refine⟨b,g++[x],t++P1,rfl,(Q.append (.one r1)).frame (λ_ z=>z) M (λc f=>jm (G c ?_)),jy,rfl⟩;rcases N3.mp f with q | q
      ·exact .inr (.inr (.inr (.inr (.inl q))))
      ·exact .inl q
     have F:=J S E.zz N (λc f=>n c (by simp[f]) (G c (.inr (.inr (.inr (.inl f)))))) (λc f=>n c (by simp[f]) (G c (.inr (.inr (.inr (.inr (.inr (.inl f))))))));rw[yS W] at F;have ea1:upd y b (.lst (g++[x])) a=some (.lst I):=by rw[n a (by simp) (G a (.inr (.inr (.inl rfl))))];exact ea
     have rt:Rep R T (upd y b (.lst (g++[x]))) (.lst true (l.set j (.lst true (V++[d])))) (.ref a) (a::(C++(b::(t++P1))++D)):=by
      rw[Rep];exact⟨a,I,_,rfl,F,ea1,rfl⟩
     have sl:=k2 rt E.zz N (λc f=>n c (by simp[f]) (G c (.inr (.inl f)))) (λc f=>n c (by simp[f]) (G c (.inr (.inr (.inr (.inr (.inr (.inr f))))))));rw[yS ev] at sl;have le:∀ c,(A++(a::(C++(b::(t++P1))++D))++B).count c<=(P1++(A++(a::(C++(b::t)++D))++B)).count c:=λc=>by
      simp only[U9,List.count_cons];omega
     exact k (gC.drop (xp le) (Vc le nd)) sl (Keep.refl _ _)
   ·cases e
  ·cases e
noncomputable def jfp(i x:Nat)(pm:List Nat)(q:PTf)(fA fB:FS):FS:=λρ=>match ρ[i]? with
 | some (some (.lst true l))=>match l[l.length - 1]? with
  | none=>none
  | some it=>bif decide (x < ρ.length)&&(!decide (x∈pm)&&!decide (x=i)) then(match q (ρ.set x (some .dead)) with
   | none=>none
   | some true=>fA (ρ.set x (some .dead))
   | some false=>match fB ((ρ.set i none).set x (some it)) with
    | some (.nx ρ2)=>(match ρ2[x]? with
     | some (some d)=>bif decide (i < ρ2.length) then some (.nx ((ρ2.set x (some .dead)).set i (some (.lst true (l.set (l.length - 1) d))))) else none
     | _=>none)
    | _=>none) else none
 | _=>none
theorem jkS{R:RC}{pm:List Nat}{i x:Nat}{tj:TE}{pj:PF}{tt:TT}{q:PTf}{tA tB:TS}{fA fB:FS}(hj:PB R tj pj)(ej:∀ ρ,pj ρ=some (.int (-1)))(hq:PTt R tt q)(hA:DS R pm tA fA)(hB:DS R (i::x::pm) tB fB) :
  DS R pm (jlE (jgg (tOp (rIx R.K) (JP i) tj) (QH x)) (jks tt tA tB)) (jfp i x pm q fA fB):=by
 intro σ ρ Z H O o w s e D' k;unfold jfp at e;split at e
 ·rename_i l hl;cases hit:l[l.length - 1]? with
  | none=>rw[hit] at e;cases e
  | some it =>
   rw[hit] at e;dsimp only at e;cases hg:decide (x < ρ.length)&&(!decide (x∈pm)&&!decide (x=i)) with
   | false=>rw[hg] at e;cases e
   | true =>
    rw[hg,cond_true] at e;simp only[M0,decide_eq_true_eq,Bool.not_eq_true',decide_eq_false_iff_not] at hg;obtain⟨G,hxp,g⟩:=hg;have hi:i < ρ.length:=(L9.mp hl).1;have hln:l.length - 1 < l.length:=(L9.mp hit).1
    -- the item is read
    obtain⟨Ai,Pi,Bi,eOi,ki1,_,_⟩:=s.put hi;obtain⟨v0,ev,r⟩:=ki1 _ hl;rw[Rep] at r;obtain⟨a,m,Ol0,rfl,rs0,ea,_⟩:=r;have hvl:=rs0.length;have han:H a≠none:=by rw[ea];exact λz=>(nomatch z)
    obtain⟨v,hv⟩:∃ v,m[l.length - 1]?=some v:=⟨m[l.length - 1]'(by omega),by simp⟩;have hat:L2.atI m (-1)=some v:=jeS (i:=l.length - 1) (by
     unfold ixN;rw[if_neg (by decide),if_pos (by omega)];congr 1;omega) hv
    refine⟨.ref a,ev,hj w.zd s (ej ρ) λ{u0 Z1 H1 P0} g1 r0=>?_⟩;obtain⟨rfl,_⟩:=r0.int_of;have s1:=g1.slots w.zd s;have u:H1 a=some (.lst m):=by rw[g1.same a han];exact ea
    refine .inl ⟨a,m,-1,v,rfl,rfl,SqL.of u,hat,?_⟩
    -- it is stored
    have h:=g1.widen w;rw[X8] at h;obtain⟨Ax,Px,Bx,eO,kx1,kx2,_⟩:=s1.put G;rw[eO] at h;have y:Rep R Z1 H1 .dead v []:=by rw[Rep]
    have s2:=kx2 y (λ_ z=>z) (λ_ _=>rfl) (λ_ _=>rfl) (λ_ _=>rfl);have I:∀ c,(Ax++[]++Bx).count c<=(Ax++Px++Bx).count c:=λc=>by simp only[U9,List.count_nil];omega
    have J:=h.drop (xp I) (Vc I h.wf.nd);rw[<- eO] at J;have L:Keep pm σ (σ.set x (some v)):=Keep.set hxp;show tt (σ.set x (some v)) H1 _;cases eq:q (ρ.set x (some .dead)) with
    | none=>rw[eq] at e;cases e
    | some c =>
     rw[eq] at e;refine hq J.wf.zd s2 eq λ{Z3 H3} g3=>?_;have s3:=g3.slots J.wf.zd s2;have M:=g3.widen J.wf;rw[X8] at M;have j:=J.trans M;cases c with
     | true =>
      refine jhB ?_;exact hA j.wf s3 e (k.pre j L)
     | false =>
      refine jhz ?_;dsimp only at e;have N:H3 a=some (.lst m):=by rw[g3.same a (by rw[u];exact λz=>(nomatch z))];exact u
      have hi2:i < (ρ.set x (some D.dead)).length:=by rw[List.length_set];exact hi
      have hl2:(ρ.set x (some D.dead))[i]?=some (some (.lst true l)):=by rw[List.getElem?_set,if_neg g];exact hl
      obtain⟨A,P,B,Q,k1,_,k3⟩:=s3.put hi2;obtain⟨v3,S,r3⟩:=k1 _ hl2;have T:(σ.set x (some v))[i]?=some (some (.ref a)):=by rw[List.getElem?_set,if_neg g];exact ev
      rw[T] at S;cases S;rw[Rep] at r3;obtain⟨a',vs',Ol,ea',rs3,U,rfl⟩:=r3;cases ea';rw[N] at U;cases U;obtain⟨v',n,V,p,W,rfl,ri,X⟩:=rs3.at hit;rw[hv] at W;cases W
      -- the slots with the list out and the item in
      have hx4:x < ((ρ.set x (some D.dead)).set i none).length:=by rw[List.length_set,List.length_set];exact G
      obtain⟨A2,P2,B2,eO4,kk1,kk2,_⟩:=k3.put hx4;have hd4:((ρ.set x (some D.dead)).set i none)[x]?=some (some .dead):=by
       rw[List.getElem?_set,if_neg (λz=>g z.symm),List.getElem?_set,if_pos rfl,if_pos G]
      obtain⟨v4,_,r4⟩:=kk1 _ hd4;have eP2:P2=[]:=by rw[Rep] at r4;exact r4
      subst eP2;have s4:=kk2 ri (λ_ z=>z) (λ_ _=>rfl) (λ_ _=>rfl) (λ_ _=>rfl);have eσ:(σ.set x (some v)).set x (some v)=σ.set x (some v):=by rw[List.set_set]
      rw[eσ] at s4;have eρ:((ρ.set x (some D.dead)).set i none).set x (some it)=(ρ.set i none).set x (some it):=by
       rw[List.set_comm _ _ (λz=>g z),List.set_set]
      rw[eρ] at s4;cases e4:fB ((ρ.set i none).set x (some it)) with
      | none=>rw[e4] at e;cases e
      | some o4 =>
       rw[e4] at e;cases o4 with
       | nx F =>
        dsimp only at e;have wO:=j.wf;rw[Q] at wO;have Y:∀ c,A.count c+B.count c=A2.count c+B2.count c:=λc=>by
         have:=congrArg (List.count c) eO4;simpa [U9] using this
        have C:∀ c,(a::(n++p)++(A2++V++B2)++[]).count c<=(A++(a::(n++V++p))++B).count c:=λc=>by
         have:=Y c;simp only[U9,List.count_cons,List.count_nil];omega
        have leA:∀ c,(A++(a::(n++V++p))++B).count c<=(a::(n++p)++(A2++V++B2)++[]).count c:=λc=>by
         have:=Y c;simp only[U9,List.count_cons,List.count_nil];omega
        have wF:WF Z3 H3 (a::(n++p)++(A2++V++B2)++[]):=wO.sub (xp C) (Vc C wO.nd);refine hB wF.mid s4 e4 ?_;intro σ5 Z5 H5 O5 g5 s5 E;have g5f:=g5.frame wF;have keep:=(Go.keepA wF g5).1;split at e
        ·rename_i d hd5;cases f:decide (i < F.length) with
         | false=>rw[f] at e;cases e
         | true =>
          rw[f] at e;cases e;have f:=X6 f;have hx5:x < F.length:=(L9.mp hd5).1;obtain⟨A3,P3,B3,eO5,m1,m2,_⟩:=s5.put hx5;obtain⟨v5,ev5,r5⟩:=m1 _ hd5;have evx:σ5[x]?=some (some v):=by
           rw[E x (by simp),List.getElem?_set,if_pos rfl,if_pos (by rw[<- s.length] at G;exact G)]
          rw[evx] at ev5;cases ev5;have rd5:Rep R Z5 H5 .dead v []:=by rw[Rep]
          have s6:=m2 rd5 (λ_ z=>z) (λ_ _=>rfl) (λ_ _=>rfl) (λ_ _=>rfl);rw[yS evx] at s6;have t:=X r5 g5.zz (λb z=>g5.zH wF.mid b z) (λb hb=>keep b (by simp[hb])) (λb hb=>keep b (by simp[hb]));rw[yS hv] at t;have ea5:H5 a=some (.lst m):=by rw[keep a (by simp)];exact N
          have rl:Rep R Z5 H5 (.lst true (l.set (l.length - 1) d)) (.ref a) (a::(n++P3++p)):=by
           rw[Rep];exact⟨a,m,_,rfl,t,ea5,rfl⟩
          have hi6:i < (F.set x (some D.dead)).length:=by rw[List.length_set];exact f
          obtain⟨A4,P4,B4,eO6,_,n2,_⟩:=s6.put hi6;have s7:=n2 rl (λ_ z=>z) (λ_ _=>rfl) (λ_ _=>rfl) (λ_ _=>rfl);have evi:σ5[i]?=some (some (.ref a)):=by rw[E i (by simp)];exact T
          rw[yS evi] at s7;have le7:∀ c,(A4++(a::(n++P3++p))++B4).count c<=(a::(n++p)++O5++[]).count c:=λc=>by
           have q1:=congrArg (List.count c) eO5;have q2:=congrArg (List.count c) eO6;simp only[U9,List.count_nil] at q1 q2;simp only[U9,List.count_cons,List.count_nil];omega
          have g7:=(g5f.drop (xp le7) (Vc le7 g5f.wf.nd)).from (xp C);rw[<- Q] at g7;exact k (j.trans g7) s7 (L.trans (E.sub λb hb=>by simp[hb]))
        ·cases e
       | bk F=>cases e
       | ct F=>cases e
       | rt d F=>cases e
 ·cases e
theorem jdw{cl:Nat->Addr}{pm:List Nat}{X:Cx}{pos:Pos}{i j:Nat}{a apos cpos b c:Pos}{j2}(o:QB cl X (.Name x a) (JP i) (pV i))(h:QP cl X e te pe)
  (l:z9 (.Constant (.int (j:Int)) j2 b):=by exact λ_ _=>rfl)
  (f:attributeBase (.Subscript (.Name x a) (.Constant (.int (j:Int)) j2 b) c) "append" X.env (eval (.Subscript (.Name x a) (.Constant (.int (j:Int)) j2 b) c) X.env)=eval (.Subscript (.Name x a) (.Constant (.int (j:Int)) j2 b) c) X.env:=by rfl)
  (k:((backTo cpos (starEach [e] X.env)).all (λx=>!x.1)&&(backToKw cpos (keywordEach [] X.env)).all (λx=>x.1.isSome)
   && decide ([e].length+([]:List Keyword).length+(if([]:List Keyword).isEmpty then 0 else 1) < 30))=true:=by rfl)
  (g:(apos.endLine==cpos.line)=true:=by rfl) (n:starEach [e] X.env=(false,eval e X.env)::starEach [] X.env:=by rfl) (d:(backTo cpos (starEach [] X.env)).any (·.1)=false:=by rfl)
  (m:swapsWith (.Call (.Attribute (.Subscript (.Name x a) (.Constant (.int (j:Int)) j2 b) c) "append" apos) [e] [] cpos) none pos.line X.env=pure false:=by rfl) :
  QS cl pm X (.Expr (.Call (.Attribute (.Subscript (.Name x a) (.Constant (.int (j:Int)) j2 b) c) "append" apos) [e] [] cpos) pos) (zu (tBM X.K "list" xk (tOp (rIx X.K) (JP i) (tC (.int (j:Int)))) (Y3 te jav))) (Qf i j pe) :=
 ⟨xo (jga PySem.F.plainAttrs_list PySem.F.slot_list_append PySem.F.type_list_append Q6 (jhT jdA o.sem jhb l) (Y9 h.sem zE n) f k g n d) m,jhU h.den⟩
theorem jjw(h:X.N.Nodup)(k:QB cl X (.Name rn rpos) (JP i) (pV i))(b:QB cl X j tj pj)(l:∀ ρ,pj ρ=some (.int (-1)))(d:QT cl X c tt q)(e:QSs cl pm X A ts f)(g:QSs cl (i::x::pm) X B tu fe)
  (hi:X.N[x]?=some xn:=by rfl) (m:Loc X.env.scope xn:=by first | exact Or.inl rfl | exact Or.inr rfl) (a:z9 j:=by exact λ_ _=>rfl)
  (n:swapsWith (.Subscript (.Name rn rpos) j spos) (some (.Name xn xpos)) apos.line X.env=pure false:=by rfl)
  (o:X.fn xn=true \/ X.env.scope.names.lookup xn=some .local:=by first | exact .inl rfl | exact .inr rfl) :
  QSs cl pm X [.Assign [.Name xn xpos] (.Subscript (.Name rn rpos) j spos) apos,.If c A B ipos] (jlE (jgg (tOp (rIx X.K) (JP i) tj) (QH x)) (jks tt ts tu)) (jfp i x pm q f fe) :=
 ⟨jbV (jhr h hi m (jhT jdA k.sem b.sem a) n o) (jdP (jmb d.sem e.sem g.sem)),jkS b.den l d.den e.den g.den⟩
end QD
namespace PySem
open Sem (wp)
namespace F
theorem lk_tuple_keys:typeLookup (.type "tuple") "keys" = pure none:=by rw[typeLookup_type,builtinLookup_eq_fast];kernel_rfl
theorem lk_tuple_getattr:typeLookup (.type "tuple") "__getattr__" = pure none:=by rw[typeLookup_type,builtinLookup_eq_fast];kernel_rfl
end F
section
variable {prog:Program}{w:World}{A:Around}{E:Value->Shared->Prop}{h:Heap}{g:Array GenState}{d:Drawn}{t:Nat}{os:OsState}{a:Addr}{o:Obj}
theorem jbv{its:Array Value}{n:Nat}{sl:Array (Option Value)}{tk:Tok}{Q:Fin->Shared->Prop}(c:A.handled=none)(f:h.get? a=some { cls:=.type "tuple",data:=.seq its n,slots:=sl })
  (i:∀ h' e t',(∀ b o,h.get? b=some o->h'.get? b=some o)->h.get? e=none->(∃ ob,h'.get? e=some ob/\ob.cls=.type "AttributeError")->E (.ref e) ⟨h',g,d,t',os⟩) :
  wpAny (model prog w) A (Builtin.«object.__getattribute__» ⟨[.ref a,.str "keys" tk],[]⟩) Q E ⟨h,g,d,t,os⟩:=by
 have j:(⟨h,g,d,t,os⟩:Shared).TypeIs (.ref a) "tuple":=⟨_,f,rfl⟩;have k:=F.lk_tuple_keys
 repeat (any_goals (first | assumption | wp_step))
 exact KU (by decide +kernel) c i
theorem jcK{its:Array Value}{n:Nat}{sl:Array (Option Value)}{tk:Tok}{R:Result->Shared->Prop}(f:A.handled=none)(c:h.get? a=some { cls:=.type "tuple",data:=.seq its n,slots:=sl })
  (i:∀ h' e t',(∀ b o,h.get? b=some o->h'.get? b=some o)->h.get? e=none->(∃ ob,h'.get? e=some ob/\ob.cls=.type "AttributeError")->R (.error (.ref e)) ⟨h',g,d,t',os⟩) :
  codeAny (model prog w) A (.call (.builtin "tuple.__getattribute__") ⟨[.ref a,.str "keys" tk],[]⟩) R ⟨h,g,d,t,os⟩:=by
 refine codeAny_call_builtin F.slot_tuple_getattribute.plain F.entry_tuple_ga (F.slot_tuple_getattribute.check _ _ _ _ _ _ _ _ (show(⟨h,g,d,t,os⟩:Shared).TypeIs (.ref a) "tuple" from⟨_,c,rfl⟩) (F.args_tuple_getattribute_2 _ _) ?_);exact jbv (show A.in1.handled=none from f) c i
theorem jgm{its:Array Value}{n:Nat}{sl:Array (Option Value)}{tk:Tok}{Q:Value->Shared->Prop}(k:A.handled=none)(i:h.get? a=some { cls:=.type "tuple",data:=.seq its n,slots:=sl })
  (l:∀ h' e t',(∀ b o,h.get? b=some o->h'.get? b=some o)->h.get? e=none->(∃ ob,h'.get? e=some ob/\ob.cls=.type "AttributeError")->E (.ref e) ⟨h',g,d,t',os⟩) :
  wpAny (model prog w) A (getAttrBy (.ref a) (.str "keys" tk) false) Q E ⟨h,g,d,t,os⟩:=by
 have u:(⟨h,g,d,t,os⟩:Shared).TypeIs (.ref a) "tuple":=⟨_,i,rfl⟩;have v:=F.sub_attrErr;have x:=F.slot_tuple_getattribute.lookup;have y:=F.slot_tuple_getattribute.bind (.ref a);have z:=F.lk_tuple_getattr
 repeat (any_goals (first | assumption | wp_step))
 refine jcK k i λh' e t' m p j=>?_;have c:=j;obtain⟨ob,f,q⟩:=j;have r:(⟨h',g,d,t',os⟩:Shared).TypeIs (.ref e) "AttributeError":=⟨_,f,q⟩;have s:=l h' e t' m p c;show wpAny (model prog w) A (getattributeRaised (Value.ref a) (Value.str (Str.ofString "keys") tk) (Value.type "tuple") (.ref e) none false false) Q E _;unfold getattributeRaised
 repeat (any_goals (first | assumption | wp_step))
theorem jcN{its:Array Value}{n:Nat}{sl:Array (Option Value)}{Q:Option Value->Shared->Prop}(f:A.handled=none)(i:h.get? a=some { cls:=.type "tuple",data:=.seq its n,slots:=sl })
  (j:∀ h' t',(∀ b o,h.get? b=some o->h'.get? b=some o)->Q none ⟨h',g,d,t',os⟩):wpAny (model prog w) A (getAttr? (.ref a) "keys") Q E ⟨h,g,d,t,os⟩:=by
 unfold getAttr? getAttrBy?
 refine L3 (wpAny_mkText (L3 ?_));refine wpAny_attempt ?_;refine jgm f i λh' e t' k r l=>?_;obtain⟨ob,c,m⟩:=l;have p:(⟨h',g,d,t',os⟩:Shared).TypeIs (.ref e) "AttributeError":=⟨_,c,m⟩;have s:=F.sub_attrErr;have q:=j h' t' k
 repeat (any_goals (first | assumption | wp_step))
end
section
variable {prog:Program}{w:World}{K:Type} [DecidableEq K] {knd:KeyKind prog w K}{A:Around}{E:Value->Shared->Prop}{s:Shared}
theorem jcF{R:Result->Shared->Prop}(hh:A.handled=none)  (q:ax≠I) (h:D≠I) (P:D≠ax) {items:Array Value}{ps:List (K×Value)}(r:items.size=ps.length):∀(k i:Nat) (s:Shared) (kvs:List (K×Value)),
  items.size - i=k->i<=items.size->(s.heap.IsTupleIter I ax i/\s.heap.IsTuple ax items)->s.heap.DictOf knd D kvs ->
  (∀(j:Nat) (v:Value),items[j]?=some v->∃ kv,ps[j]?=some kv/\u9 knd s.heap v kv/\v≠.ref I/\v≠.ref D)->kvs.length+k<=100000 ->
  (∀ h' tk,h'.DictOf knd D ((ps.drop i).foldl (λa kv=>stored a kv.1 kv.2) kvs)->(∀ b o,b≠I->b≠D->s.heap.get? b=some o->h'.get? b=some o)->R (.ok (.ret .none)) { s with heap:=h',toks:=tk }) ->
  codeAny (model prog w) A (.builtin "dict.update.loop" ⟨[.ref D,.ref I,rawInt i,.none],[]⟩) R s:=by
 intro k
 induction k with
 | zero =>
  intro i s kvs hk hi l hd Q hz S;have T:i=items.size:=by omega
  subst T;have W:=Walks.tuple (prog:=prog) (w:=w) (A:=A.in1) (by exact hh) I ax q items;refine codeAny_builtin F.entry_dict_loop ?_;rw[Around.under_plainId F.plain_dict_loop _];show wpAny _ A.in1 (pyNext (.ref I) >>= _) _ _ s;refine L3 (W.done s _ _ l λh' tk c=>?_);have fin:=S h' tk (by rw[r,List.drop_length];exact hd.extBut (b:=I) (λb o d e=>c b o (by simpa using d) e) h) (λb o d _ e=>c b o (by simpa using d) e);unfold Builtin.Dict.addKeywords
  repeat (any_goals (first | assumption | wp_step))
 | succ k ih =>
  intro i s kvs hk hi l hd Q hz S;have t:i < items.size:=by omega
  have W:=Walks.tuple (prog:=prog) (w:=w) (A:=A.in1) (by exact hh) I ax q items;refine codeAny_builtin F.entry_dict_loop ?_;rw[Around.under_plainId F.plain_dict_loop _];show wpAny _ A.in1 (pyNext (.ref I) >>= _) _ _ s;refine L3 (W.item i s _ _ t l λv h' tk hP u c=>?_);obtain⟨kv,x,⟨p,y,m,po,rfl,U,V,X,B⟩,Y,hvD⟩:=Q i v hP;have C:h'.get? p=some po:=c p _ (by simpa using λz=>Y (by rw[z])) U;have Z:h'.DictOf knd D kvs:=hd.extBut (b:=I) (λb o d e=>c b o (by simpa using d) e) h;refine L3 (wpAny_holding ?_);refine L3 (wpAny_tryCatch (K4 C V X ?_));show wpAny _ _ (holding [y,kv.2] (dictSet D y kv.2)) _ _ _;have hsz:sizeLine=16777216:=by decide
  refine wpAny_holding (wpAny_dictSet_pairs B Z (λh'' E hs=>?_) (by omega));refine M7 ⟨plainId_quiet F.plain_dict_loop _,?_⟩;have hd2:ps.drop i=kv::ps.drop (i+1):=by
   have G:i < ps.length:=by omega
   rw[List.drop_eq_getElem_cons G];have:ps[i]=kv:=by
    rw[X9 G] at x;exact X7 x
   rw[this]
  refine ih (i+1) _ (stored kvs kv.1 kv.2) (by omega) t (W.frame (i+1) h' h'' u λb d o e=>(hs.2 b ?_).trans e) E (λj v hv=>?_) ?_ λh3 tk3 hd3 hk3=>?_
  ·rcases M5.mp d with rfl | d
   ·exact λz=>h z.symm
   ·rw[M8.mp d];exact λz=>P z.symm
  ·obtain⟨kv',H,⟨p',J,m',po',rfl,L,M,N,n⟩,f,g⟩:=Q j v hv;refine⟨kv',H,⟨p',J,m',po',rfl,?_,M,N,n⟩,f,g⟩;exact(hs.2 p' λz=>g (by rw[z])).trans (c p' _ (by simpa using λz=>f (by rw[z])) L)
  ·have:=stored_length_le kvs kv.1 kv.2;omega
  ·refine S h3 tk3 ?_ λb o d O e=>hk3 b o d O ((hs.2 b O).trans (c b o (by simpa using d) e));rw[hd2,X2];exact hd3
theorem Q9{p:Addr}{its:Array Value}{n:Nat}{sl:Array (Option Value)}{ps:List (K×Value)}{Q:Value->Shared->Prop}(O:A.handled=none)(x:s.heap.get? p=some { cls:=.type "tuple",data:=.seq its n,slots:=sl })(k:its.size=ps.length)
  (S:∀(j:Nat) (v:Value),its[j]?=some v->∃ kv,ps[j]?=some kv/\u9 knd s.heap v kv) (hz:ps.length<=100000)
  (h:∀ h' tk,h'.DictOf knd s.heap.objs.size (ps.foldl (λa kv=>stored a kv.1 kv.2) [])->(∀ b o,s.heap.get? b=some o->h'.get? b=some o)->Q (.ref s.heap.objs.size) { s with heap:=h',toks:=tk }) :
  wpAny (model prog w) A (call (.type "dict") [.ref p]) Q E s:=by
 refine callType_codes (Q₁:=λobj P=>obj=.ref s.heap.objs.size/\P={ s with heap:=s.heap.push { cls:=.type "dict",data:=.dict #[] } }) F.kt_called_dict (F.kt_typeCall_dict_1 _) F.entry_dict_init (kt_code_dict_new _ ⟨rfl,rfl⟩) ?_;rintro obj P ⟨rfl,rfl⟩;have c:(s.heap.push { cls:=.type "dict",data:=.dict #[] }).DictOf knd s.heap.objs.size []:=Heap.DictOf.new s.heap;refine⟨c.typeIs,F.args_dict_init_2 _ _,?_⟩;have f:(s.heap.push { cls:=.type "dict",data:=.dict #[] }).get? p=some { cls:=.type "tuple",data:=.seq its n,slots:=sl }:=L8 _ x;have R:s.heap.get? s.heap.objs.size=none:=Heap.get?_none_of_le (M9 _);unfold Builtin.«dict.__init__»;refine L3 ?_;unfold Builtin.Dict.selfAndRest;refine L3 (wpAny_notOrdered_dict c.typeIs ?_);show wpAny _ _ (pure (s.heap.objs.size,[Value.ref p])) _ _ _;refine M7 ?_;show wpAny _ _ (Builtin.Dict.updateFrom "dict.__init__" s.heap.objs.size (.ref p) [] .none) _ _ _;unfold Builtin.Dict.updateFrom;refine L3 (wpAny_typeOf (T:="tuple") ⟨_,f,rfl⟩ ?_);rw[if_pos (by decide)];refine L3 ?_;refine jcN (its:=its) (n:=n) ?_ f λl X d=>?_
 ·exact O
 ·rw[if_pos (show(Option.isNone (none:Option Value))=true from rfl)];refine L3 (wpAny_rule ?_);have g:=d p _ f;have y:l.IsTuple p its:=⟨_,g,rfl,n,rfl⟩;refine L3 (wpAny_pyIter_tuple y ?_);have B:=d s.heap.objs.size _ (E2 _ rfl);have C:p≠l.objs.size:=N7 (N1 g);have q:s.heap.objs.size≠l.objs.size:=N7 (N1 B);have D:s.heap.objs.size≠p:=λz=>by rw[<- z,R] at x;cases x
  refine M7 ⟨plainId_quiet F.plain_dict_loop _,?_⟩;refine jcF (A:=A.in1) (knd:=knd) (show A.in1.handled=none from O) C q D k its.size 0 _ [] (by omega) (U6 _) ⟨⟨_,E2 _ rfl,rfl,rfl⟩,?_⟩ ?_ (λU v V=>?_) (by simp;omega) λW G H I=>?_
  ·exact⟨_,L8 _ g,rfl,n,rfl⟩
  ·exact c.extBut (b:=l.objs.size) (λb o Y e=>L8 _ (d b o e)) q
  ·obtain⟨kv,J,u,L,m,po,rfl,i,M,N,r⟩:=S U v V;have t:=d u _ (L8 _ i);refine⟨kv,J,⟨u,L,m,po,rfl,L8 _ t,M,N,r⟩,λz=>?_,λz=>?_⟩
   ·have z:u=l.objs.size:=by injection z
    exact absurd z (N7 (N1 t))
   ·have z:u=s.heap.objs.size:=by injection z
    rw[z,R] at i;cases i
  ·refine⟨rfl,h W G H λb o e=>?_⟩;have t:=d b o (L8 _ e);exact I b o (N7 (N1 t)) (N7 (N1 e)) (L8 _ t)
end
end PySem
namespace L2
open PySem PySem.Spec PyProof.Rows
def jmm(K:PySem.W.Frag)(H:Hp)(p:Addr)(ys:List V):Prop:=Rd H p (.tup ys) \/ ∃(o:Obj) (its:Array Value) (n:Nat),K.lookup p=some o/\o.cls=.type "tuple"/\o.data=.seq its n/\its.size<=sizeLine/\Vals ys its.toList/\o.dict=none
theorem Inv.tupN(I:Inv X pins σ H s)(h:jmm X.K H p ys):∃(its:List Value) (o:Obj) (n:Nat),Vals ys its/\s.heap.get? p=some o/\o.cls=.type "tuple"/\o.data=.seq its.toArray n/\o.dict=none:=by
 rcases h with h | ⟨o,its,n,f,g,i,m,j,k⟩
 ·obtain⟨_,its,l,⟨o,e,a,n,b⟩,q,d,c⟩:=(show ObjOk X.prog X.w H s.heap p (.tup ys) from h.ok I.hok);rw[e] at d;cases d;exact⟨its,o,n,l,e,a,b,c⟩
 ·exact⟨its.toList,o,n,j,I.kIn p o f,g,by simpa using i,k⟩
theorem xS{X:Cx}(C:X.calm=true):Vy X (.type "dict") (λxs H Q=>∃(p:Addr) (ys:List V) (ps:List (Key×V)),xs=[.ref p]/\jmm X.K H p ys/\ys.length=ps.length/\ps.length<=100000 /\
  (∀(j:Nat) (y:V),ys[j]?=some y->∃ kv t,ps[j]?=some kv/\y=.ref t/\SqT X.K H t [kV kv.1,kv.2])/\∀ D,H D=none->Q (.ref D) (upd H D (.dK (ps.foldl (λa kv=>Kb a kv.1 kv.2) [])))):=by
 intro x s σ H xs R Q I r h;obtain⟨p,ys,ps,rfl,E,z,F,G,q⟩:=h;obtain⟨u,rfl,J⟩:=r.one;cases J;obtain⟨i,o,n,A,e,b,c,d⟩:=I.tupN E;obtain⟨S,od,k,L⟩:=o;dsimp only at b d c;subst b d c;obtain⟨B,rel,l⟩:=ue I A z G;have f:i.toArray.size=B.length:=by rw[N4,<- A.length,z,rel.length]
 refine Q9 (knd:=yp X.prog X.w) (I.ok.hd C) e f (λj v M=>l j v (by simpa using M)) (by rw[<- rel.length];exact F) λT N hd O=>?_;have g:=wJ rel (.nil:KV ([]:List (Key×V)) []);have m:=jaK (ps:=ps) (qs:=[]);have P:sizeLine=16777216:=by decide
 exact⟨.ref s.heap.objs.size,_,I.laid (a:=s.heap.objs.size) (o:=.dK (ps.foldl (λa kv=>Kb a kv.1 kv.2) [])) (t':=N) O (M9 _) (jb0 (by simp at m;omega) (U3.mpr (Ne.symm (N7 I.big))) g hd),rfl,q _ (I.hok.fresh (M9 _))⟩
end L2
namespace QD
open PySem L2 PySem.Spec PyProof.Rows
theorem FT.tupN(h:FT R Z H a vs):jmm R.K H a vs:=by
 rcases h with⟨_,h⟩ | h
 ·exact .inl h
 ·exact .inr h
noncomputable def xI:List D->Option D
 | [.tup l]=>(JW l).bind λps=>bif frzs (ps.map (·.2))&&lim ps.length then some (.dK true (YJ ps).1 (YJ ps).2) else none
 | _=>none
@[simp] theorem KC(l:List D):xI [.tup l]=(JW l).bind λps=>bif frzs (ps.map (·.2))&&lim ps.length then some (.dK true (YJ ps).1 (YJ ps).2) else none:=rfl
theorem jbP:BC R (λxs H Q=>∃(p:Addr) (ys:List V) (ps:List (Key×V)),xs=[.ref p]/\jmm R.K H p ys/\ys.length=ps.length/\ps.length<=100000 /\
  (∀(j:Nat) (y:V),ys[j]?=some y->∃ kv t,ps[j]?=some kv/\y=.ref t/\SqT R.K H t [kV kv.1,kv.2])/\∀ D,H D=none->Q (.ref D) (upd H D (.dK (ps.foldl (λa kv=>Kb a kv.1 kv.2) [])))) xI:=by
 intro Z H xs d B O z r e Q k
 match xs,e,r with
 | [.tup l],e,r =>
  simp only[xI] at e;cases e1:JW l with
  | none=>rw[e1] at e;cases e
  | some ps =>
   rw[e1,L4] at e;cases hm:frzs (ps.map (·.2))&&lim ps.length with
   | false=>rw[hm] at e;cases e
   | true =>
    rw[hm] at e;cases e;rw[M0] at hm;obtain⟨v,rfl,i⟩:=r.one_of;rw[Rep] at i;obtain⟨p,ys,rfl,o,s⟩:=i;obtain⟨m,b,u,q⟩:=Qd e1 s hm.1;obtain⟨f,w,A,g⟩:=KO (ks:=[]) (l:=[]) (us:=[]) b .empty rfl;have c:m.length=ps.length:=by rw[b.length];simp
    refine⟨p,ys,(ps.map λp=>kaV p.1).zip m,rfl,o.tupN,by simp[u,c],by simp[c];exact X6 hm.2,q,λD n=>?_⟩;refine k (Go.newO (wf0 z) n) ?_;have ne:∀ a,H a≠none->a≠D:=λa h e=>h (e▸n);rw[Rep];exact⟨D,f,[],rfl,w.frame (λa z=>z) (λa h=>jm (ne a (z a h))) (λa h=>(nomatch h)),g,by show upd H D _ D=some _;rw[jy];exact congrArg (λx=>some (HO.dK x)) A.symm,rfl⟩
noncomputable def pFz(p:PF):PF:=λρ=>(p ρ).bind λd=>some (fz d)
@[simp] theorem pFz_e:pFz p ρ=(p ρ).bind λd=>some (fz d):=rfl
theorem jmY(h:PP R te p):PB R te (pFz p):=by
 intro σ ρ Z H O d z s e Q k;unfold pFz at e;cases e1:p ρ with
 | none=>rw[e1] at e;cases e
 | some x =>
  rw[e1,L4] at e;cases e;refine h z s e1 λ{v b c P} g r=>?_;exact k (P:=[]) g.fz (r.freeze (Z':=λa=>b a \/ a∈P) (λa z=>.inl z) λa z=>.inr z)
theorem QP.fzb(h:QP cl X e te pe):QB cl X e te (pFz pe):=⟨h.sem,jmY h.den⟩
end QD
namespace L2
open PySem PySem.Spec PyProof.Rows
end L2
namespace QD
open PySem L2 PySem.Spec PyProof.Rows
end QD
namespace L2
open PySem PySem.Spec PyProof.Rows
end L2
namespace QD
open PySem L2 PySem.Spec PyProof.Rows
end QD
namespace L2
open PySem PySem.Spec PyProof.Rows
end L2
namespace QD
open PySem L2 PySem.Spec PyProof.Rows
noncomputable def wc:List Str->List D->Str->Option D
 | n::ns,d::l,f=>if f=n then some d else wc ns l f
 | _,_,_=>none
theorem jeV:∀{ns:List Str}{l:List D}{vs:List V}{O:List Addr},Reps R Z H l vs O->ns.length=l.length->wc ns l f=some d->∃ v P,(ns.zip vs).lookup f=some v/\Rep R Z H d v P
 | [],l,vs,O,_,_,h=>by cases l<;>cases h
 | n::ns,[],vs,O,_,a,_=>by simp at a
 | n::ns,x::l,vs,O,r,a,h=>by
  rw[Reps] at r;obtain⟨v,b,O1,O2,rfl,rfl,c,g⟩:=r;rw[wc] at h;by_cases e:f=n
  ·rw[if_pos e] at h;cases h;exact⟨v,O1,by rw[U8,List.lookup_cons,e];simp,c⟩
  ·rw[if_neg e] at h;obtain⟨w,P,i,j⟩:=jeV g (by simpa using a) h;refine⟨w,P,?_,j⟩;rw[U8,List.lookup_cons];have:(f==n)=false:=by simp[e]
   rw[this];exact i
noncomputable def Kk(c:Nat)(f:Str)(p:PF):PF:=λρ=>match p ρ with
 | some (.ins _ c' ns l)=>bif c'==c then wc ns l f else none
 | _=>none
theorem jlW(m:Cls R.K (R.cls c))(n:NoAttr R.K (R.cls c) f)(h:PB R ta p):PB R (jj5 R.K ta f) (Kk c f p):=by
 intro σ ρ Z H O d z s e Q k;unfold Kk at e;split at e
 ·rename_i o i ns l q;cases hc:i==c with
  | false=>rw[hc] at e;cases e
  | true =>
   rw[hc] at e;have b:i=c:=by simpa using hc
   subst b;have e:wc ns l f=some d:=e;refine h z s q λ{v B C P1} r j=>?_;rw[Rep] at j;obtain⟨a,t,D,E,rfl,u,x,y,_⟩:=j;obtain⟨w,P,A,g⟩:=jeV u x e;exact⟨a,_,t,_,w,rfl,y,m,n,A,k r g⟩
 ·cases e
noncomputable def Yz:List Str->List D->Str->D->List Str×List D
 | n::ns,x::l,f,d=>if n=f then(n::ns,d::l) else(n::(Yz ns l f d).1,x::(Yz ns l f d).2)
 | _,_,f,d=>([f],[d])
theorem u3(rd:Rep R Z H d v P):∀{ns:List Str}{l:List D}{vs:List V}{O:List Addr},Reps R Z H l vs O->ns.length=l.length ->
  ∃ vs2 O2,Reps R Z H (Yz ns l f d).2 vs2 O2/\(Yz ns l f d).1.zip vs2=wZ f v (ns.zip vs)/\(Yz ns l f d).1.length=(Yz ns l f d).2.length/\∀ c,O2.count c<=O.count c+P.count c
 | [],[],vs,O,r,_=>by
  rw[Reps] at r;obtain⟨rfl,rfl⟩:=r;exact⟨[v],P,.one rd,rfl,rfl,λc=>by simp⟩
 | [],_::_,_,_,_,a=>by simp at a
 | _::_,[],_,_,_,a=>by simp at a
 | n::ns,x::l,vs,O,r,a=>by
  rw[Reps] at r;obtain⟨u,b,O1,O2,rfl,rfl,h,g⟩:=r;rw[Yz];by_cases e:n=f
  ·rw[if_pos e];refine⟨v::b,P++O2,Reps.cons rd g,?_,a,λc=>by simp only[U9];omega⟩;rw[U8,U8,wZ,if_pos e]
  ·rw[if_neg e];obtain⟨vs2,i,j,k,m,o⟩:=u3 (f:=f) rd g (by simpa using a);refine⟨u::vs2,O1++i,Reps.cons h j,?_,by simp[m],λc=>by have:=o c;simp only[U9];omega⟩;rw[U8,U8,wZ,if_neg e,k]
noncomputable def V0(i c:Nat)(f:Str)(pv:PF):FS:=λρ=>match pv ρ with
 | none=>none
 | some d=>match ρ[i]? with
  | some (some (.ins true c' ns l))=>bif c'==c&&decide (ns.length<=900) then some (.nx (ρ.set i (some (.ins true c (Yz ns l f d).1 (Yz ns l f d).2)))) else none
  | _=>none
theorem jll{R:RC}{pm:List Nat}{i c:Nat}{f:Str}{tv:TE}{pv:PF}(S:Cls R.K (R.cls c))(T:NoAttr R.K (R.cls c) f)(U:PP R tv pv):DS R pm (jmJ R.K (JP i) tv f) (V0 i c f pv):=by
 intro σ ρ Z H O o w s e D' k;unfold V0 at e;cases e1:pv ρ with
 | none=>rw[e1] at e;cases e
 | some d =>
  rw[e1] at e;dsimp only at e;split at e
  ·rename_i n ns l J;cases hm:n==c&&decide (ns.length<=900) with
   | false=>rw[hm] at e;cases e
   | true =>
    rw[hm] at e;cases e;rw[M0] at hm;have D:n=c:=by simpa using hm.1
    subst D;refine U w.zd s e1 λ{u E x P1} L V=>?_;have W:=L.slots w.zd s;obtain⟨A,P,B,rfl,X,Y,_⟩:=W.put (L9.mp J).1;obtain⟨v,M,r⟩:=X _ J;rw[Rep] at r;obtain⟨a,p,vs,y,rfl,rs,F,ea,rfl⟩:=r;refine⟨.ref a,M,a,_,p,_,rfl,ea,S,T,?_,?_⟩
    ·rw[List.length_zip];have:=X6 hm.2;exact E3 (Nat.min_le_left _ _) (by omega)
    ·have C:Go Z H (A++(a::y)++B) E x (P1++(A++(a::y)++B)):=L.widen w;obtain⟨j,O2,r3,e3,l3,N⟩:=u3 (f:=f) V rs F;rw[<- e3];have gB:=Go.put (o:=.ins (R.cls n) p ((Yz ns l f d).1.zip j)) C.wf (show a∈P1++(A++(a::y)++B) by simp);have gC:=C.trans gB;have nd:=C.wf.nd;have G:=List.nodup_iff_count.mp nd a;simp only[U9,List.count_cons,beq_self_eq_true,if_true] at G;have pos:∀{m:List Addr},a∈m->0 < m.count a:=λh=>List.count_pos_iff.mpr h;have t:∀ b,E b->upd x a (.ins (R.cls n) p ((Yz ns l f d).1.zip j)) b=x b:=λb g=>jm λz=>C.wf.nz a (by simp) (z▸g);have I:∀ b∈O2,b≠a:=λb g z=>by subst z;have:=pos g;have:=N b;omega
     have nA:∀ b∈A,b≠a:=λb g z=>by subst z;have:=pos g;omega
     have nB:∀ b∈B,b≠a:=λb g z=>by subst z;have:=pos g;omega
     have rt:Rep R E (upd x a (.ins (R.cls n) p ((Yz ns l f d).1.zip j))) (.ins true n (Yz ns l f d).1 (Yz ns l f d).2) (.ref a) (a::O2):=by
      rw[Rep];exact⟨a,p,j,O2,rfl,r3.frame (λ_ z=>z) t (λb g=>jm (I b g)),l3,jy,rfl⟩
     have sl:=Y rt (λ_ z=>z) t (λb g=>jm (nA b g)) (λb g=>jm (nB b g));rw[yS M] at sl;have Q:∀ q,(A++(a::O2)++B).count q<=(P1++(A++(a::y)++B)).count q:=λq=>by
      have:=N q;simp only[U9,List.count_cons];omega
     exact k (gC.drop (xp Q) (Vc Q nd)) sl (Keep.refl _ _)
  ·cases e
theorem Qo(b:Cls X.K (cl c))(d:NoAttr X.K (cl c) f)(a:QB cl X o to po)(e:attributeBase o f X.env (eval o X.env)=eval o X.env:=by rfl):QB cl X (.Attribute o f pos) (jj5 X.K to f) (Kk c f po):=⟨jhF a.sem e,jlW (R:=⟨X.K,cl⟩) b d a.den⟩
theorem Kz(b:Cls X.K (cl c))(d:NoAttr X.K (cl c) f)(g:QB cl X (.Name x xpos) (JP i) (pV i))(a:QP cl X e te pe)(h:swapsWith e (some (.Attribute (.Name x xpos) f pos')) pos.line X.env=pure false:=by rfl) :
  QS cl pm X (.Assign [.Attribute (.Name x xpos) f pos'] e pos) (jmJ X.K (JP i) te f) (V0 i c f pe):=⟨jkU g.sem a.sem h,jll (R:=⟨X.K,cl⟩) b d a.den⟩
noncomputable def jjX:List Str->Str->Option Nat
 | [],_=>none
 | n::ns,f=>if f=n then some 0 else(jjX ns f).map (·+1)
theorem jbJ:∀{ns:List Str}{f:Str}{vs:List V}{j:Nat}{v:V},jjX ns f=some j->ns.length=vs.length->vs[j]?=some v->(ns.zip vs).lookup f=some v
 | [],_,_,_,_,h,_,_=>by cases h
 | n::ns,f,[],_,_,_,a,_=>by simp at a
 | n::ns,f,u::vs,j,v,h,a,b=>by
  rw[jjX] at h;by_cases e:f=n
  ·rw[if_pos e] at h;cases h;cases b;rw[U8,List.lookup_cons,e];simp
  ·rw[if_neg e] at h;cases hp:jjX ns f with
   | none=>rw[hp] at h;cases h
   | some i =>
    rw[hp] at h;cases h;rw[U8,List.lookup_cons,show(f==n)=false by simp[e]];exact jbJ hp (by simpa using a) (by simpa using b)
theorem ub:∀{ns:List Str}{l:List D}{vs:List V},ns.length=l.length->vs.length=l.length->wc ns l f=none->(ns.zip vs).lookup f=none
 | [],_,_,_,_,_=>rfl
 | n::ns,[],_,a,_,_=>by simp at a
 | n::ns,x::l,[],_,b,_=>by simp at b
 | n::ns,x::l,v::vs,a,b,h=>by
  rw[wc] at h;by_cases e:f=n
  ·rw[if_pos e] at h;cases h
  ·rw[if_neg e] at h;rw[U8,List.lookup_cons,show(f==n)=false by simp[e]];exact ub (by simpa using a) (by simpa using b) h
noncomputable def Qu(m:List D->Option (D×D))(i c:Nat)(mn:Str)(p:PAf):FE:=λρ=>(p ρ).bind λds=>match ρ[i]? with
 | some (some (.ins true c' ns l))=>bif c'==c&&(frzs ds&&(wc ns l mn).isNone) then(m (.ins true c' ns l::ds)).bind λr=>some (r.1,ρ.set i (some r.2)) else none
 | _=>none
theorem jfR(h:PPs R ta p)(hn:∀ ρ ds,p ρ=some ds->ds.length+1=n):DE R (uK (R.cls c) mn (spM R m n 0) [] E0 (JP i) ta) (Qu m i c mn p):=by
 intro σ ρ S Z H O d w s e Q k;unfold Qu at e;cases e1:p ρ with
 | none=>rw[e1] at e;cases e
 | some ds =>
  rw[e1,L4] at e;split at e
  ·rename_i b ns l o;cases hm:b==c&&(frzs ds&&(wc ns l mn).isNone) with
   | false=>rw[hm] at e;cases e
   | true =>
    rw[hm] at e;rw[M0,M0] at hm;obtain⟨q,t,x⟩:=hm;have y:b=c:=by simpa using q
    subst y;have e:((m (.ins true b ns l::ds)).bind λr=>some (r.1,ρ.set i (some r.2)))=some (d,S):=e;cases e2:m (.ins true b ns l::ds) with
    | none=>rw[e2] at e;cases e
    | some r =>
     obtain⟨T,U⟩:=r;rw[e2,L4] at e;cases e;have G:=(L9.mp o).1;obtain⟨A0,P0,B0,_,V,_,_⟩:=s.put G;obtain⟨u,C,I⟩:=V _ o;rw[Rep] at I;obtain⟨a,W,vs,O',rfl,X,D,Y,_⟩:=I;refine⟨.ref a,C,a,W,_,rfl,Y,ub D X.length (Option.isNone_iff_eq_none.mp x),?_⟩;refine h w.zd s e1 λ{v1 E J P1} K L=>?_;cases L.nil t;have f:Go Z H O E J O:=by simpa using K.widen w
     obtain⟨A,P,B,rfl,k1,k2,_⟩:=(K.slots w.zd s).put G;obtain⟨u',g,rc⟩:=k1 _ o;rw[C] at g;cases g;have rr:Reps R E J (.ins true b ns l::ds) (.ref a::v1) P:=by
      have:=Reps.cons rc L;simpa using this
     refine⟨E,.ins true b ns l::ds,T,U,P,.ref a,f.wf.mid,by have:=hn ρ ds e1;simpa using this,by rw[N0];exact rr,rfl,e2,λ{v Z2 H2 P2 O2} j r2 F=>?_⟩;have g3:=j.frame f.wf;have M:=Go.keepA f.wf j;have N:=k2 F j.zz (λa z=>j.zH f.wf.mid a z) M.1 M.2;rw[yS C] at N;exact k (P:=P2) (f.trans g3).turn r2 N
  ·cases e
noncomputable def jcr(m:List D->Option (D×D))(c:Nat)(p:PAf):PF:=λρ=>(p ρ).bind λds=>bif frzs ds then(match m (.ins true c [] []::ds) with
 | some (.non,t)=>some t
 | _=>none) else none
theorem jiz(h:PPs R ta p)(hn:∀ ρ ds,p ρ=some ds->ds.length+1=n):PP R (jiP (R.cls c) (spM R m n 0) [] E0 ta) (jcr m c p):=by
 intro σ ρ Z H O d z s e Q k;unfold jcr at e;cases e1:p ρ with
 | none=>rw[e1] at e;cases e
 | some ds =>
  rw[e1,L4] at e;cases hf:frzs ds with
  | false=>rw[hf] at e;cases e
  | true =>
   rw[hf,cond_true] at e;split at e
   ·rename_i t A;cases e;refine h z s e1 λ{I B r P1} f u=>?_;cases u.nil hf;intro x b C g i;have w:=Go.newF (o:=.own x) (wf0 f.wf.zd) g;have j:upd r b (.own x) x=none:=by rw[jm (λe=>i e.symm)];exact C
    have D:=Go.newO (o:=.ins (R.cls c) b []) w.wf j;have l:=w.trans D;have E:=l.reps f.wf.zd u;have F:Rep R (λa=>B a \/ a=b) (upd (upd r b (.own x)) x (.ins (R.cls c) b [])) (.ins true c [] []) (.ref x) [x]:=by
     rw[Rep];exact⟨x,b,[],[],rfl,.empty,rfl,jy,rfl⟩
    refine⟨_,.ins true c [] []::ds,.non,d,[x],.ref x,l.wf,by have:=hn ρ ds e1;simpa using this,by rw[N0];have:=Reps.cons F E;simpa using this,rfl,A,λ{v Z3 J P3 K} G y q=>?_⟩;rw[Rep] at y;obtain⟨rfl,rfl⟩:=y;exact⟨rfl,k (by simpa using(f.trans l).trans G) q⟩
   ·cases e
theorem jiW(g:Cls X.K (cl c))(h:Meth X.K (cl c) mn f)(j:Binds X.K fd ps [])(l:Kw CX0 X E0)
  (G:FnOk X.prog X.w X.K X.mg X.base CX0 k f fd ps (spM ⟨X.K,cl⟩ m n 0)) (o:Room k X.A) (q:QB cl X (.Name x p) (JP i) (pV i)) (d:QPs cl X (e::es) tr pr) (hn:∀ ρ ds,pr ρ=some ds->ds.length+1=n)
  (a:starEach (e::es) X.env=(false,eval e X.env)::starEach es X.env:=by rfl) (b:(backTo pos (starEach es X.env)).any (·.1)=false:=by rfl)
  (r:eval (.Call (.Attribute (.Name x p) mn apos) (e::es) [] pos) X.env=(do
   let ov <- eval (.Name x p) X.env
   standAt apos.atName
   let (f,first) <- holding [ov] (getMethod ov mn pl)
   callWith pos f first (backTo pos (starEach (e::es) X.env)) (backToKw pos (keywordEach [] X.env))):=by rfl) :
  QE cl X (.Call (.Attribute (.Name x p) mn apos) (e::es) [] pos) (uK (cl c) mn (spM ⟨X.K,cl⟩ m n 0) [] E0 (JP i) tr) (Qu m i c mn pr) :=
 ⟨jer q.sem g h G o j .nil l d.sem a b r,jfR (R:=⟨X.K,cl⟩) d.den hn⟩
theorem jk8(M:Mk X.K (cl c) f)(g:Binds X.K fd ps [])(h:Kw CX0 X E0)
  (G:FnOk X.prog X.w X.K X.mg X.base CX0 k f fd ps (spM ⟨X.K,cl⟩ m n 0)) (i:Room (k+1) X.A) (j:X.mg x=some (.ref (cl c))) (d:QPs cl X (e::es) tr pr) (hn:∀ ρ ds,pr ρ=some ds->ds.length+1=n) (l:Gl X x:=by rfl)
  (a:(x==("__debug__" : Str))=false:=by decide) (o:starEach (e::es) X.env=(false,eval e X.env)::starEach es X.env:=by rfl) (b:(backTo pos (starEach es X.env)).any (·.1)=false:=by rfl) :
  QP cl X (.Call (.Name x p) (e::es) [] pos) (jiP (cl c) (spM ⟨X.K,cl⟩ m n 0) [] E0 tr) (jcr m c pr) :=
 ⟨jh8 M G i l j g .nil h d.sem a o b,jiz (R:=⟨X.K,cl⟩) d.den hn⟩
noncomputable def kO(m:List D->Option D)(c:Nat)(mn:Str)(po:PF)(p:PAf):PF:=λρ=>(po ρ).bind λs=>match s with
 | .ins o c' ns l=>bif c'==c&&(wc ns l mn).isNone then((p ρ).bind λds=>(m (fzs (.ins o c' ns l::ds))).bind λd=>bif frzs (.ins o c' ns l::ds)||kt d then some d else none) else none
 | _=>none
theorem jef(K:PB R to po)(L:PBs R ta p)(hn:∀ ρ ds,p ρ=some ds->ds.length+1=n):PP R (uK (R.cls c) mn (spP R m n) [] E0 to ta) (kO m c mn po p):=by
 intro σ ρ Z H O d z s e Q k;unfold kO at e;cases e0:po ρ with
 | none=>rw[e0] at e;cases e
 | some sf =>
  rw[e0,L4] at e;split at e
  ·rename_i o j ns l;cases hm:j==c&&(wc ns l mn).isNone with
   | false=>rw[hm] at e;cases e
   | true =>
    rw[hm,cond_true] at e;rw[M0] at hm;have x:j=c:=by simpa using hm.1
    subst x;cases e1:p ρ with
    | none=>rw[e1] at e;cases e
    | some ds =>
     rw[e1,L4] at e;cases e2:m (fzs (.ins o j ns l::ds)) with
     | none=>rw[e2] at e;cases e
     | some M =>
      rw[e2,L4] at e;cases f:frzs (.ins o j ns l::ds)||kt M with
      | false=>rw[f] at e;cases e
      | true =>
       rw[f] at e;cases e;refine K z s e0 λ{v0 Z0 H0 E} w F=>?_;have t:=F;rw[Rep] at t;obtain⟨a,N,S,O',rfl,T,y,U,_⟩:=t;refine⟨a,N,_,rfl,U,ub y T.length (Option.isNone_iff_eq_none.mp hm.2),?_⟩;refine L w.wf.zd (w.slots z s) e1 λ{V g u G} I W=>?_;have A:Go Z H [] g u []:=by simpa using w.pair I
       have r:Reps R g u (.ins o j ns l::ds) (.ref a::V) (E++G):=Reps.cons (I.rep w.wf.zd F) W;generalize E++G=P1 at r;have X:=A.wf.zd;have Y:Zd (λa=>g a \/ a∈P1) u:=λa h=>h.elim (X a) (r.dom a);refine⟨λa=>g a \/ a∈P1,fzs (.ins o j ns l::ds),d,Y,by rw[jeo];have:=hn ρ ds e1;simpa using this,by rw[N0];exact r.freeze (λa z=>.inl z) λa z=>.inr z,e2,λ{v B C P} b J=>?_⟩;rw[Bool.or_eq_true] at f;rcases f with f | f
       ·cases r.nil f;have i:Go g u [] B C P:=⟨b.wf,λa z=>b.zz a (.inl z),b.fr,λa z=>(b.zn a z).imp (λq=>q.resolve_right (λq=>(nomatch q))) id,b.sub,b.dm⟩;exact k (by simpa using A.pair i) J
       ·have i:Go g u [] (λa=>B a/\(a∉P1 \/ g a)) C P:=by
         refine⟨⟨b.wf.nd,λa h q=>b.wf.nz a h q.1,b.wf.od,λa q=>b.wf.zd a q.1⟩,λa z=>⟨b.zz a (.inl z),.inr z⟩,b.fr,λa z=>?_,b.sub,b.dm⟩;rcases b.zn a z.1 with(q | q) | q
         ·exact .inl q
         ·exact .inl (z.2.resolve_left λn=>n q)
         ·exact .inr q
        have r3:Rep R (λa=>B a/\(a∉P1 \/ g a)) C d v P:=by
         refine J.thaw (λa ws za ta=>⟨za,?_⟩) f;by_cases D:a∈P1
         ·exact absurd (Rd.agree (b.same a (r.dom a D)).symm ta) (r.notTup a D ws)
         ·exact .inl D
        exact k (by simpa using A.pair i) r3
  ·cases e
noncomputable abbrev Ln:=D->Option (D×(D->D))
def jk6(R:RC)(tb:TE)(i:Nat)(L:Ln):Prop:=∀{σ:L2.St}{ρ:Rh}{Z:Zn}{H:Hp}{O:List Addr}{d x:D}{k:D->D},Slots R Z H ρ σ O->ρ[i]?=some (some d)->L d=some (x,k) ->
 ∃ v A P B,O=A++P++B/\Rep R Z H x v P/\(∀{Q:VK},Q v H->tb σ H Q) /\
  ∀{Z':Zn}{H':Hp}{x':D}{P':List Addr},Rep R Z' H' x' v P'->(∀ a,Z a->Z' a)->(∀ a,Z a->H' a=H a)->(∀ a∈A,H' a=H a)->(∀ a∈B,H' a=H a)->Slots R Z' H' (ρ.set i (some (k x'))) σ (A++P'++B)
noncomputable def jci:Ln:=λd=>some (d,λx=>x)
theorem jld:jk6 R (JP i) i jci:=by
 intro σ ρ Z H O d x k s h e;cases e;obtain⟨A,P,B,rfl,b,c,_⟩:=s.put (L9.mp h).1;obtain⟨v,a,r⟩:=b _ h;refine⟨v,A,P,B,rfl,r,λq=>⟨v,a,q⟩,λf g j l m=>?_⟩;have q:=c f g j l m;rw[yS a] at q;exact q
noncomputable def jbr(c:Nat)(f:Str)(L:Ln):Ln:=λd=>(L d).bind λy=>match y.1 with
 | .ins true c' ns l=>bif c'==c then(jjX ns f).bind λj=>(l[j]?).bind λx=>some (x,λx'=>y.2 (.ins true c' ns (l.set j x'))) else none
 | _=>none
theorem jlU(T:Cls R.K (R.cls c))(U:NoAttr R.K (R.cls c) f)(h:jk6 R tb i L):jk6 R (jj5 R.K tb f) i (jbr c f L):=by
 intro σ ρ Z H O d x k s hd e;unfold jbr at e;cases e0:L d with
 | none=>rw[e0] at e;cases e
 | some y =>
  obtain⟨y,k0⟩:=y;rw[e0,L4] at e;dsimp only at e;split at e
  ·rename_i p ns l;cases hc:p==c with
   | false=>rw[hc] at e;cases e
   | true =>
    rw[hc,cond_true] at e;have t:p=c:=by simpa using hc
    subst t;cases e1:jjX ns f with
    | none=>rw[e1] at e;cases e
    | some j =>
     rw[e1,L4] at e;cases e2:l[j]? with
     | none=>rw[e2] at e;cases e
     | some x0 =>
      rw[e2,L4] at e;cases e;obtain⟨v,A,P,B,rfl,r,V,W⟩:=h s hd e0;rw[Rep] at r;obtain⟨a,D,E,O',rfl,F,n,G,rfl⟩:=r;obtain⟨u,I,X,J,M,rfl,Y,o⟩:=F.at e2;have w:ns.length=E.length:=by rw[F.length];exact n
      refine⟨u,A++(a::I),X,J++B,by simp,Y,λq=>V ⟨a,_,D,_,u,rfl,G,T,U,jbJ e1 w M,q⟩,λ{Z' H' x' z} r' N Q C S=>?_⟩;have g:=o r' N Q (λb m=>C b (by simp[m])) (λb m=>S b (by simp[m]));rw[yS M] at g;have rt:Rep R Z' H' (.ins true p ns (l.set j x')) (.ref a) (a::(I++z++J)):=by
       rw[Rep];exact⟨a,D,E,_,rfl,g,by rw[List.length_set];exact n,(C a (by simp)).trans G,rfl⟩
      have s2:=W rt N Q (λb m=>C b (by simp[m])) (λb m=>S b (by simp[m]));simpa using s2
  ·cases e
structure MtFact(K:PySem.W.Frag)(C:Addr)(x qual:Str)(st:Stmt)(f:Addr)(fd:FuncData)(ps:List Str):Prop where
 fn:Fun K x qual st f fd
 mt:Meth K C x f
 bd:Binds K fd ps []
structure QL(cl:Nat->Addr)(X:Cx)(e:Expr)(tb:TE)(i:Nat)(L:Ln):Prop where
 sem:PE X e tb
 den:jk6 ⟨X.K,cl⟩ tb i L
theorem jce{cl:Nat->Addr}{X:Cx}{o e:Expr}{es:List Expr}{to:TE}{po:PF}{tr:TA}{pr:PAf}{pos apos:Pos}{k n c:Nat}{f:Addr}{fd:FuncData}{ps:List Str}{m:List D->Option D}{mn qual:Str}{st:Stmt}{pl:Sem Bool}(i:Cls X.K (cl c))(F:MtFact X.K (cl c) mn qual st f fd ps)
  (G:FnOk X.prog X.w X.K X.mg X.base CX0 k f fd ps (spP ⟨X.K,cl⟩ m n)) (j:Room k X.A) (g:QB cl X o to po) (a:QBs cl X (e::es) tr pr) (hn:(e::es).length+1=n:=by rfl)
  (b:starEach (e::es) X.env=(false,eval e X.env)::starEach es X.env:=by rfl) (d:(backTo pos (starEach es X.env)).any (·.1)=false:=by rfl)
  (l:eval (.Call (.Attribute o mn apos) (e::es) [] pos) X.env=(do
   let ov <- eval o X.env
   standAt apos.atName
   let (f,first) <- holding [ov] (getMethod ov mn pl)
   callWith pos f first (backTo pos (starEach (e::es) X.env)) (backToKw pos (keywordEach [] X.env))):=by rfl) :
  QP cl X (.Call (.Attribute o mn apos) (e::es) [] pos) (uK (cl c) mn (spP ⟨X.K,cl⟩ m n) [] E0 to tr) (kO m c mn po pr) :=
 ⟨jer g.sem i F.mt G j F.bd .nil jdD a.sem b d l,jef (R:=⟨X.K,cl⟩) g.den a.den λρ p h=>by rw[a.n ρ p h];exact hn⟩
theorem jdE{cl:Nat->Addr}{X:Cx}{o:Expr}{to:TE}{po:PF}{pos apos:Pos}{k n c:Nat}{f:Addr}{fd:FuncData}{ps:List Str}{m:List D->Option D}{mn qual:Str}{st:Stmt}{pl:Sem Bool}(b:Cls X.K (cl c))(F:MtFact X.K (cl c) mn qual st f fd ps)
  (G:FnOk X.prog X.w X.K X.mg X.base CX0 k f fd ps (spP ⟨X.K,cl⟩ m n)) (d:Room k X.A) (a:QB cl X o to po) (hn:1=n:=by rfl)
  (e:eval (.Call (.Attribute o mn apos) [] [] pos) X.env=(do
   let ov <- eval o X.env
   standAt apos.atName
   let (f,first) <- holding [ov] (getMethod ov mn pl)
   callWith pos f first (backTo pos (starEach [] X.env)) (backToKw pos (keywordEach [] X.env))):=by rfl) :
  QP cl X (.Call (.Attribute o mn apos) [] [] pos) (uK (cl c) mn (spP ⟨X.K,cl⟩ m n) [] E0 to jav) (kO m c mn po pN) :=
 ⟨jgn a.sem b F.mt G d F.bd .nil jdD e,jef (R:=⟨X.K,cl⟩) a.den jeW λρ g h=>by cases h;exact hn⟩
theorem uT(a:QB cl X (.Name x p) (JP i) (pV i)):QL cl X (.Name x p) (JP i) i jci:=⟨a.sem,jld⟩
theorem uU(a:Cls X.K (cl c))(b:NoAttr X.K (cl c) f)(h:QL cl X o tb i L)(d:attributeBase o f X.env (eval o X.env)=eval o X.env:=by rfl):QL cl X (.Attribute o f pos) (jj5 X.K tb f) i (jbr c f L) :=
 ⟨jhF h.sem d,jlU (R:=⟨X.K,cl⟩) a b h.den⟩
noncomputable def zC(c:Nat)(f:Str):D->Option D
 | .ins _ c' ns l=>bif c'==c then wc ns l f else none
 | _=>none
@[simp] theorem fldOf_ins:zC c f (.ins o c' ns l)=bif c'==c then wc ns l f else none:=rfl
@[simp] theorem pFld_e:Kk c f po ρ=(po ρ).bind (zC c f):=by
 unfold Kk;cases po ρ with
 | none=>rfl
 | some d=>cases d<;>rfl
@[simp] theorem qj:kO m c mn po p ρ=(po ρ).bind λs=>match s with
 | .ins o a ns l=>bif a==c&&(wc ns l mn).isNone then((p ρ).bind λb=>(m (fzs (.ins o a ns l::b))).bind λd=>bif frzs (.ins o a ns l::b)||kt d then some d else none) else none
 | _=>none:=rfl
@[simp] theorem jbX:Qu m i c mn p ρ=(p ρ).bind λds=>(pV i ρ).bind λt=>match t with
 | .ins true a ns l=>bif a==c&&(frzs ds&&(wc ns l mn).isNone) then(m (.ins true a ns l::ds)).bind λr=>some (r.1,ρ.set i (some r.2)) else none
 | _=>none:=by
 unfold Qu;rw[jhJ];congr 1
 funext ds
 cases h:ρ[i]? with
 | none=>rfl
 | some o=>cases o with
  | none=>rfl
  | some d=>cases d<;>first | rfl | (rename_i o _ _ _;cases o<;>rfl)
@[simp] theorem wz:jcr m c p ρ=(p ρ).bind λds=>bif frzs ds then(match m (.ins true c [] []::ds) with
 | some (.non,t)=>some t
 | _=>none) else none:=rfl
@[simp] theorem jiN{ρ:Rh}{i c:Nat}{f:Str}{pv:PF}:V0 i c f pv ρ=(pv ρ).bind λd=>(pV i ρ).bind λt=>match t with
 | .ins true a ns l=>bif a==c&&decide (ns.length<=900) then some (.nx (ρ.set i (some (.ins true c (Yz ns l f d).1 (Yz ns l f d).2)))) else none
 | _=>none:=by
 unfold V0;rw[jhJ];cases pv ρ with
 | none=>rfl
 | some d =>
  dsimp only[Option.bind];cases h:ρ[i]? with
  | none=>rfl
  | some o=>cases o with
   | none=>rfl
   | some d=>cases d<;>first | rfl | (rename_i o _ _ _;cases o<;>rfl)
def jnN(R:RC)(tk:TE)(pk:Rh->Option (List KA)):Prop:=∀{σ:L2.St}{ρ:Rh}{Z:Zn}{H:Hp}{O:List Addr}{k:List KA},Zd Z H->Slots R Z H ρ σ O->pk ρ=some k ->
 ∀{Q:VK},(∀{p:Addr}{Z':Zn}{H':Hp},Go Z H [] Z' H' []->Z' p->H' p=some (.tup ((k.map kaV).map kV))->Q (.ref p) H')->tk σ H Q
structure QK3(cl:Nat->Addr)(X:Cx)(e:Expr)(tk:TE)(pk:Rh->Option (List KA)):Prop where
 sem:PE X e tk
 den:jnN ⟨X.K,cl⟩ tk pk
end QD
namespace L2
open PySem PySem.Spec PyProof.Rows
end L2
namespace QD
open PySem L2 PySem.Spec PyProof.Rows
section
variable {R:RC}{Z Z' Z2:Zn}{H H' H2:Hp}{pm:List Nat}
theorem jgU{ρ:Rh}{i:Nat}{A O' B O2 d:List Addr}{kk:D->D}(w:WF Z H (d++(A++(a::O')++B)))(g:Go Z H [] Z2 H2 [])
  (s:∀{Z':Zn}{H':Hp}{x':D}{P':List Addr},Rep R Z' H' x' (.ref a) P'->(∀ a,Z a->Z' a)->(∀ a,Z a->H' a=H a)->(∀ a∈A,H' a=H a)->(∀ a∈B,H' a=H a)->Slots R Z' H' (ρ.set i (some (kk x'))) σ (A++P'++B))
  (e:∀ q,O2.count q<=O'.count q+d.count q)
  (r:(∀ b,Z2 b->upd H2 a ob b=H2 b)->(∀ b∈O2,b≠a)->Rep R Z2 (upd H2 a ob) x' (.ref a) (a::O2)) :
  Go Z H (d++(A++(a::O')++B)) Z2 (upd H2 a ob) (A++(a::O2)++B)/\Slots R Z2 (upd H2 a ob) (ρ.set i (some (kk x'))) σ (A++(a::O2)++B):=by
 have l:Go Z H (d++(A++(a::O')++B)) Z2 H2 (d++(A++(a::O')++B)):=by simpa using g.widen w
 have t:=Go.put (o:=ob) l.wf (show a∈d++(A++(a::O')++B) by simp);have gC:=l.trans t;have nd:=l.wf.nd;have ct:=List.nodup_iff_count.mp nd a;simp only[U9,List.count_cons,beq_self_eq_true,if_true] at ct;have pos:∀{m:List Addr},a∈m->0 < m.count a:=λh=>List.count_pos_iff.mpr h;have f:∀ b,Z2 b->upd H2 a ob b=H2 b:=λb c=>jm λz=>l.wf.nz a (by simp) (z▸c);have nO:∀ b∈O2,b≠a:=λb c z=>by subst z;have:=pos c;have:=e b;omega
 have u:∀ b∈A,b≠a:=λb c z=>by subst z;have:=pos c;omega
 have v:∀ b∈B,b≠a:=λb c z=>by subst z;have:=pos c;omega
 have n:∀ x,Z x->upd H2 a ob x=H x:=λx j=>(f x (g.zz x j)).trans (g.same x (w.zd x j));have k:∀ x,x∈A++(a::O')++B->x≠a->upd H2 a ob x=H x:=λx j y=>(jm y).trans (g.same x (w.od x (by simp only[N3] at j ⊢;exact .inr j)));have sl:=s (r f nO) g.zz n (λb c=>k b (by simp[c]) (u b c)) (λb c=>k b (by simp[c]) (v b c));have p:∀ q,(A++(a::O2)++B).count q<=(d++(A++(a::O')++B)).count q:=λq=>by
  have:=e q;simp only[U9,List.count_cons];omega
 exact⟨gC.drop (xp p) (Vc p nd),sl⟩
theorem jeJ(rd:Rep R Z H d v P)(a:KA)  (r:Reps R Z H l vs O) (b:ks.length=l.length) (hn:a∉ks) :
  Reps R Z H (qD ks l a d).2 (vs++[v]) (O++P)/\(((qD ks l a d).1).map kaV).zip (vs++[v])=Kb ((ks.map kaV).zip vs) (kaV a) v/\(qD ks l a d).1.length=(qD ks l a d).2.length:=by
 have c:ks.length=vs.length:=by rw[r.length];exact b
 unfold qD Kb;rw[ja2 a c,if_neg hn,X5 hn,if_neg (λz=>(nomatch z))];refine⟨r.append (Reps.one rd),?_,by simp[b]⟩;rw[N6,List.zip_append (by simpa using c)];rfl
noncomputable def JX(i:Nat)(L:Ln)(pk pv:PF):FS:=λρ=>(pv ρ).bind λd=>(pV i ρ).bind λt=>(L t).bind λy=>match y.1 with
 | .dK true ks l=>(pk ρ).bind λq=>(qV q).bind λa=>bif lim ks.length&&(frz d||!decide (a∈ks)) then some (.nx (ρ.set i (some (y.2 (.dK true (qD ks l a d).1 (qD ks l a d).2))))) else none
 | _=>none
theorem ji5(a:pV i ρ=some t):ρ[i]?=some (some t):=by
 rw[jhJ] at a;cases q:ρ[i]? with
 | none=>rw[q] at a;cases a
 | some o=>cases o with
  | none=>rw[q] at a;cases a
  | some b=>rw[q] at a;cases a;rfl
theorem jfX{i:Nat}{L:Ln}{tb ty tv:TE}{pk pv:PF}(T:jk6 R tb i L)(U:PB R ty pk)(V:PP R tv pv):DS R pm (jdg tb ty tv) (JX i L pk pv):=by
 intro σ ρ Z H O o w s e D' k;unfold JX at e;cases e1:pv ρ with
 | none=>rw[e1] at e;cases e
 | some d =>
  rw[e1,L4] at e;cases e2:pV i ρ with
  | none=>rw[e2] at e;cases e
  | some t =>
   rw[e2,L4] at e;have W:=ji5 e2;cases e3:L t with
   | none=>rw[e3] at e;cases e
   | some y =>
    obtain⟨y,k0⟩:=y;rw[e3,L4] at e;dsimp only at e;split at e
    ·rename_i f l;cases e4:pk ρ with
     | none=>rw[e4] at e;cases e
     | some q =>
      rw[e4,L4] at e;cases e5:qV q with
      | none=>rw[e5] at e;cases e
      | some c =>
       rw[e5,L4] at e;cases hm:lim f.length&&(frz d||!decide (c∈f)) with
       | false=>rw[hm] at e;cases e
       | true =>
        rw[hm] at e;cases e;rw[M0] at hm;refine V w.zd s e1 λ{u Z1 X P1} h N=>?_;have Q:=h.slots w.zd s;have j:=h.widen w;obtain⟨v,A,P,B,Y,r,ht,kb⟩:=T Q W e3;subst Y;rw[Rep] at r;obtain⟨a,E,O',rfl,rs,m,F,rfl⟩:=r;have F:X a=some (.dK ((f.map kaV).zip E)):=F;refine ht ?_;refine U h.wf.zd Q e4 λ{z Z2 S P2} G r2=>?_;obtain⟨rfl,_⟩:=Ja e5 r2;have I:S a=some (.dK ((f.map kaV).zip E)):=by rw[G.same a (by rw[F];exact λz=>(nomatch z))];exact F
        have n:=G.rep h.wf.zd N;have p:=G.reps h.wf.zd rs;have J:((f.map kaV).zip E).length < sizeLine:=by rw[List.length_zip,L1];exact E3 (Nat.min_le_left _ _) (x8 hm.1)
        refine⟨a,_,rfl,DPut.k I J,?_⟩;have K:∃ b O2,Reps R Z2 S (qD f l c d).2 b O2/\(((qD f l c d).1).map kaV).zip b=Kb ((f.map kaV).zip E) (kaV c) u/\(∀ q,O2.count q<=O'.count q+P1.count q)/\(qD f l c d).1.length=(qD f l c d).2.length:=by
         cases hf:frz d with
         | true =>
          cases N.nil hf;obtain⟨b,O2,C,D,sl,g⟩:=we n c p m;exact⟨b,O2,C,D,λq=>by have:=sl.count_le q;simp;exact this,g⟩
         | false =>
          have hn:c∉f:=by
           have:=hm.2;rw[hf] at this;simpa using this
          obtain⟨C,D,g⟩:=jeJ n c p m hn;exact⟨_,_,C,D,λq=>by rw[U9];exact M9 _,g⟩
        obtain⟨b,O2,C,D,cn,g⟩:=K;rw[<- D];obtain⟨gF,sF⟩:=jgU (ob:=.dK (((qD f l c d).1.map kaV).zip b)) (x':=.dK true (qD f l c d).1 (qD f l c d).2) j.wf G kb cn λM nO=>by
         rw[Rep];exact⟨a,b,O2,rfl,C.frame (λ_ z=>z) M (λx hx=>jm (nO x hx)),g,jy,rfl⟩
        exact k (j.trans gF) sF (Keep.refl _ _)
    ·cases e
end
section
variable {cl:Nat->Addr}{pm:List Nat}{X:Cx}{o b e:Expr}{to tb te:TE}{po pb pe:PF}{pos p fp tpos:Pos}{k i:Nat}{L:Ln}
theorem Ks(f:Room k X.A)(a:QL cl X o to i L)(c:QB cl X b tb pb)(d:QP cl X e te pe)(g:swapsWith e (some (.Subscript o b pos')) pos.line X.env=pure false:=by rfl) :
  QS cl pm X (.Assign [.Subscript o b pos'] e pos) (jdg to tb te) (JX i L pb pe):=⟨jdv (jcR f) a.sem c.sem d.sem g,jfX (R:=⟨X.K,cl⟩) a.den c.den d.den⟩
end
namespace QK
theorem fld{K:PySem.W.Frag}{cl:Nat->Addr}{X:Cx}{o:Expr}{to:TE}{po:PF}{pos:Pos}{c:Nat}{f:Str}(a:X.K=K)(b:Cls X.K (cl c))(d:NoAttr X.K (cl c) f)(e:QB cl X o to po)(g:attributeBase o f X.env (eval o X.env)=eval o X.env:=by rfl):QB cl X (.Attribute o f pos) (jj5 K to f) (Kk c f po):=by subst a;exact Qo b d e g
theorem meth{K:PySem.W.Frag}{cl:Nat->Addr}{X:Cx}{o e:Expr}{es:List Expr}{to:TE}{po:PF}{tr:TA}{pr:PAf}{pos apos:Pos}{k n c:Nat}{f:Addr}{fd:FuncData}{ps:List Str}{m:List D->Option D}{mn qual:Str}{st:Stmt}{pl:Sem Bool}(d:X.K=K)(g:Cls X.K (cl c))(F:MtFact X.K (cl c) mn qual st f fd ps)
  (G:FnOk X.prog X.w X.K X.mg X.base CX0 k f fd ps (spP ⟨X.K,cl⟩ m n)) (h:Room k X.A) (i:QB cl X o to po) (j:QBs cl X (e::es) tr pr) (hn:(e::es).length+1=n:=by rfl)
  (a:starEach (e::es) X.env=(false,eval e X.env)::starEach es X.env:=by rfl) (b:(backTo pos (starEach es X.env)).any (·.1)=false:=by rfl)
  (l:eval (.Call (.Attribute o mn apos) (e::es) [] pos) X.env=(do
   let ov <- eval o X.env
   standAt apos.atName
   let (f,first) <- holding [ov] (getMethod ov mn pl)
   callWith pos f first (backTo pos (starEach (e::es) X.env)) (backToKw pos (keywordEach [] X.env))):=by rfl) :
  QP cl X (.Call (.Attribute o mn apos) (e::es) [] pos) (uK (cl c) mn (spP ⟨K,cl⟩ m n) [] E0 to tr) (kO m c mn po pr):=by subst d;exact jce g F G h i j hn a b l
end QK
section
variable {cl:Nat->Addr}{pm:List Nat}{X:Cx}{o e:Expr}{es:List Expr}{to te:TE}{po pe:PF}{tr:TA}{pr:PAf}{pos p:Pos}{i:Nat}{L:Ln}
theorem wX(e:Room k X.A)(c:QB cl X a ta pa)(d:QB cl X b tb pb)(f:behindInMarks .NotIn b=false:=by with_unfolding_all rfl):QP cl X (.Compare a [.NotIn] [b] pos) (zI ta tb) (p2 (Kv true) pa pb) :=
 ⟨jki (uA (jcR e) c.sem d.sem) f,uJ c.den d.den⟩
end
end QD
namespace PySem
open Sem (wp)
end PySem
namespace L2
open PySem PySem.Spec PyProof.Rows
end L2
namespace QD
open PySem L2 PySem.Spec PyProof.Rows
section
variable {R:RC}{Z Z':Zn}{H H':Hp}{pm:List Nat}
def PK(R:RC)(te:TE)(pk:Rh->Option (List KA))(pv:PF):Prop:=∀{σ:L2.St}{ρ:Rh}{Z:Zn}{H:Hp}{O:List Addr}{c:List KA}{d:D},Zd Z H->Slots R Z H ρ σ O->pk ρ=some c->pv ρ=some d->frz d=true ->
 ∀{Q:VK},(∀{t b:Addr}{u:V}{Z':Zn}{H':Hp},Go Z H [] Z' H' []->Z' t->Z' b->H' t=some (.tup [.ref b,u])->H' b=some (.tup ((c.map kaV).map kV))->Rep R Z' H' d u []->Q (.ref t) H')->te σ H Q
structure KvAt(R:RC)(Z:Zn)(H:Hp)(ys:List (List KA×D))(vs:List V)(ps:List (List Key×Addr×V)):Prop where
 l:vs.length=ps.length
 i:∀(j:Nat) (v:V),vs[j]?=some v->∃ kv t,ps[j]?=some kv/\v=.ref t/\H t=some (.tup [.ref kv.2.1,kv.2.2])/\H kv.2.1=some (.tup (kv.1.map kV))
 k:ps.map (·.1)=ys.map λy=>y.1.map kaV
 r:Reps R Z H (ys.map (·.2)) (ps.map (·.2.2)) []
end
section
variable {cl:Nat->Addr}{pm:List Nat}{X:Cx}{tg iter elt:Expr}{ifs:List Expr}{wi:TI}{pi:PAf}{t:TG}{g:D->Rh->Option Rh}{te:TE}{pk:Rh->Option (List KA)}{pv:PF}{pos cpos p:Pos}
structure QKv(cl:Nat->Addr)(X:Cx)(e:Expr)(te:TE)(pk:Rh->Option (List KA))(pv:PF):Prop where
 sem:PE X e te
 den:PK ⟨X.K,cl⟩ te pk pv
end
end QD
namespace PySem
open PySem.W PyProof.Rows PySem.Calls
end PySem
set_option maxHeartbeats 4000000
namespace PySem
open PySem.W PyProof.Rows PySem.Calls
end PySem
namespace L2
open PySem PySem.Spec PyProof.Rows
end L2
namespace QD
open PySem L2 PySem.Spec PyProof.Rows
end QD
namespace PySem
open Sem (wp)
end PySem
namespace L2
open PySem PySem.Spec PyProof.Rows
end L2
namespace QD
open PySem L2 PySem.Spec PyProof.Rows
end QD
set_option maxHeartbeats 1000000
namespace PySem
namespace F
end F
end PySem
namespace L2
open PySem PySem.Spec PyProof.Rows
structure Z3(z TI TO j1 j2 j3 t l m:Addr):Prop where
 TIz:TI≠z
 TOz:TO≠z
 j1z:j1≠z
 j2z:j2≠z
 j3z:j3≠z
 TITO:TI≠TO
 TIj1:TI≠j1
 TIj2:TI≠j2
 TIj3:TI≠j3
 TOj1:TO≠j1
 TOj2:TO≠j2
 TOj3:TO≠j3
 j12:j1≠j2
 j13:j1≠j3
 j23:j2≠j3
 out:∀ x,x=t \/ x=l \/ x=m->x≠z/\x≠TO/\x≠j1/\x≠j2/\x≠j3
end L2
namespace PySem
namespace F
end F
end PySem
namespace L2
open PySem PySem.Spec PyProof.Rows
end L2
namespace QD
open PySem L2 PySem.Spec PyProof.Rows
end QD
namespace QD
open PySem L2
end QD
namespace L2
open PySem PySem.Spec PyProof.Rows
end L2
namespace QD
open PySem L2
end QD
namespace L2
open PySem PySem.Spec PyProof.Rows
theorem Inv.unfrz(I:Inv X pins σ H s)(e:H a=some (.frz o (.dK kvs)))(j:∀ o u,X.H₀ a≠some (.frz o u)):Inv X pins σ (upd H a (.dK kvs)) s:=by
 have g:∀ b,H b=none->upd H a (.dK kvs) b=none:=λb q=>by rw[jm (λz=>by rw[z,e] at q;cases q)];exact q
 refine⟨I.ok,I.os,I.bare,⟨I.base.keep,I.base.slot,λb o q n k=>g b (I.base.free b o q n k),I.base.there,λb h q=>?_,λb o u q=>?_,λb l q=>?_⟩,I.loc,I.cell,g _ I.free,λx c q=>g c (I.freeC x c q),λp t=>?_,λb u q=>?_,I.len⟩
 ·have d:=I.base.tups b h q;rw[jm (λz=>by rw[z,e] at d;cases d)];exact d
 ·rw[jm (λz=>by subst z;exact j o u q)];exact I.base.frzs b o u q
 ·obtain⟨m,d⟩:=I.base.tbls b l q;exact⟨m,by rw[jm (λz=>by rw[z,e] at d;cases d)];exact d⟩
 ·obtain⟨d,n,r⟩:=I.pin p t;exact⟨d,g _ n,r⟩
 ·have i:∀{c:Addr}{v:HO},ObjOk X.prog X.w H s.heap c v->ObjOk X.prog X.w (upd H a (.dK kvs)) s.heap c v:=λx=>x.stay (λ_ _ _ q=>q) (λc q=>by rw[jm (λz=>by rw[z,e] at q;cases q)];exact q) λc h q=>by rw[jm (λz=>by rw[z,e] at q;cases q)];exact q
  by_cases f:b=a
  ·subst f;rw[jy] at q;cases q;obtain⟨_,y⟩:=(show ObjOk X.prog X.w H s.heap b (.frz o (.dK kvs)) from I.hok b _ e);exact i y
  ·rw[jm f] at q;exact i (I.hok b u q)
noncomputable def jmw(i:Nat)(te:TE):TE:=λσ H Q=>∃ a kvs,σ[i]?=some (some (.ref a))/\H a=some (.dK kvs)/\te σ H λv H1=>∃ o,H1 a=some (.frz o (.dK kvs))/\Q v (upd H1 a (.dK kvs))
theorem jkw(h:PE X e te):PE X e (jmw i te):=by
 intro b s σ H Q I ⟨a,c,_,d,q⟩;have f:∀ o u,X.H₀ a≠some (.frz o u):=λo u z=>by have:=I.base.frzs a o u z;rw[d] at this;cases this
 exact thn (h b s σ H _ I q) λv m ⟨x,n,g,j,o,k,l⟩=>⟨x,_,g.unfrz k f,j,l⟩
end L2
namespace QD
open PySem L2 PySem.Spec PyProof.Rows
mutual
noncomputable def pln:D->Bool
 | .tup l=>jeR l
 | .non=>true | .bl _=>true | .int _=>true | .str _=>true
 | .lst _ _=>false | .dK _ _ _=>false | .dT _ _ _=>false | .ins _ _ _ _=>false | .dead=>false
noncomputable def jeR:List D->Bool
 | []=>true
 | d::l=>pln d&&jeR l
end
mutual
theorem Rep.cutA{a:Addr}(ha:∀ vs,¬ Rd H a (.tup vs))(hH:∀ b,b≠a->H' b=H b):∀{d:D}{v:V}{O:List Addr},pln d=true->Rep R Z H d v O->Rep R (λb=>Z b/\b≠a) H' d v O
 | .non,_,_,_,r=>by rw[Rep] at r ⊢;exact r
 | .bl _,_,_,_,r=>by rw[Rep] at r ⊢;exact r
 | .int _,_,_,_,r=>by rw[Rep] at r ⊢;exact r
 | .str _,_,_,_,r=>by rw[Rep] at r ⊢;exact r
 | .tup l,_,_,h,r=>by
  rw[pln] at h;rw[Rep] at r ⊢;obtain⟨p,vs,e,t,r⟩:=r;refine⟨p,vs,e,?_,Reps.cutA ha hH h r⟩;rcases t with⟨z,t⟩ | t
  ·have ne:p≠a:=λq=>ha vs (q▸t);exact .inl ⟨⟨z,ne⟩,Rd.agree (hH p ne) t⟩
  ·exact .inr t
 | .lst _ _,_,_,h,_=>by rw[pln] at h;cases h
 | .dK _ _ _,_,_,h,_=>by rw[pln] at h;cases h
 | .dT _ _ _,_,_,h,_=>by rw[pln] at h;cases h
 | .ins _ _ _ _,_,_,h,_=>by rw[pln] at h;cases h
 | .dead,_,_,h,_=>by rw[pln] at h;cases h
theorem Reps.cutA{a:Addr}(ha:∀ vs,¬ Rd H a (.tup vs))(hH:∀ b,b≠a->H' b=H b):∀{l:List D}{vs:List V}{O:List Addr},jeR l=true->Reps R Z H l vs O->Reps R (λb=>Z b/\b≠a) H' l vs O
 | [],_,_,_,r=>by rw[Reps] at r ⊢;exact r
 | d::l,_,_,h,r=>by
  rw[jeR,M0] at h;rw[Reps] at r ⊢;obtain⟨v,vs',O1,O2,e1,e2,r1,r2⟩:=r;exact⟨v,vs',O1,O2,e1,e2,Rep.cutA ha hH h.1 r1,Reps.cutA ha hH h.2 r2⟩
end
noncomputable def Kn(i:Nat)(g:D->Rh->Option Rh)(q:PTf)(p:PF)(ix:List (Option Nat)):FE:=λρ=>(JT i ρ).bind λr=>bif lim r.1.length then((jJ g q p r.1 (jI ix r.2)).bind λys=>bif jeR ys then some (.lst true ys,ρ) else none) else none
@[simp] theorem jf0:Kn i g q p ix ρ=(JT i ρ).bind λr=>bif lim r.1.length then((jJ g q p r.1 (jI ix r.2)).bind λys=>bif jeR ys then some (.lst true ys,ρ) else none) else none:=rfl
theorem jfI(hg:PGt R [] tg g)(hq:PTt R tc q)(he:PP R te p):DE R (jmw i (wK (iDK (JP i)) tg tc te ix)) (Kn i g q p ix):=by
 intro σ ρ ρ' Z H O d w s e Q k;unfold Kn at e;cases e1:JT i ρ with
 | none=>rw[e1] at e;cases e
 | some r =>
  obtain⟨N,ρ1⟩:=r;rw[e1,L4] at e;dsimp only at e;cases hl:lim N.length with
  | false=>rw[hl] at e;cases e
  | true =>
   rw[hl,cond_true] at e;cases e2:jJ g q p N (jI ix ρ1) with
   | none=>rw[e2] at e;cases e
   | some all =>
    rw[e2,L4] at e;cases hp:jeR all with
    | false=>rw[hp] at e;cases e
    | true =>
     rw[hp,cond_true] at e;cases e;unfold JT at e1;split at e1
     ·rename_i m l E;cases hf:frzs l with
      | false=>rw[hf] at e1;cases e1
      | true =>
       rw[hf,cond_true] at e1;cases e1;obtain⟨A,P0,B,rfl,k1,k2,_⟩:=s.put (L9.mp E).1;obtain⟨v,K,r⟩:=k1 _ E;rw[Rep] at r;obtain⟨a,j,O',rfl,L,F,G,rfl⟩:=r;cases L.nil hf;have G:H a=some (.dK ((m.map kaV).zip j)):=G;refine⟨a,_,K,G,.ref a,K,a,_,rfl,G,λo=>?_⟩;have S:Go Z H [a] (λb=>Z b \/ b=a) (upd H a (.frz o (.dK ((m.map kaV).zip j)))) []:=jg4 w.mid;have T:=S.frame w;have I:∀ b,Z b->upd H a (.frz o (.dK ((m.map kaV).zip j))) b=H b:=λb c=>jm λz=>w.nz a (by simp) (z▸c);have U:=Go.keepA w S;have r':Rep R (λb=>Z b \/ b=a) (upd H a (.frz o (.dK ((m.map kaV).zip j)))) (.dK false m l) (.ref a) []:=by
        rw[Rep];exact⟨a,j,[],rfl,L.frame (λb z=>.inl z) I (λb c=>(nomatch c)),F,.inr ⟨o,jy⟩,.inr rfl,rfl,rfl⟩
       have V:=k2 r' (λb z=>.inl z) I U.1 U.2;rw[yS K] at V;refine YZ (Q:=λv M=>∃ o,M a=some (.frz o (.dK ((m.map kaV).zip j)))/\Q v (upd M a (.dK ((m.map kaV).zip j)))) hg hq he T.wf.zd V (λ{Z1 M} I hH zd i=>jhv (R:=R) (ks:=m) (vs:=j) (Z:=λb=>Z b \/ b=a) (H:=upd H a (.frz o (.dK ((m.map kaV).zip j)))) (by rw[L.length];exact F) (.inr rfl) jy I (λa z=>hH a (T.wf.zd a z)) zd i) hl e2 λ{v W D P} t X=>?_;have Y:upd H a (.frz o (.dK ((m.map kaV).zip j))) a≠none:=by rw[jy];exact λz=>nomatch z
       have fa:D a=some (.frz o (.dK ((m.map kaV).zip j))):=by rw[t.fr a Y (λz=>nomatch z),jy]
       have C:∀ b,b≠a->upd D a (.dK ((m.map kaV).zip j)) b=D b:=λb c=>jm c;have na:∀ j,¬ Rd D a (.tup j):=λj z=>by
        rcases z with z | ⟨_,z⟩<;>rw[fa] at z<;>cases z
       have hO:∀ b,H b≠none->b≠a->D b=H b:=λb c f=>by
        rw[t.fr b (by rw[jm f];exact c) (λz=>nomatch z),jm f]
       have u:∀ b,H b≠none->upd D a (.dK ((m.map kaV).zip j)) b=H b:=λb c=>by
        by_cases f:b=a
        ·rw[f,jy,G]
        ·rw[jm f,hO b c f]
       have pn:∀ b∈P,H b=none/\b≠a:=λb c=>by
        rcases t.sub b c with q | q
        ·cases q
        ·have:b≠a:=λz=>Y (z▸q);exact⟨by rw[jm this] at q;exact q,this⟩
       have az:¬ Z a:=w.nz a (by simp);refine⟨o,fa,k (Z':=λb=>W b/\b≠a) (P:=P) (O':=A++[a]++B) ⟨⟨?_,λb c=>?_,λb c=>?_,λb c=>?_⟩,λb z=>⟨t.zz b (.inl z),λq=>az (q▸z)⟩,λb h n=>u b h,λb z=>?_,λb h=>?_,λb h=>?_⟩ ?_ ?_⟩
       ·refine X1.mpr ⟨t.wf.nd,w.nd,λx hx y hy e=>?_⟩;exact w.od y hy (e▸(pn x hx).1)
       ·rintro⟨z,f⟩;rcases N3.mp c with c | c
        ·exact t.wf.nz b c z
        ·rcases t.zn b z with(q | q) | q | q
         ·exact w.nz b c q
         ·exact f q
         ·cases q
         ·rw[jm f] at q;exact w.od b c q
       ·rcases N3.mp c with c | c
        ·rw[C b (pn b c).2];exact t.wf.od b c
        ·rw[u b (w.od b c)];exact w.od b c
       ·rw[C b c.2];exact t.wf.zd b c.1
       ·rcases t.zn b z.1 with(q | q) | q | q
        ·exact .inl q
        ·exact absurd q z.2
        ·cases q
        ·rw[jm z.2] at q;exact .inr (.inr q)
       ·rcases N3.mp h with h | h
        ·exact .inr (pn b h).1
        ·exact .inl h
       ·rw[u b h];exact h
       ·rw[Rep] at X ⊢;obtain⟨J,ws,O2,rfl,r4,e4,rfl⟩:=X;have ne:J≠a:=(pn J L7).2;exact⟨J,ws,O2,rfl,Reps.cutA na C hp r4,by rw[C J ne];exact e4,rfl⟩
       ·exact s.frame (λb z=>⟨t.zz b (.inl z),λq=>az (q▸z)⟩) (λb z=>u b (w.zd b z)) λb c=>u b (w.od b c)
     ·cases e1
noncomputable def jc9(i:Nat):FS:=λρ=>match ρ[i]? with
 | some (some (.lst true l))=>bif frzs l then some (.nx (ρ.set i (some (.lst true [])))) else none
 | _=>none
theorem jim:DS R pm (zu (jmZ R.K "list" jdh (JP i))) (jc9 i):=by
 intro σ ρ Z H O o w s e y k;unfold jc9 at e;split at e
 ·rename_i l f;cases hf:frzs l with
  | false=>rw[hf] at e;cases e
  | true =>
   rw[hf] at e;cases e;obtain⟨A,P,B,rfl,n,p,_⟩:=s.put (L9.mp f).1;obtain⟨v,g,r⟩:=n _ f;rw[Rep] at r;obtain⟨a,h,C,rfl,q,j,rfl⟩:=r;have t:=q.nil hf;subst t;refine⟨.ref a,g,.inl ⟨rfl,h,SqL.of j⟩,?_⟩;refine⟨a,h,rfl,rfl,j,?_⟩;have u:Go Z H (A++[a]++B) Z (upd H a (.lst [])) (A++[a]++B):=Go.put w (by simp);have d:∀ b,Z b->upd H a (.lst []) b=H b:=λb c=>jm λz=>w.nz a (by simp) (z▸c);have nd:=w.nd;simp only[X1,N3,List.nodup_cons,M5,not_or] at nd;have x:Rep R Z (upd H a (.lst [])) (.lst true []) (.ref a) [a]:=by
    rw[Rep];exact⟨a,[],[],rfl,.empty,jy,rfl⟩
   have m:=p (v':=.ref a) x (λb c=>c) d (λb c=>jm λz=>by subst z;exact(nd.1.2.2 b c b (.inl rfl)) rfl) (λb c=>jm λz=>by subst z;exact(nd.2.2 b (.inr (.inl rfl)) b c) rfl);rw[yS g] at m;exact k u m (Keep.refl _ _)
 ·cases e
theorem jdW(B:BlockOk X scope N' ix)(d:X.calm=true)(e:QB cl X (.Name x p) (JP i) (pV i))
  (b:∀ C s H fp,QG cl [] (yT X scope N' C s H fp) tg t g) (a:∀ C s H fp,QIf cl (yT X scope N' C s H fp) ifs tcc qq) (c:∀ C s H fp,QP cl (yT X scope N' C s H fp) elt te pe)
  (f:∀ y,foldedSetIterable (.Name x p) X.env y=pure y:=by intro _;rfl):QE cl X (.ListComp elt [⟨tg,.Name x p,ifs,0⟩] scope pos) (jmw i (wK (iDK (JP i)) t tcc te ix)) (Kn i g qq pe ix) :=
 ⟨jkw (jbw B d (jkR e.sem) (λC s H fp=>(b C s H fp).sem) (λC s H fp=>(a C s H fp).sem) (λC s H fp=>(c C s H fp).sem) f),
  jfI (b 0 X.s₀ X.H₀ []).den (a 0 X.s₀ X.H₀ []).den (c 0 X.s₀ X.H₀ []).den⟩
theorem jfZ(d:Vy X (.type T) r)(f:BC ⟨X.K,cl⟩ r gg)(g:X.mg x=none)(h:bootBuiltins x=some (.type T))(c:QDs cl X (e::es) tr fr)(i:Gl X x:=by rfl)
  (hn:x≠"__name__":=by decide) (a:(x==("__debug__" : Str))=false:=by decide) (j:starEach (e::es) X.env=(false,eval e X.env)::starEach es X.env:=by rfl) (b:(backTo pos (starEach es X.env)).any (·.1)=false:=by rfl) :
  QE cl X (.Call (.Name x p) (e::es) [] pos) (tCB r tr) (dCB gg fr):=⟨uR d i g h c.sem hn a j b,jiR (BC.o f) c.den⟩
theorem jiq(d:QB cl X (.Name x xpos) (JP i) (pV i))
  (a:attributeBase (.Name x xpos) "clear" X.env (eval (.Name x xpos) X.env)=eval (.Name x xpos) X.env:=by rfl) (b:(apos.endLine==cpos.line)=true:=by rfl)
  (c:swapsWith (.Call (.Attribute (.Name x xpos) "clear" apos) [] [] cpos) none pos.line X.env=pure false:=by rfl) :
  QS cl pm X (.Expr (.Call (.Attribute (.Name x xpos) "clear" apos) [] [] cpos) pos) (zu (jmZ X.K "list" jdh (JP i))) (jc9 i) :=
 ⟨xo (jkP PySem.F.plainAttrs_list PySem.F.slot_list_clear PySem.F.type_list_clear jgi d.sem a b) c,jim⟩
@[simp] theorem sLClr_e:jc9 i ρ=(pV i ρ).bind λx=>(jjF x).bind λl=>bif frzs l then some (.nx (ρ.set i (some (.lst true [])))) else none:=by
 unfold jc9 pV;cases h:ρ[i]? with
 | none=>rfl
 | some o=>cases o with
  | none=>rfl
  | some x=>cases x with
   | lst o l=>cases o<;>rfl
   | _=>rfl
end QD
namespace PySem
open Sem (wp)
namespace F
theorem lk_zip_keys:typeLookup (.type "zip") "keys" = pure none:=by rw[typeLookup_type,builtinLookup_eq_fast];kernel_rfl
theorem lk_zip_getattr:typeLookup (.type "zip") "__getattr__" = pure none:=by rw[typeLookup_type,builtinLookup_eq_fast];kernel_rfl
theorem entry_zip_ga:entryFor table "zip.__getattribute__" = some Builtin.«object.__getattribute__»:=entryFor_alias (id':="object.__getattribute__") (by kernel_rfl) (by first | rfl | decide +kernel) (by decide +kernel) (by kernel_rfl)
end F
section
variable {prog:Program}{w:World}{A:Around}{E:Value->Shared->Prop}{h:Heap}{g:Array GenState}{d:Drawn}{t:Nat}{os:OsState}{a:Addr}{o:Obj}
theorem jaz{fs:Array Value}{tk:Tok}{Q:Fin->Shared->Prop}(c:A.handled=none)(f:h.get? a=some { cls:=.type "zip",data:=.fields fs })
  (i:∀ h' e t',(∀ b o,h.get? b=some o->h'.get? b=some o)->h.get? e=none->(∃ ob,h'.get? e=some ob/\ob.cls=.type "AttributeError")->E (.ref e) ⟨h',g,d,t',os⟩) :
  wpAny (model prog w) A (Builtin.«object.__getattribute__» ⟨[.ref a,.str "keys" tk],[]⟩) Q E ⟨h,g,d,t,os⟩:=by
 have j:(⟨h,g,d,t,os⟩:Shared).TypeIs (.ref a) "zip":=⟨_,f,rfl⟩;have k:=F.lk_zip_keys
 repeat (any_goals (first | assumption | wp_step))
 exact KU (by decide +kernel) c i
theorem jcG{fs:Array Value}{tk:Tok}{R:Result->Shared->Prop}(f:A.handled=none)(c:h.get? a=some { cls:=.type "zip",data:=.fields fs })
  (i:∀ h' e t',(∀ b o,h.get? b=some o->h'.get? b=some o)->h.get? e=none->(∃ ob,h'.get? e=some ob/\ob.cls=.type "AttributeError")->R (.error (.ref e)) ⟨h',g,d,t',os⟩) :
  codeAny (model prog w) A (.call (.builtin "zip.__getattribute__") ⟨[.ref a,.str "keys" tk],[]⟩) R ⟨h,g,d,t,os⟩:=by
 refine codeAny_call_builtin F.slot_zip_getattribute.plain F.entry_zip_ga (F.slot_zip_getattribute.check _ _ _ _ _ _ _ _ (show(⟨h,g,d,t,os⟩:Shared).TypeIs (.ref a) "zip" from⟨_,c,rfl⟩) (F.args_zip_getattribute_2 _ _) ?_);exact jaz (show A.in1.handled=none from f) c i
theorem jgP{fs:Array Value}{tk:Tok}{Q:Value->Shared->Prop}(k:A.handled=none)(i:h.get? a=some { cls:=.type "zip",data:=.fields fs })
  (l:∀ h' e t',(∀ b o,h.get? b=some o->h'.get? b=some o)->h.get? e=none->(∃ ob,h'.get? e=some ob/\ob.cls=.type "AttributeError")->E (.ref e) ⟨h',g,d,t',os⟩) :
  wpAny (model prog w) A (getAttrBy (.ref a) (.str "keys" tk) false) Q E ⟨h,g,d,t,os⟩:=by
 have s:(⟨h,g,d,t,os⟩:Shared).TypeIs (.ref a) "zip":=⟨_,i,rfl⟩;have u:=F.sub_attrErr;have v:=F.slot_zip_getattribute.lookup;have x:=F.slot_zip_getattribute.bind (.ref a);have y:=F.lk_zip_getattr
 repeat (any_goals (first | assumption | wp_step))
 refine jcG k i λh' e t' m n j=>?_;have c:=j;obtain⟨ob,f,p⟩:=j;have q:(⟨h',g,d,t',os⟩:Shared).TypeIs (.ref e) "AttributeError":=⟨_,f,p⟩;have r:=l h' e t' m n c;show wpAny (model prog w) A (getattributeRaised (Value.ref a) (Value.str (Str.ofString "keys") tk) (Value.type "zip") (.ref e) none false false) Q E _;unfold getattributeRaised
 repeat (any_goals (first | assumption | wp_step))
theorem jcO{fs:Array Value}{Q:Option Value->Shared->Prop}(f:A.handled=none)(i:h.get? a=some { cls:=.type "zip",data:=.fields fs })
  (j:∀ h' t',(∀ b o,h.get? b=some o->h'.get? b=some o)->Q none ⟨h',g,d,t',os⟩):wpAny (model prog w) A (getAttr? (.ref a) "keys") Q E ⟨h,g,d,t,os⟩:=by
 unfold getAttr? getAttrBy?
 refine L3 (wpAny_mkText (L3 ?_));refine wpAny_attempt ?_;refine jgP f i λh' e t' k q l=>?_;obtain⟨ob,c,m⟩:=l;have n:(⟨h',g,d,t',os⟩:Shared).TypeIs (.ref e) "AttributeError":=⟨_,c,m⟩;have r:=F.sub_attrErr;have p:=j h' t' k
 repeat (any_goals (first | assumption | wp_step))
end
end PySem
namespace L2
open PySem PySem.Spec PyProof.Rows
section
variable {prog:Program}{w:World}{A:Around}{E:Value->Shared->Prop}{s:Shared}{z TI TO j1 j2 l t:Addr}{m:Nat}{us vs:Array Value}{u v a b:Value}
abbrev xU(h:Heap)(z TI TO c:Addr)(f:Bool):Prop:=h.get? z=some { cls:=.type "zip",dict:=none,data:=.fields #[rawInt c,.bool f,.bool false,.ref TI,.ref TO],slots:=#[] }
theorem jkE{c:Addr}{f:Bool}{K:Bool->Shared->Prop}(a:xU s.heap z TI TO c f)(h:∀ k0,xU k0 z TI TO c true->Heap.SameBut z s.heap k0->K false { s with heap:=k0 }) :
  wpAny (model prog w) A (if(Value.bool f != Value.bool true)=true then do { setField (.ref z) 1 (.bool true);pure false } else pure false) K E s:=by
 cases f with
 | false=>exact L3 (wpAny_setField_rec a (by simp) λk0 b d=>M7 (h k0 b d))
 | true=>exact M7 (h s.heap a ⟨rfl,λ_ _=>rfl⟩)
theorem jiX{c:Addr}{f:Bool}{oc:Obj}{C:Value->Shared->Prop}(D:ZipApart z TI TO j1 j2 l t)(d:xU s.heap z TI TO c f)(p:s.heap.get? c=some oc)(qI:IsPair s.heap TI (.ref j1) (.ref j2))
  (q:s.heap.IsListIter j1 l m) (q2:s.heap.IsTupleIter j2 t m) (r:s.heap.IsList l us) (y:s.heap.IsTuple t vs) (B:us[m]?=some u) (F:vs[m]?=some v)
  (go:∀ k,xU k z TI TO c true->k.IsListIter j1 l (m+1)->k.IsTupleIter j2 t (m+1)->IsPair k s.heap.objs.size u v->k.objs.size=s.heap.objs.size+1 ->
   (∀ c o,c≠z->c≠j1->c≠j2->s.heap.get? c=some o->k.get? c=some o)->C (.ref s.heap.objs.size) { s with heap:=k }) :
  wpAny (model prog w) A (Builtin.«zip.__next__» ⟨[.ref z],[]⟩) (λfin s'=>∃ v,fin=.done (.ret v)/\C v s') E s:=by
 show wpAny (model prog w) A (field (.ref z) 2 >>= _) _ _ _;refine L3 (U7 d rfl (x:=.bool false) rfl ?_);show wpAny (model prog w) A (field (.ref z) 3 >>= _) _ _ _;refine L3 (U7 d rfl (x:=.ref TI) rfl (L3 (wpAny_seqItems qI rfl ?_)));show wpAny (model prog w) A (Builtin.SmallTypes.ownedTupleIsFree (.ref z) >>= _) _ _ _;refine L3 ?_;delta Builtin.SmallTypes.ownedTupleIsFree;refine L3 (U7 d rfl (x:=rawInt c) rfl ?_);show wpAny _ _ (loadIfAlive ((c:Int).toNat) >>= _) _ _ _;rw[N9];refine L3 (PySem.W.kdx_alive p ?_);simp only[Option.isNone_some,Bool.false_eq_true,if_false];refine L3 (U7 d rfl (x:=.bool f) rfl ?_);refine jkE d λQ G b=>?_;show wpAny (model prog w) A (if false=true then _ else _) _ _ _;rw[if_neg (by exact M4)];refine L3 ?_;rw[<- Array.forIn_toList];simp only[List.forIn_cons,List.forIn_nil];refine L3 (L3 (wpAny_holding ?_));show wpAny _ _ (Builtin.SmallTypes.nextOf (.ref j1) >>= _) _ _ _;refine L3 (wpAny_nextOf_list_item (q.extBut b.extBut D.i1z) (r.extBut b.extBut D.l1z) B λR p1 g=>M7 (M7 ?_));refine L3 (L3 (wpAny_holding ?_));show wpAny _ _ (Builtin.SmallTypes.nextOf (.ref j2) >>= _) _ _ _;refine L3 (ua ((q2.extBut b.extBut D.i2z).extBut g.extBut D.i12.symm) ((y.extBut b.extBut D.l2z).extBut g.extBut D.l2i1) F λa p2 h=>M7 (M7 (M7 ?_)));show wpAny _ _ (newTuple [u,v] >>= _) _ _ _;refine L3 (wpAny_newTuple (M7 ⟨_,rfl,?_⟩));have H:a.objs.size=s.heap.objs.size:=by rw[h.1,g.1,b.1]
 have kp:∀ c o,c≠z->c≠j1->c≠j2->s.heap.get? c=some o->(a.push { cls:=.type "tuple",data:=.seq #[u,v] }).get? c=some o:=λc o I J K e=>L8 _ (h.extBut _ _ K (g.extBut _ _ J (b.extBut _ _ I e)));show C (.ref a.objs.size) _;have j:IsPair (a.push { cls:=.type "tuple",data:=.seq #[u,v] }) a.objs.size u v:=E2 _ rfl;have n:(a.push { cls:=.type "tuple",data:=.seq #[u,v] }).objs.size=a.objs.size+1:=Heap.size_push ..;rw[H] at j n ⊢;have i:=p1.extBut h.extBut D.i12;obtain⟨x1,L,M⟩:=i;obtain⟨N,O,P⟩:=p2;exact go _ (L8 _ (h.extBut _ _ D.i2z.symm (g.extBut _ _ D.i1z.symm G))) ⟨x1,L8 _ L,M⟩ ⟨N,L8 _ O,P⟩ j n kp
theorem jlP{c:Addr}{f:Bool}{oc:Obj}{C:PySem.Fin->Shared->Prop}(d:A.handled=none)(D:ZipApart z TI TO j1 j2 l t)(a:xU s.heap z TI TO c f)(g:s.heap.get? c=some oc)(qI:IsPair s.heap TI (.ref j1) (.ref j2))
  (h:s.heap.IsListIter j1 l m) (i:s.heap.IsList l us) (j:us[m]?=none)
  (go:∀ k e,(∀ c o,c≠z->c≠j1->c≠j2->s.heap.get? c=some o->k.get? c=some o)->(∃ o,k.get? e=some o/\o.cls=.type "StopIteration")->E (.ref e) { s with heap:=k }) :
  wpAny (model prog w) A (Builtin.«zip.__next__» ⟨[.ref z],[]⟩) C E s:=by
 show wpAny (model prog w) A (field (.ref z) 2 >>= _) _ _ _;refine L3 (U7 a rfl (x:=.bool false) rfl ?_);show wpAny (model prog w) A (field (.ref z) 3 >>= _) _ _ _;refine L3 (U7 a rfl (x:=.ref TI) rfl (L3 (wpAny_seqItems qI rfl ?_)));show wpAny (model prog w) A (Builtin.SmallTypes.ownedTupleIsFree (.ref z) >>= _) _ _ _;refine L3 ?_;delta Builtin.SmallTypes.ownedTupleIsFree;refine L3 (U7 a rfl (x:=rawInt c) rfl ?_);show wpAny _ _ (loadIfAlive ((c:Int).toNat) >>= _) _ _ _;rw[N9];refine L3 (PySem.W.kdx_alive g ?_);simp only[Option.isNone_some,Bool.false_eq_true,if_false];refine L3 (U7 a rfl (x:=.bool f) rfl ?_);refine jkE a λv y b=>?_;show wpAny (model prog w) A (if false=true then _ else _) _ _ _;rw[if_neg (by exact M4)];refine L3 ?_;rw[<- Array.forIn_toList];simp only[List.forIn_cons,List.forIn_nil];refine L3 (L3 (wpAny_holding ?_));show wpAny _ _ (Builtin.SmallTypes.nextOf (.ref j1) >>= _) _ _ _;refine L3 (wpAny_nextOf_list_end d (h.extBut b.extBut D.i1z) (i.extBut b.extBut D.l1z) j λn e p q=>?_);exact go n e (λc o r u _ x=>p _ _ u (b.extBut _ _ r x)) q
def ZS(z TI TO j1 j2 l t:Addr)(i:Nat)(h:Heap):Prop:=IsPair h TI (.ref j1) (.ref j2)/\(∃ a b,IsPair h TO a b)/\h.IsListIter j1 l i/\h.IsTupleIter j2 t i/\(IsZip h z TI TO .none \/ ∃ c f oc,xU h z TI TO c f/\h.get? c=some oc)
theorem jjT{C:Option Value->Shared->Prop}(D:ZipApart z TI TO j1 j2 l t)(q:ZS z TI TO j1 j2 l t m s.heap)(p:s.heap.IsList l us)(r:s.heap.IsTuple t vs)(x:us[m]?=some u)(B:vs[m]?=some v)
  (go:∀ k,ZS z TI TO j1 j2 l t (m+1) k->IsPair k s.heap.objs.size u v->(∀ c o,c≠z->c≠TO->c≠j1->c≠j2->s.heap.get? c=some o->k.get? c=some o)->C (some (.ref s.heap.objs.size)) { s with heap:=k }):wpAny (model prog w) A (pyNext (.ref z)) C E s:=by
 obtain⟨qI,⟨a,b,G⟩,H,I,g⟩:=q;rcases g with g | ⟨c,f,n,g,J⟩
 ·refine jfA D g qI G H I p r x B λk c1 N h i j c6 d=>go k ⟨d _ _ D.TIz D.TITO D.TIi1 D.TIi2 qI,⟨_,_,N⟩,h,i,.inr ⟨_,false,_,c1,j⟩⟩ j d
 ·have ty:s.TypeIs (.ref z) "zip":=⟨_,g,rfl⟩;unfold pyNext;refine L3 (wpAny_attempt (wpAny_callSpecial?_slot (name:=Str.ofString "__next__") ty F.slot_zip_next (wpAny_call_entry F.slot_zip_next ty F.entry_zip_next
   (jiX D g J qI H I p r x B λk c1 h i j c6 d=>M7 ?_) (F.args_zip_next_1 _))))
  have al:∃ n,k.get? c=some n:=by
   by_cases K:c=z
   ·subst K;exact⟨_,c1⟩
   by_cases L:c=j1
   ·obtain⟨_,y,_⟩:=h;subst L;exact⟨_,y⟩
   by_cases M:c=j2
   ·obtain⟨_,y,_⟩:=i;subst M;exact⟨_,y⟩
   exact⟨_,d c n K L M J⟩
  obtain⟨O,al⟩:=al;exact go k ⟨d _ _ D.TIz D.TIi1 D.TIi2 qI,⟨_,_,d _ _ D.TOz D.TOi1 D.TOi2 G⟩,h,i,.inr ⟨_,true,_,c1,al⟩⟩ j λc o P _ Q R e=>d c o P Q R e
theorem jjU{C:Option Value->Shared->Prop}(g:A.handled=none)(D:ZipApart z TI TO j1 j2 l t)(q:ZS z TI TO j1 j2 l t m s.heap)(h:s.heap.IsList l us)(i:us[m]?=none)
  (go:∀ k,(∀ c o,c≠z->c≠TO->c≠j1->c≠j2->s.heap.get? c=some o->k.get? c=some o)->C none { s with heap:=k }):wpAny (model prog w) A (pyNext (.ref z)) C E s:=by
 obtain⟨qI,⟨a,b,B⟩,j,G,d⟩:=q;rcases d with d | ⟨c,f,H,d,n⟩
 ·exact jgk g D d qI j h i go
 ·have ty:s.TypeIs (.ref z) "zip":=⟨_,d,rfl⟩;unfold pyNext;refine L3 (wpAny_attempt (wpAny_callSpecial?_slot (name:=Str.ofString "__next__") ty F.slot_zip_next (wpAny_call_entry F.slot_zip_next ty F.entry_zip_next (jlP g D d n qI j h i λk e kp p=>?_) (F.args_zip_next_1 _))));obtain⟨o,r,u⟩:=p;exact L3 (wpAny_isInstance (T:="StopIteration") (b:=true) ⟨o,r,u⟩ isSubtype_stop (M7 (go _ λc o v _ x y e=>kp c o v x y e)))
end
section
variable {prog:Program}{w:World}{K:Type} [DecidableEq K] {knd:KeyKind prog w K}{A:Around}{E:Value->Shared->Prop}{z TI TO j1 j2 l t:Addr}{us vs:Array Value}
theorem ZS.keep{i:Nat}{h h':Heap}{X:Addr}(q:ZS z TI TO j1 j2 l t i h)(k:∀ b o,b≠X->h.get? b=some o->h'.get? b=some o)(g:X≠z)(n:X≠TI)(p:X≠TO)(r:X≠j1)(s:X≠j2)(nx:∀ o,h.get? X=some o->∃ o',h'.get? X=some o'):ZS z TI TO j1 j2 l t i h':=by
 obtain⟨qI,⟨a,b,u⟩,⟨x1,v,w⟩,⟨x,y,A⟩,d⟩:=q;refine⟨k _ _ n.symm qI,⟨a,b,k _ _ p.symm u⟩,⟨x1,k _ _ r.symm v,w⟩,⟨x,k _ _ s.symm y,A⟩,?_⟩;rcases d with d | ⟨c,f,j,d,m⟩
 ·exact .inl (k _ _ g.symm d)
 ·by_cases e:c=X
  ·obtain⟨o',B⟩:=nx j (e▸m);exact .inr ⟨c,f,o',k _ _ g.symm d,e▸B⟩
  ·exact .inr ⟨c,f,j,k _ _ g.symm d,k _ _ e m⟩
theorem jcS{R:Result->Shared->Prop}(hh:A.handled=none){D:Addr}(d:ZipApart z TI TO j1 j2 l t)(M:D≠z)(n2:D≠TI)(N:D≠TO)(O:D≠j1)(P:D≠j2)(n6:D≠l)(n7:D≠t){ps:List (K×Value)}(B:us.size=ps.length)
  (hp:∀(j:Nat) (u:Value),us[j]?=some u->∃ kv,ps[j]?=some kv/\knd.is kv.1 u=true/\vs[j]?=some kv.2):∀(k i:Nat) (s:Shared) (kvs:List (K×Value)),
  us.size - i=k->i<=us.size->ZS z TI TO j1 j2 l t i s.heap->s.heap.IsList l us->s.heap.IsTuple t vs->s.heap.DictOf knd D kvs->kvs.length+k<=100000 ->
  (∀ h' tk,h'.DictOf knd D ((ps.drop i).foldl (λa kv=>stored a kv.1 kv.2) kvs)->(∀ b o,b≠z->b≠TO->b≠j1->b≠j2->b≠D->s.heap.get? b=some o->h'.get? b=some o)->R (.ok (.ret .none)) { s with heap:=h',toks:=tk }) ->
  codeAny (model prog w) A (.builtin "dict.update.loop" ⟨[.ref D,.ref z,rawInt i,.none],[]⟩) R s:=by
 intro k
 induction k with
 | zero =>
  intro i s kvs hk hi g J Q hd hz S;have T:i=us.size:=by omega
  subst T;refine codeAny_builtin F.entry_dict_loop ?_;rw[Around.under_plainId F.plain_dict_loop _];show wpAny _ A.in1 (pyNext (.ref z) >>= _) _ _ s;refine L3 (jjU (A:=A.in1) hh d g J (by simp) λh' c=>?_);have fin:=S h' s.toks (by rw[B,List.drop_length];exact hd.at λo e=>c D o M N O P e) (λb o n p x y _ e=>c b o n p x y e);unfold Builtin.Dict.addKeywords
  repeat (any_goals (first | assumption | wp_step))
 | succ k ih =>
  intro i s kvs hk hi g J Q hd hz S;have h:i < us.size:=by omega
  obtain⟨kv,C,E,G⟩:=hp i us[i] (by simp[h]);refine codeAny_builtin F.entry_dict_loop ?_;rw[Around.under_plainId F.plain_dict_loop _];show wpAny _ A.in1 (pyNext (.ref z) >>= _) _ _ s;refine L3 (jjT (A:=A.in1) d g J Q (u:=us[i]) (v:=kv.2) (by simp[h]) G λh' H hT c=>?_);have U:h'.DictOf knd D kvs:=hd.at λo e=>c D o M N O P e;refine L3 (wpAny_holding ?_);refine L3 (wpAny_tryCatch (K4 (s:={ s with heap:=h' }) hT rfl rfl ?_));show wpAny _ _ (holding [us[i],kv.2] (dictSet D us[i] kv.2)) _ _ _;have hsz:sizeLine=16777216:=by decide
  refine wpAny_holding (wpAny_dictSet_pairs E U (λm f hs=>?_) (by omega));refine M7 ⟨plainId_quiet F.plain_dict_loop _,?_⟩;have V:ps.drop i=kv::ps.drop (i+1):=by
   have I:i < ps.length:=by omega
   rw[List.drop_eq_getElem_cons I];have:ps[i]=kv:=by
    rw[X9 I] at C;exact X7 C
   rw[this]
  have W:∀ b o,b≠z->b≠TO->b≠j1->b≠j2->b≠D->s.heap.get? b=some o->m.get? b=some o:=λb o n p x y L e=>(hs.2 b L).trans (c b o n p x y e);have Y:m.IsList l us:=by
   obtain⟨o,e,r⟩:=J;exact⟨o,W l o d.l1z d.l1TO d.l1i1 d.l1i2 n6.symm e,r⟩
  have Z:m.IsTuple t vs:=by
   obtain⟨o,e,r⟩:=Q;exact⟨o,W t o d.l2z d.l2TO d.l2i1 d.l2i2 n7.symm e,r⟩
  refine ih (i+1) _ (stored kvs kv.1 kv.2) (by omega) h (H.keep (X:=D) (λb o hb e=>(hs.2 b hb).trans e) M n2 N O P (λo _=>?_)) Y Z f ?_ λh3 tk3 hd3 hk3=>?_
  ·obtain⟨q,_,_,e,_⟩:=f;exact⟨q,e⟩
  ·have:=stored_length_le kvs kv.1 kv.2;omega
  ·refine S h3 tk3 ?_ λb o n p x y L e=>hk3 b o n p x y L (W b o n p x y L e);rw[V,X2];exact hd3
end
section
variable {prog:Program}{w:World}{K:Type} [DecidableEq K] {knd:KeyKind prog w K}{A:Around}{E:Value->Shared->Prop}{s:Shared}{z TI TO j1 j2 l t:Addr}{us vs:Array Value}
theorem wC{ps:List (K×Value)}{Q:Value->Shared->Prop}(r:A.handled=none)(H:ZipApart z TI TO j1 j2 l t)(k:IsZip s.heap z TI TO .none)(qI:IsPair s.heap TI (.ref j1) (.ref j2))(v:IsPair s.heap TO .none .none)(I:s.heap.IsListIter j1 l 0)(q2:s.heap.IsTupleIter j2 t 0)(J:s.heap.IsList l us)(L:s.heap.IsTuple t vs)(f:us.size=ps.length)
  (M:∀(j:Nat) (u:Value),us[j]?=some u->∃ kv,ps[j]?=some kv/\knd.is kv.1 u=true/\vs[j]?=some kv.2) (hz:ps.length<=100000)
  (h:∀ h' tk,h'.DictOf knd s.heap.objs.size (ps.foldl (λa kv=>stored a kv.1 kv.2) [])->(∀ b o,b≠z->b≠TO->b≠j1->b≠j2->s.heap.get? b=some o->h'.get? b=some o)->Q (.ref s.heap.objs.size) { s with heap:=h',toks:=tk }) :
  wpAny (model prog w) A (call (.type "dict") [.ref z]) Q E s:=by
 refine callType_codes (Q₁:=λobj x=>obj=.ref s.heap.objs.size/\x={ s with heap:=s.heap.push { cls:=.type "dict",data:=.dict #[] } }) F.kt_called_dict (F.kt_typeCall_dict_1 _) F.entry_dict_init (kt_code_dict_new _ ⟨rfl,rfl⟩) ?_;rintro obj x ⟨rfl,rfl⟩;have c:(s.heap.push { cls:=.type "dict",data:=.dict #[] }).DictOf knd s.heap.objs.size []:=Heap.DictOf.new s.heap;refine⟨c.typeIs,F.args_dict_init_2 _ _,?_⟩;have g:(s.heap.push { cls:=.type "dict",data:=.dict #[] }).get? z=_:=L8 _ k;unfold Builtin.«dict.__init__»;refine L3 ?_;unfold Builtin.Dict.selfAndRest;refine L3 (wpAny_notOrdered_dict c.typeIs ?_);show wpAny _ _ (pure (s.heap.objs.size,[Value.ref z])) _ _ _;refine M7 ?_;show wpAny _ _ (Builtin.Dict.updateFrom "dict.__init__" s.heap.objs.size (.ref z) [] .none) _ _ _;unfold Builtin.Dict.updateFrom;refine L3 (wpAny_typeOf (T:="zip") ⟨_,g,rfl⟩ ?_);rw[if_pos (by decide)];refine L3 ?_;refine jcO ?_ g λy N i=>?_
 ·exact r
 ·rw[if_pos (show(Option.isNone (none:Option Value))=true from rfl)];refine L3 (wpAny_rule ?_);have d:∀ b o,s.heap.get? b=some o->y.get? b=some o:=λb o e=>i b o (L8 _ e);refine L3 (PySem.wpAny_pyIter_zip (s:=⟨y,s.gens,s.drawn,N,s.os⟩) (d _ _ k) ?_);have lt:∀{b o},s.heap.get? b=some o->s.heap.objs.size≠b:=λe q=>by have:=N1 e;rw[<- q] at this;exact Nat.lt_irrefl _ this
  obtain⟨O,B,P⟩:=I;obtain⟨R,C,S⟩:=q2;obtain⟨U,D,V⟩:=J;obtain⟨W,G,X⟩:=L;refine M7 ⟨plainId_quiet F.plain_dict_loop _,?_⟩;refine jcS (A:=A.in1) (knd:=knd) (show A.in1.handled=none from r) H (lt k) (lt qI) (lt v) (lt B) (lt C) (lt D) (lt G) f M us.size 0 _ [] (by omega) (U6 _) ⟨d _ _ qI,⟨_,_,d _ _ v⟩,⟨O,d _ _ B,P⟩,⟨R,d _ _ C,S⟩,.inl (d _ _ k)⟩ ⟨U,d _ _ D,V⟩ ⟨W,d _ _ G,X⟩ ?_ (by simp;omega) λY m n p=>?_
  ·exact c.at λo e=>i _ o e
  ·refine⟨rfl,h Y m n λb o Z b2 b3 b4 e=>p b o Z b2 b3 b4 (lt e).symm (d b o e)⟩
end
def jiZ(K:PySem.W.Frag):List V->Hp->VK->Prop:=λxs H Q=>∃(l t:Addr) (ys:List V) (ps:List (Key×V)),xs=[.ref l,.ref t]/\SqL K H l (ps.map λkv=>kV kv.1)/\SqT K H t ys/\(∀(j:Nat) (kv:Key×V),ps[j]?=some kv->ys[j]?=some kv.2)/\ps.length<=100000/\∀ D,H D=none->Q (.ref D) (upd H D (.dK (ps.foldl (λa kv=>Kb a kv.1 kv.2) [])))
theorem jhi:∀{ps:List (Key×V)}{us:List Value}{ys:List V}{vs:List Value},Vals (ps.map λkv=>kV kv.1) us->Vals ys vs->(∀(j:Nat) (kv:Key×V),ps[j]?=some kv->ys[j]?=some kv.2) ->
  ∃ qs:List (Key×Value),KV ps qs/\us.length=qs.length/\∀(j:Nat) (u:Value),us[j]?=some u->∃ kv,qs[j]?=some kv/\(yp P w).is kv.1 u=true/\vs[j]?=some kv.2
 | [],us,ys,vs,a,b,h=>by
  cases a;exact⟨[],.nil,rfl,λj u e=>by simp at e⟩
 | kv::ps,us,ys,vs,a,b,h=>by
  rw[L5] at a;cases a with
  | cons d f =>
   rename_i u g;have c:=h 0 kv rfl;cases b with
   | nil=>cases c
   | cons i l =>
    rename_i y v m n;cases c;obtain⟨qs,r,o,q⟩:=jhi f l λj k e=>by simpa using h (j+1) k (by simpa using e)
    refine⟨(kv.1,v)::qs,.cons ⟨rfl,i⟩ r,by simp[o],λj w e=>?_⟩;cases j with
    | zero=>cases e;exact⟨_,rfl,ja8 d,rfl⟩
    | succ j=>exact q j w (by simpa using e)
theorem jjs{X:Cx}(hc:X.calm=true)(hg:Gl X "dict")(hm:X.mg "dict" = none)(F:Gl X "zip")(G:X.mg "zip" = none)(ha:PA X [a,b] ta)
  (he:starEach [.Call (.Name "zip" p2) [a,b] [] pos2] X.env=(false,eval (.Call (.Name "zip" p2) [a,b] [] pos2) X.env)::starEach [] X.env:=by rfl)
  (J:(backTo pos (starEach [] X.env)).any (·.1)=false:=by rfl)
  (L:backTo pos (starEach [.Call (.Name "zip" p2) [a,b] [] pos2] X.env)=[(false,eval (.Call (.Name "zip" p2) [a,b] [] pos2) X.env)]:=by rfl)
  (hs:starEach [a,b] X.env=[(false,eval a X.env),(false,eval b X.env)]:=by rfl) (l:starEach [b] X.env=[(false,eval b X.env)]:=by rfl) :
  PE X (.Call (.Name "dict" p) [.Call (.Name "zip" p2) [a,b] [] pos2] [] pos) (tCB (jiZ X.K) ta):=by
 intro m s σ H Q I h;refine wpAny_Call_Name_kw (VB I hg hm (show bootBuiltins "dict" = some (.type "dict") by decide +kernel) ?_ (by decide) (by decide));refine PyProof.Rows.callWith_type1 ?_ he J;rw[L];refine Calls.spliced_cons (wpAny_Call_Name_kw (VB I F G (show bootBuiltins "zip" = some (.type "zip") by decide +kernel) ?_ (by decide) (by decide)));refine PyProof.Rows.callWith_type1 (thn (ha pos2 m s σ H _ I h) λus c ⟨vs,H1,k,r1,q1⟩=>?_) (by rw[hs,l]) (by rw[l];rfl);obtain⟨M,l2,ys,N,rfl,O,R,S,hz,q⟩:=q1;obtain⟨u,v,rfl,ru,rv⟩:=r1.two;cases ru;cases rv;obtain⟨t,T,d,hz1⟩:=k.list O;obtain⟨x,U,f,y⟩:=k.tuple R;have A:M < c.heap.objs.size:=by
  obtain⟨o,_,e,_⟩:=d;exact N1 e
 have B:l2 < c.heap.objs.size:=by
  obtain⟨o,e,_⟩:=id f;exact N1 e
 obtain⟨qs,rel,hl,W⟩:=jhi (P:=X.prog) (w:=X.w) T U S;refine jgQ d.isList f λg Z a2 a3 a4 a5 D=>Calls.spliced_nil ?_;have kl:∀ b o,c.heap.get? b=some o->g.get? b=some o:=D;have w1:g.IsList M t.toArray:=by
  obtain⟨o,e,r⟩:=d.isList;exact⟨o,D _ _ e,r⟩
 have w2:g.IsTuple l2 x.toArray:=by
  obtain⟨o,e,r⟩:=f;exact⟨o,D _ _ e,r⟩
 have i:c.heap.objs.size<=g.objs.size:=N8 (Nat.le_add_right _ 4) (Nat.le_of_lt (N1 Z));refine wC (s:={ c with heap:=g }) (knd:=yp X.prog X.w) (k.ok.hd hc) (jfv _ M l2 A B) Z a2 a3 a4 a5 w1 w2 (by rw[N4];exact hl) (λj u e=>by obtain⟨E,e1,e2,e3⟩:=W j u (by simpa using e);exact⟨E,e1,e2,by simpa using e3⟩) (by rw[<- rel.length];exact hz) λh' tk hd Y=>?_;have C:=wJ rel (.nil:KV ([]:List (Key×V)) []);have y:=jaK (ps:=N) (qs:=[]);have hsl:sizeLine=16777216:=by decide
 have ne:∀{b:Addr}{o:Obj}(n:Nat),c.heap.get? b=some o->b≠c.heap.objs.size+n:=λn e q=>absurd (N1 e) (by rw[q];exact Nat.not_lt.mpr (Nat.le_add_right _ _));refine⟨.ref g.objs.size,_,k.laid (a:=g.objs.size) (o:=.dK (N.foldl (λa E=>Kb a E.1 E.2) [])) (t':=tk) (λb o e=>Y b o (ne 4 e) (ne 3 e) (ne 0 e) (ne 1 e) (D b o e)) i (jb0 (by simp at y;omega) (U3.mpr (λz=>?_)) C hd),rfl,q _ (k.hok.fresh i)⟩;exact absurd z (Nat.ne_of_gt (U5 k.big i))
end L2
namespace QD
open PySem L2 PySem.Spec PyProof.Rows
noncomputable def zpD:List D->List D->Option (List (KA×D))
 | [],_=>some []
 | k::l,v::m=>(qV k).bind λa=>(zpD l m).bind λr=>some ((a,v)::r)
 | _::_,[]=>none
noncomputable def xz:List D->Option D
 | [.lst _ l,.tup m]=>(zpD l m).bind λps=>bif frzs (ps.map (·.2))&&lim ps.length then some (.dK true (YJ ps).1 (YJ ps).2) else none
 | _=>none
@[simp] theorem jeY(o:Bool)(l m:List D):xz [.lst o l,.tup m]=(zpD l m).bind λps=>bif frzs (ps.map (·.2))&&lim ps.length then some (.dK true (YJ ps).1 (YJ ps).2) else none:=rfl
theorem jdB:∀{l m:List D}{ps:List (KA×D)}{xs ys:List V}{O P:List Addr},zpD l m=some ps->Reps R Z H l xs O->Reps R Z H m ys P->frzs (ps.map (·.2))=true ->
  ∃ ws:List V,Reps R Z H (ps.map (·.2)) ws []/\xs=((ps.map λp=>kaV p.1).zip ws).map (λkv=>kV kv.1)/\∀(j:Nat) (kv:Key×V),((ps.map λp=>kaV p.1).zip ws)[j]?=some kv->ys[j]?=some kv.2
 | [],m,ps,xs,ys,O,P,e,b,d,c=>by
  cases e;rw[Reps] at b;obtain⟨rfl,_⟩:=b;exact⟨[],.empty,rfl,λj kv f=>by simp at f⟩
 | k::l,[],ps,xs,ys,O,P,e,b,d,c=>by cases e
 | k::l,v::m,ps,xs,ys,O,P,e,b,d,c=>by
  rw[zpD] at e;cases e1:qV k with
  | none=>rw[e1] at e;cases e
  | some a =>
   rw[e1,L4] at e;cases e2:zpD l m with
   | none=>rw[e2] at e;cases e
   | some o =>
    rw[e2] at e;cases e;rw[Reps] at b d;obtain⟨y,r,O1,O2,rfl,rfl,s,g⟩:=b;obtain⟨t,u,P1,P2,rfl,rfl,n,h⟩:=d;rw[L5,KG,M0] at c;obtain⟨ws,i,w,q⟩:=jdB e2 g h c.2;obtain⟨rfl,_⟩:=Ja e1 s;have x:=n.nil c.1;subst x;refine⟨t::ws,Reps.cons (O:=[]) (P:=[]) n i,by rw[L5,U8,L5,<- w],λj kv f=>?_⟩;cases j with
    | zero=>cases f;rfl
    | succ j=>exact q j kv (by simpa using f)
theorem jh1:BC R (jiZ R.K) xz:=by
 intro Z H y d J O z r e Q k
 match y,e,r with
 | [.lst o l,.tup m],e,r =>
  simp only[xz] at e;cases e1:zpD l m with
  | none=>rw[e1] at e;cases e
  | some c =>
   rw[e1,L4] at e;cases hm:frzs (c.map (·.2))&&lim c.length with
   | false=>rw[hm] at e;cases e
   | true =>
    rw[hm] at e;cases e;rw[M0] at hm;obtain⟨v,u,P1,P2,rfl,rfl,A,n⟩:=r.two_of;obtain⟨p,L,M,rfl,B,C⟩:=A.lst_of;rw[Rep] at n;obtain⟨t,E,rfl,F,rt⟩:=n;obtain⟨s,b,f,q⟩:=jdB e1 C rt hm.1;obtain⟨g,G,I,i⟩:=KO (ks:=[]) (l:=[]) (us:=[]) b .empty rfl;have j:s.length=c.length:=by rw[b.length];simp
    refine⟨p,t,E,(c.map λp=>kaV p.1).zip s,rfl,by rw[<- f];exact B.sq,F.sq,q,by simp[j];exact X6 hm.2,λD w=>?_⟩;refine k (Go.newO (wf0 z) w) ?_;have ne:∀ a,H a≠none->a≠D:=λa h e=>h (e▸w);rw[Rep];exact⟨D,g,[],rfl,G.frame (λa z=>z) (λa h=>jm (ne a (z a h))) (λa h=>(nomatch h)),i,by show upd H D _ D=some _;rw[jy];exact congrArg (λx=>some (HO.dK x)) I.symm,rfl⟩
theorem jdq{cl:Nat->Addr}{X:Cx}{a b:Expr}{tr:TA}{pr:PAf}{p p2 pos pos2:Pos}(i:X.calm=true)(j:X.mg "dict" = none)(c:X.mg "zip" = none)(h:QBs cl X [a,b] tr pr)(k:Gl X "dict":=by rfl)(d:Gl X "zip":=by rfl)
  (l:starEach [.Call (.Name "zip" p2) [a,b] [] pos2] X.env=(false,eval (.Call (.Name "zip" p2) [a,b] [] pos2) X.env)::starEach [] X.env:=by rfl)
  (e:(backTo pos (starEach [] X.env)).any (·.1)=false:=by rfl)
  (f:backTo pos (starEach [.Call (.Name "zip" p2) [a,b] [] pos2] X.env)=[(false,eval (.Call (.Name "zip" p2) [a,b] [] pos2) X.env)]:=by rfl)
  (m:starEach [a,b] X.env=[(false,eval a X.env),(false,eval b X.env)]:=by rfl) (g:starEach [b] X.env=[(false,eval b X.env)]:=by rfl) :
  QP cl X (.Call (.Name "dict" p) [.Call (.Name "zip" p2) [a,b] [] pos2] [] pos) (tCB (jiZ X.K) tr) (pCB xz pr):=⟨jjs i k j d c h.sem l e f m g,jiC jh1 h.den⟩
end QD
namespace L2
open PySem PySem.Spec PyProof.Rows
theorem jd7(m:A.handled=none)(j t:Addr)(d:t≠j)(a:Array Value) :
  Draws prog w A j [j,t] a.size (λi v=>a[i]?=some v) (λi h=>h.IsTupleIter j t i/\h.IsTuple t a) where
 live:=λ_ _ c=>let ⟨o,ho,_⟩:=c.1;⟨o,ho⟩
 frame:=λ_ _ _ c e=>by
  obtain⟨⟨f,n,q⟩,g,r,u⟩:=c;exact⟨⟨f,e j (by simp) f n,q⟩,g,e t (by simp) g r,u⟩
 item:=λi s Q E l c x=>by
  refine ua c.1 c.2 (y:=a[i]) (by simp[l]) λk p b=>?_;exact x _ k s.toks (by simp[l]) ⟨p,c.2.extBut b.extBut d⟩ b
 done:=λs Q E c z=>jeu m c.1 c.2 (by simp) z
theorem jgc(l:Addr)(a:Array Value):Meets (Builtin.«enumerate.__new__» ⟨[.type "enumerate",.ref l],[]⟩) (λ_ R s=>s.heap.IsTuple l a/\(∃ o,s.heap.get? l=some o) /\
   R (.ok (.ret (.ref (s.heap.push { cls:=.type "tuple_iterator",data:=.fields #[.ref l,.int 0 0] }).objs.size)))
    { s with heap:=(s.heap.push { cls:=.type "tuple_iterator",data:=.fields #[.ref l,.int 0 0] }).push { cls:=.type "enumerate",data:=.fields #[.none,.bool false,.ref s.heap.objs.size,rawInt 0,.none,.none] } }) :=
 .of_wp λprog w A R s h=>by
  obtain⟨i,g,d,j,os⟩:=s;obtain⟨e,⟨o,b⟩,h⟩:=h;have f:=sub_enumerate
  wp_walk using AutoSeq1.wpAny_loadPart' b
  refine wpAny_stack_any λk=>M7 ?_;split
  ·rename_i c _ _ _ _ _;cases(c==Value.type "enumerate")<;>(wp_walk using AutoSeq1.wpAny_loadPart' b,wpAny_pyIter_tuple e)<;>exact⟨_,rfl,h⟩
  ·wp_walk using AutoSeq1.wpAny_loadPart' b,wpAny_pyIter_tuple e
   exact⟨_,rfl,h⟩
theorem jf2(d:s.heap.IsTuple l vals)
  (h:∀ k,IsEnum k (s.heap.objs.size+1) s.heap.objs.size 0 .none->k.IsTupleIter s.heap.objs.size l 0->(∀ b o,s.heap.get? b=some o->k.get? b=some o)->Q (.ref (s.heap.objs.size+1)) { s with heap:=k }) :
  wpAny (model prog w) A (call (.type "enumerate") [.ref l]) Q E s:=by
 obtain⟨o,f,_⟩:=id d;refine callType_new F.called_enumerate (by decide) (F.typeCall_enumerate_1 _) (F.newCall_enumerate_1 _) (λobj=>F.args_object_init_2 obj _) F.entry_enumerate_new (jgc l vals) ⟨d,⟨o,f⟩,?_⟩;generalize a:s.heap.push { cls:=.type "tuple_iterator",data:=.fields #[.ref l,.int 0 0] }=k1;have g:k1.objs.size=s.heap.objs.size+1:=by rw[<- a];exact Heap.size_push ..
 have i:k1.IsTupleIter s.heap.objs.size l 0:=by rw[<- a];exact⟨_,E2 _ rfl,rfl,rfl⟩
 have j:∀ b o,s.heap.get? b=some o->k1.get? b=some o:=λb o e=>by rw[<- a];exact L8 _ e
 have c:=E2 k1 (o:={ cls:=.type "enumerate",data:=.fields #[.none,.bool false,.ref s.heap.objs.size,rawInt 0,.none,.none] }) rfl;show _/\_;rw[g] at c ⊢;obtain⟨x,y,r⟩:=i;exact⟨⟨_,c,rfl⟩,h _ c ⟨x,L8 _ y,r⟩ λb o e=>L8 _ (j b o e)⟩
theorem ji8(a:A.handled=none)(q:IsEnum s.heap e it n old)(c:s.heap.IsTupleIter it l i)(d:s.heap.IsTuple l vals)(f:vals[i]?=none)
  (go:∀ k,Heap.ExtBut it s.heap k->Q none { s with heap:=k }):wpAny (model prog w) A (pyNext (.ref e)) Q E s:=by
 have ty:s.TypeIs (.ref e) "enumerate":=⟨_,q,rfl⟩;unfold pyNext;refine L3 (wpAny_attempt (wpAny_callSpecial?_slot (name:=Str.ofString "__next__") ty F.slot_enumerate_next (wpAny_call_entry F.slot_enumerate_next ty F.entry_enumerate_next ?_ (F.args_enumerate_next_1 _))));show wpAny (model prog w) _ (field (.ref e) 2 >>= _) _ _ _;refine L3 (U7 q rfl (x:=.ref it) rfl (L3 (jeu (A:=A.in1) a c d f λk x kp g=>?_)));obtain⟨o,h,j⟩:=g;exact L3 (wpAny_isInstance (T:="StopIteration") (b:=true) ⟨o,h,j⟩ isSubtype_stop (M7 (go _ kp)))
noncomputable def jnu(K:PySem.W.Frag)(l:Addr):It :=
 ⟨λi H=>∃ xs x,SqT K H l xs/\xs[i]?=some x,λi H x H'=>∃ p v,(∀ xs,SqT K H l xs->xs[i]?=some v)/\x=.ref p/\H p=none/\H'=upd H p (.tup [.int i,v]),λi H=>∃ xs,SqT K H l xs/\xs.length<=i⟩
theorem jgF{P:Program}{w:World}{K:PySem.W.Frag}{B:List Expr}{n:Nat}{pos:Pos}(e it l:Addr)(t:e≠it)(N:l≠e)(O:l≠it) :
  Turn P w K (.Tuple B n pos) (jnu K l) [e,it] e (λi h=>(∃ old,IsEnum h e it i old)/\h.IsTupleIter it l i) where
 mem:=by simp
 obj:=λi h d b f=>by
  obtain⟨⟨old,j⟩,o,C,G,hd⟩:=d;rcases(by simpa using f:b=e \/ b=it) with z | z
  ·subst z;exact⟨_,j,λv q=>by cases q⟩
  ·subst z;exact⟨o,C,λv q=>by rw[hd] at q;cases q⟩
 keep:=λi h h' d k=>by
  obtain⟨⟨old,j⟩,o,C,r⟩:=d;exact⟨⟨old,k e (by simp) _ j⟩,o,k it (by simp) o C,r⟩
 item:=by
  intro X Q R S G i D s σ H E I J d U;subst Q R S;obtain⟨xs,x,L,V⟩:=U;obtain⟨a,Y,p,hz⟩:=I.tuple L;obtain⟨u,hu,ru⟩:=Y.get V;obtain⟨⟨old,j⟩,g⟩:=d;have Z:i < a.toArray.size:=by rw[N4];exact(L9.mp hu).1
  refine wpAny_pyNext_enum_itemD (jd7 (prog:=X.prog) (w:=X.w) (A:=X.A.in1) (show X.A.in1.handled=none from I.ok.hd G) it l O a.toArray) j ⟨g,p⟩ Z t (by simpa using⟨t,N.symm⟩) λv h1 tk hv C hst hT hsz hk=>?_;have hvu:v=u:=by
   have:a[i]?=some v:=by simpa using hv
   rw[hu] at this;exact(X7 this).symm
  subst hvu;refine⟨_,rfl,wpAny_letOwnedTupleGo_enum (s:={ s with heap:=h1,toks:=tk+1 }) C λM he2 c=>?_⟩;replace c:Heap.SameBut e h1 M:=c;have m:e < s.heap.objs.size:=N1 j;have F:M.get? s.heap.objs.size=_:=(c.2 _ (Nat.ne_of_gt m)).trans hT;have kk:∀ b o,b∉[e,it]->s.heap.get? b=some o->M.get? b=some o:=λb o f q=>by
   have y:b≠e/\b≠it:=by simpa using f
   exact(c.2 b y.1).trans (hk b o y.1 y.2 q)
  have I1:=I.turnedNew (h':=M) (t':=tk+1) (wr:=[e,it]) (T:=s.heap.objs.size) (xs:=[.int i,x]) (its:=#[.int i tk,v]) kk J (M9 _) ⟨⟨_,F,rfl,_,rfl⟩,_,F,rfl⟩ (.cons ⟨_,rfl⟩ (.cons ru .nil)) (by show 2<=sizeLine;decide);obtain⟨oi,ei,ri⟩:=hst.1;refine⟨.ref s.heap.objs.size,_,I1,rfl,⟨_,x,(λys hy=>by rw[I.tuple_inj hy L];exact V),rfl,I.hok.fresh (M9 _),rfl⟩,⟨⟨_,by simpa using he2⟩,oi,(c.2 it t.symm).trans ei,ri⟩,λb f=>?_⟩;rw[jm]
  ·exact(J b f).1
  ·intro z;have:b < s.heap.objs.size:=by
    obtain⟨oi,hoi,_⟩:=id g;rcases(by simpa using f:b=e \/ b=it) with q | q
    ·rw[q];exact m
    ·rw[q];exact N1 hoi
   exact absurd this (by rw[z];exact Nat.lt_irrefl _)
 done:=by
  intro X Q R S G i D s σ H E I J d U;subst Q R S;obtain⟨xs,L,V⟩:=U;obtain⟨a,Y,p,hz⟩:=I.tuple L;obtain⟨⟨old,j⟩,g⟩:=d;have hl:=Y.length;exact ji8 (I.ok.hd G) j g p (by simp;omega) λh1 eb=>⟨rfl,I.turnedL (t':=s.toks) (wr:=[e,it]) (λb o f q=>eb b o (by simp at f;exact f.2) q) J⟩
 self:=λ_ _ _ _ _ d h=>wpAny_pyIter_enum d.1.choose_spec h
noncomputable def jmx(K:PySem.W.Frag)(tl:TA):TI:=λσ H R=>tl σ H λvs H1=>∃ a xs,vs=[.ref a]/\SqT K H1 a xs/\R (jnu K a) H1
theorem jlY{X:Cx}{f:List Expr}{n:Nat}{tpos p pos:Pos}{a:Expr}{ta:TA}(w:Gl X "enumerate")(x:X.mg "enumerate" = none)(y:PA X [a] ta)(A:starEach [a] X.env=[(false,eval a X.env)]:=by rfl) :
  PI X (.Tuple f n tpos) (.Call (.Name "enumerate" p) [a] [] pos) (jmx X.K ta):=by
 intro d s σ H R I h;refine Call_ (VB I w x (show bootBuiltins "enumerate" = some (.type "enumerate") by decide +kernel) (PyProof.Rows.callWith_type1 (thn (y pos d s σ H _ I h) λM c ⟨N,m,j,B,C⟩=>?_) A rfl));obtain⟨l,O,rfl,D,q⟩:=C;obtain⟨u,rfl,E⟩:=B.one;cases E;obtain⟨F,P,r,Q⟩:=j.tuple D;have g:l < c.heap.objs.size:=by
  obtain⟨o,e,_⟩:=id r;exact N1 e
 refine jf2 r λt v k G=>?_;have J:Inv X d σ m { c with heap:=t }:=j.kept (t':=c.toks) G;refine PySem.wpAny_pyIter_enum (s:={ c with heap:=t }) v ?_;refine⟨c.heap.objs.size+1,[c.heap.objs.size+1,c.heap.objs.size],_,_,m,rfl,J,jgF _ _ l (Nat.succ_ne_self _) (N7 (Nat.lt_succ_of_lt g)) (N7 g),⟨⟨_,v⟩,k⟩,λb L=>?_,q⟩;have i:c.heap.objs.size<=b:=by
  rcases(by simpa using L:b=c.heap.objs.size+1 \/ b=c.heap.objs.size) with z | z
  ·rw[z];exact Nat.le_succ _
  ·rw[z];exact M9 _
 exact j.fpOk i (j.hok.fresh i)
end L2
namespace QD
open PySem L2 PySem.Spec PyProof.Rows
noncomputable def jfH:List D->Option (List D)
 | [.tup l]=>bif frzs l then some (yq 0 l) else none
 | _=>none
noncomputable def jkZ(p:PAf):PAf:=λρ=>(p ρ).bind jfH
@[simp] theorem pEnT_e:jkZ p ρ=(p ρ).bind jfH:=rfl
theorem jjV(h:PPs R ta p):PIt R (jmx R.K ta) (jkZ p):=by
 intro σ ρ Z H O N z s e Q k;unfold jkZ at e;cases e1:p ρ with
 | none=>rw[e1] at e;cases e
 | some P =>
 rw[e1,L4] at e;unfold jfH at e;split at e
 ·rename_i l;cases hf:frzs l with
  | false=>rw[hf] at e;cases e
  | true =>
   rw[hf,cond_true] at e;cases e;refine h z s e1 λ{S T U P1} B C=>?_;obtain⟨v,rfl,c⟩:=C.one_of;have D:=c.nil (show frz (.tup l)=true from hf);subst D;rw[Rep] at c;obtain⟨a,b,rfl,j,E⟩:=c;refine⟨a,b,rfl,j.sq,k B ?_⟩;intro F G m n zd i;have d:=(j.frame m n).sq;have o:Reps R F G l b []:=E.frame m n λa I=>(nomatch I);refine⟨λr=>⟨b,d,by rw[o.length];rw[v7] at r;exact r⟩,λx J=>?_⟩;obtain⟨y,L,rfl⟩:=k6 0 _ i x J;obtain⟨u,t,M⟩:=o.item L;refine⟨⟨b,u,d,t⟩,λw V f=>?_⟩;obtain⟨q,W,g,rfl,A,rfl⟩:=f;have:=g b d;rw[t] at this;cases this;refine⟨_,Go.newF (wf0 zd) A,?_⟩;have:=jcj (R:=R) (x:=.int i) (u:=.int i) zd A .int_mk M;simpa using this
 ·cases e
theorem jk1(b:X.mg "enumerate" = none)(h:QPs cl X [a] tr pr)(c:Gl X "enumerate":=by rfl)(d:starEach [a] X.env=[(false,eval a X.env)]:=by rfl):QI cl X (.Tuple elts n tpos) (.Call (.Name "enumerate" p) [a] [] pos) (jmx X.K tr) (jkZ pr):=⟨jlY c b h.sem d,jjV h.den⟩
def qh(K:PySem.W.Frag)(mg:Str->Option Value)(x:Str)(st:Stmt)(ps:List Str):Prop:=∃ f fd,FnFact K mg x x st f fd ps
def jcB(K:PySem.W.Frag)(C:Addr)(x qual:Str)(st:Stmt)(ps:List Str):Prop:=∃ f fd,MtFact K C x qual st f fd ps
def OkF(P:Program)(w:World)(K:PySem.W.Frag)(mg:Str->Option Value)(x:Str)(st:Stmt)(k:Nat)(ps:List Str)(sp:Sp):Prop:=∃ f fd,FnFact K mg x x st f fd ps/\∀ base,FnOk P w K mg base CX0 k f fd ps sp
def OkM(P:Program)(w:World)(K:PySem.W.Frag)(mg:Str->Option Value)(C:Addr)(x qual:Str)(st:Stmt)(k:Nat)(ps:List Str)(sp:Sp):Prop:=∃ f fd,MtFact K C x qual st f fd ps/\∀ base,FnOk P w K mg base CX0 k f fd ps sp
section
variable {K:PySem.W.Frag}{mg:Str->Option Value}{h:Heap}{x qual:Str}{st:Stmt}{ps:List Str}{a C:Addr}{od an:Option Addr}{sl:Array (Option Value)}{oc kV dc pm cd ct:Value}
theorem hasF(X:K.In h)(G:h.Ns mainGlobals mg)(e:PySem.W.nsIn K mainGlobals x=some (some (.ref a)))(b:K.lookup a=some ⟨oc,od,.func (PySem.W.fnOf x x (Ym st) (qp st) (jo st) .none kV dc pm an cd ct),sl⟩)(c:PySem.W.codeIn K cd x=true)(d:PySem.W.keepIn K (.ref a)=true)
  (f:∀(kV doc pm:Value) (an:Option Addr) (cdv ct:Value) (us:List Value),us.length=ps.length->bindArgs (PySem.W.fnOf x x (Ym st) (qp st) (jo st) .none kV doc pm an cdv ct) ⟨us,[]⟩=pure (ps.zip us)):qh K mg x st ps:=⟨_,_,uV b c d,PySem.W.mg_of X G e,(uV b c d).binds f⟩
theorem hasM(e:PySem.W.findIn K (.ref C) x=some (some (.ref a)))(f:PySem.W.isFn K (.ref a)=true)(c:K.lookup a=some ⟨oc,od,.func (PySem.W.fnOf x qual (Ym st) (qp st) (jo st) .none kV dc pm an cd ct),sl⟩)(d:PySem.W.codeIn K cd qual=true)(b:PySem.W.keepIn K (.ref a)=true)
  (g:∀(kV doc pm:Value) (an:Option Addr) (cdv ct:Value) (us:List Value),us.length=ps.length->bindArgs (PySem.W.fnOf x qual (Ym st) (qp st) (jo st) .none kV doc pm an cdv ct) ⟨us,[]⟩=pure (ps.zip us)):jcB K C x qual st ps:=⟨_,_,uV c d b,⟨e,f,b⟩,(uV c d b).binds g⟩
end
theorem fsc{N ps:List Str}{h:Scope}(a:h.kind=.function:=by rfl)(b:h.isCoroutine=false:=by rfl)(c:h.isGenerator=false:=by rfl)(d:N.Nodup:=by decide +kernel)(e:N.take ps.length=ps:=by rfl)
  (f:∀ x∈ps,h.names.lookup x=some .local \/ h.names.lookup x=some .cell:=by decide +kernel) (g:∀ y∈h.names,y.2≠.free:=by decide +kernel):FnScope N ps h:=⟨a,b,c,d,e,f,g⟩
theorem bkF{N ps:List Str}{a:Scope}(_:FnScope N ps a){X:Cx}{scope:Scope}{ix:List (Option Nat)}(N':List Str)(h1:X.env.scope=a:=by rfl)(h2:X.N=N:=by rfl)(h:wU a N scope N' ix=true:=by decide +kernel):BlockOk X scope N' ix:=jje a N h1 h2 h
section
variable {cl:Nat->Addr}{X:Cx}{pos:Pos}{x:Str}{scope:Scope}{N':List Str}{i:Nat}
theorem qS{j}{l:List Nat}(h:x=S l:=by decide +kernel):QP cl X (.Constant (.str x) j pos) (tC (.str x)) (pC (.str l)):=jmt l h
theorem cgN(a:N'.Nodup:=by decide +kernel)(hi:N'[i]?=some x:=by rfl)(b:∀ C s H fp,Loc (yT X scope N' C s H fp).env.scope x:=by first | exact λ_ _ _ _=>.inl rfl | exact λ_ _ _ _=>.inr rfl)
  (c:∀ C s H fp,(yT X scope N' C s H fp).fn x=true \/ (yT X scope N' C s H fp).env.scope.names.lookup x=some .local:=by first | exact λ_ _ _ _=>.inl rfl | exact λ_ _ _ _=>.inr rfl) :
  ∀ C s H fp,QG cl [] (yT X scope N' C s H fp) (.Name x pos) (QH i) (ji [] i):=λC s H fp=>jr a hi (b C s H fp) (c C s H fp)
theorem xr:∀ C s H fp,QIf cl (yT X scope N' C s H fp) [] (λ_ H Q=>Q true H) qT:=λ_ _ _ _=>jgu
theorem qI{i:Int}{j}:QB cl X (.Constant (.int i) j pos) (tC (.int i)) (pC (.int i)):=QP.bb jdX
end
end QD
namespace L2
open PySem PySem.Spec PyProof.Rows
theorem jbs{its:List Value}{ns:List Int}(h:IntsAre its ns):Vals (ns.map V.int) its:=by
 induction h with
 | nil=>exact .nil
 | cons n t _ a=>exact .cons ⟨t,rfl⟩ a
noncomputable def ja0(ns:List Int):List Int:=ns.mergeSort λa b=>decide (a<=b)
theorem jcY(ns:List Int):(ja0 ns).Perm ns:=List.mergeSort_perm _ _
theorem jf3(ns:List Int):(ja0 ns).Pairwise (·<=·):=by
 have h:=List.pairwise_mergeSort (le:=λa b:Int=>decide (a<=b)) (λa b c d e=>by simp at d e ⊢;omega) (λa b=>by simp;omega) ns;exact h.imp λh=>X6 h
theorem jcf{ns c:List Int}(h:c.Perm ns)(d:c.Pairwise (·<=·)):ja0 ns=c :=
 List.Perm.eq_of_pairwise (le:=(·<=·)) (λa b _ _ e f=>Int.le_antisymm e f) (jf3 ns) d ((jcY ns).trans h.symm)
section
variable {X:Cx}
def jhm(K:PySem.W.Frag):List V->Hp->VK->Prop:=λxs H Q=>∃(p:Addr) (ns:List Int),xs=[.ref p]/\SqL K H p (ns.map V.int)/\ns.length < 64/\∀ D,H D=none->Q (.ref D) (upd H D (.lst ((ja0 ns).map V.int)))
theorem jcE:Vy X (.builtin "sorted") (jhm X.K):=by
 intro j s σ H D E Q I r h;obtain⟨p,ns,rfl,v,F,q⟩:=h;obtain⟨u,rfl,w⟩:=r.one;cases w;obtain⟨b,k,⟨o,n,e,d,x,f⟩,_⟩:=I.list v;have y:IntsAre b ns:=x3 k;have z:b.length=ns.length:=by have:=k.length;rw[L1] at this;exact this.symm
 refine sorted_ints (vs:=b) (ns:=ns) ⟨o,e,d,n,f⟩ y (by omega) λout g A l B=>?_;obtain⟨c,C⟩:=sortedAll_at s.heap b out;have i:=I.hok.fresh (Nat.le_succ s.heap.objs.size);have m:=jcf l B;have t:g.length=ns.length:=l.length_eq;refine⟨.ref (s.heap.objs.size+1),_,I.laid (a:=s.heap.objs.size+1) (o:=.lst ((ja0 ns).map V.int)) (t':=s.toks) (λ_ _=>sortedAll_old) (Nat.le_succ _) ⟨?_,out.toList,c,?_,by simpa using C⟩,rfl,q _ i⟩
 ·rw[m,L1];have:sizeLine=16777216:=by decide
  omega
 ·rw[m];exact jbs A
end
end L2
namespace QD
open PySem L2 PySem.Spec PyProof.Rows
noncomputable def jaf:List D->Option D
 | [.lst _ l]=>(Y6 l).bind λns=>bif decide (l.length < 64) then some (.lst true ((ja0 ns).map D.int)) else none
 | _=>none
@[simp] theorem wN(o:Bool)(l:List D):jaf [.lst o l]=(Y6 l).bind λns=>bif decide (l.length < 64) then some (.lst true ((ja0 ns).map D.int)) else none:=rfl
section
variable {R:RC}{Z Z':Zn}{H H':Hp}
theorem jeH(ns:List Int):Reps R Z H (ns.map D.int) (ns.map V.int) []:=by
 induction ns with
 | nil=>exact .empty
 | cons n ns a=>exact Reps.cons (O:=[]) (P:=[]) .int_mk a
theorem jgY:BC R (jhm R.K) jaf:=by
 intro Z H c d j O z r e Q k
 match c,e,r with
 | [.lst o l],e,r =>
  simp only[jaf] at e;cases e1:Y6 l with
  | none=>rw[e1] at e;cases e
  | some ns =>
   rw[e1,L4] at e;cases b:decide (l.length < 64) with
   | false=>rw[b] at e;cases e
   | true =>
    rw[b] at e;cases e;have b:=X6 b;obtain⟨v,rfl,f⟩:=r.one_of;obtain⟨p,m,n,rfl,g,a⟩:=f.lst_of;have:=a.ints e1;subst this;have h:=a.length;rw[L1] at h;refine⟨p,ns,rfl,g.sq,by omega,λD i=>?_⟩;refine k (Go.newO (wf0 z) i) ?_;rw[Rep];exact⟨D,_,[],rfl,jeH _,jy,rfl⟩
end
theorem jaS:bootBuiltins "sorted" = some (.builtin "sorted"):=by boot_fast
end QD
namespace K42
open PySem L2 QD
noncomputable def top(i:Nat):Stmt:=PySem.Challenge.pw_tranchefall_k42_steps_of_pays.main.body.getD i (.Pass ⟨0,0,0,0⟩)
noncomputable abbrev J3:Stmt:=top 1
noncomputable abbrev YB:List Str:=["parts"]
theorem Qx:FnScope ["parts"] YB (jo J3):=fsc
noncomputable abbrev qF:Stmt:=top 3
noncomputable abbrev qL:List Str:=["pool","name"]
theorem VF:FnScope ["pool","name","order"] qL (jo qF):=fsc
noncomputable abbrev Jq:Stmt:=top 4
noncomputable abbrev Jr:List Str:=["pool","days_of"]
theorem qK:FnScope ["pool","days_of","claim","days","order"] Jr (jo Jq):=fsc
noncomputable abbrev kE:Stmt:=top 6
noncomputable abbrev kF:List Str:=["pool"]
theorem vi:FnScope ["pool","greatest","claim","days","order"] kF (jo kE):=fsc
noncomputable abbrev yD:Stmt:=Qh (top 10) 2
noncomputable abbrev yC:List Str:=["self","claim"]
theorem Ye:FnScope ["self","claim"] yC (jo yD):=fsc
noncomputable abbrev vO:Stmt:=Qh (top 10) 3
noncomputable abbrev vQ:List Str:=["self","rule"]
theorem kz:FnScope ["self","rule","kind","claim"] vQ (jo vO):=fsc
noncomputable abbrev qM:Stmt:=top 12
noncomputable abbrev qG:List Str:=["_law_script","_law_k"]
theorem xA:FnScope ["_law_script","_law_k"] qG (jo qM):=fsc
noncomputable abbrev Yt:Stmt:=top 13
noncomputable abbrev J5:List Str:=["_law_cell","_law_k"]
theorem Qw:FnScope ["_law_cell","_law_k","_law_number"] J5 (jo Yt):=fsc
noncomputable abbrev qC:Stmt:=top 14
noncomputable abbrev qE:List Str:=["_law_number","_law_size"]
theorem vk:FnScope ["_law_number","_law_size","_law_some","_law_word","_law_k"] qE (jo qC):=fsc
noncomputable abbrev Yk:Stmt:=top 15
noncomputable abbrev J7:List Str:=["_law_word"]
theorem Y8:FnScope ["_law_word","_law_some","_law_kept"] J7 (jo Yk):=fsc
noncomputable abbrev JA:Stmt:=top 17
noncomputable abbrev Jo:List Str:=["_law_m"]
theorem ww:FnScope ["_law_m"] Jo (jo JA):=fsc
noncomputable abbrev Yj:Stmt:=top 20
noncomputable abbrev J6:List Str:=["_law_m","_law_claims","_law_orders_here","_law_most"]
theorem Jm:FnScope ["_law_m","_law_claims","_law_orders_here","_law_most","_law_looks_here","_law_k","_law_n"] J6 (jo Yj):=fsc
noncomputable abbrev Jf:Stmt:=top 21
noncomputable abbrev Jw:List Str:=["_law_m","_law_claims","_law_pots","_law_orders_here"]
theorem yj:FnScope ["_law_m","_law_claims","_law_pots","_law_orders_here","_law_busy","_law_name","_law_parts","_law_rules","_law_rule_here","_law_guards_here","_law_k","_law_claim"] Jw (jo Jf):=fsc
noncomputable abbrev YC:Stmt:=top 25
noncomputable abbrev Ya:List Str:=["_law_pool_here","_law_outline"]
theorem ko:FnScope ["_law_pool_here","_law_outline","_law_days_running","_law_claim","_law_days","_law_name"] Ya (jo YC):=fsc
noncomputable abbrev kX:Stmt:=top 26
noncomputable abbrev kY:List Str:=["_law_pool_here"]
theorem va:FnScope ["_law_pool_here","_law_most","_law_claim","_law_days","_law_name"] kY (jo kX):=fsc
noncomputable abbrev Va:Stmt:=top 27
noncomputable abbrev Vm:List Str:=["_law_pool_here"]
theorem kh:FnScope ["_law_pool_here","_law_orders_here","_law_name","_law_parts","_law_rules","_law_pays_here","_law_rule_here"] Vm (jo Va):=fsc
noncomputable abbrev Yn:Stmt:=top 28
noncomputable abbrev Yh:List Str:=["_law_order_here","_law_living"]
theorem vd:FnScope ["_law_order_here","_law_living","_law_first","_law_place","_law_rule_here","_law_stops_here"] Yh (jo Yn):=fsc
noncomputable abbrev Vr:Stmt:=top 7
noncomputable abbrev Vu:List Str:=["pool","outline"]
theorem jbf:FnScope ["pool","outline"] Vu (jo Vr):=fsc
noncomputable abbrev yQ:Stmt:=Qh (top 10) 0
noncomputable abbrev yK:List Str:=["self","pool","outline","killed"]
theorem yE:FnScope ["self","pool","outline","killed","claim"] yK (jo yQ):=fsc
noncomputable abbrev vv:Stmt:=Qh (top 10) 1
noncomputable abbrev vq:List Str:=["self","rule"]
theorem ke:FnScope ["self","rule","kind"] vq (jo vv):=fsc
noncomputable abbrev ym:Stmt:=Qh (top 10) 5
noncomputable abbrev yo:List Str:=["self","claim","days"]
theorem JB:FnScope ["self","claim","days"] yo (jo ym):=fsc
noncomputable abbrev Yq:Stmt:=top 16
noncomputable abbrev YA:List Str:=["_law_cell","_law_many","_law_longest"]
theorem yf:FnScope ["_law_cell","_law_many","_law_longest","_law_some","_law_number","_law_base","_law_size","_law_at","_law_words_here","_law_k","_law_sign","_law_word"] YA (jo Yq):=fsc
noncomputable abbrev Ve:Stmt:=top 18
noncomputable abbrev Vp:List Str:=["_law_m","_law_claims","_law_pots","_law_others"]
theorem vN:FnScope ["_law_m","_law_claims","_law_pots","_law_others","_law_kind","_law_rest","_law_claim","_law_many","_law_names"] Vp (jo Ve):=fsc
noncomputable abbrev KN:Stmt:=top 29
noncomputable abbrev KB:List Str:=["_law_pool_here","_law_greatest_here","_law_outline"]
theorem jS:FnScope ["_law_pool_here","_law_greatest_here","_law_outline","_law_order_here","_law_alive","_law_eatable","_law_due_here","_law_kills","_law_living","_law_first","_law_stops_here","_law_stop","_law_days_running","_law_k","_law_row","_law_missed","_law_left"] KB (jo KN):=fsc
noncomputable abbrev ye:Stmt:=Qh (top 10) 4
noncomputable abbrev ya:List Str:=["self"]
theorem jp:FnScope ["self","drawn","runs","alive","full"] ya (jo ye):=fsc
noncomputable abbrev Jx:Stmt:=top 19
noncomputable abbrev Jh:List Str:=["_law_cells","_law_claims","_law_pots","_law_others","_law_words_here"]
theorem jW:FnScope ["_law_cells","_law_claims","_law_pots","_law_others","_law_words_here","_law_rows","_law_k","_law_cell","_law_m","_law_rest","_law_claim","_law_here","_law_tenths"] Jh (jo Jx):=fsc
noncomputable abbrev Jt:Stmt:=top 9
noncomputable abbrev Je:List Str:=["pool","order","outline","kills","killed"]
theorem ku:FnScope ["pool","order","outline","kills","killed","day","steps","cut","rule"] Je (jo Jt):=fsc
noncomputable abbrev Vg:Stmt:=top 22
noncomputable abbrev Vs:List Str:=["_law_cells","_law_words_here","_law_ordered","_law_others","_law_most"]
theorem yb:FnScope ["_law_cells","_law_words_here","_law_ordered","_law_others","_law_most","_law_first","_law_second","_law_names","_law_pots","_law_orders_here","_law_claims","_law_k","_law_name","_law_eat","_law_looks_here","_law_marks"] Vs (jo Vg):=fsc
noncomputable abbrev Vh:Stmt:=top 8
noncomputable abbrev Vb:List Str:=["pool","outline"]
theorem vI:FnScope ["pool","outline","order","alive","can_die","steps","kills"] Vb (jo Vh):=fsc
noncomputable abbrev Kq:Stmt:=top 23
noncomputable abbrev Ke:List Str:=["_law_script","_law_most"]
theorem Qi:FnScope ["_law_script","_law_most","_law_words_here","_law_ordered"] Ke (jo Kq):=fsc
noncomputable abbrev Yf:Stmt:=top 24
noncomputable abbrev qX:List Str:=["_law_found","_law_due_here"]
theorem Qp:FnScope ["_law_found","_law_due_here","_law_k"] qX (jo Yf):=fsc
noncomputable abbrev uP:Stmt:=top 30
noncomputable abbrev jgh:List Str:=["_law_script"]
theorem JM:FnScope ["_law_script","_law_pool_here","_law_greatest_here","_law_k","_law_cell","_law_m","_law_days_running","_law_alive","_law_outline","_law_found","_law_due_here"] jgh (jo uP):=fsc
noncomputable def VG:FS:=(kr (dP (pCB jj1 (jc (vR (K1 (pV 0)) (ji [] 0) qT (pF (p2 jq (pV 0) (pC (.int 1)))) [none]) pN))))
noncomputable def Yi:List D->Option D:=fnP 1 VG
noncomputable def vE:FS:=(sIf (dPT (jx (p2 Jd (p2 jq (pV 2) (pC (.int 0))) (pV 1)))) (kr (dP (pF (pV 2))))
 yG)
noncomputable def Yc:FS:=(jQ (Kc (pIt (pF (p2 jq (pV 0) (pC (.int 4))))) (ji [] 2) vE)
 (kr (dP (pC .non))))
noncomputable def vS:List D->Option D:=fnP 3 Yc
noncomputable def vm:FS:=(sIf (dPT (jx (p2 jj3 (p2 y6 (pV 1) (pV 2)) (pV 3)))) (kr (dP (pF (pV 4))))
 yG)
noncomputable def Jp:FS:=(jQ (Kc (pIt (pF (p2 jq (pV 0) (pC (.int 5))))) (gT 3 (gC (ji [] 2) (gC (ji [] 3) (gC (ji [] 4) gN)))) vm)
 (kr (dP (pF (p2 jq (p2 jq (p2 jq (pV 0) (pC (.int 4))) (pC (.int 0))) (pC (.int 0)))))))
noncomputable def kj:List D->Option D:=fnP 5 Jp
noncomputable def yz:FS:=(u4 1 (pV 2) (pCB jk9 (jc (p3 Ki (pV 1) (pV 2) (pC (.int 0))) (jc (pV 3) pN))))
noncomputable def qZ:FS:=(jQ (yx (dP (pC (.dK true [] []))) (ji [] 1))
 (jQ (Kc (pIt (pF (p2 jq (pV 0) (pC (.int 5))))) (gT 3 (gC (ji [] 2) (gC (ji [] 3) (gC (ji [] 4) gN)))) yz)
 (kr (dMv 1))))
noncomputable def vC:List D->Option D:=fnP 5 qZ
noncomputable def vp:FS:=(kr (dP (QN (p2 y6 (Kk 0 "alive" (pV 0)) (pV 1)) (p2 (Kv true) (pV 1) (Kk 0 "served" (pV 0))))))
noncomputable def jn:List D->Option D:=fnP 2 vp
noncomputable def kc:FS:=(JX 0 (jbr 0 "served" jci) (pV 3) (pC (.bl true)))
noncomputable def yw:FS:=(jQ (yx (dP (pF (p2 jq (pV 1) (pC (.int 0))))) (ji [0] 2))
 (sIf (dPT (jx (p2 Jd (pV 2) (pC (.str [102,105,108,108]))))) (JX 0 (jbr 0 "full" jci) (p2 jq (pV 1) (pC (.int 1))) (pC (.bl true)))
 (sIf (dPT (jx (p2 Jd (pV 2) (pC (.str [115,104,97,114,101]))))) (Kc (pIt (pF (p2 jq (pV 1) (pC (.int 1))))) (ji [0] 3) kc)
 (jQ (JX 0 (jbr 0 "served" jci) (p2 jq (pV 1) (pC (.int 1))) (pC (.bl true)))
 (sIf (dPT (jx (p2 Jd (pV 2) (pC (.str [114,101,112,97,121]))))) (JX 0 (jbr 0 "repaid" jci) (p2 jq (pV 1) (pC (.int 1))) (pC (.bl true)))
 yG)))))
noncomputable def jM:List D->Option (D×D):=fnM 4 0 yw
noncomputable def qA:FS:=(jQ (sIf (dPT (jx (p2 jir (pV 1) (pCB kJ (jc (pV 0) pN))))) (kr (dP (pF (p2 jq (pV 0) (pV 1)))))
 yG)
 (kr (dP (pC (.int 0)))))
noncomputable def yP:List D->Option D:=fnP 2 qA
noncomputable def VU:FS:=(jQ (yx (dP (p2 jC (p2 vw (p2 jC (pV 0) (pC (.int 2147483647))) (p2 jG (pC (.int 69621)) (p2 vw (p2 vw (pC (.int 1511)) (pV 1)) (pV 1)))) (pC (.int 2147483629)))) (ji [] 2))
 (kr (dP (p2 jC (p2 vw (p2 jG (pV 2) (pV 1)) (p2 jG (p2 jG (pV 2) (p2 vw (pC (.int 5)) (pV 1))) (pC (.int 1)))) (pC (.int 2147483587))))))
noncomputable def yi:List D->Option D:=fnP 3 VU
noncomputable def Jb:FS:=(jQ (yx (dP (p2 jG (pV 3) (p2 jq (pV 2) (p2 jC (pV 0) (pC (.int 26)))))) (ji [] 3))
 (yx (dP (p2 jZ (pV 0) (pC (.int 26)))) (ji [] 0)))
noncomputable def Yr:FS:=(jQ (yx (dP (pC (.str [97,98,99,100,101,102,103,104,105,106,107,108,109,110,111,112,113,114,115,116,117,118,119,120,121,122]))) (ji [] 2))
 (jQ (yx (dP (pC (.str []))) (ji [] 3))
 (jQ (Kc (VW (jc (pV 1) pN)) (ji [] 4) Jb)
 (kr (dP (pF (pV 3)))))))
noncomputable def vg:List D->Option D:=fnP 5 Yr
noncomputable def kQ:FS:=(jQ (yx (dP (pC (.str [97,98,99,100,101,102,103,104,105,106,107,108,109,110,111,112,113,114,115,116,117,118,119,120,121,122]))) (ji [] 1))
 (jQ (yx (dP (Vn (jc (pC (.str [112,111,111,108])) (jc (pC (.str [99,108,97,105,109])) (jc (pC (.str [112,111,116])) (jc (pC (.str [101,97,116])) (jc (pC (.str [111,114,100,101,114])) (jc (pC (.str [112,97,114,116])) (jc (pC (.str [112,97,121])) (jc (pC (.str [115,104,97,114,101])) (jc (pC (.str [114,101,112,97,121])) (jc (pC (.str [102,105,108,108])) (jc (pC (.str [108,101,110,100])) (jc (pC (.str [98,97,99,107])) pN)))))))))))))) (ji [] 2))
 (jQ (sIf (dPT (qOr (jx (p2 (QM false) (pV 0) (pV 2))) (jx (p2 (QM false) (pV 0) (Vn (jc (pC (.str [114,101,115,116])) (jc (pC (.str [108,111,111,107])) (jc (pC (.str [103,117,97,114,100])) (jc (pC (.str [100,101,98,116])) (jc (pC (.str [111,110])) (jc (pC (.str [108,97,116,101])) (jc (pC (.str [101,97,114,108,121])) (jc (pC (.str [113,117,105,116])) pN))))))))))))) (kr (dP (p2 jG (pSl (pV 0) oN (oS (p1 jcQ (pC (.int 1))))) (p2 jq (pV 1) (p2 jC (p2 jG (pBM "str" um (pV 1) (jc (p2 jq (pV 0) (p1 jcQ (pC (.int 1)))) pN)) (pC (.int 13))) (pC (.int 26)))))))
 yG)
 (kr (dP (pF (pV 0)))))))
noncomputable def ki:List D->Option D:=fnP 3 kQ
noncomputable def Jj:FS:=(jQ (sIf (dPT (jx (p2 Jd (p2 jC (pV 0) (pC (.int 3))) (pC (.int 0))))) (kr (dP (p2 jG (pC (.int 1)) (p2 jC (p2 jZ (pV 0) (pC (.int 3))) (pC (.int 4))))))
 yG)
 (kr (dP (p2 jG (pC (.int 1)) (p2 jC (p2 vw (pV 0) (pV 0)) (p2 jgj (pC (.int 10)) (pC (.int 12))))))))
noncomputable def yu:List D->Option D:=fnP 1 Jj
noncomputable def qH:FS:=(jQ (yx (dP (p2 jG (p2 jG (p2 jZ (pV 0) (pC (.int 3))) (p2 vw (pV 5) (pC (.int 40)))) (p2 vw (p2 vw (pC (.int 7)) (pV 5)) (p2 jZ (pV 0) (pC (.int 50)))))) (ji [] 6))
 (wA 4 (kH (jc (pF (p2 jq (pV 1) (p2 jC (pV 6) (pCB jj2 (jc (pC (.int 2)) (jc (pCB kJ (jc (pV 1) pN)) pN)))))) (jc (p2 jG (pC (.int 1)) (p2 jC (p2 jZ (pV 6) (pC (.int 2))) (pV 3))) (jc (pF (p2 jq (p2 jq (pV 2) (p2 jC (p2 jZ (pV 6) (p2 vw (pC (.int 2)) (pV 3))) (pCB kJ (jc (pV 2) pN)))) (pC (.int 0)))) pN))))))
noncomputable def VO:FS:=(jQ (yx (dP (Vn pN)) (ji [] 4))
 (jQ (Kc (VW (jc (p2 jC (pV 0) (pC (.int 3))) pN)) (ji [] 5) qH)
 (kr (dMv 4))))
noncomputable def Yy:List D->Option D:=fnP 7 VO
noncomputable def yV:FS:=(sIf (dPT (jx (p2 Jd (p2 jq (pV 8) (pC (.int 0))) (pC (.str [115,104,97,114,101]))))) (jiD 4 (vR (K1 (p2 jq (pV 8) (pC (.int 1)))) (ji [] 0) qT (pF (pV 0)) [none]))
 (sIf (dPT (jx (p2 Jd (p2 jq (pV 8) (pC (.int 0))) (pC (.str [114,101,112,97,121]))))) (wA 4 (pF (p2 jq (pV 8) (pC (.int 1)))))
 yG))
noncomputable def JI:FS:=(Kc (pIt (pF (pV 7))) (ji [] 8) yV)
noncomputable def v8:FS:=(sIf (dPT (zh (jx (p2 (QM true) (pV 11) (pV 4))) (zh (jx (p2 ug (pCB kJ (jc (pV 2) pN)) (pC (.int 0)))) (jx (p2 ug (p2 jC (p2 jZ (pV 0) (p2 jG (p2 vw (pC (.int 5)) (pV 10)) (pC (.int 3)))) (pC (.int 4))) (pC (.int 0))))))) (wA 9 (kH (jc (pF (p2 jq (pV 2) (p2 jC (p2 jZ (pV 0) (p2 jG (p2 vw (pC (.int 7)) (pV 10)) (pC (.int 2)))) (pCB kJ (jc (pV 2) pN))))) (jc (pF (pV 11)) pN))))
 yG)
noncomputable def YH:FS:=(jQ (yx (dP (Vn pN)) (ji [] 4))
 (jQ (Kc (pIt (pF (pV 3))) (gT 3 (gC (ji [] 5) (gC (ji [] 6) (gC (ji [] 7) gN)))) JI)
 (jQ (yx (dP (Vn pN)) (ji [] 9))
 (jQ (Kc (Qg (jc (pF (pV 1)) pN)) (gT 2 (gC (ji [] 10) (gC (ji [] 11) gN))) v8)
 (kr (dMv 9))))))
noncomputable def Jn:List D->Option D:=fnP 12 YH
noncomputable def vP:FS:=(sIf (dPT (jx (p2 jj3 (p2 y6 (pV 2) (pV 3)) (pV 4)))) (kr (dP (pF (p2 jq (vR (K1 (p2 jq (pV 0) (pC (.int 4)))) (ji [] 0) (jx (p2 Jd (p2 jq (pV 0) (pC (.int 0))) (pV 1))) (pF (pV 0)) [none,some 5]) (pC (.int 0))))))
 yG)
noncomputable def Yd:FS:=(jQ (yx (dP (pCB xI (jc (p2 jq (pV 1) (pC (.int 0))) pN))) (ji [] 2))
 (jQ (Kc (pIt (pF (p2 jq (pV 0) (pC (.int 5))))) (gT 3 (gC (ji [] 3) (gC (ji [] 4) (gC (ji [] 5) gN)))) vP)
 (kr (dP (pF (p2 jq (p2 jq (pV 0) (pC (.int 4))) (pC (.int 0))))))))
noncomputable def kW:List D->Option D:=fnP 6 Yd
noncomputable def qr:FS:=(u4 1 (pV 2) (pCB jk9 (jc (p3 Ki (pV 1) (pV 2) (pC (.int 0))) (jc (pV 3) pN))))
noncomputable def JD:FS:=(jQ (yx (dP (pC (.dK true [] []))) (ji [] 1))
 (jQ (Kc (pIt (pF (p2 jq (pV 0) (pC (.int 5))))) (gT 3 (gC (ji [] 2) (gC (ji [] 3) (gC (ji [] 4) gN)))) qr)
 (kr (uX (JT 1) (ji [] 0) qT (kH (jc (pF (pV 0)) (jc (pF (p2 y6 (pV 1) (pV 0))) pN))) [none,some 1]))))
noncomputable def kZ:List D->Option D:=fnP 5 JD
noncomputable def vH:FS:=(sIf (dPT (jx (p2 Jd (p2 jq (pV 6) (pC (.int 0))) (pC (.str [115,104,97,114,101]))))) (wA 5 (kH (jc (pC (.str [112,97,121])) (jc (pF (p2 jq (p2 jq (pV 6) (pC (.int 1))) (pC (.int 0)))) pN))))
 (sIf (dPT (qOr (jx (p2 Jd (p2 jq (pV 6) (pC (.int 0))) (pC (.str [112,97,121])))) (jx (p2 Jd (p2 jq (pV 6) (pC (.int 0))) (pC (.str [114,101,112,97,121])))))) (wA 5 (kH (jc (pC (.str [112,97,121])) (jc (pF (p2 jq (pV 6) (pC (.int 1)))) pN))))
 yG))
noncomputable def Js:FS:=(jQ (yx (dP (Vn pN)) (ji [] 5))
 (jQ (Kc (pIt (pF (pV 4))) (ji [] 6) vH)
 (wA 1 (kH (jc (pF (pV 2)) (jc (pF (pV 3)) (jc (p2 jG (pV 5) (pSl (pV 4) (oS (p1 jcQ (pC (.int 1)))) oN)) pN)))))))
noncomputable def K9:FS:=(jQ (yx (dP (Vn pN)) (ji [] 1))
 (jQ (Kc (pIt (pF (p2 jq (pV 0) (pC (.int 4))))) (gT 3 (gC (ji [] 2) (gC (ji [] 3) (gC (ji [] 4) gN)))) Js)
 (sFz 1 (kr (dP (kH (jc (pF (p2 jq (pV 0) (pC (.int 0)))) (jc (pF (p2 jq (pV 0) (pC (.int 1)))) (jc (Vn pN) (jc (pF (p2 jq (pV 0) (pC (.int 3)))) (jc (pF (pV 1)) (jc (pF (p2 jq (pV 0) (pC (.int 5)))) (jc (Vn pN) pN)))))))))))))
noncomputable def Vx:List D->Option D:=fnP 7 K9
noncomputable def vf:FS:=(sIf (dPT (zh (jx (p2 Jd (p2 jq (pV 4) (pC (.int 0))) (pC (.str [112,97,121])))) (zh (jx (p2 y6 (pV 1) (p2 jq (pV 4) (pC (.int 1))))) (jx (p2 (Kv true) (p2 jq (pV 4) (pC (.int 1))) (pV 2)))))) (u4 2 (p2 jq (pV 4) (pC (.int 1))) (pV 3))
 yG)
noncomputable def Ys:FS:=(jQ (yx (dP (pC (.dK true [] []))) (ji [] 2))
 (jQ (Kc (Qg (jc (pF (p2 jq (pV 0) (pC (.int 2)))) pN)) (gT 2 (gC (ji [] 3) (gC (ji [] 4) gN))) vf)
 (jQ (yx (dOp jG (dCB jaf (zU (Kn 2 (ji [] 0) qT (pF (p2 y6 (pV 1) (pV 0))) [none,some 2]) jhn)) (dP (Vn (jc (pCB kJ (jc (p2 jq (pV 0) (pC (.int 2))) pN)) pN)))) (ji [] 5))
 (jQ (sIf (dPT (jx (p2 jj3 (pCB jj1 (jc (vR (K1 (p2 jq (pV 0) (pC (.int 1)))) (gT 2 (gC (ji [] 0) (gC (ji [] 1) gN))) qT (pF (pV 1)) [none,none]) pN)) (pC (.int 10))))) (yx (dP (pSl (pV 5) oN (oS (pC (.int 1))))) (ji [] 5))
 yG)
 (kr (jl6 (zU (dMv 2) (zU (dMv 5) jhn))))))))
noncomputable def kM:List D->Option D:=fnP 6 Ys
noncomputable def Vo:FS:=(kr (dP (yh kj (jc (pV 0) (jc (pCB xI (jc (p2 jq (pV 1) (pC (.int 0))) pN)) pN)))))
noncomputable def qP:List D->Option D:=fnP 2 Vo
noncomputable def yr:FS:=(JX 0 (jbr 0 "alive" jci) (pV 4) (pC (.bl false)))
noncomputable def yM:FS:=(jQ (V0 0 0 "claims" (vR (K1 (p2 jq (pV 1) (pC (.int 1)))) (ji [] 0) qT (pF (p2 jq (pV 0) (pC (.int 0)))) [none]))
 (jQ (V0 0 0 "pots" (vR (K1 (p2 jq (pV 1) (pC (.int 2)))) (ji [] 0) qT (pF (p2 jq (pV 0) (pC (.int 0)))) [none]))
 (jQ (V0 0 0 "guards" (pF (p2 jq (pV 1) (pC (.int 6)))))
 (jQ (V0 0 0 "greatest" (yh vC (jc (pV 1) pN)))
 (jQ (V0 0 0 "runs" (pF (p2 jq (pV 2) (pC (.int 0)))))
 (jQ (V0 0 0 "alive" (pCB xz (jc (Kk 0 "claims" (pV 0)) (jc (p2 jq (pV 2) (pC (.int 1))) pN))))
 (jQ (Kc (pIt (pF (pV 3))) (ji [0] 4) yr)
 (jQ (V0 0 0 "full" (pCB xz (jc (Kk 0 "pots" (pV 0)) (jc (p2 jq (pV 2) (pC (.int 2))) pN))))
 (jQ (V0 0 0 "served" (pC (.dK true [] [])))
 (V0 0 0 "repaid" (pC (.dK true [] []))))))))))))
noncomputable def yk:List D->Option (D×D):=fnM 5 0 yM
noncomputable def jO:FS:=(jQ (yx (dP (pF (p2 jq (pV 1) (pC (.int 0))))) (ji [] 2))
 (jQ (sIf (dPT (jx (p2 Jd (pV 2) (pC (.str [112,97,121]))))) (kr (dP (kO jn 0 "is_missed" (pV 0) (jc (p2 jq (pV 1) (pC (.int 1))) pN))))
 yG)
 (jQ (sIf (dPT (jx (p2 Jd (pV 2) (pC (.str [115,104,97,114,101]))))) (kr (dP (pCB jkb (jc (vR (K1 (p2 jq (pV 1) (pC (.int 1)))) (ji [] 0) qT (kO jn 0 "is_missed" (pV 1) (jc (pV 0) pN)) [none,some 0]) pN))))
 yG)
 (jQ (sIf (dPT (jx (p2 Jd (pV 2) (pC (.str [114,101,112,97,121]))))) (kr (dP (QN (p2 y6 (Kk 0 "alive" (pV 0)) (p2 jq (pV 1) (pC (.int 1)))) (p2 (Kv true) (p2 jq (pV 1) (pC (.int 1))) (Kk 0 "repaid" (pV 0))))))
 yG)
 (jQ (sIf (dPT (jx (p2 Jd (pV 2) (pC (.str [102,105,108,108]))))) (kr (dP (jio (p2 y6 (Kk 0 "full" (pV 0)) (p2 jq (pV 1) (pC (.int 1)))))))
 yG)
 (kr (dP (pC (.bl false)))))))))
noncomputable def jz:List D->Option D:=fnP 3 jO
noncomputable def y9:FS:=(kr (dP (pIf (jx (kO jn 0 "is_missed" (pV 0) (jc (pV 1) pN))) (pCB jj2 (jc (p2 jG (pV 2) (pC (.int 1))) (jc (p2 y6 (Kk 0 "greatest" (pV 0)) (pV 1)) pN))) (pC (.int 0)))))
noncomputable def jE:List D->Option D:=fnP 3 y9
noncomputable def vT:FS:=(jQ (yx (dP (pF (p2 jq (pV 3) (p2 jC (p2 jG (p2 jZ (pV 4) (pC (.int 192))) (pV 9)) (pC (.int 26)))))) (ji [] 10))
 (jQ (sIf (dPT (jx (p2 Jd (p2 jC (pV 4) (pC (.int 3))) (pC (.int 0))))) (yx (dP (p2 jG (p2 jG (pSl (pV 5) oN (oS (pV 7))) (pV 10)) (pSl (pV 5) (oS (p2 jG (pV 7) (pC (.int 1)))) (oS (pV 6))))) (ji [] 11))
 (sIf (dPT (jx (p2 Jd (p2 jC (pV 4) (pC (.int 3))) (pC (.int 1))))) (yx (dP (pSl (pV 5) oN (oS (p2 jG (pC (.int 1)) (p2 jC (p2 jG (p2 jZ (pV 4) (pC (.int 24))) (pV 9)) (pV 2)))))) (ji [] 11))
 (yx (dP (pSl (p2 jG (pV 10) (yh vg (jc (yh yi (jc (pV 0) (jc (p2 jG (pV 9) (pC (.int 2))) pN))) (jc (pC (.int 7)) pN)))) oN (oS (p2 jG (pC (.int 1)) (p2 jC (yh yi (jc (pV 0) (jc (p2 jG (pV 9) (pC (.int 40))) pN))) (pV 2)))))) (ji [] 11))))
 (wA 8 (yh ki (jc (pV 11) pN)))))
noncomputable def Yb:FS:=(jQ (yx (dP (pC (.str [97,98,99,100,101,102,103,104,105,106,107,108,109,110,111,112,113,114,115,116,117,118,119,120,121,122]))) (ji [] 3))
 (jQ (yx (dP (yh yi (jc (pV 0) (jc (pC (.int 1)) pN)))) (ji [] 4))
 (jQ (yx (dP (yh vg (jc (p2 jG (p2 vw (pV 4) (pV 4)) (pV 4)) (jc (pC (.int 8)) pN)))) (ji [] 5))
 (jQ (yx (dP (p2 jG (pC (.int 1)) (p2 jC (p2 jZ (pV 4) (pC (.int 3))) (pV 2)))) (ji [] 6))
 (jQ (yx (dP (p2 jC (p2 jZ (pV 4) (pC (.int 24))) (pV 6))) (ji [] 7))
 (jQ (yx (dP (Vn pN)) (ji [] 8))
 (jQ (Kc (VW (jc (pV 1) pN)) (ji [] 9) vT)
 (jQ (sIf (dPT (jx (p2 Jd (p2 jC (p2 jZ (pV 4) (pC (.int 5000))) (pC (.int 2))) (pC (.int 1))))) (kr (dP (jjz (pV 8))))
 yG)
 (kr (dMv 8))))))))))
noncomputable def vM:List D->Option D:=fnP 12 Yb
noncomputable def yI:FS:=(jQ (yx (dP (p2 jC (pV 0) (pC (.int 8)))) (ji [] 4))
 (jQ (yx (dP (p2 jZ (pV 0) (pC (.int 8)))) (ji [] 5))
 (jQ (yx (dP (pF (p2 jq (pV 1) (p2 jC (pV 5) (pCB kJ (jc (pV 1) pN)))))) (ji [] 6))
 (jQ (sIf (dPT (zh (jx (p2 Jd (pV 4) (pC (.int 2)))) (jx (p2 ug (pCB kJ (jc (pV 1) pN)) (pC (.int 1)))))) (jQ (yx (dP (p2 jG (pC (.int 2)) (p2 jC (p2 jZ (pV 5) (pC (.int 3))) (p2 jfx (pCB kJ (jc (pV 1) pN)) (pC (.int 1)))))) (ji [] 7))
 (jQ (yx (dP (vR (VW (jc (pV 7) pN)) (ji [] 0) qT (pF (p2 jq (pV 1) (p2 jC (p2 jG (pV 2) (pV 0)) (pCB kJ (jc (pV 1) pN))))) [none,some 1,some 5])) (ji [] 8))
 (jQ (sIf (dPT (jx (p2 Jd (p2 jC (p2 jZ (pV 5) (pC (.int 9))) (pC (.int 2))) (pC (.int 1))))) (yx (dP (jjz (pV 8))) (ji [] 8))
 yG)
 (kr (dP (kH (jc (pC (.str [115,104,97,114,101])) (jc (pCB YV (jc (pV 8) pN)) pN))))))))
 yG)
 (jQ (sIf (dPT (jx (p2 Jd (pV 4) (pC (.int 3))))) (kr (dP (kH (jc (pC (.str [114,101,112,97,121])) (jc (pF (pV 6)) pN)))))
 yG)
 (jQ (sIf (dPT (zh (jx (p2 Jd (pV 4) (pC (.int 4)))) (jx (p2 ug (pCB kJ (jc (pV 2) pN)) (pC (.int 0)))))) (kr (dP (kH (jc (pC (.str [102,105,108,108])) (jc (pF (p2 jq (pV 2) (p2 jC (p2 jZ (pV 5) (pC (.int 3))) (pCB kJ (jc (pV 2) pN))))) pN)))))
 yG)
 (jQ (sIf (dPT (zh (jx (p2 Jd (pV 4) (pC (.int 5)))) (zh (jx (p2 ug (pCB kJ (jc (pV 3) pN)) (pC (.int 0)))) (jx (p2 ug (p2 jC (p2 jZ (pV 5) (pC (.int 3))) (pC (.int 3))) (pC (.int 0))))))) (kr (dP (kH (jc (pC (.str [108,101,110,100])) (jc (pF (p2 jq (pV 3) (p2 jC (p2 jZ (pV 5) (pC (.int 9))) (pCB kJ (jc (pV 3) pN))))) (jc (yh yu (jc (p2 jZ (pV 5) (pC (.int 27))) pN)) pN))))))
 yG)
 (jQ (sIf (dPT (zh (jx (p2 Jd (pV 4) (pC (.int 5)))) (jx (p2 ug (pCB kJ (jc (pV 3) pN)) (pC (.int 0)))))) (kr (dP (kH (jc (pC (.str [98,97,99,107])) (jc (pF (p2 jq (pV 3) (p2 jC (p2 jZ (pV 5) (pC (.int 9))) (pCB kJ (jc (pV 3) pN))))) pN)))))
 yG)
 (kr (dP (kH (jc (pC (.str [112,97,121])) (jc (pF (pV 6)) pN)))))))))))))
noncomputable def jV:List D->Option D:=fnP 9 yI
noncomputable def kR:FS:=(jQ (yx (dP (QN (p2 y6 (pV 8) (p2 jq (pV 14) (pC (.int 0)))) (p2 jj3 (p3 Ki (pV 9) (p2 jq (pV 14) (pC (.int 0))) (pV 11)) (pV 11)))) (ji [10] 15))
 (wA 12 (kH (jc (pF (p2 jq (pV 14) (pC (.int 0)))) (jc (pIf (jx (pV 15)) (pCB jj2 (jc (p2 jG (p2 jq (pV 14) (pC (.int 1))) (pC (.int 1))) (jc (p2 jq (p2 jq (pV 1) (pV 13)) (pC (.int 1))) pN))) (pC (.int 0))) pN)))))
noncomputable def qQ:FS:=(jQ (yx (dP (Vn pN)) (ji [10] 12))
 (jQ (Kc (jkZ (jc (pF (p2 jq (pV 2) (pC (.int 0)))) pN)) (gT 2 (gC (ji [10] 13) (gC (ji [10] 14) gN))) kR)
 (jQ (yx (dP (pCB YV (jc (vR (K1 (p2 jq (pV 0) (pC (.int 1)))) (ji [] 0) qT (pF (p2 y6 (pV 1) (p2 jq (pV 0) (pC (.int 0))))) [none,some 8]) pN))) (ji [10] 16))
 (wA 6 (kH (jc (pF (pV 7)) (jc (pF (pV 11)) (jc (kH (jc (pCB YV (jc (pV 12) pN)) (jc (pF (pV 16)) (jc (kH pN) pN)))) pN))))))))
noncomputable def JZ:FS:=(jQ (yx (dCB xB (zU (Kn 4 (ji [] 0) qT (kH (jc (pF (pV 0)) (jc (QN (p2 y6 (pV 1) (pV 0)) (p2 (QM true) (pV 0) (pSl (pV 2) oN (oS (pV 3))))) pN))) [none,some 4,some 5,some 7]) jhn)) (ji [] 8))
 (jQ (yx (dP (yh kM (jc (pV 3) (jc (pV 8) pN)))) (gT 2 (gC (ji [] 9) (gC (ji [] 10) gN))))
 (jaP 10 (ji [10] 11) qQ)))
noncomputable def zB:FS:=(jQ (yx (dP (yh kW (jc (pV 0) (jc (pV 2) pN)))) (ji [] 3))
 (jQ (yx (dP (pCB xB (jc (vR (VW (jc (pCB kJ (jc (p2 jq (pV 0) (pC (.int 1))) pN)) pN)) (ji [] 0) qT (kH (jc (pF (p2 jq (p2 jq (p2 jq (pV 1) (pC (.int 1))) (pV 0)) (pC (.int 0)))) (jc (pF (p2 jq (p2 jq (pV 2) (pC (.int 1))) (pV 0))) pN))) [none,some 0,some 2]) pN))) (ji [] 4))
 (jQ (yx (dP (vR (K1 (p2 jq (pV 0) (pC (.int 3)))) (ji [] 0) (jx (p2 y6 (pV 1) (pV 0))) (pF (pV 0)) [none,some 4])) (ji [] 5))
 (jQ (yx (dP (Vn pN)) (ji [] 6))
 (jQ (Kc (VW (jc (p2 jG (pCB kJ (jc (pV 5) pN)) (pC (.int 1))) pN)) (ji [] 7) JZ)
 (kr (dMv 6)))))))
noncomputable def Ky:List D->Option D:=fnP 17 zB
noncomputable def yB:FS:=(jQ (yx (dP (vR (K1 (Kk 0 "guards" (pV 0))) (gT 2 (gC (ji [] 0) (gC (ji [] 1) gN))) (jx (kO jn 0 "is_missed" (pV 2) (jc (pV 1) pN))) (pF (pV 0)) [none,none,some 0])) (ji [] 1))
 (jQ (yx (dP (vR (K1 (Kk 0 "runs" (pV 0))) (gT 2 (gC (ji [] 0) (gC (ji [] 1) gN))) qT (kH (jc (pF (pV 0)) (jc (kO jE 0 "days_behind" (pV 2) (jc (pV 0) (jc (pV 1) pN))) pN))) [none,none,some 0])) (ji [] 2))
 (jQ (yx (dP (vR (K1 (Kk 0 "claims" (pV 0))) (ji [] 0) qT (QN (p2 y6 (Kk 0 "alive" (pV 1)) (pV 0)) (p2 (Kv true) (pV 0) (Kk 0 "repaid" (pV 1)))) [none,some 0])) (ji [] 3))
 (jQ (yx (dP (vR (K1 (Kk 0 "pots" (pV 0))) (ji [] 0) qT (QN (p2 y6 (Kk 0 "full" (pV 1)) (pV 0)) (p2 (QM true) (pV 0) (pV 2))) [none,some 0,some 1])) (ji [] 4))
 (kr (dP (kH (jc (pCB YV (jc (pV 2) pN)) (jc (pCB YV (jc (pV 3) pN)) (jc (pCB YV (jc (pV 4) pN)) pN))))))))))
noncomputable def jF:List D->Option D:=fnP 5 yB
noncomputable def vZ:FS:=(jQ (yx (dP (yh yi (jc (pV 7) (jc (p2 jG (pV 6) (pC (.int 3))) pN)))) (ji [] 8))
 (jQ (yx (dP (p2 jZ (pV 8) (pC (.int 10)))) (ji [] 9))
 (jQ (yx (dP (pF (p2 jq (pV 1) (p2 jC (pV 9) (pCB kJ (jc (pV 1) pN)))))) (ji [] 10))
 (jfp 5 11 [] (zh (jx (p2 Jd (p2 jC (pV 8) (pC (.int 10))) (pC (.int 7)))) (jx (p2 jir (pCB kJ (jc (pV 5) pN)) (pCB kJ (jc (pV 4) pN))))) (wA 5 (Vn (jc (pF (p2 jq (pV 4) (pCB kJ (jc (pV 5) pN)))) (jc (Vn pN) (jc (Vn pN) pN)))))
 (sIf (dPT (jx (p2 ug (p2 jC (pV 8) (pC (.int 10))) (pC (.int 7))))) (jQ (yx (dP (p2 jG (pC (.int 1)) (p2 jC (p2 jZ (pV 9) (pC (.int 3))) (pC (.int 3))))) (ji [5,11] 12))
 (jQ (sIf (dPT (jx (p2 Jd (p2 jC (p2 jZ (pV 9) (pC (.int 9))) (pC (.int 4))) (pC (.int 0))))) (yx (dP (p2 jG (pC (.int 1)) (p2 jC (p2 jZ (pV 9) (pC (.int 36))) (pC (.int 10))))) (ji [5,11] 12))
 yG)
 (sIf (dPT (jx (p2 (QM true) (pV 10) (vR (K1 (p2 jq (pV 11) (pC (.int 1)))) (gT 2 (gC (ji [] 0) (gC (ji [] 1) gN))) qT (pF (pV 0)) [none,none])))) (Qf 11 1 (kH (jc (pF (pV 10)) (jc (pF (pV 12)) pN))))
 yG)))
 (sIf (dPT (jx (p2 jir (pCB kJ (jc (p2 jq (pV 11) (pC (.int 2))) pN)) (pC (.int 4))))) (Qf 11 2 (yh jV (jc (pV 9) (jc (pV 1) (jc (pV 2) (jc (pV 3) pN))))))
 yG))))))
noncomputable def YS:FS:=(jQ (yx (dP (Vn (jc (Vn (jc (pF (p2 jq (pV 4) (pC (.int 0)))) (jc (Vn pN) (jc (Vn pN) pN)))) pN))) (ji [] 5))
 (jQ (Kc (Qg (jc (pF (pV 0)) pN)) (gT 2 (gC (ji [] 6) (gC (ji [] 7) gN))) vZ)
 (sFz 5 (kr (dP (vR (K1 (pV 5)) (ji [] 0) qT (kH (jc (pF (p2 jq (pV 0) (pC (.int 0)))) (jc (pF (p2 jq (pV 0) (pC (.int 1)))) (jc (p2 jG (p2 jq (pV 0) (pC (.int 2))) (Vn (jc (kH (jc (pC (.str [114,101,115,116])) (jc (pF (p2 jq (pV 1) (p2 jC (pCB kJ (jc (p2 jq (pV 0) (pC (.int 2))) pN)) (pCB kJ (jc (pV 1) pN))))) pN))) pN))) pN)))) [none,some 1]))))))
noncomputable def Jl:List D->Option D:=fnP 13 YS
noncomputable def j8:FS:=(sIf (dPT (jx (kO jz 0 "needs" (pV 5) (jc (pV 8) pN)))) (jQ (wA 6 (kH (jc (pF (pV 3)) (jc (pF (pV 7)) (jc (kO jF 0 "outline_behind" (pV 5) pN) pN)))))
 (jQ (sIf (dPT (jx (p2 jj3 (yh Yi (jc (p2 jq (pV 1) (pC (.int 1))) pN)) (pC (.int 10))))) (kr (dMv 6))
 yG)
 (jcl (Qu jM 5 0 "fill" (jc (pF (pV 8)) pN)))))
 yG)
noncomputable def qf:FS:=(jQ (yx (dP (jcr yk 0 (jc (pF (pV 0)) (jc (pF (pV 2)) (jc (pF (pV 4)) pN))))) (ji [] 5))
 (jQ (yx (dP (Vn pN)) (ji [] 6))
 (jQ (Kc (Qg (jc (pF (p2 jq (pV 1) (pC (.int 2)))) pN)) (gT 2 (gC (ji [] 7) (gC (ji [] 8) gN))) j8)
 (jQ (wA 6 (kH (jc (pF (pV 3)) (jc (pCB kJ (jc (p2 jq (pV 1) (pC (.int 2))) pN)) (jc (kO jF 0 "outline_behind" (pV 5) pN) pN)))))
 (kr (dMv 6))))))
noncomputable def vJ:List D->Option D:=fnP 9 qf
noncomputable def Jg:FS:=(wA 10 (kH (jc (pF (pV 12)) (jc (yh yu (jc (p2 jZ (pV 6) (p2 jG (pV 11) (pC (.int 1)))) pN)) (jc (yh yu (jc (p2 jG (p2 jZ (pV 6) (p2 jG (pV 11) (pC (.int 5)))) (pV 11)) pN)) pN)))))
noncomputable def KZ:FS:=(jQ (yx (dP (yh yi (jc (yh yP (jc (pV 0) (jc (pC (.int 0)) pN))) (jc (pC (.int 1)) pN)))) (ji [] 5))
 (jQ (yx (dP (yh yi (jc (yh yP (jc (pV 0) (jc (pC (.int 1)) pN))) (jc (pC (.int 2)) pN)))) (ji [] 6))
 (jQ (yx (dP (pSl (pV 1) (oS (pC (.int 1))) (oS (p2 jG (pC (.int 2)) (p2 jC (pV 5) (pC (.int 3))))))) (ji [] 7))
 (jQ (yx (dP (pSl (pV 1) (oS (pC (.int 4))) (oS (p2 jG (pC (.int 4)) (p2 jC (p2 jZ (pV 5) (pC (.int 3))) (pC (.int 3))))))) (ji [] 8))
 (jQ (sFz 8 (sFz 7 (yx (dP (yh Jl (jc (pFz (pSl (pV 0) (oS (pC (.int 2))) oN)) (jc (pV 7) (jc (pV 8) (jc (pV 3) (jc (pV 2) pN))))))) (ji [] 9))))
 (jQ (yx (dP (Vn pN)) (ji [] 10))
 (jQ (sFz 7 (Kc (Qg (jc (pF (pV 7)) pN)) (gT 2 (gC (ji [] 11) (gC (ji [] 12) gN))) Jg))
 (jQ (yx (dP (vR (VW (jc (p2 jC (p2 jZ (pV 5) (pC (.int 36))) (p2 jG (pCB kJ (jc (pV 7) pN)) (pC (.int 1)))) pN)) (ji [] 0) qT (pF (p2 jq (pV 1) (p2 jC (p2 jG (p2 jZ (pV 2) (pC (.int 12))) (pV 0)) (pCB kJ (jc (pV 1) pN))))) [none,some 7,some 5])) (ji [] 13))
 (jQ (yx (dP (yh Yy (jc (p2 jZ (pV 6) (pC (.int 11))) (jc (pV 7) (jc (pV 9) (jc (p2 jZ (pV 4) (pCB jk9 (jc (pC (.int 1)) (jc (pCB kJ (jc (pV 8) pN)) pN)))) pN)))))) (ji [] 14))
 (jQ (sFz 8 (yx (dP (vR (Qg (jc (pF (pV 8)) pN)) (gT 2 (gC (ji [] 0) (gC (ji [] 1) gN))) qT (kH (jc (pF (pV 1)) (jc (yh yu (jc (p2 jG (p2 jZ (pV 2) (pC (.int 13))) (pV 0)) pN)) pN))) [none,none,some 6])) (ji [] 15)))
 (sFz 10 (sFz 15 (sFz 13 (sFz 9 (sFz 14 (kr (dP (kH (jc (pF (p2 jq (pV 1) (pC (.int 0)))) (jc (pF (pV 10)) (jc (pF (pV 15)) (jc (pF (pV 13)) (jc (pF (pV 9)) (jc (pF (pV 14)) (jc (yh Jn (jc (p2 jZ (pV 5) (pC (.int 200))) (jc (pV 7) (jc (pV 8) (jc (pV 9) pN))))) pN)))))))))))))))))))))))))
noncomputable def Vv:List D->Option D:=fnP 16 KZ
noncomputable def Qq:FS:=(jiD 5 (yh vJ (jc (pV 0) (jc (pV 2) (jc (pV 1) (jc (pV 6) (jc (pSl (pV 4) oN (oS (pV 6))) pN)))))))
noncomputable def K7:FS:=(jQ (yx (dP (yh vS (jc (pV 0) (jc (yh qP (jc (pV 0) (jc (pV 1) pN))) pN)))) (ji [] 2))
 (jQ (yx (dP (pCB xz (jc (vR (K1 (p2 jq (pV 0) (pC (.int 1)))) (ji [] 0) qT (pF (p2 jq (pV 0) (pC (.int 0)))) [none]) (jc (p2 jq (pV 1) (pC (.int 1))) pN)))) (ji [] 3))
 (jQ (yx (dP (vR (K1 (p2 jq (pV 0) (pC (.int 3)))) (ji [] 0) (jx (p2 y6 (pV 1) (pV 0))) (pF (pV 0)) [none,some 3])) (ji [] 4))
 (jQ (yx (dP (Vn pN)) (ji [] 5))
 (jQ (Kc (VW (jc (p2 jG (pCB kJ (jc (pV 4) pN)) (pC (.int 1))) pN)) (ji [] 6) Qq)
 (kr (dMv 5)))))))
noncomputable def JQ:List D->Option D:=fnP 7 K7
noncomputable def Q7:FS:=(jQ (yx (dP (yh vM (jc (yh yP (jc (pV 0) (jc (pC (.int 0)) pN))) (jc (pC (.int 7)) (jc (pC (.int 8)) pN))))) (ji [] 2))
 (jQ (yx (dP (yh vM (jc (yh yP (jc (pV 0) (jc (pC (.int 1)) pN))) (jc (pC (.int 3)) (jc (pC (.int 8)) pN))))) (ji [] 3))
 (sFz 3 (sFz 2 (kr (dP (yh Vv (jc (pFz (pSl (pV 0) oN (oS (pC (.int 16))))) (jc (pV 2) (jc (pV 3) (jc (pFz (pSl (pV 2) (oS (pC (.int 6))) oN)) (jc (pV 1) pN))))))))))))
noncomputable def Kf:List D->Option D:=fnP 4 Q7
noncomputable def kD(vF:List D->Option D):FS:=(sIf (dPT (jfq (jx (yh vF (jc (p2 jq (pV 0) (pV 2)) (jc (p2 jq (pV 1) (pV 2)) pN)))))) (kr (dP (pC (.bl false))))
 yG)
noncomputable def kg(vF:List D->Option D):FS:=(jQ (sIf (dPT (jx (jax "bool" (pV 1)))) (kr (dP (QN (jax "bool" (pV 0)) (p2 Jd (pV 0) (pV 1)))))
 yG)
 (jQ (sIf (dPT (jx (jax "str" (pV 1)))) (kr (dP (QN (jax "str" (pV 0)) (p2 Jd (pV 0) (pV 1)))))
 yG)
 (jQ (sIf (dPT (jx (jax "int" (pV 1)))) (kr (dP (QN (jax "int" (pV 0)) (QN (jio (jax "bool" (pV 0))) (p2 Jd (pV 0) (pV 1))))))
 yG)
 (jQ (sIf (dPT (zh (jx (jax "tuple" (pV 1))) (jfq (jx (jax "tuple" (pV 0)))))) (kr (dP (pC (.bl false))))
 yG)
 (jQ (sIf (dPT (zh (jx (jax "list" (pV 1))) (jfq (jx (jax "list" (pV 0)))))) (kr (dP (pC (.bl false))))
 yG)
 (jQ (sIf (dPT (jx (p2 jjZ (pCB kJ (jc (pV 0) pN)) (pCB kJ (jc (pV 1) pN))))) (kr (dP (pC (.bl false))))
 yG)
 (jQ (Kc (VW (jc (pCB kJ (jc (pV 1) pN)) pN)) (ji [] 2) (kD vF))
 (kr (dP (pC (.bl true)))))))))))
noncomputable def j9:Nat->List D->Option D
 | 0=>λ_=>none
 | n+1=>fnP 3 (kg (j9 n))
noncomputable def vF:List D->Option D:=j9 8
noncomputable def zb:FS:=(jQ (yx (dP (yh yi (jc (pV 4) (jc (p2 jG (pV 3) (pC (.int 20))) pN)))) (ji [] 5))
 (jQ (sFz 2 (yx (dP (vR (Qg (jc (pF (pV 2)) pN)) (gT 2 (gC (ji [] 0) (gC (ji [] 1) gN))) qT (kH (jc (pF (p2 jq (pV 1) (pC (.int 0)))) (jc (p2 jC (p2 jZ (pV 2) (p2 jG (pC (.int 3)) (p2 vw (pC (.int 8)) (pV 0)))) (p2 jG (p2 jq (pV 1) (pC (.int 1))) (pC (.int 1)))) pN))) [none,none,some 5])) (ji [] 6)))
 (jQ (yx (dP (pCB YV (jc (pFz (vR (VW (jc (pCB kJ (jc (p2 jq (pV 1) (pC (.int 1))) pN)) pN)) (ji [] 0) qT (p2 ug (p2 jC (p2 jZ (pV 1) (p2 jG (pC (.int 5)) (pV 0))) (pC (.int 4))) (pC (.int 0))) [none,some 5])) pN))) (ji [] 7))
 (jQ (yx (dP (kH (jc (pCB YV (jc (pV 6) pN)) (jc (pF (pV 7)) (jc (kH pN) pN))))) (ji [] 8))
 (jQ (yx (dP (yh JQ (jc (pV 1) (jc (pV 8) pN)))) (ji [] 9))
 (jQ (yx (dP (yh Ky (jc (pV 1) (jc (pV 2) (jc (pV 8) pN))))) (ji [] 10))
 (jQ (sIf (dPT (jfq (jx (yh vF (jc (pV 9) (jc (pV 10) pN)))))) (kr (dP (pC (.bl false))))
 yG)
 (jQ (jc9 9)
 (sIf (dPT (zh (jx (p2 Jd (pV 3) (pC (.int 0)))) (jfq (jx (yh vF (jc (pFz (yh JQ (jc (pV 1) (jc (pV 8) pN)))) (jc (pV 10) pN))))))) (kr (dP (pC (.bl false))))
 yG)))))))))
noncomputable def jhM:FS:=(jQ (yx (dP (yh Vx (jc (pFz (yh Kf (jc (pV 0) (jc (pC (.int 9)) pN)))) pN))) (ji [] 1))
 (jQ (sFz 1 (yx (dP (yh kZ (jc (pV 1) pN))) (ji [] 2)))
 (jQ (sFz 2 (Kc (Qg (jc (p2 jG (Vn (jc (pC (.int 0)) pN)) (pSl (pV 0) oN (oS (pC (.int 63))))) pN)) (gT 2 (gC (ji [] 3) (gC (ji [] 4) gN))) zb))
 (kr (dP (pC (.bl true)))))))
noncomputable def jcP:List D->Option D:=fnP 11 jhM
structure Txt(P:Program)(w:World)(K:PySem.W.Frag)(mg:Str->Option Value)(cl:Nat->Addr):Prop where
 C0:Cls K (cl 0)
 mk0:PySem.W.makesIn K (cl 0)=true
 kc0:PySem.W.keepIn K (.ref (cl 0))=true
 mg0:mg "OutlineDay" = some (.ref (cl 0))
 N_served:NoAttr K (cl 0) "served"
 N_alive:NoAttr K (cl 0) "alive"
 N_full:NoAttr K (cl 0) "full"
 N_repaid:NoAttr K (cl 0) "repaid"
 N_claims:NoAttr K (cl 0) "claims"
 N_pots:NoAttr K (cl 0) "pots"
 N_guards:NoAttr K (cl 0) "guards"
 N_greatest:NoAttr K (cl 0) "greatest"
 N_runs:NoAttr K (cl 0) "runs"
 n_any:mg "any" = none
 n_bool:mg "bool" = none
 n_dict:mg "dict" = none
 n_enumerate:mg "enumerate" = none
 n_int:mg "int" = none
 n_isinstance:mg "isinstance" = none
 n_len:mg "len" = none
 n_list:mg "list" = none
 n_max:mg "max" = none
 n_min:mg "min" = none
 n_range:mg "range" = none
 n_reversed:mg "reversed" = none
 n_sorted:mg "sorted" = none
 n_str:mg "str" = none
 n_sum:mg "sum" = none
 n_tuple:mg "tuple" = none
 n_zip:mg "zip" = none
section
variable (P:Program)(w:World)(K:PySem.W.Frag)(mg:Str->Option Value)(cl:Nat->Addr)
noncomputable abbrev xh:Prop:=OkF P w K mg "tenths_of" J3 1 YB (spP ⟨K,cl⟩ Yi 1)
noncomputable abbrev KI:Prop:=OkF P w K mg "order_named" qF 1 qL (spP ⟨K,cl⟩ vS 2)
noncomputable abbrev Qr:Prop:=OkF P w K mg "look_order" Jq 1 Jr (spP ⟨K,cl⟩ kj 2)
noncomputable abbrev YU:Prop:=OkF P w K mg "greatest_days" kE 1 kF (spP ⟨K,cl⟩ vC 1)
noncomputable abbrev yF:Prop:=OkM P w K mg (cl 0) "is_missed" "OutlineDay.is_missed" yD 1 yC (spP ⟨K,cl⟩ jn 2)
noncomputable abbrev JN:Prop:=OkM P w K mg (cl 0) "fill" "OutlineDay.fill" vO 1 vQ (spM ⟨K,cl⟩ jM 2 0)
noncomputable abbrev J9:Prop:=OkF P w K mg "_law_cell_at" qM 1 qG (spP ⟨K,cl⟩ yP 2)
noncomputable abbrev qY:Prop:=OkF P w K mg "_law_mixed" Yt 1 J5 (spP ⟨K,cl⟩ yi 2)
noncomputable abbrev KQ:Prop:=OkF P w K mg "_law_letters" qC 1 qE (spP ⟨K,cl⟩ vg 2)
noncomputable abbrev zJ:Prop:=OkF P w K mg "_law_spelt" Yk 1 J7 (spP ⟨K,cl⟩ ki 1)
noncomputable abbrev YX:Prop:=OkF P w K mg "_law_amount" JA 1 Jo (spP ⟨K,cl⟩ yu 1)
noncomputable abbrev zf:Prop:=OkF P w K mg "_law_looks" Yj 1 J6 (spP ⟨K,cl⟩ Yy 4)
noncomputable abbrev Qy:Prop:=OkF P w K mg "_law_guards" Jf 1 Jw (spP ⟨K,cl⟩ Jn 4)
noncomputable abbrev zP:Prop:=OkF P w K mg "_law_order" YC 1 Ya (spP ⟨K,cl⟩ kW 2)
noncomputable abbrev VD:Prop:=OkF P w K mg "_law_greatest" kX 1 kY (spP ⟨K,cl⟩ kZ 1)
noncomputable abbrev xF:Prop:=OkF P w K mg "_law_pays" Va 1 Vm (spP ⟨K,cl⟩ Vx 1)
noncomputable abbrev z4:Prop:=OkF P w K mg "_law_stops" Yn 1 Yh (spP ⟨K,cl⟩ kM 2)
noncomputable abbrev xC:Prop:=OkF P w K mg "order_of" Vr 2 Vu (spP ⟨K,cl⟩ qP 2)
noncomputable abbrev k9:Prop:=OkM P w K mg (cl 0) "__init__" "OutlineDay.__init__" yQ 2 yK (spM ⟨K,cl⟩ yk 4 0)
noncomputable abbrev Jk:Prop:=OkM P w K mg (cl 0) "needs" "OutlineDay.needs" vv 2 vq (spP ⟨K,cl⟩ jz 2)
noncomputable abbrev kn:Prop:=OkM P w K mg (cl 0) "days_behind" "OutlineDay.days_behind" ym 2 yo (spP ⟨K,cl⟩ jE 3)
noncomputable abbrev zQ:Prop:=OkF P w K mg "_law_words" Yq 2 YA (spP ⟨K,cl⟩ vM 3)
noncomputable abbrev xZ:Prop:=OkF P w K mg "_law_rule" Ve 2 Vp (spP ⟨K,cl⟩ jV 4)
noncomputable abbrev uW:Prop:=OkF P w K mg "_law_due" KN 2 KB (spP ⟨K,cl⟩ Ky 3)
noncomputable abbrev vL:Prop:=OkM P w K mg (cl 0) "outline_behind" "OutlineDay.outline_behind" ye 3 ya (spP ⟨K,cl⟩ jF 1)
noncomputable abbrev Qv:Prop:=OkF P w K mg "_law_orders" Jx 3 Jh (spP ⟨K,cl⟩ Jl 5)
noncomputable abbrev Qz:Prop:=OkF P w K mg "steps_with" Jt 4 Je (spP ⟨K,cl⟩ vJ 5)
noncomputable abbrev xY:Prop:=OkF P w K mg "_law_pool" Vg 4 Vs (spP ⟨K,cl⟩ Vv 5)
noncomputable abbrev xR:Prop:=OkF P w K mg "steps_of" Vh 5 Vb (spP ⟨K,cl⟩ JQ 2)
noncomputable abbrev uD:Prop:=OkF P w K mg "_law_one" Kq 5 Ke (spP ⟨K,cl⟩ Kf 2)
noncomputable abbrev xl:Prop:=OkF P w K mg "_law_alike" Yf 8 qX (spP ⟨K,cl⟩ vF 2)
noncomputable abbrev jnh:Prop:=OkF P w K mg "law" uP 9 jgh (spP ⟨K,cl⟩ jcP 1)
end
section
variable {P:Program}{w:World}{K:PySem.W.Frag}{mg:Str->Option Value}{cl:Nat->Addr}
theorem uv(T:Txt P w K mg cl):qh K mg "tenths_of" J3 YB->xh P w K mg cl
 | ⟨_,_,F⟩=>⟨_,_,F,λbase=>kq F.fn Qx rfl λa A outer s H E b=>⟨_,show QSs _ _ _ _ _ VG from
  (jh (jD (QP.d (JC (jam rfl) jho T.n_sum jas (jd (QP.bb (kf (bkF Qx ["part"]) rfl (vB (jb 0)) cgN xr (λ_ _ _ _=>(QB.f (QK.ix (K:=K) rfl (jb 0) qI))))) jk)))))⟩⟩
theorem xx(T:Txt P w K mg cl):qh K mg "order_named" qF qL->KI P w K mg cl
 | ⟨_,_,F⟩=>⟨_,_,F,λbase=>kq F.fn VF rfl λa A outer s H E b=>⟨_,show QSs _ _ _ _ _ Yc from
  (je (vt PassesOwn.never rfl (Y0 (QB.f (yH (jb 0) qI))) (jr VF.nd)
  (jh (yR (jP (c_eq b) (yH (jb 2) qI) (jb 1)) (jh (jD (QP.d (QB.f (jb 2)))))
  jN)))
  (jh (jD (QP.d jnc))))⟩⟩
theorem wm(T:Txt P w K mg cl):qh K mg "look_order" Jq Jr->Qr P w K mg cl
 | ⟨_,_,F⟩=>⟨_,_,F,λbase=>kq F.fn qK rfl λa A outer s H E b=>⟨_,show QSs _ _ _ _ _ Jp from
  (je (vt PassesOwn.never rfl (Y0 (QB.f (yH (jb 0) qI))) (Jy rfl (js (jr qK.nd) (js (jr qK.nd) (js (jr qK.nd) vh))))
  (jh (yR (jP jlO (qu b (jb 1) (jb 2)) (jb 3)) (jh (jD (QP.d (QB.f (jb 4)))))
  jN)))
  (jh (jD (QP.d (QB.f (yH (yH (yH (jb 0) qI) qI) qI))))))⟩⟩
theorem QF(T:Txt P w K mg cl):qh K mg "greatest_days" kE kF->YU P w K mg cl
 | ⟨_,_,F⟩=>⟨_,_,F,λbase=>kq F.fn vi rfl λb A outer s H E a=>⟨_,show QSs _ _ _ _ _ qZ from
  (je (jt vi.nd (QP.d jaq))
  (je (vt PassesOwn.never rfl (Y0 (QB.f (yH (jb 0) qI))) (Jy rfl (js (jr vi.nd) (js (jr vi.nd) (js (jr vi.nd) vh))))
  (jh (ja3 a (jb 1) (jb 2) (QP.bb (JC (xj rfl) jcA T.n_max zY (jd (jaO a (jb 1) (jb 2) qI) (jd (jb 3) jk)))))))
  (jh (jD (jfs 1)))))⟩⟩
theorem JY(T:Txt P w K mg cl):jcB K (cl 0) "is_missed" "OutlineDay.is_missed" yD yC->yF P w K mg cl
 | ⟨_,_,F⟩=>⟨_,_,F,λbase=>kq F.fn Ye rfl λb A outer s H E a=>⟨_,show QSs _ _ _ _ _ vp from
  (jh (jD (QP.d (xu (qu a (Qo T.C0 T.N_alive (jb 0)) (jb 1)) (wv (wX a (jb 1) (Qo T.C0 T.N_served (jb 0))))))))⟩⟩
theorem KJ(T:Txt P w K mg cl):jcB K (cl 0) "fill" "OutlineDay.fill" vO vQ->JN P w K mg cl
 | ⟨_,_,F⟩=>⟨_,_,F,λbase=>jhA F.fn kz rfl λb A outer s H E a=>⟨_,show QSs _ _ _ _ _ yw from
  (je (jt kz.nd (QP.d (QB.f (yH (jb 1) qI))))
  (jh (yR (jP (c_eq a) (jb 2) (QP.bb qS)) (jh (Ks a (uU T.C0 T.N_full (uT (jb 0))) (yH (jb 1) qI) jck))
  (jh (yR (jP (c_eq a) (jb 2) (QP.bb qS)) (jh (vt PassesOwn.never rfl (Y0 (QB.f (yH (jb 1) qI))) (jr kz.nd)
  (jh (Ks a (uU T.C0 T.N_served (uT (jb 0))) (jb 3) jck))))
  (je (Ks a (uU T.C0 T.N_served (uT (jb 0))) (yH (jb 1) qI) jck)
  (jh (yR (jP (c_eq a) (jb 2) (QP.bb qS)) (jh (Ks a (uU T.C0 T.N_repaid (uT (jb 0))) (yH (jb 1) qI) jck))
  jN))))))))⟩⟩
theorem xv(T:Txt P w K mg cl):qh K mg "_law_cell_at" qM qG->J9 P w K mg cl
 | ⟨_,_,F⟩=>⟨_,_,F,λbase=>kq F.fn xA rfl λa A outer s H E b=>⟨_,show QSs _ _ _ _ _ qA from
  (je (yR (jP jno (jb 1) (QP.bb (ka T.n_len (jd (jb 0) jk)))) (jh (jD (QP.d (QB.f (yH (jb 0) (jb 1))))))
  jN)
  (jh (jD (QP.d jdX))))⟩⟩
theorem jao(T:Txt P w K mg cl):qh K mg "_law_mixed" Yt J5->qY P w K mg cl
 | ⟨_,_,F⟩=>⟨_,_,F,λbase=>kq F.fn Qw rfl λa A outer s H E b=>⟨_,show QSs _ _ _ _ _ VU from
  (je (jt Qw.nd (QP.d (yJ (QP.bb (Kt (QP.bb (yJ (jb 0) qI)) (QP.bb (yL qI (QP.bb (Kt (QP.bb (Kt qI (jb 1))) (jb 1))))))) qI)))
  (jh (jD (QP.d (yJ (QP.bb (Kt (QP.bb (yL (jb 2) (jb 1))) (QP.bb (yL (QP.bb (yL (jb 2) (QP.bb (Kt qI (jb 1))))) qI)))) qI)))))⟩⟩
theorem xw(T:Txt P w K mg cl):qh K mg "_law_letters" qC qE->KQ P w K mg cl
 | ⟨_,_,F⟩=>⟨_,_,F,λbase=>kq F.fn vk rfl λa A outer s H E b=>⟨_,show QSs _ _ _ _ _ Yr from
  (je (jt vk.nd (QP.d qS))
  (je (jt vk.nd (QP.d qS))
  (je (vt PassesOwn.never rfl (JL T.n_range (jd (jb 1) jk)) (jr vk.nd)
  (je (jt vk.nd (QP.d (yL (jb 3) (yH (jb 2) (QP.bb (yJ (jb 0) qI))))))
  (jh (jt vk.nd (QP.d (vx (jb 0) qI))))))
  (jh (jD (QP.d (QB.f (jb 3))))))))⟩⟩
theorem jae(T:Txt P w K mg cl):qh K mg "_law_spelt" Yk J7->zJ P w K mg cl
 | ⟨_,_,F⟩=>⟨_,_,F,λbase=>kq F.fn Y8 rfl λa A outer s H E b=>⟨_,show QSs _ _ _ _ _ kQ from
  (je (jt Y8.nd (QP.d qS))
  (je (jt Y8.nd (QP.d (qm (jf qS (jf qS (jf qS (jf qS (jf qS (jf qS (jf qS (jf qS (jf qS (jf qS (jf qS (jf qS jv)))))))))))))))
  (je (yR (QW.t (jle (jP (jnx (by with_unfolding_all rfl)) (jb 0) (jb 2)) (jhC (jP (jnx (by with_unfolding_all rfl)) (jb 0) (QP.bb (qm (jf qS (jf qS (jf qS (jf qS (jf qS (jf qS (jf qS (jf qS jv)))))))))))))) (jh (jD (QP.d (yL (QP.bb (jbc (jb 0) qk (vo (QP.bb (jf6 qI))))) (yH (jb 1) (QP.bb (yJ (QP.bb (yL (QP.bb (jnF PySem.F.plainAttrs_str PySem.F.slot_str_index PySem.F.type_str_index jgt jfO (jb 1) (jd (yH (jb 0) (QP.bb (jf6 qI))) jk))) qI)) qI)))))))
  jN)
  (jh (jD (QP.d (QB.f (jb 0))))))))⟩⟩
theorem uc(T:Txt P w K mg cl):qh K mg "_law_amount" JA Jo->YX P w K mg cl
 | ⟨_,_,F⟩=>⟨_,_,F,λbase=>kq F.fn ww rfl λa A outer s H E b=>⟨_,show QSs _ _ _ _ _ Jj from
  (je (yR (jP (c_eq b) (QP.bb (yJ (jb 0) qI)) qI) (jh (jD (QP.d (yL qI (QP.bb (yJ (QP.bb (vx (jb 0) qI)) qI))))))
  jN)
  (jh (jD (QP.d (yL qI (QP.bb (yJ (QP.bb (Kt (jb 0) (jb 0))) (QP.bb (jm2 qI qI)))))))))⟩⟩
theorem ut(T:Txt P w K mg cl):qh K mg "_law_looks" Yj J6->zf P w K mg cl
 | ⟨_,_,F⟩=>⟨_,_,F,λbase=>kq F.fn Jm rfl λa A outer s H E b=>⟨_,show QSs _ _ _ _ _ VO from
  (je (jt Jm.nd (QP.d (qm jv)))
  (je (vt PassesOwn.never rfl (JL T.n_range (jd (QP.bb (yJ (jb 0) qI)) jk)) (jr Jm.nd)
  (je (jt Jm.nd (QP.d (yL (QP.bb (yL (QP.bb (vx (jb 0) qI)) (QP.bb (Kt (jb 5) qI)))) (QP.bb (Kt (QP.bb (Kt qI (jb 5))) (QP.bb (vx (jb 0) qI)))))))
  (jh (JO (jb 4) (vY (jf (QB.f (yH (jb 1) (QP.bb (yJ (jb 6) (QP.bb (JC (zv rfl) jcA T.n_min Q0 (jd qI (jd (QP.bb (ka T.n_len (jd (jb 1) jk))) jk)))))))) (jf (yL qI (QP.bb (yJ (QP.bb (vx (jb 6) qI)) (jb 3)))) (jf (QB.f (yH (yH (jb 2) (QP.bb (yJ (QP.bb (vx (jb 6) (QP.bb (Kt qI (jb 3))))) (QP.bb (ka T.n_len (jd (jb 2) jk)))))) qI)) jv))))))))
  (jh (jD (jfs 4)))))⟩⟩
theorem wL(T:Txt P w K mg cl):qh K mg "_law_guards" Jf Jw->Qy P w K mg cl
 | ⟨_,_,F⟩=>⟨_,_,F,λbase=>kq F.fn yj rfl λb A outer s H E a=>⟨_,show QSs _ _ _ _ _ YH from
  (je (jt yj.nd (QP.d (qm jv)))
  (je (vt PassesOwn.never rfl (Y0 (QB.f (jb 3))) (Jy rfl (js (jr yj.nd) (js (jr yj.nd) (js (jr yj.nd) vh))))
  (jh (vt PassesOwn.never rfl (Y0 (QB.f (jb 7))) (jr yj.nd)
  (jh (yR (jP (c_eq a) (yH (jb 8) qI) (QP.bb qS)) (jh (jg5 (jb 4) (QP.bb (kf (bkF yj ["_law_claim"]) rfl (vB (yH (jb 8) qI)) cgN xr (λ_ _ _ _=>(QB.f (jb 0)))))))
  (jh (yR (jP (c_eq a) (yH (jb 8) qI) (QP.bb qS)) (jh (JO (jb 4) (QB.f (yH (jb 8) qI))))
  jN)))))))
  (je (jt yj.nd (QP.d (qm jv)))
  (je (vt PassesOwn.never rfl (YK T.n_enumerate (jf (QB.f (jb 1)) jv)) (Jy rfl (js (jr yj.nd) (js (jr yj.nd) vh)))
  (jh (yR (QW.t (JV (jP (c_notin (by with_unfolding_all rfl)) (jb 11) (jb 4)) (JV (jP jfK (QP.bb (ka T.n_len (jd (jb 2) jk))) qI) (JF (jP jfK (QP.bb (yJ (QP.bb (vx (jb 0) (QP.bb (yL (QP.bb (Kt qI (jb 10))) qI)))) qI)) qI))))) (jh (JO (jb 9) (vY (jf (QB.f (yH (jb 2) (QP.bb (yJ (QP.bb (vx (jb 0) (QP.bb (yL (QP.bb (Kt qI (jb 10))) qI)))) (QP.bb (ka T.n_len (jd (jb 2) jk))))))) (jf (QB.f (jb 11)) jv)))))
  jN)))
  (jh (jD (jfs 9)))))))⟩⟩
theorem uG(T:Txt P w K mg cl):qh K mg "_law_order" YC Ya->zP P w K mg cl
 | ⟨_,_,F⟩=>⟨_,_,F,λbase=>kq F.fn ko rfl λb A outer s H E a=>⟨_,show QSs _ _ _ _ _ Yd from
  (je (jt ko.nd (QP.d (qR (xS rfl) jbP T.n_dict Vk (jd (yH (jb 1) qI) jk))))
  (je (vt PassesOwn.never rfl (Y0 (QB.f (yH (jb 0) qI))) (Jy rfl (js (jr ko.nd) (js (jr ko.nd) (js (jr ko.nd) vh))))
  (jh (yR (jP jlO (qu a (jb 2) (jb 3)) (jb 4)) (jh (jD (QP.d (QB.f (yH (QP.bb (kf (bkF ko ["_law_order_here","_law_name"]) rfl (vB (yH (jb 0) qI)) cgN (λ_ _ _ _=>(QY (jP (QK.c_eq (K:=K) rfl a) (QK.ix (K:=K) rfl (jb 0) qI) (jb 1)))) (λ_ _ _ _=>(QB.f (jb 0))))) qI)))))
  jN)))
  (jh (jD (QP.d (QB.f (yH (yH (jb 0) qI) qI)))))))⟩⟩
theorem xm(T:Txt P w K mg cl):qh K mg "_law_greatest" kX kY->VD P w K mg cl
 | ⟨_,_,F⟩=>⟨_,_,F,λbase=>kq F.fn va rfl λb A outer s H E a=>⟨_,show QSs _ _ _ _ _ JD from
  (je (jt va.nd (QP.d jaq))
  (je (vt PassesOwn.never rfl (Y0 (QB.f (yH (jb 0) qI))) (Jy rfl (js (jr va.nd) (js (jr va.nd) (js (jr va.nd) vh))))
  (jh (ja3 a (jb 1) (jb 2) (QP.bb (JC (xj rfl) jcA T.n_max zY (jd (jaO a (jb 1) (jb 2) qI) (jd (jb 3) jk)))))))
  (jh (jD (jjy (bkF va ["_law_claim","_law_most"]) rfl (jf9 (jb 1)) cgN xr (λ_ _ _ _=>(vY (jf (QB.f (jb 0)) (jf (QB.f (qu a (jb 1) (jb 0))) jv)))))))))⟩⟩
theorem jaF(T:Txt P w K mg cl):qh K mg "_law_pays" Va Vm->xF P w K mg cl
 | ⟨_,_,F⟩=>⟨_,_,F,λbase=>kq F.fn kh rfl λb A outer s H E a=>⟨_,show QSs _ _ _ _ _ K9 from
  (je (jt kh.nd (QP.d (qm jv)))
  (je (vt PassesOwn.never rfl (Y0 (QB.f (yH (jb 0) qI))) (Jy rfl (js (jr kh.nd) (js (jr kh.nd) (js (jr kh.nd) vh))))
  (je (jt kh.nd (QP.d (qm jv)))
  (je (vt PassesOwn.never rfl (Y0 (QB.f (jb 4))) (jr kh.nd)
  (jh (yR (jP (c_eq a) (yH (jb 6) qI) (QP.bb qS)) (jh (JO (jb 5) (vY (jf qS (jf (QB.f (yH (yH (jb 6) qI) qI)) jv)))))
  (jh (yR (QW.t (jle (jP (c_eq a) (yH (jb 6) qI) (QP.bb qS)) (jhC (jP (c_eq a) (yH (jb 6) qI) (QP.bb qS))))) (jh (JO (jb 5) (vY (jf qS (jf (QB.f (yH (jb 6) qI)) jv)))))
  jN)))))
  (jh (JO (jb 1) (vY (jf (QB.f (jb 2)) (jf (QB.f (jb 3)) (jf (yL (jb 5) (QP.bb (jbc (jb 4) (vo (QP.bb (jf6 qI))) qk))) jv)))))))))
  (jh (QS.fz 1 (jD (QP.d (vY (jf (QB.f (yH (jb 0) qI)) (jf (QB.f (yH (jb 0) qI)) (jf (qm jv) (jf (QB.f (yH (jb 0) qI)) (jf (QB.f (jb 1)) (jf (QB.f (yH (jb 0) qI)) (jf (qm jv) jv))))))))))))))⟩⟩
theorem jan(T:Txt P w K mg cl):qh K mg "_law_stops" Yn Yh->z4 P w K mg cl
 | ⟨_,_,F⟩=>⟨_,_,F,λbase=>kq F.fn vd rfl λb A outer s H E a=>⟨_,show QSs _ _ _ _ _ Ys from
  (je (jt vd.nd (QP.d jaq))
  (je (vt PassesOwn.never rfl (YK T.n_enumerate (jf (QB.f (yH (jb 0) qI)) jv)) (Jy rfl (js (jr vd.nd) (js (jr vd.nd) vh)))
  (jh (yR (QW.t (JV (jP (c_eq a) (yH (jb 4) qI) (QP.bb qS)) (JV (qe (qu a (jb 1) (yH (jb 4) qI))) (JF (jdp a (yH (jb 4) qI) (jb 2)))))) (jh (ja3 a (jb 2) (yH (jb 4) qI) (jb 3)))
  jN)))
  (je (jt vd.nd (jlT rfl (jgv jcE jgY T.n_sorted jaS (wG (jdW (bkF vd ["_law_claim","_law_first"]) rfl (jb 2) cgN xr (λ_ _ _ _=>(QB.f (qu a (jb 1) (jb 0))))) jfa)) (QP.d (qm (jf (ka T.n_len (jd (yH (jb 0) qI) jk)) jv)))))
  (je (yR (jP jlO (QP.bb (JC (jam rfl) jho T.n_sum jas (jd (QP.bb (kf (bkF vd ["_law_claim","_law_tenths"]) rfl (vB (yH (jb 0) qI)) (λ_ _ _ _=>(QK.g_tup (K:=K) rfl rfl (js (jr (show(["_law_claim","_law_tenths"]:List Str).Nodup by decide +kernel)) (js (jr (show(["_law_claim","_law_tenths"]:List Str).Nodup by decide +kernel)) vh)))) xr (λ_ _ _ _=>(QB.f (jb 1))))) jk))) qI) (jh (jt vd.nd (QP.d (jbc (jb 5) qk (vo qI)))))
  jN)
  (jh (jD (jl5 (wG (jfs 2) (wG (jfs 5) jfa)))))))))⟩⟩
theorem jbi(T:Txt P w K mg cl):qh K mg "order_of" Vr Vu->Qr P w K mg cl->xC P w K mg cl
 | ⟨_,_,F⟩,⟨_,_,a,b⟩=>⟨_,_,F,λbase=>kq F.fn jbf rfl λc A outer s H E e=>⟨_,show QSs _ _ _ _ _ Vo from
  (jh (jD (QP.d (jX a (b _) (e.mono (by decide)) (jd (jb 0) (jd (QP.bb (qR (xS rfl) jbP T.n_dict Vk (jd (yH (jb 1) qI) jk))) jk))))))⟩⟩
theorem YE(T:Txt P w K mg cl):jcB K (cl 0) "__init__" "OutlineDay.__init__" yQ yK->YU P w K mg cl->k9 P w K mg cl
 | ⟨_,_,F⟩,⟨_,_,b,c⟩=>⟨_,_,F,λbase=>jhA F.fn yE rfl λd A outer s H E a=>⟨_,show QSs _ _ _ _ _ yM from
  (je (Kz T.C0 T.N_claims (jb 0) (kf (bkF yE ["claim"]) rfl (vB (yH (jb 1) qI)) cgN xr (λ_ _ _ _=>(QB.f (QK.ix (K:=K) rfl (jb 0) qI)))))
  (je (Kz T.C0 T.N_pots (jb 0) (kf (bkF yE ["pot"]) rfl (vB (yH (jb 1) qI)) cgN xr (λ_ _ _ _=>(QB.f (QK.ix (K:=K) rfl (jb 0) qI)))))
  (je (Kz T.C0 T.N_guards (jb 0) (QB.f (yH (jb 1) qI)))
  (je (Kz T.C0 T.N_greatest (jb 0) (jX b (c _) (a.mono (by decide)) (jd (jb 1) jk)))
  (je (Kz T.C0 T.N_runs (jb 0) (QB.f (yH (jb 2) qI)))
  (je (Kz T.C0 T.N_alive (jb 0) (jdq rfl T.n_dict T.n_zip (jd (Qo T.C0 T.N_claims (jb 0)) (jd (yH (jb 2) qI) jk))))
  (je (vt PassesOwn.never rfl (Y0 (QB.f (jb 3))) (jr yE.nd)
  (jh (Ks a (uU T.C0 T.N_alive (uT (jb 0))) (jb 4) jck)))
  (je (Kz T.C0 T.N_full (jb 0) (jdq rfl T.n_dict T.n_zip (jd (Qo T.C0 T.N_pots (jb 0)) (jd (yH (jb 2) qI) jk))))
  (je (Kz T.C0 T.N_served (jb 0) jaq)
  (jh (Kz T.C0 T.N_repaid (jb 0) jaq)))))))))))⟩⟩
theorem V5(T:Txt P w K mg cl):jcB K (cl 0) "needs" "OutlineDay.needs" vv vq->yF P w K mg cl->Jk P w K mg cl
 | ⟨_,_,F⟩,⟨_,_,b,c⟩=>⟨_,_,F,λbase=>kq F.fn ke rfl λe A outer s H E a=>⟨_,show QSs _ _ _ _ _ jO from
  (je (jt ke.nd (QP.d (QB.f (yH (jb 1) qI))))
  (je (yR (jP (c_eq a) (jb 2) (QP.bb qS)) (jh (jD (QP.d (jce T.C0 b (c _) (a.mono (by decide)) (jb 0) (jd (yH (jb 1) qI) jk)))))
  jN)
  (je (yR (jP (c_eq a) (jb 2) (QP.bb qS)) (jh (jD (QP.d (JC (jgL rfl) jj8 T.n_any jfg (jd (QP.bb (kf (bkF ke ["claim","self"]) rfl (vB (yH (jb 1) qI)) cgN xr (λ_ _ _ _=>(QK.meth (K:=K) rfl T.C0 b (c _) (a.mono (by decide)) (jb 1) (jd (jb 0) jk))))) jk)))))
  jN)
  (je (yR (jP (c_eq a) (jb 2) (QP.bb qS)) (jh (jD (QP.d (xu (qu a (Qo T.C0 T.N_alive (jb 0)) (yH (jb 1) qI)) (wv (wX a (yH (jb 1) qI) (Qo T.C0 T.N_repaid (jb 0))))))))
  jN)
  (je (yR (jP (c_eq a) (jb 2) (QP.bb qS)) (jh (jD (QP.d (jlg (qu a (Qo T.C0 T.N_full (jb 0)) (yH (jb 1) qI))))))
  jN)
  (jh (jD (QP.d jck))))))))⟩⟩
theorem JE(T:Txt P w K mg cl):jcB K (cl 0) "days_behind" "OutlineDay.days_behind" ym yo->yF P w K mg cl->kn P w K mg cl
 | ⟨_,_,F⟩,⟨_,_,b,c⟩=>⟨_,_,F,λbase=>kq F.fn JB rfl λe A outer s H E a=>⟨_,show QSs _ _ _ _ _ y9 from
  (jh (jD (QP.d (jnv (qe (QP.bb (jce T.C0 b (c _) (a.mono (by decide)) (jb 0) (jd (jb 1) jk)))) (JC (zv rfl) jcA T.n_min Q0 (jd (QP.bb (yL (jb 2) qI)) (jd (qu a (Qo T.C0 T.N_greatest (jb 0)) (jb 1)) jk))) jdX))))⟩⟩
theorem uM(T:Txt P w K mg cl):qh K mg "_law_words" Yq YA->KQ P w K mg cl->qY P w K mg cl->zJ P w K mg cl->zQ P w K mg cl
 | ⟨_,_,F⟩,⟨_,_,g,h⟩,⟨_,_,b,c⟩,⟨_,_,e,i⟩=>⟨_,_,F,λbase=>kq F.fn yf rfl λj A outer s H E a=>⟨_,show QSs _ _ _ _ _ Yb from
  (je (jt yf.nd (QP.d qS))
  (je (jt yf.nd (QP.d (jX b (c _) (a.mono (by decide)) (jd (jb 0) (jd qI jk)))))
  (je (jt yf.nd (QP.d (jX g (h _) (a.mono (by decide)) (jd (QP.bb (yL (QP.bb (Kt (jb 4) (jb 4))) (jb 4))) (jd qI jk)))))
  (je (jt yf.nd (QP.d (yL qI (QP.bb (yJ (QP.bb (vx (jb 4) qI)) (jb 2))))))
  (je (jt yf.nd (QP.d (yJ (QP.bb (vx (jb 4) qI)) (jb 6))))
  (je (jt yf.nd (QP.d (qm jv)))
  (je (vt PassesOwn.never rfl (JL T.n_range (jd (jb 1) jk)) (jr yf.nd)
  (je (jt yf.nd (QP.d (QB.f (yH (jb 3) (QP.bb (yJ (QP.bb (yL (QP.bb (vx (jb 4) qI)) (jb 9))) qI))))))
  (je (yR (jP (c_eq a) (QP.bb (yJ (jb 4) qI)) qI) (jh (jt yf.nd (QP.d (yL (QP.bb (yL (QP.bb (jbc (jb 5) qk (vo (jb 7)))) (jb 10))) (QP.bb (jbc (jb 5) (vo (QP.bb (yL (jb 7) qI))) (vo (jb 6))))))))
  (jh (yR (jP (c_eq a) (QP.bb (yJ (jb 4) qI)) qI) (jh (jt yf.nd (QP.d (jbc (jb 5) qk (vo (QP.bb (yL qI (QP.bb (yJ (QP.bb (yL (QP.bb (vx (jb 4) qI)) (jb 9))) (jb 2))))))))))
  (jh (jt yf.nd (QP.d (jbc (QP.bb (yL (jb 10) (QP.bb (jX g (h _) (a.mono (by decide)) (jd (QP.bb (jX b (c _) (a.mono (by decide)) (jd (jb 0) (jd (QP.bb (yL (jb 9) qI)) jk)))) (jd qI jk)))))) qk (vo (QP.bb (yL qI (QP.bb (yJ (QP.bb (jX b (c _) (a.mono (by decide)) (jd (jb 0) (jd (QP.bb (yL (jb 9) qI)) jk)))) (jb 2)))))))))))))
  (jh (JO (jb 8) (jX e (i _) (a.mono (by decide)) (jd (jb 11) jk)))))))
  (je (yR (jP (c_eq a) (QP.bb (yJ (QP.bb (vx (jb 4) qI)) qI)) qI) (jh (jD (QP.d (jlu rfl T.n_list T.n_reversed (jb 8)))))
  jN)
  (jh (jD (jfs 8)))))))))))⟩⟩
theorem ja1(T:Txt P w K mg cl):qh K mg "_law_rule" Ve Vp->YX P w K mg cl->xZ P w K mg cl
 | ⟨_,_,F⟩,⟨_,_,b,c⟩=>⟨_,_,F,λbase=>kq F.fn vN rfl λe A outer s H E a=>⟨_,show QSs _ _ _ _ _ yI from
  (je (jt vN.nd (QP.d (yJ (jb 0) qI)))
  (je (jt vN.nd (QP.d (vx (jb 0) qI)))
  (je (jt vN.nd (QP.d (QB.f (yH (jb 1) (QP.bb (yJ (jb 5) (QP.bb (ka T.n_len (jd (jb 1) jk)))))))))
  (je (yR (QW.t (JV (jP (c_eq a) (jb 4) qI) (JF (jP jfK (QP.bb (ka T.n_len (jd (jb 1) jk))) qI)))) (je (jt vN.nd (QP.d (yL qI (QP.bb (yJ (QP.bb (vx (jb 5) qI)) (QP.bb (jm6 (QP.bb (ka T.n_len (jd (jb 1) jk))) qI)))))))
  (je (vG (bkF vN ["_law_k","_law_claims","_law_rest"]) rfl (QI.b' (JL T.n_range (jd (jb 7) jk))) cgN xr (λ_ _ _ _=>(QB.f (QK.ix (K:=K) rfl (jb 1) (QP.bb (yJ (QP.bb (QK.add (K:=K) rfl (jb 2) (jb 0))) (QP.bb (QK.len (K:=K) rfl T.n_len (jd (jb 1) jk)))))))) vN.nd)
  (je (yR (jP (c_eq a) (QP.bb (yJ (QP.bb (vx (jb 5) qI)) qI)) qI) (jh (jt vN.nd (QP.d (jlu rfl T.n_list T.n_reversed (jb 8)))))
  jN)
  (jh (jD (QP.d (vY (jf qS (jf (qR yO Jz T.n_tuple yX (jd (jb 8) jk)) jv)))))))))
  jN)
  (je (yR (jP (c_eq a) (jb 4) qI) (jh (jD (QP.d (vY (jf qS (jf (QB.f (jb 6)) jv))))))
  jN)
  (je (yR (QW.t (JV (jP (c_eq a) (jb 4) qI) (JF (jP jfK (QP.bb (ka T.n_len (jd (jb 2) jk))) qI)))) (jh (jD (QP.d (vY (jf qS (jf (QB.f (yH (jb 2) (QP.bb (yJ (QP.bb (vx (jb 5) qI)) (QP.bb (ka T.n_len (jd (jb 2) jk))))))) jv))))))
  jN)
  (je (yR (QW.t (JV (jP (c_eq a) (jb 4) qI) (JV (jP jfK (QP.bb (ka T.n_len (jd (jb 3) jk))) qI) (JF (jP jfK (QP.bb (yJ (QP.bb (vx (jb 5) qI)) qI)) qI))))) (jh (jD (QP.d (vY (jf qS (jf (QB.f (yH (jb 3) (QP.bb (yJ (QP.bb (vx (jb 5) qI)) (QP.bb (ka T.n_len (jd (jb 3) jk))))))) (jf (jX b (c _) (a.mono (by decide)) (jd (QP.bb (vx (jb 5) qI)) jk)) jv)))))))
  jN)
  (je (yR (QW.t (JV (jP (c_eq a) (jb 4) qI) (JF (jP jfK (QP.bb (ka T.n_len (jd (jb 3) jk))) qI)))) (jh (jD (QP.d (vY (jf qS (jf (QB.f (yH (jb 3) (QP.bb (yJ (QP.bb (vx (jb 5) qI)) (QP.bb (ka T.n_len (jd (jb 3) jk))))))) jv))))))
  jN)
  (jh (jD (QP.d (vY (jf qS (jf (QB.f (jb 6)) jv))))))))))))))⟩⟩
theorem jcV(T:Txt P w K mg cl):qh K mg "_law_due" KN KB->zP P w K mg cl->z4 P w K mg cl->uW P w K mg cl
 | ⟨_,_,F⟩,⟨_,_,b,e⟩,⟨_,_,c,g⟩=>⟨_,_,F,λbase=>kq F.fn jS rfl λh A outer s H E a=>⟨_,show QSs _ _ _ _ _ zB from
  (je (jt jS.nd (QP.d (jX b (e _) (a.mono (by decide)) (jd (jb 0) (jd (jb 2) jk)))))
  (je (jt jS.nd (QP.d (qR (xH rfl) jd4 T.n_dict Vk (jd (QP.bb (kf (bkF jS ["_law_k","_law_pool_here","_law_outline"]) rfl (QI.b' (JL T.n_range (jd (QP.bb (ka T.n_len (jd (yH (jb 0) qI) jk))) jk))) cgN xr (λ_ _ _ _=>(vY (jf (QB.f (QK.ix (K:=K) rfl (QK.ix (K:=K) rfl (QK.ix (K:=K) rfl (jb 1) qI) (jb 0)) qI)) (jf (QB.f (QK.ix (K:=K) rfl (QK.ix (K:=K) rfl (jb 2) qI) (jb 0))) jv)))))) jk))))
  (je (jt jS.nd (QP.d (kf (bkF jS ["_law_claim","_law_alive"]) rfl (vB (yH (jb 0) qI)) cgN (λ_ _ _ _=>(QY (qe (qu a (jb 1) (jb 0))))) (λ_ _ _ _=>(QB.f (jb 0))))))
  (je (jt jS.nd (QP.d (qm jv)))
  (je (vt PassesOwn.never rfl (JL T.n_range (jd (QP.bb (yL (QP.bb (ka T.n_len (jd (jb 5) jk))) qI)) jk)) (jr jS.nd)
  (je (jt jS.nd (jfZ (xH rfl) jd4 T.n_dict Vk (wG (jdW (bkF jS ["_law_claim","_law_alive","_law_eatable","_law_kills"]) rfl (jb 4) cgN xr (λ_ _ _ _=>(vY (jf (QB.f (jb 0)) (jf (xu (qu a (jb 1) (jb 0)) (wv (jaD (QK.c_notin (K:=K) rfl (by with_unfolding_all rfl)) (jb 0) (QP.bb (QK.sl (K:=K) rfl (jb 2) qk (vo (jb 3))))))) jv))))) jfa)))
  (je (jjg (QP.d (jX c (g _) (a.mono (by decide)) (jd (jb 3) (jd (jb 8) jk)))) (jkg rfl (jb7 (jfn jS.nd) (jb7 (jfn jS.nd) ji2))))
  (jh (jjt PassesOwn.never rfl (jb 10) (jr jS.nd)
  (je (jt jS.nd (QP.d (qm jv)))
  (je (vt PassesOwn.never rfl (jk1 T.n_enumerate (jf (QB.f (yH (jb 2) qI)) jv)) (Jy rfl (js (jr jS.nd) (js (jr jS.nd) vh)))
  (je (jt jS.nd (QP.d (xu (qu a (jb 8) (yH (jb 14) qI)) (wv (jaD jlO (jaO a (jb 9) (yH (jb 14) qI) (jb 11)) (jb 11))))))
  (jh (JO (jb 12) (vY (jf (QB.f (yH (jb 14) qI)) (jf (jnv (qe (jb 15)) (JC (zv rfl) jcA T.n_min Q0 (jd (QP.bb (yL (yH (jb 14) qI) qI)) (jd (yH (yH (jb 1) (jb 13)) qI) jk))) jdX) jv)))))))
  (je (jt jS.nd (QP.d (qR yO Jz T.n_tuple yX (jd (QP.bb (kf (bkF jS ["_law_row","_law_living"]) rfl (vB (yH (jb 0) qI)) cgN xr (λ_ _ _ _=>(QB.f (qu a (jb 1) (QK.ix (K:=K) rfl (jb 0) qI)))))) jk))))
  (jh (JO (jb 6) (vY (jf (QB.f (jb 7)) (jf (QB.f (jb 11)) (jf (vY (jf (qR yO Jz T.n_tuple yX (jd (jb 12) jk)) (jf (QB.f (jb 16)) (jf (vY jv) jv)))) jv))))))))))))))
  (jh (jD (jfs 6))))))))⟩⟩
theorem qw(T:Txt P w K mg cl):jcB K (cl 0) "outline_behind" "OutlineDay.outline_behind" ye ya->kn P w K mg cl->yF P w K mg cl->vL P w K mg cl
 | ⟨_,_,F⟩,⟨_,_,b,c⟩,⟨_,_,e,g⟩=>⟨_,_,F,λbase=>kq F.fn jp rfl λh A outer s H E a=>⟨_,show QSs _ _ _ _ _ yB from
  (je (jt jp.nd (QP.d (kf (bkF jp ["pot","claim","self"]) rfl (vB (Qo T.C0 T.N_guards (jb 0))) (λ_ _ _ _=>(QK.g_tup (K:=K) rfl rfl (js (jr (show(["pot","claim","self"]:List Str).Nodup by decide +kernel)) (js (jr (show(["pot","claim","self"]:List Str).Nodup by decide +kernel)) vh)))) (λ_ _ _ _=>(QY (qe (QP.bb (QK.meth (K:=K) rfl T.C0 e (g _) (a.mono (by decide)) (jb 2) (jd (jb 1) jk)))))) (λ_ _ _ _=>(QB.f (jb 0))))))
  (je (vG (bkF jp ["claim","days","self"]) rfl (vB (Qo T.C0 T.N_runs (jb 0))) (λ_ _ _ _=>(QK.g_tup (K:=K) rfl rfl (js (jr (show(["claim","days","self"]:List Str).Nodup by decide +kernel)) (js (jr (show(["claim","days","self"]:List Str).Nodup by decide +kernel)) vh)))) xr (λ_ _ _ _=>(vY (jf (QB.f (jb 0)) (jf (QK.meth (K:=K) rfl T.C0 b (c _) (a.mono (by decide)) (jb 2) (jd (jb 0) (jd (jb 1) jk))) jv)))) jp.nd)
  (je (vG (bkF jp ["claim","self"]) rfl (vB (Qo T.C0 T.N_claims (jb 0))) cgN xr (λ_ _ _ _=>(xu (qu a (QK.fld (K:=K) rfl T.C0 T.N_alive (jb 1)) (jb 0)) (wv (wX a (jb 0) (QK.fld (K:=K) rfl T.C0 T.N_repaid (jb 1)))))) jp.nd)
  (je (vG (bkF jp ["pot","self","drawn"]) rfl (vB (Qo T.C0 T.N_pots (jb 0))) cgN xr (λ_ _ _ _=>(xu (qu a (QK.fld (K:=K) rfl T.C0 T.N_full (jb 1)) (jb 0)) (wv (jaD (QK.c_notin (K:=K) rfl (by with_unfolding_all rfl)) (jb 0) (jb 2))))) jp.nd)
  (jh (jD (QP.d (vY (jf (qR yO Jz T.n_tuple yX (jd (jb 2) jk)) (jf (qR yO Jz T.n_tuple yX (jd (jb 3) jk)) (jf (qR yO Jz T.n_tuple yX (jd (jb 4) jk)) jv)))))))))))⟩⟩
theorem wY(T:Txt P w K mg cl):qh K mg "_law_orders" Jx Jh->qY P w K mg cl->xZ P w K mg cl->Qv P w K mg cl
 | ⟨_,_,F⟩,⟨_,_,c,e⟩,⟨_,_,b,g⟩=>⟨_,_,F,λbase=>kq F.fn jW rfl λh A outer s H E a=>⟨_,show QSs _ _ _ _ _ YS from
  (je (jt jW.nd (QP.d (qm (jf (qm (jf (QB.f (yH (jb 4) qI)) (jf (qm jv) (jf (qm jv) jv)))) jv))))
  (je (vt PassesOwn.never rfl (YK T.n_enumerate (jf (QB.f (jb 0)) jv)) (Jy rfl (js (jr jW.nd) (js (jr jW.nd) vh)))
  (je (jt jW.nd (QP.d (jX c (e _) (a.mono (by decide)) (jd (jb 7) (jd (QP.bb (yL (jb 6) qI)) jk)))))
  (je (jt jW.nd (QP.d (vx (jb 8) qI)))
  (je (jt jW.nd (QP.d (QB.f (yH (jb 1) (QP.bb (yJ (jb 9) (QP.bb (ka T.n_len (jd (jb 1) jk)))))))))
  (jjw (x:=11) jW.nd (jb 5) (QP.bb (jf6 qI)) (λ_=>rfl) (QW.t (JV (jP (c_eq a) (QP.bb (yJ (jb 8) qI)) qI) (JF (jP jno (QP.bb (ka T.n_len (jd (jb 5) jk))) (QP.bb (ka T.n_len (jd (jb 4) jk))))))) (jh (JO (jb 5) (qm (jf (QB.f (yH (jb 4) (QP.bb (ka T.n_len (jd (jb 5) jk))))) (jf (qm jv) (jf (qm jv) jv))))))
  (jh (yR (jP jfK (QP.bb (yJ (jb 8) qI)) qI) (je (jt jW.nd (QP.d (yL qI (QP.bb (yJ (QP.bb (vx (jb 9) qI)) qI)))))
  (je (yR (jP (c_eq a) (QP.bb (yJ (QP.bb (vx (jb 9) qI)) qI)) qI) (jh (jt jW.nd (QP.d (yL qI (QP.bb (yJ (QP.bb (vx (jb 9) qI)) qI))))))
  jN)
  (jh (yR (jP (c_notin (by with_unfolding_all rfl)) (jb 10) (QP.bb (kf (bkF jW ["_law_name","_law_many"]) rfl (vB (yH (jb 11) qI)) (λ_ _ _ _=>(QK.g_tup (K:=K) rfl rfl (js (jr (show(["_law_name","_law_many"]:List Str).Nodup by decide +kernel)) (js (jr (show(["_law_name","_law_many"]:List Str).Nodup by decide +kernel)) vh)))) xr (λ_ _ _ _=>(QB.f (jb 0)))))) (jh (jdw (j:=1) (jb 11) (vY (jf (QB.f (jb 10)) (jf (QB.f (jb 12)) jv)))))
  jN))))
  (jh (yR (jP jno (QP.bb (ka T.n_len (jd (yH (jb 11) qI) jk))) qI) (jh (jdw (j:=2) (jb 11) (jX b (g _) (a.mono (by decide)) (jd (jb 9) (jd (jb 1) (jd (jb 2) (jd (jb 3) jk)))))))
  jN)))))))))
  (jh (QS.fz 5 (jD (QP.d (kf (bkF jW ["_law_row","_law_claims"]) rfl (vB (jb 5)) cgN xr (λ_ _ _ _=>(vY (jf (QB.f (QK.ix (K:=K) rfl (jb 0) qI)) (jf (QB.f (QK.ix (K:=K) rfl (jb 0) qI)) (jf (QK.add (K:=K) rfl (QK.ix (K:=K) rfl (jb 0) qI) (QP.bb (qm (jf (vY (jf qS (jf (QB.f (QK.ix (K:=K) rfl (jb 1) (QP.bb (yJ (QP.bb (QK.len (K:=K) rfl T.n_len (jd (QK.ix (K:=K) rfl (jb 0) qI) jk))) (QP.bb (QK.len (K:=K) rfl T.n_len (jd (jb 1) jk))))))) jv))) jv)))) jv))))))))))))⟩⟩
theorem wP(T:Txt P w K mg cl):qh K mg "steps_with" Jt Je->k9 P w K mg cl->JN P w K mg cl->Jk P w K mg cl->vL P w K mg cl->xh P w K mg cl->Qz P w K mg cl
 | ⟨_,_,F⟩,⟨_,_,vA,vD⟩,⟨_,_,JR,kL⟩,⟨_,_,Ku,kG⟩,⟨_,_,vK,yc⟩,⟨_,_,jaU,V8⟩=>⟨_,_,F,λbase=>kq F.fn ku rfl λc A outer s H E a=>⟨_,show QSs _ _ _ _ _ qf from
  (je (jt ku.nd (QP.d (jk8 ⟨T.mk0,vA.mt.at_,vA.mt.fn,T.kc0⟩ vA.bd jdD (vD _) (a.mono (by decide)) T.mg0 (jf (QB.f (jb 0)) (jf (QB.f (jb 2)) (jf (QB.f (jb 4)) jv))) (λρ b h=>by rw[(Kl (Kl (Kl jbN))) ρ b h]))))
  (je (jt ku.nd (QP.d (qm jv)))
  (je (vt PassesOwn.never rfl (YK T.n_enumerate (jf (QB.f (yH (jb 1) qI)) jv)) (Jy rfl (js (jr ku.nd) (js (jr ku.nd) vh)))
  (jh (yR (qe (QP.bb (jce T.C0 Ku (kG _) (a.mono (by decide)) (jb 5) (jd (jb 8) jk)))) (je (JO (jb 6) (vY (jf (QB.f (jb 3)) (jf (QB.f (jb 7)) (jf (jdE T.C0 vK (yc _) (a.mono (by decide)) (jb 5)) jv)))))
  (je (yR (jP jlO (QP.bb (jX jaU (V8 _) (a.mono (by decide)) (jd (yH (jb 1) qI) jk))) qI) (jh (jD (jfs 6)))
  jN)
  (jh (jix (jiW T.C0 JR.mt JR.bd jdD (kL _) (a.mono (by decide)) (jb 5) (jf (QB.f (jb 8)) jv) (λρ b h=>by rw[(Kl jbN) ρ b h]))))))
  jN)))
  (je (JO (jb 6) (vY (jf (QB.f (jb 3)) (jf (ka T.n_len (jd (yH (jb 1) qI) jk)) (jf (jdE T.C0 vK (yc _) (a.mono (by decide)) (jb 5)) jv)))))
  (jh (jD (jfs 6)))))))⟩⟩
theorem jbq(T:Txt P w K mg cl):qh K mg "_law_pool" Vg Vs->YX P w K mg cl->J9 P w K mg cl->Qy P w K mg cl->zf P w K mg cl->qY P w K mg cl->Qv P w K mg cl->xY P w K mg cl
 | ⟨_,_,F⟩,⟨_,_,qg,ve⟩,⟨_,_,ky,yN⟩,⟨_,_,jal,Y4⟩,⟨_,_,ja6,VV⟩,⟨_,_,yU,jY⟩,⟨_,_,jai,YI⟩=>⟨_,_,F,λbase=>kq F.fn yb rfl λb A outer s H E a=>⟨_,show QSs _ _ _ _ _ KZ from
  (je (jt yb.nd (QP.d (jX yU (jY _) (a.mono (by decide)) (jd (QP.bb (jX ky (yN _) (a.mono (by decide)) (jd (jb 0) (jd qI jk)))) (jd qI jk)))))
  (je (jt yb.nd (QP.d (jX yU (jY _) (a.mono (by decide)) (jd (QP.bb (jX ky (yN _) (a.mono (by decide)) (jd (jb 0) (jd qI jk)))) (jd qI jk)))))
  (je (jt yb.nd (QP.d (jbc (jb 1) (vo qI) (vo (QP.bb (yL qI (QP.bb (yJ (jb 5) qI))))))))
  (je (jt yb.nd (QP.d (jbc (jb 1) (vo qI) (vo (QP.bb (yL qI (QP.bb (yJ (QP.bb (vx (jb 5) qI)) qI))))))))
  (je (QS.fz 8 (QS.fz 7 (jt yb.nd (QP.d (jX jai (YI _) (a.mono (by decide)) (jd (QP.fzb (jbc (jb 0) (vo qI) qk)) (jd (jb 7) (jd (jb 8) (jd (jb 3) (jd (jb 2) jk))))))))))
  (je (jt yb.nd (QP.d (qm jv)))
  (je (QS.fz 7 (vt PassesOwn.never rfl (YK T.n_enumerate (jf (QB.f (jb 7)) jv)) (Jy rfl (js (jr yb.nd) (js (jr yb.nd) vh)))
  (jh (JO (jb 10) (vY (jf (QB.f (jb 12)) (jf (jX qg (ve _) (a.mono (by decide)) (jd (QP.bb (vx (jb 6) (QP.bb (yL (jb 11) qI)))) jk)) (jf (jX qg (ve _) (a.mono (by decide)) (jd (QP.bb (yL (QP.bb (vx (jb 6) (QP.bb (yL (jb 11) qI)))) (jb 11))) jk)) jv))))))))
  (je (vG (bkF yb ["_law_k","_law_names","_law_first"]) rfl (QI.b' (JL T.n_range (jd (QP.bb (yJ (QP.bb (vx (jb 5) qI)) (QP.bb (yL (QP.bb (ka T.n_len (jd (jb 7) jk))) qI)))) jk))) cgN xr (λ_ _ _ _=>(QB.f (QK.ix (K:=K) rfl (jb 1) (QP.bb (yJ (QP.bb (QK.add (K:=K) rfl (QP.bb (vx (jb 2) qI)) (jb 0))) (QP.bb (QK.len (K:=K) rfl T.n_len (jd (jb 1) jk)))))))) yb.nd)
  (je (jt yb.nd (QP.d (jX ja6 (VV _) (a.mono (by decide)) (jd (QP.bb (vx (jb 6) qI)) (jd (jb 7) (jd (jb 9) (jd (QP.bb (vx (jb 4) (QP.bb (JC (xj rfl) jcA T.n_max zY (jd qI (jd (QP.bb (ka T.n_len (jd (jb 8) jk))) jk)))))) jk)))))))
  (je (QS.fz 8 (vG (bkF yb ["_law_k","_law_name","_law_second"]) rfl (QI.b' (YK T.n_enumerate (jf (QB.f (jb 8)) jv))) (λ_ _ _ _=>(QK.g_tup (K:=K) rfl rfl (js (jr (show(["_law_k","_law_name","_law_second"]:List Str).Nodup by decide +kernel)) (js (jr (show(["_law_k","_law_name","_law_second"]:List Str).Nodup by decide +kernel)) vh)))) xr (λ_ _ _ _=>(vY (jf (QB.f (jb 1)) (jf (QK.call (K:=K) rfl qg (ve _) (a.mono (by decide)) (jd (QP.bb (QK.add (K:=K) rfl (QP.bb (vx (jb 2) qI)) (jb 0))) jk)) jv)))) yb.nd))
  (jh (QS.fz 10 (QS.fz 15 (QS.fz 13 (QS.fz 9 (QS.fz 14 (jD (QP.d (vY (jf (QB.f (yH (jb 1) qI)) (jf (QB.f (jb 10)) (jf (QB.f (jb 15)) (jf (QB.f (jb 13)) (jf (QB.f (jb 9)) (jf (QB.f (jb 14)) (jf (jX jal (Y4 _) (a.mono (by decide)) (jd (QP.bb (vx (jb 5) qI)) (jd (jb 7) (jd (jb 8) (jd (jb 9) jk))))) jv))))))))))))))))))))))))))⟩⟩
theorem jaM(T:Txt P w K mg cl):qh K mg "steps_of" Vh Vb->KI P w K mg cl->xC P w K mg cl->Qz P w K mg cl->xR P w K mg cl
 | ⟨_,_,F⟩,⟨_,_,c,e⟩,⟨_,_,b,g⟩,⟨_,_,h,i⟩=>⟨_,_,F,λbase=>kq F.fn vI rfl λj A outer s H E a=>⟨_,show QSs _ _ _ _ _ K7 from
  (je (jt vI.nd (QP.d (jX c (e _) (a.mono (by decide)) (jd (jb 0) (jd (QP.bb (jX b (g _) (a.mono (by decide)) (jd (jb 0) (jd (jb 1) jk)))) jk)))))
  (je (jt vI.nd (QP.d (jdq rfl T.n_dict T.n_zip (jd (QP.bb (kf (bkF vI ["claim"]) rfl (vB (yH (jb 0) qI)) cgN xr (λ_ _ _ _=>(QB.f (QK.ix (K:=K) rfl (jb 0) qI))))) (jd (yH (jb 1) qI) jk)))))
  (je (vG (bkF vI ["claim","alive"]) rfl (vB (yH (jb 0) qI)) cgN (λ_ _ _ _=>(QY (qe (qu a (jb 1) (jb 0))))) (λ_ _ _ _=>(QB.f (jb 0))) vI.nd)
  (je (jt vI.nd (QP.d (qm jv)))
  (je (vt PassesOwn.never rfl (JL T.n_range (jd (QP.bb (yL (QP.bb (ka T.n_len (jd (jb 4) jk))) qI)) jk)) (jr vI.nd)
  (jh (jg5 (jb 5) (QP.bb (jX h (i _) (a.mono (by decide)) (jd (jb 0) (jd (jb 2) (jd (jb 1) (jd (jb 6) (jd (QP.bb (jbc (jb 4) qk (vo (jb 6)))) jk))))))))))
  (jh (jD (jfs 5))))))))⟩⟩
theorem jcp(T:Txt P w K mg cl):qh K mg "_law_one" Kq Ke->J9 P w K mg cl->xY P w K mg cl->zQ P w K mg cl->uD P w K mg cl
 | ⟨_,_,F⟩,⟨_,_,c,e⟩,⟨_,_,b,h⟩,⟨_,_,f,g⟩=>⟨_,_,F,λbase=>kq F.fn Qi rfl λi A outer s H E a=>⟨_,show QSs _ _ _ _ _ Q7 from
  (je (jt Qi.nd (QP.d (jX f (g _) (a.mono (by decide)) (jd (QP.bb (jX c (e _) (a.mono (by decide)) (jd (jb 0) (jd qI jk)))) (jd qI (jd qI jk))))))
  (je (jt Qi.nd (QP.d (jX f (g _) (a.mono (by decide)) (jd (QP.bb (jX c (e _) (a.mono (by decide)) (jd (jb 0) (jd qI jk)))) (jd qI (jd qI jk))))))
  (jh (QS.fz 3 (QS.fz 2 (jD (QP.d (jX b (h _) (a.mono (by decide)) (jd (QP.fzb (jbc (jb 0) qk (vo qI))) (jd (jb 2) (jd (jb 3) (jd (QP.fzb (jbc (jb 2) (vo qI) qk)) (jd (jb 1) jk)))))))))))))⟩⟩
theorem jat(T:Txt P w K mg cl):qh K mg "_law_alike" Yf qX->xl P w K mg cl
 | ⟨_,_,F⟩=>⟨_,_,F,λbase=>by
  have b:∀ n,FnOk P w K mg base CX0 (0+n) _ _ qX (spP ⟨K,cl⟩ (j9 n) 2):=λn=>by
   induction n with
   | zero=>exact jhN
   | succ n c =>
    have e:=F;exact kq F.fn Qp rfl λf A outer s H E a=>⟨_,show QSs _ _ _ _ _ (kg (j9 n)) from
    (je (yR (qe (QP.bb (zt (T:="bool") (by decide) T.n_isinstance T.n_bool Ql (jb 1)))) (jh (jD (QP.d (xu (QP.bb (zt (T:="bool") (by decide) T.n_isinstance T.n_bool Ql (jb 0))) (wv (jaD (c_eq a) (jb 0) (jb 1)))))))
    jN)
    (je (yR (qe (QP.bb (zt (T:="str") (by decide) T.n_isinstance T.n_str uB (jb 1)))) (jh (jD (QP.d (xu (QP.bb (zt (T:="str") (by decide) T.n_isinstance T.n_str uB (jb 0))) (wv (jaD (c_eq a) (jb 0) (jb 1)))))))
    jN)
    (je (yR (qe (QP.bb (zt (T:="int") (by decide) T.n_isinstance T.n_int uZ (jb 1)))) (jh (jD (QP.d (xu (QP.bb (zt (T:="int") (by decide) T.n_isinstance T.n_int uZ (jb 0))) (xu (QP.bb (jlg (QP.bb (zt (T:="bool") (by decide) T.n_isinstance T.n_bool Ql (jb 0))))) (wv (jaD (c_eq a) (jb 0) (jb 1))))))))
    jN)
    (je (yR (QW.t (JV (qe (QP.bb (zt (T:="tuple") (by decide) T.n_isinstance T.n_tuple yX (jb 1)))) (JF (jaa (qe (QP.bb (zt (T:="tuple") (by decide) T.n_isinstance T.n_tuple yX (jb 0)))))))) (jh (jD (QP.d jck)))
    jN)
    (je (yR (QW.t (JV (qe (QP.bb (zt (T:="list") (by decide) T.n_isinstance T.n_list xN (jb 1)))) (JF (jaa (qe (QP.bb (zt (T:="list") (by decide) T.n_isinstance T.n_list xN (jb 0)))))))) (jh (jD (QP.d jck)))
    jN)
    (je (yR (jP (jnO a) (QP.bb (ka T.n_len (jd (jb 0) jk))) (QP.bb (ka T.n_len (jd (jb 1) jk)))) (jh (jD (QP.d jck)))
    jN)
    (je (vt PassesOwn.never rfl (JL T.n_range (jd (QP.bb (ka T.n_len (jd (jb 1) jk))) jk)) (jr Qp.nd)
    (jh (yR (jaa (qe (QP.bb (jX e c (a.mono (by first | exact M9 _ | exact N8 (by decide) (Nat.le_add_right _ _))) (jd (yH (jb 0) (jb 2)) (jd (yH (jb 1) (jb 2)) jk)))))) (jh (jD (QP.d jck)))
    jN)))
    (jh (jD (QP.d jck))))))))))⟩
  exact b 8⟩
theorem jmf(T:Txt P w K mg cl):qh K mg "law" uP jgh->xl P w K mg cl->uW P w K mg cl->VD P w K mg cl->qY P w K mg cl->uD P w K mg cl->xF P w K mg cl->xR P w K mg cl->jnh P w K mg cl
 | ⟨_,_,F⟩,⟨_,_,Yw,kN⟩,⟨_,_,jdk,xb⟩,⟨_,_,xt,JK⟩,⟨_,_,yU,jY⟩,⟨_,_,jdL,zG⟩,⟨_,_,jcL,K6⟩,⟨_,_,xP,Vq⟩=>⟨_,_,F,λbase=>kq F.fn JM rfl λb A outer s H E a=>⟨_,show QSs _ _ _ _ _ jhM from
  (je (jt JM.nd (QP.d (jX jcL (K6 _) (a.mono (by decide)) (jd (QP.fzb (jX jdL (zG _) (a.mono (by decide)) (jd (jb 0) (jd qI jk)))) jk))))
  (je (QS.fz 1 (jt JM.nd (QP.d (jX xt (JK _) (a.mono (by decide)) (jd (jb 1) jk)))))
  (je (QS.fz 2 (vt PassesOwn.never rfl (YK T.n_enumerate (jf (yL (QP.bb (qm (jf jdX jv))) (QP.bb (jbc (jb 0) qk (vo qI)))) jv)) (Jy rfl (js (jr JM.nd) (js (jr JM.nd) vh)))
  (je (jt JM.nd (QP.d (jX yU (jY _) (a.mono (by decide)) (jd (jb 4) (jd (QP.bb (yL (jb 3) qI)) jk)))))
  (je (QS.fz 2 (vG (bkF JM ["_law_j","_law_row","_law_m"]) rfl (QI.b' (YK T.n_enumerate (jf (QB.f (jb 2)) jv))) (λ_ _ _ _=>(QK.g_tup (K:=K) rfl rfl (js (jr (show(["_law_j","_law_row","_law_m"]:List Str).Nodup by decide +kernel)) (js (jr (show(["_law_j","_law_row","_law_m"]:List Str).Nodup by decide +kernel)) vh)))) xr (λ_ _ _ _=>(vY (jf (QB.f (QK.ix (K:=K) rfl (jb 1) qI)) (jf (yJ (QP.bb (vx (jb 2) (QP.bb (QK.add (K:=K) rfl qI (QP.bb (Kt qI (jb 0))))))) (QP.bb (QK.add (K:=K) rfl (QK.ix (K:=K) rfl (jb 1) qI) qI))) jv)))) JM.nd))
  (je (jt JM.nd (QP.d (qR yO Jz T.n_tuple yX (jd (QP.fzb (kf (bkF JM ["_law_j","_law_m"]) rfl (QI.b' (JL T.n_range (jd (QP.bb (ka T.n_len (jd (yH (jb 1) qI) jk))) jk))) cgN xr (λ_ _ _ _=>(jaD jfK (QP.bb (yJ (QP.bb (vx (jb 1) (QP.bb (QK.add (K:=K) rfl qI (jb 0))))) qI)) qI)))) jk))))
  (je (jt JM.nd (QP.d (vY (jf (qR yO Jz T.n_tuple yX (jd (jb 6) jk)) (jf (QB.f (jb 7)) (jf (vY jv) jv))))))
  (je (jt JM.nd (QP.d (jX xP (Vq _) (a.mono (by decide)) (jd (jb 1) (jd (jb 8) jk)))))
  (je (jt JM.nd (QP.d (jX jdk (xb _) (a.mono (by decide)) (jd (jb 1) (jd (jb 2) (jd (jb 8) jk))))))
  (je (yR (jaa (qe (QP.bb (jX Yw (kN _) (a.mono (by decide)) (jd (jb 9) (jd (jb 10) jk)))))) (jh (jD (QP.d jck)))
  jN)
  (je (jiq (jb 9))
  (jh (yR (QW.t (JV (jP (c_eq a) (jb 3) qI) (JF (jaa (qe (QP.bb (jX Yw (kN _) (a.mono (by decide)) (jd (QP.fzb (jX xP (Vq _) (a.mono (by decide)) (jd (jb 1) (jd (jb 8) jk)))) (jd (jb 10) jk))))))))) (jh (jD (QP.d jck)))
  jN))))))))))))
  (jh (jD (QP.d jck))))))⟩⟩
end
abbrev jhc(ns:List Int):Prop:=∀ x∈ns,Builtin.Int.intBits x<=2 ^ 20
abbrev Lt(w:List Nat):Prop:=∀ c∈w,97<=c/\c<=122
theorem u7{a b:List Nat}(h1:Lt a)(h2:Lt b):Lt (a++b):=λc d=>(N3.mp d).elim (h1 c) (h2 c)
theorem jbK{c:Nat}(h:97<=c/\c<=122):Lt [c]:=λd hd=>by rw[M8.mp hd];exact h
theorem V3{α:Type}{l:List α}{lo hi:Option Int}{c:α}(h:c∈vy l lo hi):c∈l:=by
 unfold vy at h;exact List.mem_of_mem_drop (List.mem_of_mem_take h)
theorem J8{α:Type}(l:List α)(lo hi:Option Int):(vy l lo hi).length<=l.length:=by
 unfold vy;rw[E1,List.length_drop];omega
theorem jar{w:List Nat}{lo hi:Option Int}(h:Lt w):Lt (vy w lo hi):=λc a=>h c (V3 a)
noncomputable abbrev ABC:List Nat:=[97,98,99,100,101,102,103,104,105,106,107,108,109,110,111,112,113,114,115,116,117,118,119,120,121,122]
theorem jlF{i:Int}(h0:0<=i)(h1:i < 26):∃ c,jq (.str ABC) (.int i)=some (.str [c])/\97<=c/\c<=122:=by
 have a:ABC.length=26:=rfl;refine⟨ABC.getD i.toNat 0,jnA (by decide) h0 (by omega),?_⟩;have:∀ c∈ABC,97<=c/\c<=122:=by decide
 exact this _ (Jv (by omega))
theorem jfC{c:Nat}(h:97<=c/\c<=122):0<=Vz ABC [c]:=by
 obtain⟨a,b⟩:=h;have:c=97 \/ c=98 \/ c=99 \/ c=100 \/ c=101 \/ c=102 \/ c=103 \/ c=104 \/ c=105 \/ c=106 \/ c=107 \/ c=108 \/ c=109 \/ c=110 \/ c=111 \/ c=112 \/ c=113 \/ c=114 \/ c=115 \/ c=116 \/ c=117 \/ c=118 \/ c=119 \/ c=120 \/ c=121 \/ c=122:=by omega
 rcases this with rfl | rfl | rfl | rfl | rfl | rfl | rfl | rfl | rfl | rfl | rfl | rfl | rfl | rfl | rfl | rfl | rfl | rfl | rfl | rfl | rfl | rfl | rfl | rfl | rfl | rfl<;>decide +kernel
theorem kT(ns:List Int):frzs (ns.map D.int)=true:=kP λd hd=>by obtain⟨x,_,rfl⟩:=M6.mp hd;rfl
theorem VY(ns:List Int):fzs (ns.map D.int)=ns.map D.int:=jl _ (kT ns)
theorem wa{ns:List Int}(c:jhc ns){k:Int}(d:0<=k):∃ z,yP [.lst false (ns.map D.int),.int k]=some (.int z)/\Builtin.Int.intBits z<=2 ^ 20:=by
 have e:=kT ns;have a:(ns.map D.int).length=ns.length:=L1 ..;by_cases h:k < (ns.length:Int)
 ·have b:k.toNat < ns.length:=by omega
  have ix:jq (.lst false (ns.map D.int)) (.int k)=some (.int ns[k.toNat]):=by
   rw[jhx d (by rw[a];exact h),List.getElem?_map,X9 b];rfl
  refine⟨ns[k.toNat],?_,c _ (List.getElem_mem b)⟩;generalize ns.map D.int=NS at *;simp[yP,j7,qA,a,h,ix]
 ·refine⟨0,?_,by decide⟩;generalize ns.map D.int=NS at *;simp[yP,j7,qA,a,h]
theorem jfb{z k:Int}(h0:0<=k)(h1:k<=1000):∃ m,yi [.int z,.int k]=some (.int m)/\0<=m/\m < 2147483587:=by
 have b:0<=k*k/\k*k<=1000*1000:=⟨Int.mul_nonneg h0 h0,Int.mul_le_mul h1 h1 h0 (by decide)⟩;have c:1511*k*k=1511*(k*k):=by rw[Int.mul_assoc]
 generalize k*k=kk at *;have d:vw (.int 1511) (.int k)=some (.int (1511*k)):=Ji (by decide) (by omega);have e:vw (.int (1511*k)) (.int k)=some (.int (1511*kk)):=by rw[Ji (by omega) (by omega),c]
 have f:=U1 z (show(2147483647:Int)≠0 by decide);have g:=U0 z (show(0:Int) < 2147483647 by decide);generalize a:z % 2147483647=zz at *;have h:vw (.int zz) (.int (69621+1511*kk))=some (.int (zz*(69621+1511*kk))):=Ji (by omega) (by omega);have o:=U1 (zz*(69621+1511*kk)) (show(2147483629:Int)≠0 by decide);have p:=U0 (zz*(69621+1511*kk)) (show(0:Int) < 2147483629 by decide);generalize i:zz*(69621+1511*kk) % 2147483629=n at *;have j:vw (.int 5) (.int k)=some (.int (5*k)):=Ji (by decide) (by omega);have l:vw (.int (n+k)) (.int (n+5*k+1))=some (.int ((n+k)*(n+5*k+1))):=Ji (by omega) (by omega);refine⟨(n+k)*(n+5*k+1) % 2147483587,?_,U1 _ (by decide),U0 _ (by decide)⟩;simp(disch:=decide) [yi,j7,VU,jH,a,d,e,h,i,j,l]
theorem J4{z k:Int}(hz:Builtin.Int.intBits z<=2 ^ 20)(h0:0<=k)(h1:k<=1000):∃ m,yi [.int z,.int k]=some (.int m)/\0<=m/\m < 2147483587:=jfb h0 h1
theorem xL{n:Int}{s:Nat}(hn:0<=n)(u:s<=8):∃ w,vg [.int n,.int (s:Int)]=some (.str w)/\w.length=s/\Lt w:=by
 have e:=kB (j:=(s:Int)) (by omega) (by omega);rw[N9] at e;obtain⟨v,o,d,w,g,rfl,h,k,l⟩:=vj (G:=ji [] 4) (f:=Jb) (xs:=YG 0 s) (λi ρ=>∃(d:Int) (w:List Nat) (g:Option D),ρ=[some (.int d),some (.int (s:Int)),some (.str ABC),some (.str w),g]/\0<=d/\w.length=i/\Lt w) (by
  rintro i x ρ p ⟨d,w,g,rfl,h,k,l⟩;obtain⟨rfl,y⟩:=Yg p;obtain⟨c,q,m⟩:=jlF (i:=d % 26) (by omega) (by omega);refine⟨_,[some (.int (d / 26)),some (.int (s:Int)),some (.str ABC),some (.str (w++[c])),some (.int (0+(i:Int)))],rfl,.inl ?_,d / 26,w++[c],some (.int (0+(i:Int))),rfl,by omega,by simp[k],u7 l (jbK m)⟩;have r:=uy (a:=w) (b:=[c]) (by simp;omega);generalize ABC=AA at *;simp(disch:=omega) [Jb,jH,yn,q,r,-Int.zero_add]) (ρ:=[some (.int n),some (.int (s:Int)),some (.str ABC),some (.str []),none]) ⟨n,[],none,rfl,hn,rfl,λc m=>(nomatch m)⟩
 rw[v9] at k;refine⟨w,?_,by omega,l⟩;generalize t:ABC=AA at *;simp[vg,j7,Yr,e,o,t]
noncomputable def KA1:List (List Nat):=[[112,111,111,108],[99,108,97,105,109],[112,111,116],[101,97,116],[111,114,100,101,114],[112,97,114,116],[112,97,121],[115,104,97,114,101],[114,101,112,97,121],[102,105,108,108],[108,101,110,100],[98,97,99,107]]
noncomputable def KA2:List (List Nat):=[[114,101,115,116],[108,111,111,107],[103,117,97,114,100],[100,101,98,116],[111,110],[108,97,116,101],[101,97,114,108,121],[113,117,105,116]]
theorem jhf(w:List Nat)(o:Bool)(l:List (List Nat)):QM false (.str w) (.lst o (l.map D.str))=some (.bl (decide (w∈l))):=by
 show(bif jcW (.str w) (l.map D.str) then some (D.bl (false != inL (.str w) (l.map D.str))) else none)=_;rw[zN,wW];simp
noncomputable def rot(c:Nat):Nat:=97+(c - 97+13) % 26
structure Sp(u v:List Nat):Prop where
 l:v.length=u.length
 a:∀ i,i+1 < u.length->v[i]?=u[i]?
 b:∀ i,i+1=u.length->v[i]?=u[i]? \/ (2<=u.length/\∃ c,u[i]?=some c/\v[i]?=some (rot c))
theorem Sp.id(u:List Nat):Sp u u:=⟨rfl,λ_ _=>rfl,λ_ _=>.inl rfl⟩
theorem Sp.last{u:List Nat}{c:Nat}(h:1<=u.length):Sp (u++[c]) (u++[rot c]):=by
 refine⟨by simp,λi a=>?_,λi a=>.inr ⟨by simp;omega,c,?_,?_⟩⟩
 ·have:i < u.length:=by simp at a;exact a
  rw[List.getElem?_append_left this,List.getElem?_append_left this]
 ·have:i=u.length:=by simp at a;exact a
  subst this;simp
 ·have:i=u.length:=by simp at a;exact a
  subst this;simp
theorem jg7:(∀ w∈KA1,2<=w.length)/\∀ w∈KA2,2<=w.length:=by decide
theorem jjG{c:Nat}(h:97<=c/\c<=122):Vz ABC [c]=(c:Int) - 97:=by
 obtain⟨a,b⟩:=h;have:c=97 \/ c=98 \/ c=99 \/ c=100 \/ c=101 \/ c=102 \/ c=103 \/ c=104 \/ c=105 \/ c=106 \/ c=107 \/ c=108 \/ c=109 \/ c=110 \/ c=111 \/ c=112 \/ c=113 \/ c=114 \/ c=115 \/ c=116 \/ c=117 \/ c=118 \/ c=119 \/ c=120 \/ c=121 \/ c=122:=by omega
 rcases this with rfl | rfl | rfl | rfl | rfl | rfl | rfl | rfl | rfl | rfl | rfl | rfl | rfl | rfl | rfl | rfl | rfl | rfl | rfl | rfl | rfl | rfl | rfl | rfl | rfl | rfl<;>decide +kernel
theorem jg9{i:Int}(h0:0<=i)(h1:i < 26):jq (.str ABC) (.int i)=some (.str [97+i.toNat]):=by
 have a:ABC.length=26:=rfl;have e:=jnA (s:=ABC) (by decide) h0 (by omega);have:∀ j,j < 26->ABC.getD j 0=97+j:=by decide
 rw[e,this i.toNat (by omega)]
theorem jfT(u:List Nat)(c:Nat):vy (u++[c]) none (some (-1))=u:=by
 unfold vy HT.sIx;simp;rw[show(-1+((u.length:Int)+1)).toNat=u.length by omega];simp
theorem jeD{l:List Nat}{j:Int}(h0:0<=j)(h1:j<=l.length):vy l none (some j)=l.take j.toNat:=by
 unfold vy HT.sIx;simp;rw[if_neg (by omega)];omega
theorem wj{w:List Nat}(m:Lt w)(K:w.length<=20):∃ v,ki [.str w]=some (.str v)/\Lt v/\v.length<=21/\Sp w v:=by
 have j:=jhf w true KA1;have n:=jhf w true KA2;rw[show KA1.map D.str=[.str [112,111,111,108],.str [99,108,97,105,109],.str [112,111,116],.str [101,97,116],.str [111,114,100,101,114],.str [112,97,114,116],.str [112,97,121],.str [115,104,97,114,101],.str [114,101,112,97,121],.str [102,105,108,108],.str [108,101,110,100],.str [98,97,99,107]] from rfl] at j;rw[show KA2.map D.str=[.str [114,101,115,116],.str [108,111,111,107],.str [103,117,97,114,100],.str [100,101,98,116],.str [111,110],.str [108,97,116,101],.str [101,97,114,108,121],.str [113,117,105,116]] from rfl] at n;by_cases h:w∈KA1 \/ w∈KA2
 ·have k:w≠[]:=by
   intro z;subst z;revert h
   decide
  obtain⟨u,c,rfl⟩:∃ u c,w=u++[c]:=⟨w.dropLast,w.getLast k,(List.dropLast_concat_getLast k).symm⟩;have A:97<=c/\c<=122:=m c (by simp);have ix:jq (.str (u++[c])) (.int (-1))=some (.str [c]):=by
   show(bif lim (u++[c]).length then(match L2.atI (u++[c]) (-1) with | some c=>some (D.str [c]) | none=>none) else none)=_;rw[jg (by omega),jeS (i:=u.length) (x:=c) (by
    unfold ixN;rw[if_neg (by decide),if_pos (by simp;omega)];congr 1;simp;omega) (by simp)]
   rfl
  have C:=jfC A;have sl:=jkK (s:=u++[c]) (lo:=none) (hi:=some (-1)) (by omega);have E:=J8 (u++[c]) none (some (-1));have o:=jar (lo:=none) (hi:=some (-1)) m;have F:=U1 (Vz ABC [c]+13) (show(26:Int)≠0 by decide);have G:=U0 (Vz ABC [c]+13) (show(0:Int) < 26 by decide);have e:=jg9 F G;have p:97<=97+((Vz ABC [c]+13) % 26).toNat/\97+((Vz ABC [c]+13) % 26).toNat<=122:=by omega
  have d:97+((Vz ABC [c]+13) % 26).toNat=rot c:=by rw[jjG A];unfold rot;omega
  have q:1<=u.length:=by
   have:=h.elim (jg7.1 _) (jg7.2 _);simp at this;omega
  have r:Sp (u++[c]) (u++[97+((Vz ABC [c]+13) % 26).toNat]):=by rw[d];exact Sp.last q
  have l:=jfT u c;clear d;generalize 97+((Vz ABC [c]+13) % 26).toNat=c' at *;generalize f:vy (u++[c]) none (some (-1))=cu at *;have t:=uy (a:=cu) (b:=[c']) (by simp;omega);have g:um (.str ABC) [.str [c]]=some (.int (Vz ABC [c])):=by
   rw[jfM,X4 C];rfl
  generalize Vz ABC [c]=fi at *;refine⟨cu++[c'],?_,u7 o (jbK p),by simp;omega,by rw[l];exact r⟩;generalize y:ABC=AA at *;rcases h with h | h
  ·have H:=X4 h;generalize u++[c]=w at *;simp(disch:=decide) [ki,j7,kQ,jg,j,H,h,sl,f,y,ix,g,jH,e,t]
  ·by_cases B:u++[c]∈KA1
   ·generalize u++[c]=w at *;simp(disch:=decide) [ki,j7,kQ,jg,j,B,sl,f,y,ix,g,jH,e,t]
   ·generalize u++[c]=w at *;simp(disch:=decide) [ki,j7,kQ,jg,j,n,h,B,sl,f,y,ix,g,jH,e,t]
 ·refine⟨w,?_,m,by omega,Sp.id w⟩;have I:¬ w∈KA1:=λz=>h (.inl z);have J:¬ w∈KA2:=λz=>h (.inr z);simp[ki,j7,kQ,jg,j,n,I,J]
structure Nm(w:List Nat):Prop where
 l:w.length<=21
 r:Lt w
noncomputable def jfr(n:Int)(i:Nat):Nat:=97+((n / 192+(0+(i:Int))) % 26).toNat
def Mk(n at' lo:Int)(i:Nat)(w:List Nat):Prop :=
 (n % 3=0/\∃ d,w[at'.toNat]?=some d/\(d=jfr n i \/ d=rot (jfr n i))) \/ (n % 3=1/\w.length=(1+(n / 24+(0+(i:Int))) % lo).toNat) \/ (n % 3=2/\w[0]?=some (jfr n i))
theorem Mk.ne{n at':Int}{i j:Nat}{w:List Nat}(hi:i < 7)(f:j < 7)(h1:Mk n at' 8 i w)(h2:Mk n at' 8 j w):i=j:=by
 rcases h1 with⟨c1,g,b,d⟩ | ⟨c1,b⟩ | ⟨c1,b⟩<;>rcases h2 with⟨c,h,a,e⟩ | ⟨c,a⟩ | ⟨c,a⟩<;>try omega
 ·rw[b] at a;injection a with a;subst a;unfold rot jfr at d e;omega
 ·rw[b] at a;injection a with a;unfold jfr at a;omega
theorem jc7{z:Int}(hz:Builtin.Int.intBits z<=2 ^ 20){n lo si at':Int}(hn:0<=n)(hlo:1<=lo)(V:lo<=8){base:List Nat}(J:Lt base)(hbl:base.length=8)(K:0<=at')(ha7:at'<=7){W:List (List Nat)}(hW:W.length<=100){i:Nat}(hi:i<=100){a1 o10 o11:Option D} :
  ∃(w:List Nat) (r10 r11:Option D),vT [some (.int z),a1,some (.int lo),some (.str ABC),some (.int n),some (.str base),some (.int si),some (.int at'),some (.lst true (W.map D.str)),some (.int (0+(i:Int))),o10,o11] =
   some (.nx [some (.int z),a1,some (.int lo),some (.str ABC),some (.int n),some (.str base),some (.int si),some (.int at'),some (.lst true ((W++[w]).map D.str)),some (.int (0+(i:Int))),r10,r11])/\Nm w/\Mk n at' lo i w:=by
 have e1:=U1 (n / 192+(0+(i:Int))) (show(26:Int)≠0 by decide);have e2:=U0 (n / 192+(0+(i:Int))) (show(0:Int) < 26 by decide);have G:=jg9 e1 e2;have t:97+((n / 192+(0+(i:Int))) % 26).toNat=jfr n i:=rfl;have X:97<=jfr n i/\jfr n i<=122:=by unfold jfr;omega
 rw[t] at G;clear t;generalize x:jfr n i=c at *;have L:lim (W.map D.str).length=true:=jg (by rw[L1];omega);by_cases H:n % 3=0
 ·have y:=jkK (s:=base) (lo:=none) (hi:=some at') (by omega);have s2:=jkK (s:=base) (lo:=some (at'+1)) (hi:=some si) (by omega);have M:=J8 base none (some at');have l2:=J8 base (some (at'+1)) (some si);have A:=jar (lo:=none) (hi:=some at') J;have t2:=jar (lo:=some (at'+1)) (hi:=some si) J;have B:(vy base none (some at')).length=at'.toNat:=by rw[jeD K (by omega),E1];omega
  generalize vy base none (some at')=u1,vy base (some (at'+1)) (some si)=u2 at *;have j:=uy (a:=u1) (b:=[c]) (by simp;omega);have N:=uy (a:=u1++[c]) (b:=u2) (by simp;omega);obtain⟨v,C,E,F,f⟩:=wj (w:=u1++[c]++u2) (u7 (u7 A (jbK X)) t2) (by simp;omega);have I:(u1++[c]++u2)[at'.toNat]?=some c:=by rw[<- B];simp
  have O:at'.toNat+1<=(u1++[c]++u2).length:=by simp;omega
  have d:Mk n at' lo i v:=by
   refine .inl ⟨H,?_⟩;rw[x];by_cases e:at'.toNat+1=(u1++[c]++u2).length
   ·rcases f.b _ e with h | ⟨_,c',r,Y⟩
    ·exact⟨c,by rw[h,I],.inl rfl⟩
    ·rw[I] at r;cases r;exact⟨_,Y,.inr rfl⟩
   ·exact⟨c,by rw[f.a _ (by omega),I],.inl rfl⟩
  refine⟨v,some (.str [c]),some (.str (u1++[c]++u2)),?_,⟨F,E⟩,d⟩;clear d I O f B;rw[N6];show _=some (Out.nx [_,_,_,_,_,_,_,_,some (.lst true (W.map D.str++[.str v])),_,_,_]);generalize W.map D.str=WW,u1++[c]++u2=uu at *;generalize Z:ABC=AA at *;simp(disch:=omega) [vT,yn,jH,G,H,y,s2,j,N,C,L,-Int.zero_add]
 by_cases r:n % 3=1
 ·have y:=jkK (s:=base) (lo:=none) (hi:=some (1+(n / 24+(0+(i:Int))) % lo)) (by omega);have M:=J8 base none (some (1+(n / 24+(0+(i:Int))) % lo));have A:=jar (lo:=none) (hi:=some (1+(n / 24+(0+(i:Int))) % lo)) J;have P:jC (.int (n / 24+(0+(i:Int)))) (.int lo)=some (.int ((n / 24+(0+(i:Int))) % lo)):=jH (by omega);have q0:=U1 (n / 24+(0+(i:Int))) (show lo≠0 by omega);have q1:=U0 (n / 24+(0+(i:Int))) (show 0 < lo by omega);have B:(vy base none (some (1+(n / 24+(0+(i:Int))) % lo))).length=(1+(n / 24+(0+(i:Int))) % lo).toNat:=by rw[jeD (by omega) (by omega),E1];omega
  obtain⟨v,C,E,F,f⟩:=wj A (by omega);have d:Mk n at' lo i v:=.inr (.inl ⟨r,by rw[f.l,B]⟩);clear f B;generalize(n / 24+(0+(i:Int))) % lo=q at *;generalize vy base none (some (1+q))=u1 at *;refine⟨v,some (.str [c]),some (.str u1),?_,⟨F,E⟩,d⟩;clear d;rw[N6];show _=some (Out.nx [_,_,_,_,_,_,_,_,some (.lst true (W.map D.str++[.str v])),_,_,_]);generalize W.map D.str=WW at *;generalize Z:ABC=AA at *;simp(disch:=omega) [vT,yn,jH,G,H,r,P,y,C,L,-Int.zero_add]
 ·obtain⟨m1,Q,R,_⟩:=J4 (k:=0+(i:Int)+2) hz (by omega) (by omega);obtain⟨g,S,hm2,_⟩:=J4 (k:=0+(i:Int)+40) hz (by omega) (by omega);obtain⟨u,eu,lu,tu⟩:=xL (s:=7) R (by decide);have j:=uy (a:=[c]) (b:=u) (by simp;omega);have tc:Lt ([c]++u):=u7 (jbK X) tu;have y:=jkK (s:=[c]++u) (lo:=none) (hi:=some (1+g % lo)) (by simp;omega);have M:=J8 ([c]++u) none (some (1+g % lo));have A:=jar (lo:=none) (hi:=some (1+g % lo)) tc;have P:jC (.int g) (.int lo)=some (.int (g % lo)):=jH (by omega);have m:([c]++u).length=8:=by simp[lu]
  rw[m] at M;have q0:=U1 g (show lo≠0 by omega);have q1:=U0 g (show 0 < lo by omega);have o:vy ([c]++u) none (some (1+g % lo))=([c]++u).take (1+g % lo).toNat:=jeD (by omega) (by rw[m];omega);generalize g % lo=q at *;have p:(vy ([c]++u) none (some (1+q)))[0]?=some c:=by rw[o,List.getElem?_take_of_lt (by omega)];rfl
  have T:1<=(vy ([c]++u) none (some (1+q))).length:=by rw[o,E1,m];omega
  obtain⟨v,C,E,F,f⟩:=wj A (by omega);have d:Mk n at' lo i v:=by
   refine .inr (.inr ⟨by omega,?_⟩);rw[x];by_cases e:0+1=(vy ([c]++u) none (some (1+q))).length
   ·rcases f.b _ e with h | ⟨Y,_⟩
    ·rw[h,p]
    ·omega
   ·rw[f.a _ (by omega),p]
  clear f p T o;generalize [c]++u=cu at *;generalize vy cu none (some (1+q))=u1 at *;refine⟨v,some (.str [c]),some (.str u1),?_,⟨F,E⟩,d⟩;clear d;rw[N6];show _=some (Out.nx [_,_,_,_,_,_,_,_,some (.lst true (W.map D.str++[.str v])),_,_,_]);have U:vg [.int m1,.int 7]=some (.str u):=eu;generalize W.map D.str=WW at *;generalize Z:ABC=AA at *;simp(disch:=omega) [vT,yn,jH,G,H,r,Q,S,U,j,P,y,C,L,-Int.zero_add]
theorem jb6{z:Int}(hz:Builtin.Int.intBits z<=2 ^ 20){many:Nat}(hm:many<=7) :
  ∃ W:List (List Nat),vM [.int z,.int (many:Int),.int 8]=some (.lst true (W.map D.str))/\W.length=many/\(∀ w∈W,Nm w)/\W.Nodup:=by
 have A:(1:Int)<=8:=by decide
 have o:(8:Int)<=8:=by decide
 obtain⟨n,L,B,Q⟩:=J4 (k:=1) hz (by decide) (by decide);have M:vw (.int n) (.int n)=some (.int (n*n)):=Ji (by omega) (by omega);have R:0<=n*n:=Int.mul_nonneg B B;obtain⟨base,S,T,U⟩:=xL (n:=n*n+n) (s:=8) (by omega) (by decide);have p:vg [.int (n*n+n),.int 8]=some (.str base):=S;generalize n*n=nn at *;have V:=U0 (n / 3) (show(0:Int) < 8 by decide);have hd:=U1 (n / 3) (show(8:Int)≠0 by decide);have r:jC (.int (n / 3)) (.int 8)=some (.int (n / 3 % 8)):=jH (by omega);generalize n / 3 % 8=q at *;have t:jC (.int (n / 24)) (.int (1+q))=some (.int (n / 24 % (1+q))):=jH (by omega);have C:=U1 (n / 24) (show 1+q≠0 by omega);have X:=U0 (n / 24) (show 0 < 1+q by omega);generalize n / 24 % (1+q)=at' at *;have g:=kB (j:=(many:Int)) (by omega) (by omega);rw[N9] at g;obtain⟨ρ',u,W,E,a,b,rfl,m,y,c⟩:=vj (G:=ji [] 9) (f:=vT) (xs:=YG 0 many) (λi ρ=>∃(W:List (List Nat)) (E a b:Option D),ρ=[some (.int z),some (.int (many:Int)),some (.int 8),some (.str ABC),some (.int n),some (.str base),some (.int (1+q)),some (.int at'),some (.lst true (W.map D.str)),E,a,b]/\W.length=i/\(∀ w∈W,Nm w)/\∀ j w,W[j]?=some w->Mk n at' 8 j w) (by
  rintro i x ρ Y ⟨W,E,a,b,rfl,m,y,c⟩;obtain⟨rfl,N⟩:=Yg Y;obtain⟨w,F,H,e,Z,hM⟩:=jc7 hz (n:=n) (lo:=8) (si:=1+q) (at':=at') B A o U T C (by omega) (W:=W) (by omega) (i:=i) (by omega) (a1:=some (.int (many:Int))) (o10:=a) (o11:=b);exact⟨_,_,rfl,.inl e,W++[w],some (.int (0+(i:Int))),F,H,rfl,by simp[m],λv l=>(N3.mp l).elim (y v) λl=>by rw[M8.mp l];exact Z,λj v d=>by
   by_cases I:j < W.length
   ·rw[List.getElem?_append_left I] at d;exact c j v d
   ·have J:j < (W++[w]).length:=(L9.mp d).1;have:j=W.length:=by simp at J;omega
    subst this;rw[List.getElem?_concat_length] at d;cases d;rw[m];exact hM⟩) (ρ:=[some (.int z),some (.int (many:Int)),some (.int 8),some (.str ABC),some (.int n),some (.str base),some (.int (1+q)),some (.int at'),some (.lst true []),none,none,none]) ⟨[],none,none,none,rfl,rfl,λv l=>(nomatch l),λj v d=>by simp at d⟩
 rw[v9] at m;have nd:W.Nodup:=by
  unfold List.Nodup;rw[List.pairwise_iff_getElem];intro i j N d hij e;have e2:W[j]?=some W[j]:=X9 d;have u:W[i]?=some W[j]:=by rw[X9 N,e]
  have:=Mk.ne (by omega) (by omega) (c i _ u) (c j _ e2);omega
 have O:=jB W;have hr:(W.map D.str).reverse=W.reverse.map D.str:=by rw[List.map_reverse]
 by_cases P:n / 5000 % 2=1
 ·refine⟨W.reverse,?_,by simp[m],λv l=>y v (List.mem_reverse.mp l),by unfold List.Nodup at *;rw[List.pairwise_reverse];exact nd.imp λh=>h.symm⟩;rw[<- hr];generalize W.map D.str=WW at *;generalize K:ABC=AA at *;simp(disch:=omega) [vM,j7,Yb,K,L,M,p,yn,r,t,g,u,jH,P,O,jg]
 ·refine⟨W,?_,m,y,nd⟩;generalize W.map D.str=WW at *;generalize K:ABC=AA at *;simp(disch:=omega) [vM,j7,Yb,K,L,M,p,yn,r,t,g,u,jH,P,O,jg]
theorem Kj{m:Int}(h0:0<=m)(h1:m < 10 ^ 20):∃ v,yu [.int m]=some (.int v)/\1<=v:=by
 have a:jgj (.int 10) (.int 12)=some (.int 1000000000000):=rfl;by_cases h:m % 3=0
 ·exact⟨1+m / 3 % 4,by simp(disch:=omega) [yu,j7,Jj,jH,yn,h],by omega⟩
 ·have b:vw (.int m) (.int m)=some (.int (m*m)):=Ji (by omega) (by omega);generalize m*m=q at *;exact⟨1+q % 1000000000000,by simp(disch:=omega) [yu,j7,Jj,jH,yn,h,b,a],by omega⟩
noncomputable abbrev qv:List Nat:=[115,104,97,114,101]
noncomputable abbrev km:List Nat:=[114,101,112,97,121]
inductive Rl where
 | two (kw x:List Nat) | many (ws:List (List Nat)) | lend (kw x:List Nat) (v:Int)
noncomputable def jA:Rl->D
 | .two kw x=>.tup [.str kw,.str x]
 | .many ws=>.tup [.str qv,.tup (ws.map D.str)]
 | .lend kw x v=>.tup [.str kw,.str x,.int v]
noncomputable abbrev YO:List Nat:=[112,97,121]
noncomputable abbrev je5:List Nat:=[102,105,108,108]
noncomputable abbrev kS:List Nat:=[114,101,115,116]
noncomputable abbrev jm1:List Nat:=[98,97,99,107]
noncomputable abbrev jc8:List Nat:=[108,101,110,100]
def Kd(C P:List (List Nat))(kw x:List Nat):Prop:=(kw=YO \/ kw=km)/\x∈C \/ kw=je5/\x∈P \/ kw=jm1 \/ kw=kS
def ui(C P:List (List Nat)):Rl->Prop
 | .two kw x=>kw≠qv/\Lt kw/\Nm x/\Kd C P kw x
 | .many ws=>ws.length<=8/\(∀ w∈ws,Nm w)/\(∀ w∈ws,w∈C)/\1<=ws.length
 | .lend kw x v=>(kw≠qv/\kw≠km)/\Lt kw/\Nm x/\kw=jc8
theorem QX(r:Rl):frz (jA r)=true:=by
 cases r with
 | two b x=>rfl
 | many a =>
  have:=jB a;show frz (D.tup [.str qv,.tup (a.map D.str)])=true;simp[this]
 | lend b x v=>rfl
theorem Jc{W:List (List Nat)}(h:∀ w∈W,Nm w){i:Nat}(hi:i < W.length):Nm (W.getD i []):=h _ (Jv hi)
theorem jjo{m:Int}(hm0:0<=m)(hm1:m < 10 ^ 12){C P O:List (List Nat)}(hC1:1<=C.length)(hC6:C.length<=6)(hP6:P.length<=50)(hO6:O.length<=50)(nC:∀ w∈C,Nm w)(nP:∀ w∈P,Nm w)(nO:∀ w∈O,Nm w) :
  ∃ r,jV [.int m,.lst false (C.map D.str),.lst false (P.map D.str),.lst false (O.map D.str)]=some (jA r)/\ui C P r:=by
 have a:(((C.map D.str).length:Nat):Int)=(C.length:Int):=by rw[L1]
 have e:(((P.map D.str).length:Nat):Int)=(P.length:Int):=by rw[L1]
 have A:(((O.map D.str).length:Nat):Int)=(O.length:Int):=by rw[L1]
 have hr0:0<=m / 8:=by omega
 have hr1:m / 8 < 10 ^ 12:=by omega
 have hk0:=U1 m (show(8:Int)≠0 by decide);generalize n:m % 8=k at *;generalize b:m / 8=r at *;have c1:=U1 r (show(C.length:Int)≠0 by omega);have c2:=U0 r (show 0 < (C.length:Int) by omega);have s:=qo (o:=false) (l:=C) c1 c2;have nc:Nm (C.getD (r % (C.length:Int)).toNat []):=Jc nC (by omega);have mc:C.getD (r % (C.length:Int)).toNat []∈C:=Jv (by omega);generalize C.getD (r % (C.length:Int)).toNat []=cl at *;have c:jC (.int r) (.int (C.length:Int))=some (.int (r % (C.length:Int))):=jH (by omega);generalize r % (C.length:Int)=rc at *;have frC:=jB C;by_cases S:k=2/\1 < C.length
 ·obtain⟨rfl,B⟩:=S;have g:(1:Int) < (C.length:Int):=by omega
  have d1:=U1 (r / 3) (show(C.length:Int) - 1≠0 by omega);have d2:=U0 (r / 3) (show 0 < (C.length:Int) - 1 by omega);have E:jC (.int (r / 3)) (.int ((C.length:Int) - 1))=some (.int (r / 3 % ((C.length:Int) - 1))):=jH (by omega);generalize r / 3 % ((C.length:Int) - 1)=sz at *;have F:=kB (j:=2+sz) (by omega) (by omega);have H:lim (YG 0 (2+sz).toNat).length=true:=jg (by rw[v9];omega);obtain⟨ys,ec,hl,hg⟩:=KM (G:=ji [] 0) (p:=pF (p2 jq (pV 1) (p2 jC (p2 jG (pV 2) (pV 0)) (pCB kJ (jc (pV 1) pN))))) (Good:=λd=>∃ w,d=.str w/\Nm w/\w∈C) (P:=λρ=>∃ o,ρ=[o,some (.lst false (C.map D.str)),some (.int r)]) (xs:=YG 0 (2+sz).toNat) (by
   rintro x hx ρ ⟨o,rfl⟩;obtain⟨i,hi,rfl⟩:=M6.mp hx;have hi:=List.mem_range.mp hi;have f1:=U1 (r+(0+(i:Int))) (show(C.length:Int)≠0 by omega);have f2:=U0 (r+(0+(i:Int))) (show 0 < (C.length:Int) by omega);have T:=qo (o:=false) (l:=C) f1 f2;have U:Nm (C.getD ((r+(0+(i:Int))) % (C.length:Int)).toNat []):=Jc nC (by omega);have V:C.getD ((r+(0+(i:Int))) % (C.length:Int)).toNat []∈C:=Jv (by omega);have X:jC (.int (r+(0+(i:Int)))) (.int (C.length:Int))=some (.int ((r+(0+(i:Int))) % (C.length:Int))):=jH (by omega);generalize(r+(0+(i:Int))) % (C.length:Int)=q at *;generalize C.getD q.toNat []=w at *;refine⟨[some (.int (0+(i:Int))),some (.lst false (C.map D.str)),some (.int r)],.str w,rfl,?_,⟨_,rfl,U,V⟩,_,rfl⟩;generalize C.map D.str=CC at *;simp[a,X,T,-Int.zero_add]) (ρ:=jI [none,some 1,some 5] [some (.int m),some (.lst false (C.map D.str)),some (.lst false (P.map D.str)),some (.lst false (O.map D.str)),some (.int 2),some (.int r),some (.str cl),some (.int (2+sz)),none]) ⟨none,rfl⟩
  rw[v9] at hl;obtain⟨W,rfl,M⟩:=Kp (f:=D.str) (Q:=λw=>Nm w/\w∈C) hg;rw[L1] at hl;have Y:=jB W;have lW:lim (W.map D.str).length=true:=jg (by rw[L1];omega);have fR:=jB W.reverse;have lR:lim (W.reverse.map D.str).length=true:=jg (by rw[L1,List.length_reverse];omega);have Z:(W.map D.str).reverse=W.reverse.map D.str:=by rw[List.map_reverse]
  have zW:=jl _ Y;have zR:=jl _ fR;by_cases h9:r / 9 % 2=1
  ·refine⟨.many W.reverse,?_,by rw[List.length_reverse];omega,λw u=>(M w (List.mem_reverse.mp u)).1,λw u=>(M w (List.mem_reverse.mp u)).2,by rw[List.length_reverse];omega⟩;show jV _=some (.tup [.str qv,.tup (W.reverse.map D.str)]);generalize W.reverse.map D.str=RR,W.map D.str=WW,C.map D.str=CC,P.map D.str=PP,O.map D.str=OO at *;simp(maxSteps:=400000) (disch:=omega) [jV,j7,yI,jH,yn,n,b,a,c,s,g,B,E,F,H,ec,Y,h9,Z,fR,zR,lR,jg]
  ·refine⟨.many W,?_,by omega,λw u=>(M w u).1,λw u=>(M w u).2,by omega⟩;show jV _=some (.tup [.str qv,.tup (W.map D.str)]);generalize W.map D.str=WW,C.map D.str=CC,P.map D.str=PP,O.map D.str=OO at *;simp(maxSteps:=400000) (disch:=omega) [jV,j7,yI,jH,yn,n,b,a,c,s,g,B,E,F,H,ec,Y,h9,zW,lW,jg]
 have I:(zh (jx (p2 Jd (pV 4) (pC (.int 2)))) (jx (p2 ug (pCB kJ (jc (pV 1) pN)) (pC (.int 1))))) [some (.int m),some (.lst false (C.map D.str)),some (.lst false (P.map D.str)),some (.lst false (O.map D.str)),some (.int k),some (.int r),some (.str cl),none,none]=some false:=by
  generalize C.map D.str=CC at *;by_cases h:k=2
  ·have:¬ (1:Int) < (C.length:Int):=λz=>S ⟨h,by omega⟩;simp[h,a,this]
  ·simp[h]
 by_cases w3:k=3
 ·subst w3;refine⟨.two km cl,?_,by decide,by decide,nc,.inl ⟨.inr rfl,mc⟩⟩;unfold jA;generalize C.map D.str=CC,P.map D.str=PP,O.map D.str=OO at *;simp(maxSteps:=400000) (disch:=omega) [jV,j7,yI,jH,yn,n,b,a,c,s,I,jg]
 by_cases w4:k=4/\0 < P.length
 ·obtain⟨rfl,J⟩:=w4;have p1:=U1 (r / 3) (show(P.length:Int)≠0 by omega);have p2:=U0 (r / 3) (show 0 < (P.length:Int) by omega);have N:=qo (o:=false) (l:=P) p1 p2;have R:Nm (P.getD (r / 3 % (P.length:Int)).toNat []):=Jc nP (by omega);have mq:P.getD (r / 3 % (P.length:Int)).toNat []∈P:=Jv (by omega);have t:jC (.int (r / 3)) (.int (P.length:Int))=some (.int (r / 3 % (P.length:Int))):=jH (by omega);generalize r / 3 % (P.length:Int)=q at *;generalize P.getD q.toNat []=pq at *;have g:(0:Int) < (P.length:Int):=by omega
  refine⟨.two [102,105,108,108] pq,?_,by decide,by decide,R,.inr (.inl ⟨rfl,mq⟩)⟩;unfold jA;generalize C.map D.str=CC,P.map D.str=PP,O.map D.str=OO at *;simp(maxSteps:=400000) (disch:=omega) [jV,j7,yI,jH,yn,n,b,a,e,c,s,I,J,g,t,N,jg]
 have t4:(zh (jx (p2 Jd (pV 4) (pC (.int 4)))) (jx (p2 ug (pCB kJ (jc (pV 2) pN)) (pC (.int 0))))) [some (.int m),some (.lst false (C.map D.str)),some (.lst false (P.map D.str)),some (.lst false (O.map D.str)),some (.int k),some (.int r),some (.str cl),none,none]=some false:=by
  generalize P.map D.str=PP at *;by_cases h:k=4
  ·have:¬ (0:Int) < (P.length:Int):=λz=>w4 ⟨h,by omega⟩;simp[h,e,this];exact List.eq_nil_of_length_eq_zero (by omega)
  ·simp[h]
 by_cases w5:k=5/\0 < O.length
 ·obtain⟨rfl,y⟩:=w5;have p1:=U1 (r / 9) (show(O.length:Int)≠0 by omega);have p2:=U0 (r / 9) (show 0 < (O.length:Int) by omega);have N:=qo (o:=false) (l:=O) p1 p2;have R:Nm (O.getD (r / 9 % (O.length:Int)).toNat []):=Jc nO (by omega);have t:jC (.int (r / 9)) (.int (O.length:Int))=some (.int (r / 9 % (O.length:Int))):=jH (by omega);generalize r / 9 % (O.length:Int)=q at *;generalize O.getD q.toNat []=pq at *;have g:(0:Int) < (O.length:Int):=by omega
  by_cases K:0 < r / 3 % 3
  ·obtain⟨v,ev,_⟩:=Kj (m:=r / 27) (by omega) (by omega);refine⟨.lend [108,101,110,100] pq v,?_,⟨by decide,by decide⟩,by decide,R,rfl⟩;unfold jA;generalize C.map D.str=CC,P.map D.str=PP,O.map D.str=OO at *;simp(maxSteps:=400000) (disch:=omega) [jV,j7,yI,jH,yn,n,b,a,e,A,c,s,I,t4,y,g,K,t,N,ev,jg]
  ·refine⟨.two [98,97,99,107] pq,?_,by decide,by decide,R,.inr (.inr (.inl rfl))⟩;unfold jA;generalize C.map D.str=CC,P.map D.str=PP,O.map D.str=OO at *;simp(maxSteps:=400000) (disch:=omega) [jV,j7,yI,jH,yn,n,b,a,e,A,c,s,I,t4,y,g,K,t,N,jg]
 ·refine⟨.two [112,97,121] cl,?_,by decide,by decide,nc,.inl ⟨.inl rfl,mc⟩⟩;unfold jA;generalize C.map D.str=CC,P.map D.str=PP,O.map D.str=OO at *;by_cases h5:k=5
  ·subst h5;have y:¬ (0:Int) < (O.length:Int):=λz=>w5 ⟨rfl,by omega⟩;have hOO:OO=[]:=List.eq_nil_of_length_eq_zero (by omega);subst hOO;simp(maxSteps:=400000) (disch:=omega) [jV,j7,yI,jH,yn,n,b,a,e,c,s,I,t4,jg]
  by_cases h2:k=2
  ·subst h2;have hC0:¬ (1:Int) < (C.length:Int):=λz=>S ⟨rfl,by omega⟩;have L:C.length<=1:=by omega
   simp(maxSteps:=400000) (disch:=omega) [jV,j7,yI,jH,yn,n,b,a,e,c,s,hC0,L,jg]
  by_cases h4:k=4
  ·subst h4;have J:¬ (0:Int) < (P.length:Int):=λz=>w4 ⟨rfl,by omega⟩;have hPP:PP=[]:=List.eq_nil_of_length_eq_zero (by omega);subst hPP;simp(maxSteps:=400000) (disch:=omega) [jV,j7,yI,jH,yn,n,b,a,e,c,s,jg]
  ·simp(maxSteps:=400000) (disch:=omega) [jV,j7,yI,jH,yn,n,b,a,e,c,s,h2,w3,h4,h5,jg]
theorem jfo{i x:Nat}{pm:List Nat}{q:PTf}{b c:FS}{ρ:Rh}{l:List D}{it:D}(d:ρ[i]?=some (some (.lst true l)))(a:l[l.length - 1]?=some it)(e:(decide (x < ρ.length)&&(!decide (x∈pm)&&!decide (x=i)))=true)
  (f:q (ρ.set x (some .dead))=some true):jfp i x pm q b c ρ=b (ρ.set x (some .dead)):=by
 unfold jfp;simp only[d,a,e,f,cond_true]
theorem jc4{i x:Nat}{pm:List Nat}{q:PTf}{e c:FS}{ρ a:Rh}{l:List D}{it d:D}(f:ρ[i]?=some (some (.lst true l)))(b:l[l.length - 1]?=some it)(g:(decide (x < ρ.length)&&(!decide (x∈pm)&&!decide (x=i)))=true)
  (h:q (ρ.set x (some .dead))=some false) (j:c ((ρ.set i none).set x (some it))=some (.nx a)) (hd:a[x]?=some (some d)) (hi:decide (i < a.length)=true) :
  jfp i x pm q e c ρ=some (.nx ((a.set x (some .dead)).set i (some (.lst true (l.set (l.length - 1) d))))):=by
 unfold jfp;simp only[f,b,g,h,cond_true,j,hd,hi]
theorem jfd{i j:Nat}{p:PF}{ρ:Rh}{d:D}{l l':List D}(a:p ρ=some d)(b:ρ[i]?=some (some (.lst true l)))(c:l[j]?=some (.lst true l'))(e:lim l'.length=true):Qf i j p ρ=some (.nx (ρ.set i (some (.lst true (l.set j (.lst true (l'++[d]))))))):=by
 unfold Qf;simp only[a,b,c,e,cond_true]
noncomputable abbrev Qt:=List Nat×Int
noncomputable abbrev jK(q:Qt):D:=.tup [.str q.1,.int q.2]
noncomputable abbrev Od:=List Nat×List Qt×List Rl
noncomputable def qN(x:Od):D:=.lst true [.str x.1,.lst true (x.2.1.map jK),.lst true (x.2.2.map jA)]
structure OdOk(C P:List (List Nat))(n:Nat)(x:Od):Prop where
 nm:Nm x.1
 p:x.2.1.length<=n
 q:∀ q∈x.2.1,Nm q.1
 r:x.2.2.length<=4
 k:∀ r∈x.2.2,ui C P r
theorem OdOk.mono{C P:List (List Nat)}{n m:Nat}{x:Od}(h:OdOk C P n x)(hn:n<=m):OdOk C P m x:=⟨h.nm,N8 h.p hn,h.q,h.r,h.k⟩
theorem jR(l:List Qt):frzs (l.map jK)=true:=kP λd hd=>by obtain⟨x,_,rfl⟩:=M6.mp hd;rfl
theorem vb(l:List Rl):frzs (l.map jA)=true:=kP λd hd=>by obtain⟨x,_,rfl⟩:=M6.mp hd;exact QX x
theorem jeO(w:List Nat)(o:Bool)(l:List (List Nat)):QM true (.str w) (.lst o (l.map D.str))=some (.bl (!decide (w∈l))):=by
 show(bif jcW (.str w) (l.map D.str) then some (D.bl (true != inL (.str w) (l.map D.str))) else none)=_;rw[zN,wW];simp
structure Ctx(C P O N:List (List Nat)):Prop where
 c1:1<=C.length
 c6:C.length<=6
 p:P.length<=50
 o:O.length<=50
 nC:∀ w∈C,Nm w
 nP:∀ w∈P,Nm w
 nO:∀ w∈O,Nm w
 nN:∀ w∈N,Nm w
 n:N.length<=50
theorem jdV{C P O N:List (List Nat)}(h:Ctx C P O N){m r:Int}(U:0<=m)(F:0<=r)(H:r < 10 ^ 12){cl:List Nat}(I:Nm cl){n:Nat}(hn:n<=1000){y:Od}(b:OdOk C P n y){a0 a6 a7 o12:Option D} :
  ∃(y':Od) (r12:Option D),(sIf (dPT (jx (p2 ug (p2 jC (pV 8) (pC (.int 10))) (pC (.int 7))))) (jQ (yx (dP (p2 jG (pC (.int 1)) (p2 jC (p2 jZ (pV 9) (pC (.int 3))) (pC (.int 3))))) (ji [5,11] 12))
 (jQ (sIf (dPT (jx (p2 Jd (p2 jC (p2 jZ (pV 9) (pC (.int 9))) (pC (.int 4))) (pC (.int 0))))) (yx (dP (p2 jG (pC (.int 1)) (p2 jC (p2 jZ (pV 9) (pC (.int 36))) (pC (.int 10))))) (ji [5,11] 12))
 yG)
 (sIf (dPT (jx (p2 (QM true) (pV 10) (vR (K1 (p2 jq (pV 11) (pC (.int 1)))) (gT 2 (gC (ji [] 0) (gC (ji [] 1) gN))) qT (pF (pV 0)) [none,none])))) (Qf 11 1 (kH (jc (pF (pV 10)) (jc (pF (pV 12)) pN))))
 yG)))
 (sIf (dPT (jx (p2 jir (pCB kJ (jc (p2 jq (pV 11) (pC (.int 2))) pN)) (pC (.int 4))))) (Qf 11 2 (yh jV (jc (pV 9) (jc (pV 1) (jc (pV 2) (jc (pV 3) pN))))))
 yG)) [a0,some (.lst false (C.map D.str)),some (.lst false (P.map D.str)),some (.lst false (O.map D.str)),some (.lst false (N.map D.str)),none,a6,a7,some (.int m),some (.int r),some (.str cl),some (qN y),o12] =
   some (.nx [a0,some (.lst false (C.map D.str)),some (.lst false (P.map D.str)),some (.lst false (O.map D.str)),some (.lst false (N.map D.str)),none,a6,a7,some (.int m),some (.int r),some (.str cl),some (qN y'),r12])/\OdOk C P (n+1) y':=by
 have x:=jR y.2.1;have z:jq (qN y) (.int 1)=some (.lst true (y.2.1.map jK)):=rfl;have L:jq (qN y) (.int 2)=some (.lst true (y.2.2.map jA)):=rfl;have v:lim (y.2.1.map jK).length=true:=jg (by rw[L1];have:=b.p;omega);have V:lim (y.2.2.map jA).length=true:=jg (by rw[L1];have:=b.r;omega);have w:(((y.2.2.map jA).length:Nat):Int)=(y.2.2.length:Int):=by rw[L1]
 by_cases u:7 < m % 10
 ·have M:∀(ρ:Rh),(∃ A B,ρ=[A,B])->jJ (gT 2 (gC (ji [] 0) (gC (ji [] 1) gN))) qT (pF (pV 0)) (y.2.1.map jK) ρ=some ((y.2.1.map (·.1)).map D.str):=by
   intro ρ W;have:=jep (G:=gT 2 (gC (ji [] 0) (gC (ji [] 1) gN))) (p:=pF (pV 0)) (l:=y.2.1) (en:=jK) (out:=λq=>D.str q.1) rfl (λρ=>∃ A B,ρ=[A,B]) (by
    rintro q i ρ ⟨A,B,rfl⟩;exact⟨[some (.str q.1),some (.int q.2)],rfl,by simp,_,_,rfl⟩) W
   rw[this,U2];rfl
  have f:=jeO cl true (y.2.1.map (·.1));obtain⟨t,j⟩:∃ t:Int,(if r / 9 % 4=0 then 1+r / 36 % 10 else 1+r / 3 % 3)=t:=⟨_,rfl⟩;by_cases c:cl∈y.2.1.map (·.1)
  ·refine⟨y,some (.int t),?_,b.mono (Nat.le_succ _)⟩;have hd:=X4 c;have e:=M (jI [none,none] [a0,some (.lst false (C.map D.str)),some (.lst false (P.map D.str)),some (.lst false (O.map D.str)),some (.lst false (N.map D.str)),none,a6,a7,some (.int m),some (.int r),some (.str cl),some (qN y),some (.int t)]) ⟨none,none,rfl⟩;generalize(y.2.1.map (·.1)).map D.str=NN at *;generalize y.2.1.map jK=QQ,qN y=ew,C.map D.str=CC,P.map D.str=PP,O.map D.str=OO,N.map D.str=N2 at *;by_cases g:r / 9 % 4=0
   ·rw[if_pos g] at j;subst j;simp(disch:=omega) [jH,yn,u,g,z,x,v,e,f,c]
   ·rw[if_neg g] at j;subst j;simp(disch:=omega) [jH,yn,u,g,z,x,v,e,f,c]
  ·refine⟨(y.1,y.2.1++[(cl,t)],y.2.2),some (.int t),?_,⟨b.nm,by have:=b.p;simp;omega,λq i=>(N3.mp i).elim (b.q q) λi=>by rw[M8.mp i];exact I,b.r,b.k⟩⟩;have hd:=X5 c;have e:=M (jI [none,none] [a0,some (.lst false (C.map D.str)),some (.lst false (P.map D.str)),some (.lst false (O.map D.str)),some (.lst false (N.map D.str)),none,a6,a7,some (.int m),some (.int r),some (.str cl),some (qN y),some (.int t)]) ⟨none,none,rfl⟩;have a:Qf 11 1 (kH (jc (pF (pV 10)) (jc (pF (pV 12)) pN))) [a0,some (.lst false (C.map D.str)),some (.lst false (P.map D.str)),some (.lst false (O.map D.str)),some (.lst false (N.map D.str)),none,a6,a7,some (.int m),some (.int r),some (.str cl),some (qN y),some (.int t)] =
     some (.nx [a0,some (.lst false (C.map D.str)),some (.lst false (P.map D.str)),some (.lst false (O.map D.str)),some (.lst false (N.map D.str)),none,a6,a7,some (.int m),some (.int r),some (.str cl),some (qN (y.1,y.2.1++[(cl,t)],y.2.2)),some (.int t)]):=by
    rw[jfd (d:=jK (cl,t)) (l:=[.str y.1,.lst true (y.2.1.map jK),.lst true (y.2.2.map jA)]) (l':=y.2.1.map jK) (by simp(disch:=omega) [jg]) rfl rfl v];unfold qN;rw[N6];rfl
   generalize qN (y.1,y.2.1++[(cl,t)],y.2.2)=ew2 at *;generalize(y.2.1.map (·.1)).map D.str=NN at *;generalize y.2.1.map jK=QQ,qN y=ew,C.map D.str=CC,P.map D.str=PP,O.map D.str=OO,N.map D.str=N2 at *;by_cases g:r / 9 % 4=0
   ·rw[if_pos g] at j;subst j;simp(disch:=omega) [jH,yn,u,g,z,x,v,e,f,c,a]
   ·rw[if_neg g] at j;subst j;simp(disch:=omega) [jH,yn,u,g,z,x,v,e,f,c,a]
 ·by_cases Q:y.2.2.length < 4
  ·obtain⟨E,J,K⟩:=jjo F H h.c1 h.c6 h.p h.o h.nC h.nP h.nO;refine⟨(y.1,y.2.1,y.2.2++[E]),o12,?_,⟨b.nm,Nat.le_succ_of_le b.p,b.q,by simp;omega,λq i=>(N3.mp i).elim (b.k q) λi=>by rw[M8.mp i];exact K⟩⟩;have R:=jB C;have S:=jB P;have T:=jB O;have X:=jl _ R;have Y:=jl _ S;have Z:=jl _ T;have a:Qf 11 2 (yh jV (jc (pV 9) (jc (pV 1) (jc (pV 2) (jc (pV 3) pN))))) [a0,some (.lst false (C.map D.str)),some (.lst false (P.map D.str)),some (.lst false (O.map D.str)),some (.lst false (N.map D.str)),none,a6,a7,some (.int m),some (.int r),some (.str cl),some (qN y),o12] =
     some (.nx [a0,some (.lst false (C.map D.str)),some (.lst false (P.map D.str)),some (.lst false (O.map D.str)),some (.lst false (N.map D.str)),none,a6,a7,some (.int m),some (.int r),some (.str cl),some (qN (y.1,y.2.1,y.2.2++[E])),o12]):=by
    rw[jfd (d:=jA E) (l:=[.str y.1,.lst true (y.2.1.map jK),.lst true (y.2.2.map jA)]) (l':=y.2.2.map jA) (by
     generalize C.map D.str=CC,P.map D.str=PP,O.map D.str=OO at *;simp[R,S,T,X,Y,Z,J]) rfl rfl V]
    unfold qN;rw[N6];rfl
   have s:(y.2.2.length:Int) < 4:=by omega
   generalize qN (y.1,y.2.1,y.2.2++[E])=ew2,y.2.2.map jA=RR,qN y=ew,C.map D.str=CC,P.map D.str=PP,O.map D.str=OO,N.map D.str=N2 at *;simp(disch:=omega) [jH,u,L,w,s,Q,a]
  ·refine⟨y,o12,?_,b.mono (Nat.le_succ _)⟩;have s:¬ (y.2.2.length:Int) < 4:=by omega
   generalize y.2.2.map jA=RR,qN y=ew,C.map D.str=CC,P.map D.str=PP,O.map D.str=OO,N.map D.str=N2 at *;simp(disch:=omega) [jH,u,L,w,s,Q]
noncomputable def oQ:PTf:=(zh (jx (p2 Jd (p2 jC (pV 8) (pC (.int 10))) (pC (.int 7)))) (jx (p2 jir (pCB kJ (jc (pV 5) pN)) (pCB kJ (jc (pV 4) pN)))))
noncomputable def oA:FS:=(wA 5 (Vn (jc (pF (p2 jq (pV 4) (pCB kJ (jc (pV 5) pN)))) (jc (Vn pN) (jc (Vn pN) pN)))))
noncomputable def oB:FS:=(sIf (dPT (jx (p2 ug (p2 jC (pV 8) (pC (.int 10))) (pC (.int 7))))) (jQ (yx (dP (p2 jG (pC (.int 1)) (p2 jC (p2 jZ (pV 9) (pC (.int 3))) (pC (.int 3))))) (ji [5,11] 12))
 (jQ (sIf (dPT (jx (p2 Jd (p2 jC (p2 jZ (pV 9) (pC (.int 9))) (pC (.int 4))) (pC (.int 0))))) (yx (dP (p2 jG (pC (.int 1)) (p2 jC (p2 jZ (pV 9) (pC (.int 36))) (pC (.int 10))))) (ji [5,11] 12))
 yG)
 (sIf (dPT (jx (p2 (QM true) (pV 10) (vR (K1 (p2 jq (pV 11) (pC (.int 1)))) (gT 2 (gC (ji [] 0) (gC (ji [] 1) gN))) qT (pF (pV 0)) [none,none])))) (Qf 11 1 (kH (jc (pF (pV 10)) (jc (pF (pV 12)) pN))))
 yG)))
 (sIf (dPT (jx (p2 jir (pCB kJ (jc (p2 jq (pV 11) (pC (.int 2))) pN)) (pC (.int 4))))) (Qf 11 2 (yh jV (jc (pV 9) (jc (pV 1) (jc (pV 2) (jc (pV 3) pN))))))
 yG))
theorem jco:vZ=jQ (yx (dP (yh yi (jc (pV 7) (jc (p2 jG (pV 6) (pC (.int 3))) pN)))) (ji [] 8)) (jQ (yx (dP (p2 jZ (pV 8) (pC (.int 10)))) (ji [] 9)) (jQ (yx (dP (pF (p2 jq (pV 1) (p2 jC (pV 9) (pCB kJ (jc (pV 1) pN)))))) (ji [] 10)) (jfp 5 11 [] oQ oA oB))):=rfl
theorem jaG{C P O N:List (List Nat)}(h:Ctx C P O N){z:Int}(hz:Builtin.Int.intBits z<=2 ^ 20){i:Nat}(hi:i<=100){Y:List Od}{y:Od}(j:∀ x∈Y++[y],OdOk C P i x)(G:(Y++[y]).length<=N.length){a0 o8 o9 o10 o11 o12:Option D} :
  ∃(X:List Od) (r8 r9 r10 r11 r12:Option D),vZ [a0,some (.lst false (C.map D.str)),some (.lst false (P.map D.str)),some (.lst false (O.map D.str)),some (.lst false (N.map D.str)),some (.lst true ((Y++[y]).map qN)),some (.int (i:Int)),some (.int z),o8,o9,o10,o11,o12] =
   some (.nx [a0,some (.lst false (C.map D.str)),some (.lst false (P.map D.str)),some (.lst false (O.map D.str)),some (.lst false (N.map D.str)),some (.lst true (X.map qN)),some (.int (i:Int)),some (.int z),r8,r9,r10,r11,r12])/\X≠[]/\X.length<=N.length/\∀ x∈X,OdOk C P (i+1) x:=by
 obtain⟨m,H,p,I⟩:=J4 (k:=(i:Int)+3) hz (by omega) (by omega);have J:=h.c1;have c1:=U1 (m / 10) (show(C.length:Int)≠0 by omega);have K:=U0 (m / 10) (show 0 < (C.length:Int) by omega);have L:=qo (o:=false) (l:=C) c1 K;have M:Nm (C.getD (m / 10 % (C.length:Int)).toNat []):=Jc h.nC (by omega);have s:jC (.int (m / 10)) (.int (C.length:Int))=some (.int (m / 10 % (C.length:Int))):=jH (by omega);generalize m / 10 % (C.length:Int)=rc at *;generalize C.getD rc.toNat []=cl at *;have t:(((C.map D.str).length:Nat):Int)=(C.length:Int):=by rw[L1]
 have pre:vZ [a0,some (.lst false (C.map D.str)),some (.lst false (P.map D.str)),some (.lst false (O.map D.str)),some (.lst false (N.map D.str)),some (.lst true ((Y++[y]).map qN)),some (.int (i:Int)),some (.int z),o8,o9,o10,o11,o12] =
   jfp 5 11 [] oQ oA oB [a0,some (.lst false (C.map D.str)),some (.lst false (P.map D.str)),some (.lst false (O.map D.str)),some (.lst false (N.map D.str)),some (.lst true ((Y++[y]).map qN)),some (.int (i:Int)),some (.int z),some (.int m),some (.int (m / 10)),some (.str cl),o11,o12]:=by
  generalize(Y++[y]).map qN=YY at *;generalize C.map D.str=CC at *;simp(disch:=omega) [jco,H,yn,t,s,L]
 rw[pre];have b:((Y++[y]).map qN).length=Y.length+1:=by simp
 have e:((Y++[y]).map qN)[((Y++[y]).map qN).length - 1]?=some (qN y):=by
  rw[b,Nat.add_sub_cancel,N6,List.getElem?_append_right (by simp)];simp
 have E:(((N.map D.str).length:Nat):Int)=(N.length:Int):=by rw[L1]
 by_cases u:m % 10=7/\Y.length+1 < N.length
 ·have c:oQ [a0,some (.lst false (C.map D.str)),some (.lst false (P.map D.str)),some (.lst false (O.map D.str)),some (.lst false (N.map D.str)),some (.lst true ((Y++[y]).map qN)),some (.int (i:Int)),some (.int z),some (.int m),some (.int (m / 10)),some (.str cl),some .dead,o12]=some true:=by
   have v:((Y.length:Int)+1) < (N.length:Int):=by omega
   generalize(Y++[y]).map qN=YY at *;generalize N.map D.str=NN at *;simp(disch:=omega) [oQ,jH,u.1,E,b,v,u.2]
  have Q:=qo (o:=false) (l:=N) (i:=(Y.length:Int)+1) (by omega) (by omega);have R:Nm (N.getD ((Y.length:Int)+1).toNat []):=Jc h.nN (by omega);generalize N.getD ((Y.length:Int)+1).toNat []=nw at *;refine⟨Y++[y]++[(nw,[],[])],some (.int m),some (.int (m / 10)),some (.str cl),some .dead,o12,?_,by simp,by simp;omega,λx a=>(N3.mp a).elim (λa=>(j x a).mono (Nat.le_succ _)) λa=>by rw[M8.mp a];exact⟨R,U6 _,λq c=>(nomatch c),U6 _,λq c=>(nomatch c)⟩⟩;rw[jfo (l:=(Y++[y]).map qN) (it:=qN y) rfl e rfl c];have F:lim ((Y++[y]).map qN).length=true:=jg (by rw[b];have:=h.n;omega);rw[N6 (l₂:=[(nw,[],[])])];show oA [a0,some (.lst false (C.map D.str)),some (.lst false (P.map D.str)),some (.lst false (O.map D.str)),some (.lst false (N.map D.str)),some (.lst true ((Y++[y]).map qN)),some (.int (i:Int)),some (.int z),some (.int m),some (.int (m / 10)),some (.str cl),some .dead,o12]=some (Out.nx [_,_,_,_,_,some (.lst true ((Y++[y]).map qN++[.lst true [.str nw,.lst true [],.lst true []]])),_,_,_,_,_,_,_]);generalize(Y++[y]).map qN=YY at *;generalize N.map D.str=NN at *;rw[b] at F;simp[oA,b,Q,F,jg]
 ·have c:oQ [a0,some (.lst false (C.map D.str)),some (.lst false (P.map D.str)),some (.lst false (O.map D.str)),some (.lst false (N.map D.str)),some (.lst true ((Y++[y]).map qN)),some (.int (i:Int)),some (.int z),some (.int m),some (.int (m / 10)),some (.str cl),some .dead,o12]=some false:=by
   generalize(Y++[y]).map qN=YY at *;generalize N.map D.str=NN at *;by_cases w:m % 10=7
   ·have v:¬ ((Y.length:Int)+1) < (N.length:Int):=λz=>u ⟨w,by omega⟩;have S:N.length<=Y.length+1:=by omega
    simp(disch:=omega) [oQ,jH,w,E,b,v,S]
   ·simp(disch:=omega) [oQ,jH,w]
  have A:OdOk C P i y:=j y (by simp);obtain⟨g,r12,T,B⟩:=jdV h (m:=m) (r:=m / 10) p (by omega) (by omega) M (n:=i) (by omega) A (a0:=a0) (a6:=some (.int (i:Int))) (a7:=some (.int z)) (o12:=o12);refine⟨Y++[g],some (.int m),some (.int (m / 10)),some (.str cl),some .dead,r12,?_,by simp,by simpa using G,λx a=>(N3.mp a).elim (λa=>(j x (List.mem_append_left _ a)).mono (Nat.le_succ _)) λa=>by rw[M8.mp a];exact B⟩;rw[jc4 (l:=(Y++[y]).map qN) (it:=qN y) (d:=qN g) rfl e rfl c T rfl rfl];have f:((Y++[y]).map qN).set (((Y++[y]).map qN).length - 1) (qN g)=(Y++[g]).map qN:=by
   rw[b,Nat.add_sub_cancel,N6,N6,List.set_append_right _ _ (by simp)];simp
  rw[f];rfl
noncomputable def jT(o:Bool)(x:Od):D:=.tup [.str x.1,.lst false (x.2.1.map jK),.lst o (x.2.2.map jA)]
structure OrOk(C P:List (List Nat))(x:Od):Prop where
 nm:Nm x.1
 p:x.2.1.length<=200
 q:∀ q∈x.2.1,Nm q.1
 r:x.2.2.length<=5
 k:∀ r∈x.2.2,ui C P r
 z:∃(R:List Rl) (w:List Nat),x.2.2=R++[.two kS w]
theorem jiY(x:Od):fz (qN x)=.lst false [.str x.1,.lst false (x.2.1.map jK),.lst false (x.2.2.map jA)]:=by
 have a:=jl _ (jR x.2.1);have b:=jl _ (vb x.2.2);show D.lst false [.str x.1,.lst false (fzs (x.2.1.map jK)),.lst false (fzs (x.2.2.map jA))]=_;rw[a,b]
noncomputable def jdc(x:Od):D:=.lst false [.str x.1,.lst false (x.2.1.map jK),.lst false (x.2.2.map jA)]
theorem jf8(X:List Od):fzs (X.map qN)=X.map jdc:=by
 rw[JJ,U2];exact List.map_congr_left λx _=>jiY x
theorem jgw(x:Od):frz (jdc x)=true:=by
 have a:=jR x.2.1;have b:=vb x.2.2;show frz (D.lst false [.str x.1,.lst false (x.2.1.map jK),.lst false (x.2.2.map jA)])=true;simp[a,b]
theorem je3(X:List Od):frzs (X.map jdc)=true:=kP λd hd=>by obtain⟨x,_,rfl⟩:=M6.mp hd;exact jgw x
theorem jeU{ns:List Int}(W:jhc ns)(Z:ns.length<=63){C P O N:List (List Nat)}(h:Ctx C P O N)(hN:1<=N.length) :
  ∃ X:List Od,Jl [.lst false (ns.map D.int),.lst false (C.map D.str),.lst false (P.map D.str),.lst false (O.map D.str),.lst false (N.map D.str)]=some (.lst true (X.map (jT true)))/\1<=X.length/\X.length<=N.length/\∀ x∈X,OrOk C P x:=by
 have n0:=qo (o:=false) (l:=N) (i:=0) (by omega) (by omega);have nn:Nm (N.getD (0:Int).toNat []):=Jc h.nN (by show 0 < N.length;omega);generalize N.getD (0:Int).toNat []=nw at *;have H:=kT ns;have I:=VY ns;obtain⟨ρ',e1,X,B,E,j,m,a,b,c,rfl,g,s,F⟩:=vj (G:=gT 2 (gC (ji [] 6) (gC (ji [] 7) gN))) (f:=vZ) (xs:=yq 0 (ns.map D.int)) (λi ρ=>∃(X:List Od) (B E j m a b c:Option D),ρ=[some (.lst false (ns.map D.int)),some (.lst false (C.map D.str)),some (.lst false (P.map D.str)),some (.lst false (O.map D.str)),some (.lst false (N.map D.str)),some (.lst true (X.map qN)),B,E,j,m,a,b,c]/\X≠[]/\X.length<=N.length/\∀ x∈X,OdOk C P i x) (by
  rintro i x ρ t ⟨X,B,E,j,m,a,b,c,rfl,g,s,F⟩;obtain⟨d,hd,rfl⟩:=k6 0 _ i x t;rw[List.getElem?_map] at hd;cases hz:ns[i]? with
  | none=>rw[hz] at hd;cases hd
  | some z =>
   rw[hz] at hd;cases hd;have hi:i < ns.length:=(L9.mp hz).1;obtain⟨Y,y,rfl⟩:∃ Y y,X=Y++[y]:=⟨X.dropLast,X.getLast g,(List.dropLast_concat_getLast g).symm⟩;obtain⟨X',r8,r9,J,K,L,e,h0,u,hk⟩:=jaG h (W z (List.mem_of_getElem? hz)) (i:=i) (by omega) F s (a0:=some (.lst false (ns.map D.int))) (o8:=j) (o9:=m) (o10:=a) (o11:=b) (o12:=c);refine⟨_,_,?_,.inl e,X',some (.int (i:Int)),some (.int z),r8,r9,J,K,L,rfl,h0,u,hk⟩;rw[Nat.zero_add];rfl) (ρ:=[some (.lst false (ns.map D.int)),some (.lst false (C.map D.str)),some (.lst false (P.map D.str)),some (.lst false (O.map D.str)),some (.lst false (N.map D.str)),some (.lst true [.lst true [.str nw,.lst true [],.lst true []]]),none,none,none,none,none,none,none]) ⟨[(nw,[],[])],none,none,none,none,none,none,none,rfl,by simp,hN,λx t=>by rw[M8.mp t];exact⟨nn,U6 _,λq M=>(nomatch M),U6 _,λq M=>(nomatch M)⟩⟩
 rw[v7,L1] at F;have hC1:=h.c1;have R:(((C.map D.str).length:Nat):Int)=(C.length:Int):=by rw[L1]
 have U:=h.n;have fV:=je3 X;have zW:=jf8 X;have lV:lim (X.map jdc).length=true:=jg (by rw[L1];omega);obtain⟨ys,ec,u,hg⟩:=KM (G:=ji [] 0) (p:=kH (jc (pF (p2 jq (pV 0) (pC (.int 0)))) (jc (pF (p2 jq (pV 0) (pC (.int 1)))) (jc (p2 jG (p2 jq (pV 0) (pC (.int 2))) (Vn (jc (kH (jc (pC (.str [114,101,115,116])) (jc (pF (p2 jq (pV 1) (p2 jC (pCB kJ (jc (p2 jq (pV 0) (pC (.int 2))) pN)) (pCB kJ (jc (pV 1) pN))))) pN))) pN))) pN)))) (Good:=λd=>∃ x:Od,d=jT true x/\OrOk C P x) (P:=λρ=>∃ o,ρ=[o,some (.lst false (C.map D.str))]) (xs:=X.map jdc) (by
  rintro v hv ρ ⟨o,rfl⟩;obtain⟨x,t,rfl⟩:=M6.mp hv;have A:=F x t;have f1:=U1 (x.2.2.length:Int) (show(C.length:Int)≠0 by omega);have f2:=U0 (x.2.2.length:Int) (show 0 < (C.length:Int) by omega);have ic:=qo (o:=false) (l:=C) f1 f2;have nc:Nm (C.getD ((x.2.2.length:Int) % (C.length:Int)).toNat []):=Jc h.nC (by omega);have hm:jC (.int (x.2.2.length:Int)) (.int (C.length:Int))=some (.int ((x.2.2.length:Int) % (C.length:Int))):=jH (by omega);generalize(x.2.2.length:Int) % (C.length:Int)=q at *;generalize C.getD q.toNat []=w at *;have oxp:=A.p;have oxr:=A.r;refine⟨[some (jdc x),some (.lst false (C.map D.str))],jT true (x.1,x.2.1,x.2.2++[.two kS w]),rfl,?_,⟨_,rfl,A.nm,by show x.2.1.length<=200;omega,A.q,by show(x.2.2++[Rl.two kS w]).length<=5;rw[N5];show x.2.2.length+1<=5;omega,λr S=>(N3.mp S).elim (A.k r) λS=>by rw[M8.mp S];exact⟨by decide,by decide,nc,.inr (.inr (.inr rfl))⟩,_,_,rfl⟩,_,rfl⟩;have j0:jq (jdc x) (.int 0)=some (.str x.1):=rfl;have j1:jq (jdc x) (.int 1)=some (.lst false (x.2.1.map jK)):=rfl;have j2:jq (jdc x) (.int 2)=some (.lst false (x.2.2.map jA)):=rfl;have fq:=jR x.2.1;have fr:=vb x.2.2;have lr:(((x.2.2.map jA).length:Nat):Int)=(x.2.2.length:Int):=by rw[L1]
  have ad:jG (.lst false (x.2.2.map jA)) (.lst true [.tup [.str kS,.str w]])=some (.lst true (x.2.2.map jA++[.tup [.str kS,.str w]])):=by
   show(bif lim ((x.2.2.map jA).length+1)&&(frzs (x.2.2.map jA)&&frzs [.tup [.str kS,.str w]]) then some (D.lst true (x.2.2.map jA++[.tup [.str kS,.str w]])) else none)=_;rw[fr,jg (by rw[L1];omega)];rfl
  unfold jT;rw[N6];show _=some (D.tup [.str x.1,.lst false (x.2.1.map jK),.lst true (x.2.2.map jA++[.tup [.str kS,.str w]])]);generalize x.2.1.map jK=QQ,x.2.2.map jA=RR,jdc x=ev,C.map D.str=CC at *;simp(disch:=omega) [j0,j1,j2,fq,lr,R,hm,ic,ad,jg]) (ρ:=jI [none,some 1] [some (.lst false (ns.map D.int)),some (.lst false (C.map D.str)),some (.lst false (P.map D.str)),some (.lst false (O.map D.str)),some (.lst false (N.map D.str)),some (.lst false (X.map jdc)),B,E,j,m,a,b,c]) ⟨none,rfl⟩
 rw[L1] at u;obtain⟨V,rfl,T⟩:=Kp (f:=jT true) (Q:=OrOk C P) hg;rw[L1] at u;refine⟨V,?_,by rw[u];exact Nat.pos_of_ne_zero λz=>g (List.eq_nil_of_length_eq_zero z),by omega,T⟩;have en:Kx [.lst false (ns.map D.int)]=some (yq 0 (ns.map D.int)):=by
  show some (yq 0 (fzs (ns.map D.int)))=_;rw[I]
 generalize V.map (jT true)=X3,X.map jdc=XV,X.map qN=XW,ns.map D.int=NS,C.map D.str=CC,P.map D.str=PP,O.map D.str=OO,N.map D.str=NN at *;simp[Jl,j7,YS,n0,jg,H,en,e1,zW,fV,lV,ec]
noncomputable abbrev Lk:=List Nat×Int×List Nat
noncomputable def YD(x:Lk):D:=.tup [.str x.1,.int x.2.1,.str x.2.2]
structure LkOk(C:List (List Nat))(X:List Od)(x:Lk):Prop where
 m:x.1∈C
 c:Nm x.1
 d:1<=x.2.1
 n:∃ y∈X,y.1=x.2.2
theorem jnQ{o:Bool}{X:List Od}{i:Int}(h0:0<=i)(h:i < X.length):∃ x∈X,jq (.lst o (X.map (jT false))) (.int i)=some (jT false x):=by
 have a:i.toNat < X.length:=by omega
 exact⟨X[i.toNat],List.getElem_mem a,by rw[jhx h0 (by rw[L1];exact h),List.getElem?_map,X9 a];rfl⟩
theorem O0(o:Bool)(x:Od):jq (jT o x) (.int 0)=some (.str x.1):=rfl
theorem jda{m mo:Int}(h0:0<=m)(h1:m < 10 ^ 10)(I:1<=mo)(J:mo<=9){C:List (List Nat)}(K:1<=C.length)(nC:∀ w∈C,Nm w){X:List Od}(M:1<=X.length){L:List Lk}(N:L.length<=100){i:Nat}(hi:i<=2){o6:Option D} :
  ∃(l:Lk) (r6:Option D),qH [some (.int m),some (.lst false (C.map D.str)),some (.lst false (X.map (jT false))),some (.int mo),some (.lst true (L.map YD)),some (.int (0+(i:Int))),o6] =
   some (.nx [some (.int m),some (.lst false (C.map D.str)),some (.lst false (X.map (jT false))),some (.int mo),some (.lst true ((L++[l]).map YD)),some (.int (0+(i:Int))),r6])/\LkOk C X l:=by
 have a:jj2 [.int 2,.int (C.length:Int)]=some (.int (if(C.length:Int) < 2 then(C.length:Int) else 2)):=rfl;have g:1<=(if(C.length:Int) < 2 then(C.length:Int) else 2):=by split<;>omega
 have h:(if(C.length:Int) < 2 then(C.length:Int) else 2)<=(C.length:Int):=by split<;>omega
 generalize(if(C.length:Int) < 2 then(C.length:Int) else 2)=k at a g h;have O:0<=7*(0+(i:Int))*(m / 50):=Int.mul_nonneg (by omega) (by omega);have j:vw (.int (0+(i:Int))) (.int 40)=some (.int ((0+(i:Int))*40)):=Ji (by omega) (by omega);have p:vw (.int 7) (.int (0+(i:Int)))=some (.int (7*(0+(i:Int)))):=Ji (by omega) (by omega);have q:vw (.int (7*(0+(i:Int)))) (.int (m / 50))=some (.int (7*(0+(i:Int))*(m / 50))):=Ji (by omega) (by omega);generalize 7*(0+(i:Int))*(m / 50)=t at *;generalize r:m / 3+(0+(i:Int))*40+t=n at *;have s:0<=n:=by omega
 have u:=U1 n (show k≠0 by omega);have P:=U0 n (show 0 < k by omega);have v:=qo (o:=false) (l:=C) (i:=n % k) u (by omega);have f:C.getD (n % k).toNat []∈C:=Jv (by omega);have y:Nm (C.getD (n % k).toNat []):=nC _ f;have mk:jC (.int n) (.int k)=some (.int (n % k)):=jH (by omega);generalize n % k=nk at *;generalize C.getD nk.toNat []=cl at *;have Q:=U1 (n / 2) (show mo≠0 by omega);have z:jC (.int (n / 2)) (.int mo)=some (.int (n / 2 % mo)):=jH (by omega);generalize n / 2 % mo=dy at *;have A:vw (.int 2) (.int mo)=some (.int (2*mo)):=Ji (by omega) (by omega);have B:jZ (.int n) (.int (2*mo))=some (.int (n / (2*mo))):=yn (by omega) (by omega);generalize n / (2*mo)=nd at *;have E:=U1 nd (show(X.length:Int)≠0 by omega);have F:=U0 nd (show 0 < (X.length:Int) by omega);obtain⟨x,G,ix⟩:=jnQ (o:=false) (X:=X) E F;have H:=O0 false x;have c:jC (.int nd) (.int (X.length:Int))=some (.int (nd % (X.length:Int))):=jH (by omega);generalize nd % (X.length:Int)=nx at *;have d:(((X.map (jT false)).length:Nat):Int)=(X.length:Int):=by rw[L1]
 have e:(((C.map D.str).length:Nat):Int)=(C.length:Int):=by rw[L1]
 have b:lim (L.map YD).length=true:=jg (by rw[L1];omega);refine⟨(cl,1+dy,x.1),some (.int n),?_,f,y,by show 1<=1+dy;omega,x,G,rfl⟩;rw[N6];show _=some (Out.nx [_,_,_,_,some (.lst true (L.map YD++[.tup [.str cl,.int (1+dy),.str x.1]])),_,_]);generalize C.map D.str=CC,X.map (jT false)=XX,L.map YD=LL at *;simp(disch:=omega) [qH,yn,j,p,q,r,e,a,mk,v,z,A,B,d,c,ix,H,b,jg,-Int.zero_add]
theorem jgf{m mo:Int}(h0:0<=m)(h1:m < 10 ^ 10)(k:1<=mo)(n:mo<=9){C:List (List Nat)}(o:1<=C.length)(nC:∀ w∈C,Nm w){X:List Od}(p:1<=X.length) :
  ∃ L:List Lk,Yy [.int m,.lst false (C.map D.str),.lst false (X.map (jT false)),.int mo]=some (.lst true (L.map YD))/\L.length<=2/\∀ l∈L,LkOk C X l:=by
 have c:=kB (j:=m % 3) (by omega) (by omega);obtain⟨u,q,L,d,a,rfl,g,h⟩:=vj (G:=ji [] 5) (f:=qH) (xs:=YG 0 (m % 3).toNat) (λi ρ=>∃(L:List Lk) (d a:Option D),ρ=[some (.int m),some (.lst false (C.map D.str)),some (.lst false (X.map (jT false))),some (.int mo),some (.lst true (L.map YD)),d,a]/\L.length=i/\∀ l∈L,LkOk C X l) (by
  rintro i x ρ r ⟨L,d,a,rfl,g,h⟩;obtain⟨rfl,y⟩:=Yg r;obtain⟨l,s,e,t⟩:=jda h0 h1 k n o nC p (L:=L) (by omega) (i:=i) (by omega) (o6:=a);exact⟨_,_,rfl,.inl e,L++[l],some (.int (0+(i:Int))),s,rfl,by simp[g],λv b=>(N3.mp b).elim (h v) λb=>by rw[M8.mp b];exact t⟩) (ρ:=[some (.int m),some (.lst false (C.map D.str)),some (.lst false (X.map (jT false))),some (.int mo),some (.lst true []),none,none]) ⟨[],none,none,rfl,rfl,λv b=>(nomatch b)⟩
 rw[v9] at g;refine⟨L,?_,by omega,h⟩;generalize C.map D.str=CC,X.map (jT false)=XX,L.map YD=LL at *;simp(disch:=omega) [Yy,j7,VO,jH,c,q,jg]
theorem jg3{i:Nat}{p:PF}{ρ:Rh}{e:D}{m l:List D}(h1:p ρ=some e)(h2:jeT e=some m)(a:ρ[i]?=some (some (.lst true l)))(b:l.length+m.length<=1000):jiD i p ρ=some (.nx (ρ.set i (some (.lst true (l++m))))):=by
 unfold jiD;rw[h1,L4,h2,L4,a];dsimp only;rw[jg (by omega)];rfl
theorem jgl{ws:List (List Nat)}:∀{o:Option D},jJ (ji [] 0) qT (pF (pV 0)) (ws.map D.str) [o]=some (ws.map D.str):=by
 induction ws with
 | nil=>intro o;rfl
 | cons w ws a =>
  intro o;have:=a (o:=some (.str w));rw[L5,jL];simp[this]
theorem jeb{a0 a1 a2 a3 a5 a6 a7 a9 b0 b1:Option D}{C P:List (List Nat)}{r:Rl}(f:ui C P r){N:List (List Nat)}(z:N.length<=960):∃ T:List (List Nat),T.length<=8/\yV [a0,a1,a2,a3,some (.lst true (N.map D.str)),a5,a6,a7,some (jA r),a9,b0,b1]=some (.nx [a0,a1,a2,a3,some (.lst true ((N++T).map D.str)),a5,a6,a7,some (jA r),a9,b0,b1]):=by
 have d:lim (N.map D.str).length=true:=jg (by rw[L1];omega);cases r with
 | two b x =>
  have c:jq (jA (.two b x)) (.int 0)=some (.str b):=rfl;have g:jq (jA (.two b x)) (.int 1)=some (.str x):=rfl;have s:(b==qv)=false:=U3.mpr f.1;by_cases n:b=km
  ·subst n;refine⟨[x],by simp,?_⟩;rw[N6];show _=some (Out.nx [_,_,_,_,some (.lst true (N.map D.str++[.str x])),_,_,_,_,_,_,_]);generalize N.map D.str=NN,jA (.two km x)=rr at *;simp[yV,c,g,d]
  ·have h:(b==[114,101,112,97,121])=false:=U3.mpr n;have j:(b==[115,104,97,114,101])=false:=s;refine⟨[],by simp,?_⟩;rw[N0];generalize N.map D.str=NN,jA (.two b x)=rr at *;simp[yV,c,g,h,j]
 | many a =>
  have k:a.length<=8:=f.1;have c:jq (jA (.many a)) (.int 0)=some (.str qv):=rfl;have g:jq (jA (.many a)) (.int 1)=some (.tup (a.map D.str)):=rfl;have q:=jB a;have t:=yY a;have u:lim (a.map D.str).length=true:=jg (by rw[L1];omega);refine⟨a,k,?_⟩;rw[N6];have w:jJ (ji [] 0) qT (pF (pV 0)) (a.map D.str) (jI [none] [a0,a1,a2,a3,some (.lst true (N.map D.str)),a5,a6,a7,some (jA (.many a)),a9,b0,b1])=some (a.map D.str):=jgl (ws:=a) (o:=none);have y:=jg3 (i:=4) (p:=vR (K1 (p2 jq (pV 8) (pC (.int 1)))) (ji [] 0) qT (pF (pV 0)) [none]) (ρ:=[a0,a1,a2,a3,some (.lst true (N.map D.str)),a5,a6,a7,some (jA (.many a)),a9,b0,b1]) (e:=.lst true (a.map D.str)) (m:=a.map D.str) (l:=N.map D.str) (by
   generalize a.map D.str=WW,jA (.many a)=rr at *;simp[g,q,t,u,w]) (by show(bif frzs (a.map D.str) then _ else _)=_;rw[q];rfl) rfl (by rw[L1,L1];omega)
  generalize N.map D.str++a.map D.str=NW at *;generalize N.map D.str=NN,jA (.many a)=rr at *;simp[yV,c,y]
 | lend b x v =>
  have c:jq (jA (.lend b x v)) (.int 0)=some (.str b):=rfl;have h:(b==[114,101,112,97,121])=false:=U3.mpr f.1.2;have j:(b==[115,104,97,114,101])=false:=U3.mpr f.1.1;refine⟨[],by simp,?_⟩;rw[N0];generalize N.map D.str=NN,jA (.lend b x v)=rr at *;simp[yV,c,h,j]
theorem qJ(x:Od):frz (jT false x)=true:=by
 have a:=jR x.2.1;have b:=vb x.2.2;show frz (D.tup [.str x.1,.lst false (x.2.1.map jK),.lst false (x.2.2.map jA)])=true;simp[a,b]
theorem Ju(X:List Od):frzs (X.map (jT false))=true:=kP λd hd=>by obtain⟨x,_,rfl⟩:=M6.mp hd;exact qJ x
noncomputable abbrev Gd:=List Nat×List Nat
noncomputable abbrev KY(q:Gd):D:=.tup [.str q.1,.str q.2]
theorem jaI{m:Int}(h0:0<=m){C P N:List (List Nat)}{a3 a5 a6 a7 a8:Option D}{G:List Gd}(E:G.length<=100){i:Nat}(hi:i<=50){c:List Nat}(s:Nm c)(nP:∀ w∈P,Nm w) :
  ∃ T:List Gd,T.length<=1/\(∀ g∈T,(Nm g.1/\Nm g.2)/\g.1∈P/\g.2=c)/\v8 [some (.int m),some (.lst false (C.map D.str)),some (.lst false (P.map D.str)),a3,some (.lst true (N.map D.str)),a5,a6,a7,a8,some (.lst true (G.map KY)),some (.int (i:Int)),some (.str c)] =
   some (.nx [some (.int m),some (.lst false (C.map D.str)),some (.lst false (P.map D.str)),a3,some (.lst true (N.map D.str)),a5,a6,a7,a8,some (.lst true ((G++T).map KY)),some (.int (i:Int)),some (.str c)]):=by
 have a:=jeO c true N;have e:(((P.map D.str).length:Nat):Int)=(P.length:Int):=by rw[L1]
 have f:lim (G.map KY).length=true:=jg (by rw[L1];omega);have p:vw (.int 5) (.int (i:Int))=some (.int (5*(i:Int))):=Ji (by omega) (by omega);have u:vw (.int 7) (.int (i:Int))=some (.int (7*(i:Int))):=Ji (by omega) (by omega);have r:jZ (.int m) (.int (5*(i:Int)+3))=some (.int (m / (5*(i:Int)+3))):=yn (by omega) (by omega);have v:jZ (.int m) (.int (7*(i:Int)+2))=some (.int (m / (7*(i:Int)+2))):=yn (by omega) (by omega);generalize m / (5*(i:Int)+3)=t1,m / (7*(i:Int)+2)=t2 at *;by_cases w:¬ c∈N/\0 < P.length/\0 < t1 % 4
 ·obtain⟨d,h,j⟩:=w;have p1:=U1 t2 (show(P.length:Int)≠0 by omega);have p2:=U0 t2 (show 0 < (P.length:Int) by omega);have x:=qo (o:=false) (l:=P) p1 p2;have y:Nm (P.getD (t2 % (P.length:Int)).toNat []):=Jc nP (by omega);have A:P.getD (t2 % (P.length:Int)).toNat []∈P:=Jv (by omega);have k:jC (.int t2) (.int (P.length:Int))=some (.int (t2 % (P.length:Int))):=jH (by omega);generalize t2 % (P.length:Int)=q at *;generalize P.getD q.toNat []=pq at *;have b:(0:Int) < (P.length:Int):=by omega
  refine⟨[(pq,c)],by simp,λg n=>by rw[M8.mp n];exact⟨⟨y,s⟩,A,rfl⟩,?_⟩;rw[N6];show _=some (Out.nx [_,_,_,_,_,_,_,_,_,some (.lst true (G.map KY++[.tup [.str pq,.str c]])),_,_]);generalize C.map D.str=CC,P.map D.str=PP,N.map D.str=NN,G.map KY=GG at *;simp(disch:=omega) [v8,a,d,e,b,h,p,u,r,v,jH,j,k,x,f,jg]
 ·refine⟨[],by simp,λg n=>(nomatch n),?_⟩;rw[N0];have t:(zh (jx (p2 (QM true) (pV 11) (pV 4))) (zh (jx (p2 ug (pCB kJ (jc (pV 2) pN)) (pC (.int 0)))) (jx (p2 ug (p2 jC (p2 jZ (pV 0) (p2 jG (p2 vw (pC (.int 5)) (pV 10)) (pC (.int 3)))) (pC (.int 4))) (pC (.int 0)))))) [some (.int m),some (.lst false (C.map D.str)),some (.lst false (P.map D.str)),a3,some (.lst true (N.map D.str)),a5,a6,a7,a8,some (.lst true (G.map KY)),some (.int (i:Int)),some (.str c)]=some false:=by
   by_cases d:c∈N
   ·generalize N.map D.str=NN at *;simp[a,d]
   by_cases h:0 < P.length
   ·have j:¬ 0 < t1 % 4:=λz=>w ⟨d,h,z⟩;have b:(0:Int) < (P.length:Int):=by omega
    generalize N.map D.str=NN,P.map D.str=PP at *;simp(disch:=omega) [a,d,e,b,h,p,r,jH,j]
    try omega
   ·have B:P=[]:=List.eq_nil_of_length_eq_zero (by omega);subst B;generalize N.map D.str=NN at *;simp[a,d]
  generalize C.map D.str=CC,P.map D.str=PP,N.map D.str=NN,G.map KY=GG at *;simp[v8,-jkI,t]
theorem jfj{m:Int}(h0:0<=m){C P:List (List Nat)}(U:C.length<=6)(nC:∀ w∈C,Nm w)(nP:∀ w∈P,Nm w){X:List Od}(V:X.length<=5)(M:∀ x∈X,OrOk C P x) :
  ∃ G:List Gd,Jn [.int m,.lst false (C.map D.str),.lst false (P.map D.str),.lst false (X.map (jT false))]=some (.lst true (G.map KY))/\G.length<=6/\∀ g∈G,(Nm g.1/\Nm g.2)/\g.1∈P/\g.2∈C:=by
 have q:=Ju X;have t:=jl _ q;obtain⟨W,N,e,⟨n,o,p,b,rfl⟩,I,_⟩:=xi (G:=gT 3 (gC (ji [] 5) (gC (ji [] 6) (gC (ji [] 7) gN)))) (f:=JI) (λ(a:List (List Nat)) ρ=>∃ n o p b,ρ=[some (.int m),some (.lst false (C.map D.str)),some (.lst false (P.map D.str)),some (.lst false (X.map (jT false))),some (.lst true (a.map D.str)),n,o,p,b,none,none,none]) (λ_=>True) 40 200 (xs:=X.map (jT false)) (acc:=[]) (ρ:=[some (.int m),some (.lst false (C.map D.str)),some (.lst false (P.map D.str)),some (.lst false (X.map (jT false))),some (.lst true []),none,none,none,none,none,none,none]) (by
  rintro d hd a ρ J _ ⟨n,o,p,b,rfl⟩;obtain⟨x,u,rfl⟩:=M6.mp hd;have y:=M x u;have s:=vb x.2.2;have A:=jl _ s;obtain⟨Y,T,e,⟨B,rfl⟩,I,_⟩:=xi (G:=ji [] 8) (f:=yV) (λ(a:List (List Nat)) ρ=>∃ b,ρ=[some (.int m),some (.lst false (C.map D.str)),some (.lst false (P.map D.str)),some (.lst false (X.map (jT false))),some (.lst true (a.map D.str)),some (.str x.1),some (.lst false (x.2.1.map jK)),some (.lst false (x.2.2.map jA)),b,none,none,none]) (λ_=>True) 8 960 (xs:=x.2.2.map jA) (acc:=a) (ρ:=[some (.int m),some (.lst false (C.map D.str)),some (.lst false (P.map D.str)),some (.lst false (X.map (jT false))),some (.lst true (a.map D.str)),some (.str x.1),some (.lst false (x.2.1.map jK)),some (.lst false (x.2.2.map jA)),b,none,none,none]) (by
   rintro d hd a ρ J _ ⟨b,rfl⟩;obtain⟨r,O,rfl⟩:=M6.mp hd;obtain⟨T,K,Q⟩:=jeb (a0:=some (.int m)) (a1:=some (.lst false (C.map D.str))) (a2:=some (.lst false (P.map D.str))) (a3:=some (.lst false (X.map (jT false)))) (a5:=some (.str x.1)) (a6:=some (.lst false (x.2.1.map jK))) (a7:=some (.lst false (x.2.2.map jA))) (a9:=none) (b0:=none) (b1:=none) (y.k r O) J;exact⟨_,_,T,rfl,Q,K,λ_ _=>trivial,_,rfl⟩) (by rw[L1];have:=y.r;omega) (λ_ _=>trivial) ⟨b,rfl⟩
  rw[L1] at I;refine⟨[some (.int m),some (.lst false (C.map D.str)),some (.lst false (P.map D.str)),some (.lst false (X.map (jT false))),some (.lst true (a.map D.str)),some (.str x.1),some (.lst false (x.2.1.map jK)),some (.lst false (x.2.2.map jA)),b,none,none,none],_,T,rfl,?_,by have:=y.r;omega,λ_ _=>trivial,some (.str x.1),some (.lst false (x.2.1.map jK)),some (.lst false (x.2.2.map jA)),B,rfl⟩;generalize X.map (jT false)=XX,x.2.2.map jA=RR,a.map D.str=AA at *;simp[JI,s,A,e]) (by rw[L1];simp;omega) (λ_ _=>trivial) ⟨none,none,none,none,rfl⟩
 rw[X8] at e;have E:=jB C;have F:=yY C;obtain⟨Z,R,G,c,h,rfl,L,H⟩:=vj (G:=gT 2 (gC (ji [] 10) (gC (ji [] 11) gN))) (f:=v8) (xs:=yq 0 (C.map D.str)) (λi ρ=>∃(G:List Gd) (c h:Option D),ρ=[some (.int m),some (.lst false (C.map D.str)),some (.lst false (P.map D.str)),some (.lst false (X.map (jT false))),some (.lst true (N.map D.str)),n,o,p,b,some (.lst true (G.map KY)),c,h]/\G.length<=i/\∀ g∈G,(Nm g.1/\Nm g.2)/\g.1∈P/\g.2∈C) (by
  rintro i x ρ u ⟨G,c,h,rfl,L,H⟩;obtain⟨d,hd,rfl⟩:=k6 0 _ i x u;rw[List.getElem?_map] at hd;cases hz:C[i]? with
  | none=>rw[hz] at hd;cases hd
  | some z =>
   rw[hz] at hd;cases hd;have hi:i < C.length:=(L9.mp hz).1;obtain⟨T,K,j,e⟩:=jaI h0 (C:=C) (P:=P) (N:=N) (a3:=some (.lst false (X.map (jT false)))) (a5:=n) (a6:=o) (a7:=p) (a8:=b) (G:=G) (by omega) (i:=i) (by omega) (nC z (List.mem_of_getElem? hz)) nP;refine⟨_,_,?_,.inl e,G++T,some (.int (i:Int)),some (.str z),rfl,by rw[N5];omega,λv l=>(N3.mp l).elim (H v) λl=>⟨(j v l).1,(j v l).2.1,(j v l).2.2▸List.mem_of_getElem? hz⟩⟩;rw[Nat.zero_add];rfl) (ρ:=[some (.int m),some (.lst false (C.map D.str)),some (.lst false (P.map D.str)),some (.lst false (X.map (jT false))),some (.lst true (N.map D.str)),n,o,p,b,some (.lst true []),none,none]) ⟨[],none,none,rfl,by simp,λv l=>(nomatch l)⟩
 rw[v7,L1] at L;have S:Kx [.lst false (C.map D.str)]=some (yq 0 (C.map D.str)):=by
  show some (yq 0 (fzs (C.map D.str)))=_;rw[F]
 refine⟨G,?_,by omega,H⟩;generalize C.map D.str=CC,P.map D.str=PP,X.map (jT false)=XX,N.map D.str=NN,G.map KY=GG at *;simp[Jn,j7,YH,q,t,e,E,S,R,jg]
noncomputable abbrev Cl:=List Nat×Int×Int
noncomputable abbrev JH(x:Cl):D:=.tup [.str x.1,.int x.2.1,.int x.2.2]
theorem Vi(l:List Cl):frzs (l.map JH)=true:=kP λd hd=>by obtain⟨x,_,rfl⟩:=M6.mp hd;rfl
theorem Vj(L:List Lk):frzs (L.map YD)=true:=kP λd hd=>by obtain⟨x,_,rfl⟩:=M6.mp hd;rfl
theorem KP(L:List Gd):frzs (L.map KY)=true:=kP λd hd=>by obtain⟨x,_,rfl⟩:=M6.mp hd;rfl
theorem jhV(X:List Od):fzs (X.map (jT true))=X.map (jT false):=by
 rw[JJ,U2];refine List.map_congr_left λx _=>?_;have a:=jl _ (jR x.2.1);have b:=jl _ (vb x.2.2);show D.tup [.str x.1,.lst false (fzs (x.2.1.map jK)),.lst false (fzs (x.2.2.map jA))]=_;rw[a,b];rfl
structure Pl where
 nm:List Nat
 C:List Cl
 P:List Qt
 E:List (List Nat)
 X:List Od
 L:List Lk
 G:List Gd
noncomputable def jw(o:Bool)(p:Pl):D:=.tup [.str p.nm,.lst false (p.C.map JH),.lst false (p.P.map jK),.lst false (p.E.map D.str),.lst false (p.X.map (jT false)),.lst false (p.L.map YD),.lst o (p.G.map KY)]
structure PlOk(p:Pl):Prop where
 nm:Nm p.nm
 c:p.C.length<=6
 nC:∀ c∈p.C,Nm c.1
 p6:p.P.length<=6
 nP:∀ c∈p.P,Nm c.1
 e:p.E.length<=6
 nE:∀ c∈p.E,Nm c
 x1:1<=p.X.length
 x5:p.X.length<=5
 x:∀ x∈p.X,OrOk (p.C.map (·.1)) (p.P.map (·.1)) x
 l2:p.L.length<=2
 l:∀ l∈p.L,LkOk (p.C.map (·.1)) p.X l
 cN:(p.C.map (·.1)).Nodup
 c1:∀ c∈p.C,1<=c.2.1
 pN:(p.P.map (·.1)).Nodup
 p1:∀ c∈p.P,1<=c.2
 g6:p.G.length<=6
 g:∀ g∈p.G,(Nm g.1/\Nm g.2)/\g.1∈p.P.map (·.1)/\g.2∈p.C.map (·.1)
 me:∀ c∈p.E,c∈p.C.map (·.1)
theorem jbn{e:Int}(k:0<=e)(u:e < 2147483587){C:List (List Nat)}(y:C.length<=6)(nC:∀ w∈C,Nm w){a0 a1 a2 a3 a4 a5 a8 a9:Option D} :
  ∃(K:List Cl) (o11 o12:Option D),vW (gT 2 (gC (ji [] 11) (gC (ji [] 12) gN))) Jg (yq 0 (C.map D.str)) [a0,a1,a2,a3,a4,a5,some (.int e),some (.lst false (C.map D.str)),a8,a9,some (.lst true []),none,none,none,none,none] =
   some (.nx [a0,a1,a2,a3,a4,a5,some (.int e),some (.lst false (C.map D.str)),a8,a9,some (.lst true (K.map JH)),o11,o12,none,none,none])/\K.map (·.1)=C/\∀ c∈K,1<=c.2.1:=by
 obtain⟨A,l,K,o11,o12,rfl,g,n⟩:=vj (G:=gT 2 (gC (ji [] 11) (gC (ji [] 12) gN))) (f:=Jg) (xs:=yq 0 (C.map D.str)) (λi ρ=>∃(K:List Cl) (o11 o12:Option D),ρ=[a0,a1,a2,a3,a4,a5,some (.int e),some (.lst false (C.map D.str)),a8,a9,some (.lst true (K.map JH)),o11,o12,none,none,none]/\K.map (·.1)=C.take i/\∀ c∈K,1<=c.2.1) (by
  rintro i x ρ q ⟨K,o11,o12,rfl,g,n⟩;obtain⟨d,hd,rfl⟩:=k6 0 _ i x q;rw[List.getElem?_map] at hd;cases hz:C[i]? with
  | none=>rw[hz] at hd;cases hd
  | some z =>
   rw[hz] at hd;cases hd;have B:i < C.length:=(L9.mp hz).1;have nz:=nC z (List.mem_of_getElem? hz);have E:=Int.ediv_nonneg (a:=e) (b:=(i:Int)+1) k (by omega);have F:=Int.ediv_le_self (a:=e) ((i:Int)+1) k;have H:=Int.ediv_nonneg (a:=e) (b:=(i:Int)+5) k (by omega);have I:=Int.ediv_le_self (a:=e) ((i:Int)+5) k;obtain⟨o,l,r⟩:=Kj (m:=e / ((i:Int)+1)) (by omega) (by omega);obtain⟨p,s,_⟩:=Kj (m:=e / ((i:Int)+5)+(i:Int)) (by omega) (by omega);have t:K.length<=i:=by
    have:(K.map (·.1)).length=(C.take i).length:=by rw[g]
    rw[L1,E1] at this;omega
   have h:lim (K.map JH).length=true:=jg (by rw[L1];omega);refine⟨[a0,a1,a2,a3,a4,a5,some (.int e),some (.lst false (C.map D.str)),a8,a9,some (.lst true (K.map JH)),some (.int (i:Int)),some (.str z),none,none,none],[a0,a1,a2,a3,a4,a5,some (.int e),some (.lst false (C.map D.str)),a8,a9,some (.lst true ((K++[(z,o,p)]).map JH)),some (.int (i:Int)),some (.str z),none,none,none],?_,.inl ?_,K++[(z,o,p)],some (.int (i:Int)),some (.str z),rfl,by rw[N6,g,List.take_add_one,hz];rfl,λv j=>(N3.mp j).elim (n v) λj=>by rw[M8.mp j];exact r⟩
   ·rw[Nat.zero_add];rfl
   ·rw[N6];show _=some (Out.nx [_,_,_,_,_,_,_,_,_,_,some (.lst true (K.map JH++[.tup [.str z,.int o,.int p]])),_,_,_,_,_]);generalize C.map D.str=CC,K.map JH=KK at *;simp(disch:=omega) [Jg,yn,l,s,h,jg]) (ρ:=[a0,a1,a2,a3,a4,a5,some (.int e),some (.lst false (C.map D.str)),a8,a9,some (.lst true []),none,none,none,none,none]) ⟨[],none,none,rfl,rfl,λv j=>(nomatch j)⟩
 rw[v7,L1,List.take_length] at g;exact⟨K,o11,o12,l,g,n⟩
theorem jbT{a:Int}(d:0<=a)(f:a < 2147483587):∀{P:List (List Nat)}{j:Nat}{o0 o1:Option D},j+P.length<=100 ->
  ∃ K:List Qt,jJ (gT 2 (gC (ji [] 0) (gC (ji [] 1) gN))) qT (kH (jc (pF (pV 1)) (jc (yh yu (jc (p2 jG (p2 jZ (pV 2) (pC (.int 13))) (pV 0)) pN)) pN))) (yq j (P.map D.str)) [o0,o1,some (.int a)]=some (K.map jK)/\K.map (·.1)=P/\∀ c∈K,1<=c.2
 | [],_,_,_,_=>⟨[],rfl,rfl,λc b=>(nomatch b)⟩
 | w::P,j,o0,o1,g=>by
  rw[M3] at g;obtain⟨K,e,h,i⟩:=jbT d f (P:=P) (j:=j+1) (o0:=some (.int (j:Int))) (o1:=some (.str w)) (by omega);obtain⟨v,k,l⟩:=Kj (m:=a / 13+(j:Int)) (by omega) (by omega);refine⟨(w,v)::K,?_,by rw[L5,h],λc b=>?_⟩
  ·have n:(gT 2 (gC (ji [] 0) (gC (ji [] 1) gN))) (.tup [.int (j:Int),.str w]) [o0,o1,some (.int a)]=some [some (.int (j:Int)),some (.str w),some (.int a)]:=rfl;rw[L5,yq,jL,n,L5];generalize K.map jK=KK at *;simp(disch:=omega) [yn,k,e,jg]
  ·rcases M5.mp b with rfl | b
   ·exact l
   ·exact i c b
theorem jko{C:List (List Nat)}(v:1<=C.length)(nC:∀ w∈C,Nm w){m:Int}{k:Nat} :
  ∃ E:List (List Nat),jJ (ji [] 0) qT (pF (p2 jq (pV 1) (p2 jC (p2 jG (p2 jZ (pV 2) (pC (.int 12))) (pV 0)) (pCB kJ (jc (pV 1) pN))))) (YG 0 k) [none,some (.lst false (C.map D.str)),some (.int m)]=some (E.map D.str)/\E.length=k/\∀ w∈E,Nm w/\w∈C:=by
 have a:(((C.map D.str).length:Nat):Int)=(C.length:Int):=by rw[L1]
 obtain⟨y,e,b,g⟩:=KM (G:=ji [] 0) (p:=pF (p2 jq (pV 1) (p2 jC (p2 jG (p2 jZ (pV 2) (pC (.int 12))) (pV 0)) (pCB kJ (jc (pV 1) pN))))) (Good:=λd=>∃ w,d=.str w/\Nm w/\w∈C) (P:=λρ=>∃ o,ρ=[o,some (.lst false (C.map D.str)),some (.int m)]) (xs:=YG 0 k) (by
  rintro x h ρ ⟨o,rfl⟩;obtain⟨i,z,rfl⟩:=M6.mp h;have j:=U1 (m / 12+(0+(i:Int))) (show(C.length:Int)≠0 by omega);have n:=U0 (m / 12+(0+(i:Int))) (show 0 < (C.length:Int) by omega);have r:=qo (o:=false) (l:=C) j n;have s:=Jc nC (i:=((m / 12+(0+(i:Int))) % (C.length:Int)).toNat) (by omega);have t:C.getD ((m / 12+(0+(i:Int))) % (C.length:Int)).toNat []∈C:=Jv (by omega);have c:jC (.int (m / 12+(0+(i:Int)))) (.int (C.length:Int))=some (.int ((m / 12+(0+(i:Int))) % (C.length:Int))):=jH (by omega);generalize(m / 12+(0+(i:Int))) % (C.length:Int)=q at *;generalize C.getD q.toNat []=w at *;refine⟨[some (.int (0+(i:Int))),some (.lst false (C.map D.str)),some (.int m)],.str w,rfl,?_,⟨_,rfl,s,t⟩,_,rfl⟩;generalize C.map D.str=CC at *;simp(disch:=omega) [yn,a,c,r,-Int.zero_add]) (ρ:=[none,some (.lst false (C.map D.str)),some (.int m)]) ⟨none,rfl⟩
 rw[v9] at b;obtain⟨W,rfl,u⟩:=Kp (f:=D.str) (Q:=λw=>Nm w/\w∈C) g;rw[L1] at b;exact⟨W,e,b,u⟩
theorem jkh{W:List (List Nat)}(h:W.length=7):∃ a b c d e f g,W=[a,b,c,d,e,f,g]:=by
 match W,h with
 | [a,b,c,d,e,f,g],_=>exact⟨a,b,c,d,e,f,g,rfl⟩
theorem jfe{W:List (List Nat)}(h:W.length=7){q:Int}(h0:0<=q)(h1:q<=2):1<=(vy W (some 1) (some (2+q))).length/\(vy W (some 1) (some (2+q))).length<=3:=by
 obtain⟨a,b,c,d,e,f,g,rfl⟩:=jkh h;rcases(by omega:q=0 \/ q=1 \/ q=2) with rfl | rfl | rfl<;>exact⟨Nat.le_of_ble_eq_true rfl,Nat.le_of_ble_eq_true rfl⟩
theorem jfQ{W:List (List Nat)}(h:W.length=7){q:Int}(h0:0<=q)(h1:q<=2):(vy W (some 4) (some (4+q))).length<=2:=by
 obtain⟨a,b,c,d,e,f,g,rfl⟩:=jkh h;rcases(by omega:q=0 \/ q=1 \/ q=2) with rfl | rfl | rfl<;>exact Nat.le_of_ble_eq_true rfl
theorem jhj{l:List (List Nat)}{lo hi:Option Int}(h:l.Nodup):(vy l lo hi).Nodup:=by
 unfold vy;exact h.sublist ((List.take_sublist _ _).trans (List.drop_sublist _ _))
theorem wT(o:Bool)(l:List Int)(lo hi:Option Int):jft lo hi (.lst o (l.map D.int))=some (.lst true ((vy l lo hi).map D.int)):=by
 rw[jm8 (kT l),wB]
theorem jjD{ns:List Int}(Q:jhc ns)(R:ns.length<=63){W N O:List (List Nat)}(hW:W.length=7)(S:∀ w∈W,Nm w)(dW:W.Nodup)(T:1<=N.length)(hN5:N.length<=5)(nN:∀ w∈N,Nm w)(hO:O.length<=50)(nO:∀ w∈O,Nm w) :
  ∃ p:Pl,Vv [.lst false (ns.map D.int),.lst false (W.map D.str),.lst false (N.map D.str),.lst false (O.map D.str),.int 9]=some (jw true p)/\PlOk p:=by
 obtain⟨z0,U,V⟩:=wa Q (k:=0) (by decide);obtain⟨z1,Y,Z⟩:=wa Q (k:=1) (by decide);obtain⟨f,ef,f0,f1⟩:=J4 V (k:=1) (by decide) (by decide);obtain⟨sc,es,s0,s1⟩:=J4 Z (k:=2) (by decide) (by decide);obtain⟨e,hC3⟩:=jfe hW (q:=f % 3) (by omega) (by omega);have hP2:=jfQ hW (q:=f / 3 % 3) (by omega) (by omega);have nC:∀ w∈vy W (some 1) (some (2+f % 3)),Nm w:=λw h=>S w (V3 h);have nP:∀ w∈vy W (some 4) (some (4+f / 3 % 3)),Nm w:=λw h=>S w (V3 h);have dC:=jhj (lo:=some 1) (hi:=some (2+f % 3)) dW;have dP:=jhj (lo:=some 4) (hi:=some (4+f / 3 % 3)) dW;have sC:=zk false W (some 1) (some (2+f % 3));have sP:=zk false W (some 4) (some (4+f / 3 % 3));generalize vy W (some 1) (some (2+f % 3))=C,vy W (some 4) (some (4+f / 3 % 3))=P at *;have hbc:jhc (vy ns (some 2) none):=λx hx=>Q x (V3 hx);have hlc:(vy ns (some 2) none).length<=63:=N8 (J8 _ _ _) R;have sN:=wT false ns (some 2) none;generalize vy ns (some 2) none=cs at *;obtain⟨X,eX,n,hX5,hX⟩:=jeU hbc hlc (C:=C) (P:=P) (O:=O) (N:=N) ⟨e,by omega,by omega,hO,nC,nP,nO,nN,by omega⟩ T;obtain⟨K,r,s,eK,a,gK⟩:=jbn s0 s1 (C:=C) (by omega) nC (a0:=some (.lst false (ns.map D.int))) (a1:=some (.lst false (W.map D.str))) (a2:=some (.lst false (N.map D.str))) (a3:=some (.lst false (O.map D.str))) (a4:=some (.int 9)) (a5:=some (.int f)) (a8:=some (.lst false (P.map D.str))) (a9:=some (.lst true (X.map (jT true))));have hK:K.length=C.length:=by rw[<- a,L1]
 have nK:∀ c∈K,Nm c.1:=λc hc=>nC _ (by rw[<- a];exact M6.mpr ⟨c,hc,rfl⟩);have a1:=U1 (f / 36) (show(C.length:Int)+1≠0 by omega);have a2:=U0 (f / 36) (show 0 < (C.length:Int)+1 by omega);have t:jC (.int (f / 36)) (.int ((C.length:Int)+1))=some (.int (f / 36 % ((C.length:Int)+1))):=jH (by omega);generalize f / 36 % ((C.length:Int)+1)=q at a1 a2 t;have hrg:=kB (j:=q) (by omega) (by omega);have hlq:lim (YG 0 q.toNat).length=true:=jg (by rw[v9];omega);obtain⟨E,eE,hE,nE⟩:=jko e nC (m:=f) (k:=q.toNat);have d:jk9 [.int 1,.int (P.length:Int)]=some (.int (if(P.length:Int) > 1 then(P.length:Int) else 1)):=rfl;have k0:1<=(if(P.length:Int) > 1 then(P.length:Int) else 1)/\(if(P.length:Int) > 1 then(P.length:Int) else 1)<=2:=by split<;>omega
 generalize(if(P.length:Int) > 1 then(P.length:Int) else 1)=k at d k0;have u:1<=9 / k/\9 / k<=9:=by
  rcases(by omega:k=1 \/ k=2) with rfl | rfl<;>decide
 have dk:jZ (.int 9) (.int k)=some (.int (9 / k)):=yn (by omega) (by omega);obtain⟨L,eL,hL,nL⟩:=jgf (m:=sc / 11) (mo:=9 / k) (by omega) (by omega) u.1 u.2 e nC (X:=X) n;generalize 9 / k=mo at *;obtain⟨M,eM,b,gM⟩:=jbT s0 s1 (P:=P) (j:=0) (o0:=none) (o1:=none) (by omega);have hM:M.length=P.length:=by rw[<- b,L1]
 have nM:∀ c∈M,Nm c.1:=λc hc=>nP _ (by rw[<- b];exact M6.mpr ⟨c,hc,rfl⟩);obtain⟨G,eG,hG,nG⟩:=jfj (m:=f / 200) (by omega) (C:=C) (P:=P) (by omega) nC nP (X:=X) (by omega) hX;have iw:=qo (o:=false) (l:=W) (i:=0) (by omega) (by omega);have nw:Nm (W.getD (0:Int).toNat []):=Jc S (by show 0 < W.length;omega);generalize W.getD (0:Int).toNat []=nm at *;refine⟨⟨nm,K,M,E,X,L,G⟩,?_,⟨nw,by show K.length<=6;omega,nK,by show M.length<=6;omega,nM,by show E.length<=6;omega,λw h=>(nE w h).1,n,by show X.length<=5;omega,by show ∀ x∈X,OrOk (K.map (·.1)) (M.map (·.1)) x;rw[a,b];exact hX,hL,by show ∀ l∈L,LkOk (K.map (·.1)) X l;rw[a];exact nL,by show(K.map (·.1)).Nodup;rw[a];exact dC,gK,by show(M.map (·.1)).Nodup;rw[b];exact dP,gM,hG,by show ∀ g∈G,(Nm g.1/\Nm g.2)/\g.1∈M.map (·.1)/\g.2∈K.map (·.1);rw[a,b];exact nG,by show ∀ c∈E,c∈K.map (·.1);rw[a];exact λw h=>(nE w h).2⟩⟩;show _=some (D.tup [.str nm,.lst false (K.map JH),.lst false (M.map jK),.lst false (E.map D.str),.lst false (X.map (jT false)),.lst false (L.map YD),.lst true (G.map KY)]);have frN:=kT ns;have frc:=kT cs;have fzc:=VY cs;have frC:=jB C;have v:=yY C;have frP:=jB P;have y:=yY P;have frE:=jB E;have fzE:=yY E;have z:=Vi K;have fzK:=jl _ z;have A:=jR M;have fzM:=jl _ A;have B:=Vj L;have fzL:=jl _ B;have clL:yg (L.map YD)=true:=by rw[vU,List.all_map,List.all_eq_true];intro x _;rfl
 have F:=Ju X;have fzX:=jhV X;have H:=jl _ F;have frO:=jB O;have fzO:=yY O;have I:=jB N;have J:=yY N;have fzN:=VY ns;have hlC:(((C.map D.str).length:Nat):Int)=(C.length:Int):=by rw[L1]
 have hlP:(((P.map D.str).length:Nat):Int)=(P.length:Int):=by rw[L1]
 have lP:lim (yq 0 (P.map D.str)).length=true:=jg (by rw[v7,L1];omega);have enC:Kx [.lst false (C.map D.str)]=some (yq 0 (C.map D.str)):=by
  show some (yq 0 (fzs (C.map D.str)))=_;rw[v]
 have enP:Kx [.lst false (P.map D.str)]=some (yq 0 (P.map D.str)):=by
  show some (yq 0 (fzs (P.map D.str)))=_;rw[y]
 have eE':jJ (ji [] 0) qT (pF (p2 jq (pV 1) (p2 jC (p2 jG (p2 jZ (pV 2) (pC (.int 12))) (pV 0)) (pCB kJ (jc (pV 1) pN))))) (YG 0 q.toNat) (jI [none,some 7,some 5] [some (.lst false (ns.map D.int)),some (.lst false (W.map D.str)),some (.lst false (N.map D.str)),some (.lst false (O.map D.str)),some (.int 9),some (.int f),some (.int sc),some (.lst false (C.map D.str)),some (.lst false (P.map D.str)),some (.lst true (X.map (jT true))),some (.lst true (K.map JH)),r,s,none,none,none])=some (E.map D.str):=eE;have eM':jJ (gT 2 (gC (ji [] 0) (gC (ji [] 1) gN))) qT (kH (jc (pF (pV 1)) (jc (yh yu (jc (p2 jG (p2 jZ (pV 2) (pC (.int 13))) (pV 0)) pN)) pN))) (yq 0 (P.map D.str)) (jI [none,none,some 6] [some (.lst false (ns.map D.int)),some (.lst false (W.map D.str)),some (.lst false (N.map D.str)),some (.lst false (O.map D.str)),some (.int 9),some (.int f),some (.int sc),some (.lst false (C.map D.str)),some (.lst false (P.map D.str)),some (.lst true (X.map (jT true))),some (.lst true (K.map JH)),r,s,some (.lst true (E.map D.str)),some (.lst true (L.map YD)),none])=some (M.map jK):=eM;generalize ns.map D.int=NS,cs.map D.int=CS,W.map D.str=WW,N.map D.str=NN,O.map D.str=OO,C.map D.str=CC,P.map D.str=PP,E.map D.str=EE,K.map JH=KK,M.map jK=MM,L.map YD=LL,G.map KY=GG,X.map (jT false)=XF,X.map (jT true)=XX at *;simp(maxSteps:=400000) (disch:=omega) [Vv,j7,KZ,frN,fzN,U,Y,ef,es,jH,yn,sC,sP,sN,v,y,fzc,frc,frC,frP,frO,fzO,I,J,eX,enC,eK,hlC,hlP,t,hrg,hlq,eE',d,dk,fzX,H,F,eL,clL,enP,lP,eM',fzK,z,fzM,A,fzE,frE,fzL,B,iw,eG,jg]
theorem jnk(ns:List Int):(vy ns none (some 16)).length<=63:=by
 have:=J8 ns none (some 16);unfold vy at *;rw[E1];have:HT.sIx ns.length ns.length (some 16)<=16:=by
  unfold HT.sIx;simp;omega
 omega
theorem jkm{ns:List Int}(c:jhc ns):∃ p:Pl,Kf [.lst false (ns.map D.int),.int 9]=some (jw true p)/\PlOk p:=by
 obtain⟨y,d,e⟩:=wa c (k:=0) (by decide);obtain⟨z,f,g⟩:=wa c (k:=1) (by decide);obtain⟨W,A,B,v,C⟩:=jb6 e (many:=7) (by decide);obtain⟨N,E,M,nN,_⟩:=jb6 g (many:=3) (by decide);have h:jhc (vy ns none (some 16)):=λx F=>c x (V3 F);have i:=jnk ns;have G:=wT false ns none (some 16);generalize vy ns none (some 16)=cs at *;have nO:∀ w∈vy W (some 6) none,Nm w:=λw H=>v w (V3 H);have I:(vy W (some 6) none).length<=50:=N8 (J8 _ _ _) (by omega);have J:=zk false W (some 6) none;generalize vy W (some 6) none=O at *;obtain⟨p,K,L⟩:=jjD h i B v C (N:=N) (by omega) (by omega) nN I nO;refine⟨p,?_,L⟩;have j:vM [.int y,.int 7,.int 8]=some (.lst true (W.map D.str)):=A;have l:vM [.int z,.int 3,.int 8]=some (.lst true (N.map D.str)):=E;have m:=kT ns;have n:=VY ns;have o:=kT cs;have q:=VY cs;have r:=jB W;have s:=yY W;have t:=jB O;have u:=yY O;have a:=jB N;have b:=yY N;generalize jw true p=PP,ns.map D.int=NS,cs.map D.int=CS,W.map D.str=WW,N.map D.str=NN,O.map D.str=OO at *;simp(maxSteps:=400000) (disch:=omega) [Kf,j7,Q7,m,n,d,f,j,l,r,s,a,b,G,o,q,J,t,u,K,jg]
theorem jgb(p:Pl):fz (jw true p)=jw false p:=by
 have a:=jl _ (Vi p.C);have b:=jl _ (jR p.P);have c:=yY p.E;have d:=jl _ (Ju p.X);have e:=jl _ (Vj p.L);have f:=jl _ (KP p.G);show D.tup [.str p.nm,.lst false (fzs (p.C.map JH)),.lst false (fzs (p.P.map jK)),.lst false (fzs (p.E.map D.str)),.lst false (fzs (p.X.map (jT false))),.lst false (fzs (p.L.map YD)),.lst false (fzs (p.G.map KY))]=_;rw[a,b,c,d,e,f];rfl
theorem vX(p:Pl):frz (jw false p)=true:=by
 have a:=Vi p.C;have b:=jR p.P;have c:=jB p.E;have d:=Ju p.X;have e:=Vj p.L;have f:=KP p.G;show frz (D.tup [.str p.nm,.lst false (p.C.map JH),.lst false (p.P.map jK),.lst false (p.E.map D.str),.lst false (p.X.map (jT false)),.lst false (p.L.map YD),.lst false (p.G.map KY)])=true;simp only[frz,KG,frzs,a,b,c,d,e,f];rfl
noncomputable abbrev Gw:=List (List Nat)×(List Nat->Int)
noncomputable def now(S:Gw)(c:List Nat):Int:=if c∈S.1 then S.2 c else 0
noncomputable def big(d g:Int):Int:=if d > g then d else g
noncomputable def grow(S:Gw)(x:Lk):Gw:=(if x.1∈S.1 then S.1 else S.1++[x.1],λn=>if n=x.1 then big x.2.1 (now S x.1) else S.2 n)
theorem jfF{o:Bool}{S:Gw}{c:List Nat}:Ki (dct o S.1 S.2) (.str c) (.int 0)=some (.int (now S c)):=by
 unfold dct now;rw[jfy,uN,L4];by_cases h:c∈S.1
 ·rw[wx S.2 h,if_pos h];rfl
 ·have:∀{N:List (List Nat)},¬ c∈N->VX (N.map KA.str) (N.map λn=>D.int (S.2 n)) (.str c)=none:=by
   intro N
   induction N with
   | nil=>intro _;rw[List.map_nil,List.map_nil,VX];intro _ _ _ _ h;cases h
   | cons n N a =>
    intro h;rw[L5,L5,VX,if_neg (λe=>h (by injection e with e;rw[e];exact L7)),a (λz=>h (L6 _ z))]
  rw[this h,if_neg h];rfl
theorem jie{S:Gw}{x:Lk}:qD (S.1.map KA.str) (S.1.map λn=>D.int (S.2 n)) (.str x.1) (.int (big x.2.1 (now S x.1)))=((grow S x).1.map KA.str,(grow S x).1.map λn=>D.int ((grow S x).2 n)):=by
 unfold grow;generalize big x.2.1 (now S x.1)=v;by_cases h:x.1∈S.1
 ·rw[jgC h,if_pos h]
 ·unfold qD;rw[if_neg (λz=>h (by obtain⟨n,a,e⟩:=M6.mp z;injection e with e;rw[<- e];exact a)),if_neg h,N6,N6];congr 1;show _=_++[D.int (if x.1=x.1 then v else S.2 x.1)];rw[if_pos rfl];congr 1;exact List.map_congr_left λn a=>by
   show _=D.int (if n=x.1 then v else S.2 n);rw[if_neg (λz=>h (by rw[<- z];exact a))]
structure GrOk(L:List Lk)(m:Nat)(S:Gw):Prop where
 n:S.1.Nodup
 l:S.1.length<=m
 i:∀ c∈S.1,∃ x∈L,x.1=c
theorem GrOk.grow{L:List Lk}{m:Nat}{S:Gw}(h:GrOk L m S){x:Lk}(j:x∈L):GrOk L (m+1) (grow S x):=by
 unfold K42.grow;by_cases d:x.1∈S.1
 ·rw[if_pos d];exact⟨h.n,Nat.le_succ_of_le h.l,h.i⟩
 ·rw[if_neg d];refine⟨?_,by have:=h.l;simp;omega,λc f=>?_⟩
  ·show(S.1++[x.1]).Nodup;rw[X1];exact⟨h.n,by simp,λa k b o e=>d (by rw[<- M8.mp o,<- e];exact k)⟩
  ·rcases N3.mp f with g | g
   ·exact h.i c g
   ·exact⟨x,j,(M8.mp g).symm⟩
theorem jcJ{a0 a4:Option D}{S:Gw}(h:S.1.length<=1000){x:Lk}:yz [a0,some (dct true S.1 S.2),some (.str x.1),some (.int x.2.1),a4]=some (.nx [a0,some (dct true (grow S x).1 (grow S x).2),some (.str x.1),some (.int x.2.1),a4]):=by
 have d:lim (S.1.map KA.str).length=true:=jg (by rw[L1];omega);have e:=jfF (o:=true) (S:=S) (c:=x.1);have a:jk9 [.int (now S x.1),.int x.2.1]=some (.int (big x.2.1 (now S x.1))):=rfl;have b:jj0 (dct true S.1 S.2)=some (S.1.map KA.str,S.1.map λn=>D.int (S.2 n)):=rfl;have f:=jie (S:=S) (x:=x);show _=some (Out.nx [a0,some (.dK true ((grow S x).1.map KA.str) ((grow S x).1.map λn=>D.int ((grow S x).2 n))),_,_,_]);generalize(grow S x).1.map KA.str=k2 at *;generalize((grow S x).1.map λn=>D.int ((grow S x).2 n))=v2 at *;generalize big x.2.1 (now S x.1)=v at *;generalize now S x.1=g,dct true S.1 S.2=dd,S.1.map KA.str=ks at *;generalize(S.1.map λn=>D.int (S.2 n))=vs at *;simp[yz,e,a,b,d,f]
theorem Vl{A:List Lk}{a0:Option D}:∀{L:List Lk}{S:Gw}{m:Nat}{o2 o3 o4:Option D},m+L.length<=1000->(∀ x∈L,x∈A)->GrOk A m S ->
  ∃ r2 r3 r4:Option D,vW (gT 3 (gC (ji [] 2) (gC (ji [] 3) (gC (ji [] 4) gN)))) yz (L.map YD) [a0,some (dct true S.1 S.2),o2,o3,o4]=some (.nx [a0,some (dct true (L.foldl grow S).1 (L.foldl grow S).2),r2,r3,r4])/\GrOk A (m+L.length) (L.foldl grow S)
 | [],S,m,o2,o3,o4,_,_,h=>⟨o2,o3,o4,rfl,h⟩
 | x::L,S,m,o2,o3,o4,b,a,h=>by
  rw[M3] at b;obtain⟨r2,r3,r4,c,d⟩:=Vl (A:=A) (a0:=a0) (L:=L) (S:=grow S x) (m:=m+1) (o2:=some (.str x.1)) (o3:=some (.int x.2.1)) (o4:=some (.str x.2.2)) (by omega) (λy e=>a y (by simp[e])) (h.grow (a x (by simp)));refine⟨r2,r3,r4,?_,by rw[M3,show m+(L.length+1)=m+1+L.length by omega];exact d⟩;have f:(gT 3 (gC (ji [] 2) (gC (ji [] 3) (gC (ji [] 4) gN)))) (YD x) [a0,some (dct true S.1 S.2),o2,o3,o4]=some [a0,some (dct true S.1 S.2),some (.str x.1),some (.int x.2.1),some (.str x.2.2)]:=rfl;rw[L5,yy,f,L4,jcJ (by have:=h.l;omega),L4,kK,c,X2]
theorem P5(o:Bool)(p:Pl):jq (jw o p) (.int 5)=some (.lst false (p.L.map YD)):=rfl
theorem P4(o:Bool)(p:Pl):jq (jw o p) (.int 4)=some (.lst false (p.X.map (jT false))):=rfl
theorem P1(o:Bool)(p:Pl):jq (jw o p) (.int 1)=some (.lst false (p.C.map JH)):=rfl
theorem P2(o:Bool)(p:Pl):jq (jw o p) (.int 2)=some (.lst false (p.P.map jK)):=rfl
theorem wg(N:List (List Nat)):(N.map KA.str).map kaD=N.map D.str:=by rw[U2];rfl
noncomputable def gr(p:Pl):Gw:=p.L.foldl grow ([],λ_=>0)
theorem jee{p:Pl}(h:PlOk p):GrOk p.L 2 (gr p):=by
 obtain⟨_,_,_,_,g⟩:=Vl (A:=p.L) (a0:=none) (L:=p.L) (S:=([],λ_=>0)) (m:=0) (o2:=none) (o3:=none) (o4:=none) (by have:=h.l2;omega) (λx a=>a) ⟨List.nodup_nil,U6 _,λc b=>(nomatch b)⟩;exact⟨g.n,by have:=g.l;have:=h.l2;unfold gr;omega,g.i⟩
theorem ja7{p:Pl}(h:PlOk p):vC [jw false p]=some (dct true (gr p).1 (gr p).2):=by
 obtain⟨b,d,f,e,_⟩:=Vl (A:=p.L) (a0:=some (jw false p)) (L:=p.L) (S:=([],λ_=>0)) (m:=0) (o2:=none) (o3:=none) (o4:=none) (by have:=h.l2;omega) (λx g=>g) ⟨List.nodup_nil,U6 _,λc i=>(nomatch i)⟩;have j:vW (gT 3 (gC (ji [] 2) (gC (ji [] 3) (gC (ji [] 4) gN)))) yz (p.L.map YD) [some (jw false p),some (.dK true [] []),none,none,none]=some (.nx [some (jw false p),some (dct true (gr p).1 (gr p).2),b,d,f]):=e;have k:=P5 false p;have a:=Vj p.L;have l:=jl _ a;generalize jw false p=pp,p.L.map YD=LL,dct true (gr p).1 (gr p).2=dd at *;simp[vC,j7,qZ,k,a,l,j]
def alk(n:Nat)(d:D):Prop:=j9 n [d,d]=some (.bl true)
theorem jbg(n:Nat)(i:Int):alk (n+1) (.int i):=by
 unfold alk j9;simp[j7,kg,wS]
theorem jh0(n:Nat)(i:List Nat):alk (n+1) (.str i):=by
 unfold alk j9;simp[j7,kg,wS]
theorem jhp(n:Nat)(i:Bool):alk (n+1) (.bl i):=by
 unfold alk j9;have a:Jd (.bl i) (.bl i)=some (.bl true):=by cases i<;>rfl
 simp[j7,kg,wS,a]
theorem Qa{n:Nat}{l:List D}(c:frzs l=true)(q:l.length<=1000)(h:∀ x∈l,alk n x):alk (n+1) (.tup l):=by
 have d:=jl l c;have a:=kB (j:=(l.length:Int)) (by omega) (by omega);rw[N9] at a;obtain⟨r,e,g,rfl⟩:=vj (G:=ji [] 2) (f:=kD (j9 n)) (xs:=YG 0 l.length) (λi ρ=>∃ g:Option D,ρ=[some (.tup l),some (.tup l),g]) (by
  rintro i x ρ p ⟨g,rfl⟩;obtain⟨rfl,k⟩:=Yg p;have ix:jq (.tup l) (.int (0+(i:Int)))=some l[i]:=by
   rw[jbU (by omega) (by omega),show(0+(i:Int)).toNat=i by omega,X9 k]
  have m:j9 n [l[i],l[i]]=some (.bl true):=h _ (List.getElem_mem k);have b:frz l[i]=true:=by
   rw[Vw,List.all_eq_true] at c;exact c _ (List.getElem_mem k)
  have o:=qd _ b;refine⟨_,[some (.tup l),some (.tup l),some (.int (0+(i:Int)))],rfl,.inl ?_,some (.int (0+(i:Int))),rfl⟩;generalize l[i]=x at *;simp[kD,ix,m,b,o,-Int.zero_add]) (ρ:=[some (.tup l),some (.tup l),none]) ⟨none,rfl⟩
 unfold alk j9;simp[j7,kg,wS,c,d,a,e]
noncomputable abbrev WN:=List Nat
noncomputable def gd(o:Bool)(N:List WN)(f:WN->D):D:=.dK o (N.map KA.str) (N.map f)
theorem jdy(f:WN->D)(c:WN):∀ N:List WN,VX (N.map KA.str) (N.map f) (.str c)=if c∈N then some (f c) else none
 | []=>rfl
 | n::N=>by
  rw[L5,L5,VX];by_cases h:n=c
  ·subst h;simp
  ·rw[if_neg (λz=>h (KA.str.inj z)),jdy f c N];by_cases q:c∈N
   ·rw[if_pos q,if_pos (L6 _ q)]
   ·rw[if_neg q,if_neg λz=>(M5.mp z).elim (λz=>h z.symm) q]
theorem VC{o:Bool}{N:List WN}{f:WN->D}{c:WN}(h:c∈N):y6 (gd o N f) (.str c)=some (f c):=by
 show VX _ _ _=_;rw[jdy,if_pos h]
theorem jex{o neg:Bool}{N:List WN}{f:WN->D}{c:WN}:Kv neg (.str c) (gd o N f)=some (.bl (neg != decide (c∈N))):=by
 show some (D.bl (neg != (VX _ _ _).isSome))=_;rw[jdy];by_cases h:c∈N<;>simp[h]
theorem jg2(f:WN->D)(c:WN)(v:D):∀ N:List WN,jeA (N.map KA.str) (N.map f) (.str c) v=N.map λn=>if n=c then v else f n
 | []=>rfl
 | n::N=>by
  rw[L5,L5,jeA,jg2 f c v N,L5];by_cases h:n=c
  ·simp[h]
  ·rw[if_neg h,if_neg (λz=>h (KA.str.inj z))]
noncomputable def YR(l:List WN)(c:WN):List WN:=if c∈l then l else l++[c]
theorem QU(l:List WN)(c:WN):(YR l c).length<=l.length+1:=by unfold YR;split<;>simp
theorem jkc(f:WN->D)(c:WN)(v:D)(N:List WN):qD (N.map KA.str) (N.map f) (.str c) v=((YR N c).map KA.str,(YR N c).map λn=>if n=c then v else f n):=by
 have a:(KA.str c∈N.map KA.str)↔c∈N:=by simp
 unfold qD YR;by_cases h:c∈N
 ·rw[if_pos h,if_pos (a.mpr h),jg2]
 ·rw[if_neg h,if_neg λz=>h (a.mp z),N6,N6];refine congrArg (Prod.mk _) ?_;rw[List.map_congr_left (g:=λn=>if n=c then v else f n) λn b=>(if_neg (λz=>h (by rw[<- z];exact b):¬ n=c)).symm];simp
structure Sy where
 al:WN->Bool
 fu:WN->Bool
 sv:List WN
 rp:List WN
noncomputable def mis(y:Sy)(c:WN):Bool:=y.al c&&!decide (c∈y.sv)
noncomputable def nd(y:Sy):Rl->Bool
 | .two kw x=>if kw=YO then mis y x else if kw=km then y.al x&&!decide (x∈y.rp) else if kw=je5 then !y.fu x else false
 | .many ws=>ws.any (mis y)
 | .lend _ _ _=>false
noncomputable def fl(y:Sy):Rl->Sy
 | .two kw x=>if kw=je5 then{ y with fu:=λq=>if q=x then true else y.fu q } else{ y with sv:=YR y.sv x,rp:=if kw=km then YR y.rp x else y.rp }
 | .many ws=>{ y with sv:=ws.foldl YR y.sv }
 | .lend _ _ _=>y
noncomputable def FN:List Str:=["claims","pots","guards","greatest","runs","alive","full","served","repaid"]
noncomputable abbrev I9(o:Bool)(a0 a1 a2 a3 a4 a5 a6 a7 a8:D):D:=.ins o 0 FN [a0,a1,a2,a3,a4,a5,a6,a7,a8]
noncomputable abbrev nC(p:Pl):List WN:=p.C.map (·.1)
noncomputable abbrev nP(p:Pl):List WN:=p.P.map (·.1)
noncomputable abbrev bd(o:Bool)(N:List WN)(f:WN->Bool):D:=gd o N λn=>.bl (f n)
noncomputable abbrev td(o:Bool)(N:List WN):D:=gd o N λ_=>.bl true
noncomputable def yd(o:Bool)(p:Pl)(R:List Qt)(y:Sy):D:=I9 o (.lst o ((nC p).map D.str)) (.lst o ((nP p).map D.str)) (.lst false (p.G.map KY)) (dct o (gr p).1 (gr p).2) (.tup (R.map jK)) (bd o (nC p) y.al) (bd o (nP p) y.fu) (td o y.sv) (td o y.rp)
theorem vV(N:List WN)(f:WN->Bool):frzs (N.map λn=>D.bl (f n))=true:=kP λd hd=>by obtain⟨x,_,rfl⟩:=M6.mp hd;rfl
theorem ji3(o:Bool)(p:Pl)(R:List Qt)(y:Sy):fz (yd o p R y)=yd false p R y:=by
 have a:=yY (nC p);have b:=yY (nP p);have c:=jl _ (KP p.G);have d:=jl _ (wI (gr p).1 (gr p).2);have e:=jl _ (jR R);have f:=jl _ (vV (nC p) y.al);have g:=jl _ (vV (nP p) y.fu);have h:=jl _ (vV y.sv λ_=>true);have i:=jl _ (vV y.rp λ_=>true);show D.ins false 0 FN [.lst false (fzs ((nC p).map D.str)),.lst false (fzs ((nP p).map D.str)),.lst false (fzs (p.G.map KY)),.dK false _ (fzs ((gr p).1.map λn=>D.int ((gr p).2 n))),.tup (fzs (R.map jK)),.dK false _ (fzs ((nC p).map λn=>D.bl (y.al n))),.dK false _ (fzs ((nP p).map λn=>D.bl (y.fu n))),.dK false _ (fzs (y.sv.map λ_=>D.bl true)),.dK false _ (fzs (y.rp.map λ_=>D.bl true))]=_;rw[a,b,c,d,e,f,g,h,i];rfl
section
variable {o:Bool}{a0 a1 a2 a3 a4 a5 a6 a7 a8:D}
theorem g6:jbr 0 "full" jci (I9 true a0 a1 a2 a3 a4 a5 a6 a7 a8)=some (a6,λz=>I9 true a0 a1 a2 a3 a4 a5 z a7 a8):=rfl
theorem g7:jbr 0 "served" jci (I9 true a0 a1 a2 a3 a4 a5 a6 a7 a8)=some (a7,λz=>I9 true a0 a1 a2 a3 a4 a5 a6 z a8):=rfl
theorem g8:jbr 0 "repaid" jci (I9 true a0 a1 a2 a3 a4 a5 a6 a7 a8)=some (a8,λz=>I9 true a0 a1 a2 a3 a4 a5 a6 a7 z):=rfl
theorem jbF{ρ:Rh}{i:Nat}{L:Ln}{pk:PF}{t:D}{N:List WN}{f:WN->D}{kk:D->D}{w:WN}{b:Bool}(h0:pV i ρ=some t)(a:L t=some (gd true N f,kk))(c:pk ρ=some (.str w))(d:N.length<=1000) :
  JX i L pk (pC (.bl b)) ρ=some (.nx (ρ.set i (some (kk (gd true (YR N w) λn=>if n=w then .bl b else f n))))):=by
 unfold JX;rw[show(pC (D.bl b)) ρ=some (.bl b) from rfl,L4,h0,L4,a,L4];show((pk ρ).bind λq=>_)=_;rw[c,L4];show(bif lim (N.map KA.str).length&&(true||_) then some (Out.nx (ρ.set i (some (kk (.dK true (qD (N.map KA.str) (N.map f) (.str w) (.bl b)).1 (qD (N.map KA.str) (N.map f) (.str w) (.bl b)).2))))) else none)=_;rw[jg (by rw[L1];omega),jkc];rfl
theorem jgO{m:List D->Option (D×D)}{mn:Str}{pa:PAf}{ρ:Rh}{i:Nat}{ds:List D}(h0:pV i ρ=some (I9 true a0 a1 a2 a3 a4 a5 a6 a7 a8))(a:pa ρ=some ds)(b:frzs ds=true)
  (hn:wc FN [a0,a1,a2,a3,a4,a5,a6,a7,a8] mn=none):Qu m i 0 mn pa ρ=(m (I9 true a0 a1 a2 a3 a4 a5 a6 a7 a8::ds)).bind λr=>some (r.1,ρ.set i (some r.2)):=by
 rw[jbX,a,L4,h0,L4];dsimp only;rw[hn,b];rfl
end
theorem wQ{p:Pl}{R:List Qt}{y:Sy}{m:List D->Option D}{mn:Str}{po:PF}{pa:PAf}{ρ:Rh}{ds:List D}{o:Bool}{r:D}(h0:po ρ=some (yd o p R y))(c:pa ρ=some ds)
  (hn:∀ a0 a1 a2 a3 a4 a5 a6 a7 a8:D,wc FN [a0,a1,a2,a3,a4,a5,a6,a7,a8] mn=none) (d:m (yd false p R y::fzs ds)=some r) (e:kt r=true):kO m 0 mn po pa ρ=some r:=by
 rw[qj,h0,L4];have b:fzs (yd o p R y::ds)=yd false p R y::fzs ds:=by rw[fzs,ji3]
 have a:∃ a0 a1 a2 a3 a4 a5 a6 a7 a8,yd o p R y=.ins o 0 FN [a0,a1,a2,a3,a4,a5,a6,a7,a8]:=⟨_,_,_,_,_,_,_,_,_,rfl⟩;obtain⟨a0,a1,a2,a3,a4,a5,a6,a7,a8,a⟩:=a;rw[a] at b ⊢;dsimp only;rw[c,L4,b,d,L4,hn];simp[e]
section
variable {p:Pl}{R:List Qt}{y:Sy}{o:Bool}
theorem fo0:zC 0 "claims" (yd o p R y)=some (.lst o ((nC p).map D.str)):=rfl
theorem fo1:zC 0 "pots" (yd o p R y)=some (.lst o ((nP p).map D.str)):=rfl
theorem fo2:zC 0 "guards" (yd o p R y)=some (.lst false (p.G.map KY)):=rfl
theorem fo3:zC 0 "greatest" (yd o p R y)=some (dct o (gr p).1 (gr p).2):=rfl
theorem fo4:zC 0 "runs" (yd o p R y)=some (.tup (R.map jK)):=rfl
theorem fo5:zC 0 "alive" (yd o p R y)=some (bd o (nC p) y.al):=rfl
theorem fo6:zC 0 "full" (yd o p R y)=some (bd o (nP p) y.fu):=rfl
theorem fo8:zC 0 "repaid" (yd o p R y)=some (td o y.rp):=rfl
theorem fo7:zC 0 "served" (yd o p R y)=some (td o y.sv):=rfl
end
section
variable {p:Pl}{R:List Qt}{y:Sy}{c:WN}
theorem jem(a:c∈nC p):jn [yd false p R y,.str c]=some (.bl (mis y c)):=by
 have b:=VC (o:=false) (f:=λn=>D.bl (y.al n)) a;have d:=jex (o:=false) (neg:=true) (N:=y.sv) (f:=λ_=>D.bl true) (c:=c);have e:=fo5 (p:=p) (R:=R) (y:=y) (o:=false);have g:=fo7 (p:=p) (R:=R) (y:=y) (o:=false);unfold mis;generalize yd false p R y=I at *;unfold bd td at *;generalize gd false (nC p) (λn=>D.bl (y.al n))=A,gd false y.sv (λ_=>D.bl true)=S at *;cases h:y.al c<;>simp[jn,j7,vp,e,g,b,d,h]
theorem Ko{po pa:PF}{ρ:Rh}{o:Bool}(a:c∈nC p)(h0:po ρ=some (yd o p R y))(h1:pa ρ=some (.str c)):kO jn 0 "is_missed" po (jc pa pN) ρ=some (.bl (mis y c)) :=
 wQ h0 (ds:=[.str c]) (by simp[h1]) (λ_ _ _ _ _ _ _ _ _=>rfl) (jem a) rfl
theorem jcb{o:Bool}:∀{ws:List WN}{o0:Option D},(∀ w∈ws,w∈nC p)->jJ (ji [] 0) qT (kO jn 0 "is_missed" (pV 1) (jc (pV 0) pN)) (ws.map D.str) [o0,some (yd o p R y)]=some (ws.map λw=>D.bl (mis y w))
 | [],_,_=>rfl
 | w::ws,o0,h=>by
  have e:=jcb (o:=o) (ws:=ws) (o0:=some (.str w)) λw a=>h w (L6 _ a);have b:ji [] 0 (.str w) [o0,some (yd o p R y)]=some [some (.str w),some (yd o p R y)]:=rfl;have m:=Ko (p:=p) (R:=R) (y:=y) (po:=pV 1) (pa:=pV 0) (ρ:=[some (.str w),some (yd o p R y)]) (o:=o) (h w L7) rfl rfl;rw[L5,jL,b,L4];show((kO _ _ _ _ _ _).bind λy=>_)=_;rw[m,L4,e];rfl
theorem jdH(l:List WN)(f:WN->Bool):VA (l.map λw=>D.bl (f w))=some (l.map f):=by
 induction l with
 | nil=>rfl
 | cons a l b=>rw[L5,VA,b];rfl
theorem jf5{r:Rl}(b:ui (nC p) (nP p) r):jz [yd false p R y,jA r]=some (.bl (nd y r)):=by
 cases r with
 | two g x =>
  obtain⟨_,_,_,i⟩:=b;rcases i with⟨rfl | rfl,d⟩ | ⟨rfl,d⟩ | rfl | rfl
  ·have m:=Ko (p:=p) (R:=R) (y:=y) (po:=pV 0) (pa:=p2 jq (pV 1) (pC (.int 1))) (ρ:=[some (yd false p R y),some (jA (.two YO x)),some (.str YO)]) (o:=false) d rfl rfl;unfold jA at *;generalize yd false p R y=I at *;simp[jz,j7,jO,m,jbU,nd,-qj]
  ·have j:=VC (o:=false) (f:=λn=>D.bl (y.al n)) d;have k:=jex (o:=false) (neg:=true) (N:=y.rp) (f:=λ_=>D.bl true) (c:=x);have l:=fo5 (p:=p) (R:=R) (y:=y) (o:=false);have q:=fo8 (p:=p) (R:=R) (y:=y) (o:=false);unfold jA;generalize yd false p R y=I at *;unfold bd td at *;generalize gd false (nC p) (λn=>D.bl (y.al n))=A,gd false y.rp (λ_=>D.bl true)=S at *;cases h:y.al x<;>simp[jz,j7,jO,jbU,nd,l,q,j,k,h]
  ·have s:=VC (o:=false) (f:=λn=>D.bl (y.fu n)) d;have t:=fo6 (p:=p) (R:=R) (y:=y) (o:=false);unfold jA;generalize yd false p R y=I at *;unfold bd at *;generalize gd false (nP p) (λn=>D.bl (y.fu n))=A at *;cases h:y.fu x<;>simp[jz,j7,jO,jbU,nd,t,s,h]
  ·unfold jA;generalize yd false p R y=I at *;simp[jz,j7,jO,jbU,nd]
  ·unfold jA;generalize yd false p R y=I at *;simp[jz,j7,jO,jbU,nd]
 | many a =>
  have e:=jcb (p:=p) (R:=R) (y:=y) (o:=false) (o0:=none) b.2.2.1;have u:=jdH a (mis y);have z:lim (a.map D.str).length=true:=jg (by rw[L1];have:=b.1;omega);have B:=jB a;rw[show jA (.many a)=.tup [.str qv,.tup (a.map D.str)] from rfl];unfold nd;generalize yd false p R y=I,a.map D.str=WW at *;generalize(a.map λw=>D.bl (mis y w))=BB at *;have C:jJ (ji [] 0) qT (kO jn 0 "is_missed" (pV 1) (jc (pV 0) pN)) WW (jI [none,some 0] [some I,some (D.tup [D.str qv,D.tup WW]),some (D.str qv)])=some BB:=e;have E:jkb [.lst true BB]=some (.bl (a.any (mis y))):=by
   simp only[jkb,u];simp[List.any_map,Function.comp_def]
  simp[jz,j7,jO,jbU,C,E,z,B,List.any_map,Function.comp_def,-qj]
 | lend g x v =>
  obtain⟨_,_,_,rfl⟩:=b;unfold jA;generalize yd false p R y=I at *;simp[jz,j7,jO,jbU,nd]
theorem jm3(w:WN)(f:WN->Bool):(λn=>if n=w then D.bl true else D.bl (f n))=λn=>D.bl (if n=w then true else f n):=by
 funext n;split<;>rfl
theorem jkV(w:WN):(λn:WN=>if n=w then D.bl true else D.bl true)=λ_=>D.bl true:=by
 funext n;split<;>rfl
theorem jih{ρ:Rh}{i:Nat}{pk:PF}(h0:pV i ρ=some (yd true p R y))(a:pk ρ=some (.str c))(b:y.sv.length<=1000) :
  JX i (jbr 0 "served" jci) pk (pC (.bl true)) ρ=some (.nx (ρ.set i (some (yd true p R { y with sv:=YR y.sv c })))):=by
 rw[jbF h0 (g7 ..) a b,jkV];rfl
theorem jmM{ρ:Rh}{i:Nat}{pk:PF}(h0:pV i ρ=some (yd true p R y))(a:pk ρ=some (.str c))(b:y.rp.length<=1000) :
  JX i (jbr 0 "repaid" jci) pk (pC (.bl true)) ρ=some (.nx (ρ.set i (some (yd true p R { y with rp:=YR y.rp c })))):=by
 rw[jbF h0 (g8 ..) a b,jkV];rfl
theorem jmv{ρ:Rh}{i:Nat}{pk:PF}(h0:pV i ρ=some (yd true p R y))(a:pk ρ=some (.str c))(b:c∈nP p)(d:p.P.length<=6) :
  JX i (jbr 0 "full" jci) pk (pC (.bl true)) ρ=some (.nx (ρ.set i (some (yd true p R { y with fu:=λq=>if q=c then true else y.fu q })))):=by
 rw[jbF h0 (g6 ..) a (by rw[L1];omega),jm3,show YR (nP p) c=nP p from if_pos b];rfl
theorem uS{a1 a2:Option D}:∀{ws:List WN}{y:Sy}{o3:Option D},y.sv.length+ws.length<=1000 ->
  ∃ o3',vW (ji [0] 3) kc (ws.map D.str) [some (yd true p R y),a1,a2,o3]=some (.nx [some (yd true p R { y with sv:=ws.foldl YR y.sv }),a1,a2,o3'])
 | [],y,o3,_=>⟨o3,rfl⟩
 | w::ws,y,o3,h=>by
  rw[M3] at h;have c:=QU y.sv w;obtain⟨o3',e⟩:=uS (a1:=a1) (a2:=a2) (ws:=ws) (y:={ y with sv:=YR y.sv w }) (o3:=some (.str w)) (by show(YR y.sv w).length+_<=_;omega);have a:ji [0] 3 (.str w) [some (yd true p R y),a1,a2,o3]=some [some (yd true p R y),a1,a2,some (.str w)]:=rfl;have b:kc [some (yd true p R y),a1,a2,some (.str w)]=some (.nx [some (yd true p R { y with sv:=YR y.sv w }),a1,a2,some (.str w)]):=jih rfl rfl (by omega);exact⟨o3',by rw[L5,yy,a,L4,b,L4,kK,e];rfl⟩
theorem jgs(ws:List WN):∀ l:List WN,(ws.foldl YR l).length<=l.length+ws.length:=by
 induction ws with
 | nil=>intro l;simp
 | cons w ws a =>
  intro l;have:=a (YR l w);have:=QU l w;rw[X2,M3];omega
theorem jiw(f:p.P.length<=6){r:Rl}(b:ui (nC p) (nP p) r)(hn:nd y r=true)(h1:y.sv.length<=900)(h2:y.rp.length<=900) :
  jM [yd true p R y,jA r]=some (.non,yd true p R (fl y r)):=by
 cases r with
 | two g x =>
  obtain⟨_,_,_,h⟩:=b;rcases h with⟨rfl | rfl,d⟩ | ⟨rfl,d⟩ | rfl | rfl
  ·have s:=jih (p:=p) (R:=R) (y:=y) (c:=x) (ρ:=[some (yd true p R y),some (jA (.two YO x)),some (.str YO),none]) (i:=0) (pk:=p2 jq (pV 1) (pC (.int 1))) rfl rfl (by omega);unfold jA at *;show _=some (D.non,yd true p R { y with sv:=YR y.sv x });generalize yd true p R { y with sv:=YR y.sv x }=J,yd true p R y=I at *;simp[jM,jeq,yw,jbU,s,jfV]
  ·have s:=jih (p:=p) (R:=R) (y:=y) (c:=x) (ρ:=[some (yd true p R y),some (jA (.two km x)),some (.str km),none]) (i:=0) (pk:=p2 jq (pV 1) (pC (.int 1))) rfl rfl (by omega);have t:=jmM (p:=p) (R:=R) (y:={ y with sv:=YR y.sv x }) (c:=x) (ρ:=[some (yd true p R { y with sv:=YR y.sv x }),some (jA (.two km x)),some (.str km),none]) (i:=0) (pk:=p2 jq (pV 1) (pC (.int 1))) rfl rfl (by show y.rp.length<=1000;omega);unfold jA at *;show _=some (D.non,yd true p R { { y with sv:=YR y.sv x } with rp:=YR y.rp x });generalize yd true p R { { y with sv:=YR y.sv x } with rp:=YR y.rp x }=J2,yd true p R { y with sv:=YR y.sv x }=J,yd true p R y=I at *;simp[jM,jeq,yw,jbU,s,t,jfV]
  ·have s:=jmv (p:=p) (R:=R) (y:=y) (c:=x) (ρ:=[some (yd true p R y),some (jA (.two je5 x)),some (.str je5),none]) (i:=0) (pk:=p2 jq (pV 1) (pC (.int 1))) rfl rfl d f;unfold jA at *;show _=some (D.non,yd true p R { y with fu:=λq=>if q=x then true else y.fu q });generalize yd true p R { y with fu:=λq=>if q=x then true else y.fu q }=J,yd true p R y=I at *;simp[jM,jeq,yw,jbU,s,jfV]
  ·exact absurd hn (by simp[nd])
  ·exact absurd hn (by simp[nd])
 | many a =>
  have:=b.1;obtain⟨j,e⟩:=uS (p:=p) (R:=R) (a1:=some (.tup [.str qv,.tup (a.map D.str)])) (a2:=some (.str qv)) (ws:=a) (y:=y) (o3:=none) (by omega);have k:=jB a;have l:=yY a;rw[show jA (.many a)=.tup [.str qv,.tup (a.map D.str)] from rfl];show _=some (D.non,yd true p R { y with sv:=a.foldl YR y.sv });generalize yd true p R { y with sv:=a.foldl YR y.sv }=J,yd true p R y=I,a.map D.str=WW at *;simp[jM,jeq,yw,jbU,e,k,l,jfV]
 | lend g x v=>exact absurd hn (by simp[nd])
end
noncomputable def mn(a b:Int):Int:=if b < a then b else a
noncomputable def jmn(p:Pl)(y:Sy)(q:Qt):Qt:=(q.1,if mis y q.1 then mn (q.2+1) ((gr p).2 q.1) else 0)
noncomputable def drn(G:List Gd)(y:Sy):List WN:=(G.filter λg=>mis y g.2).map (·.1)
noncomputable def obR(p:Pl)(R:List Qt)(y:Sy):List D:=(R.map (jmn p y)).map jK
noncomputable def obA(p:Pl)(y:Sy):List D:=(nC p).map λn=>.bl (y.al n&&!decide (n∈y.rp))
noncomputable def obF(p:Pl)(y:Sy):List D:=(nP p).map λn=>.bl (y.fu n&&!decide (n∈drn p.G y))
noncomputable def ob(p:Pl)(R:List Qt)(y:Sy):D:=.tup [.tup (obR p R y),.tup (obA p y),.tup (obF p y)]
section
variable {p:Pl}{R:List Qt}{y:Sy}{c:WN}{o:Bool}
theorem jiV(a:c∈nC p)(b:c∈(gr p).1){d:Int}:jE [yd false p R y,.str c,.int d]=some (.int (if mis y c then mn (d+1) ((gr p).2 c) else 0)):=by
 have m:=Ko (p:=p) (R:=R) (y:=y) (po:=pV 0) (pa:=pV 1) (ρ:=[some (yd false p R y),some (.str c),some (.int d)]) a rfl rfl;have e:=wM (o:=false) (f:=(gr p).2) b;have g:=fo3 (p:=p) (R:=R) (y:=y) (o:=false);have i:jj2 [.int (d+1),.int ((gr p).2 c)]=some (.int (mn (d+1) ((gr p).2 c))):=rfl;generalize yd false p R y=I,dct false (gr p).1 (gr p).2=G at *;cases h:mis y c<;>simp[jE,j7,y9,m,g,e,i,h,-qj,-jg6]
theorem xG:∀{G:List Gd}{o0 o1:Option D},(∀ g∈G,g.2∈nC p)->jJ (gT 2 (gC (ji [] 0) (gC (ji [] 1) gN))) (jx (kO jn 0 "is_missed" (pV 2) (jc (pV 1) pN))) (pF (pV 0)) (G.map KY) [o0,o1,some (yd o p R y)]=some ((drn G y).map D.str)
 | [],_,_,_=>rfl
 | g::G,o0,o1,h=>by
  have e:=xG (G:=G) (o0:=some (.str g.1)) (o1:=some (.str g.2)) λg a=>h g (L6 _ a);have a:(gT 2 (gC (ji [] 0) (gC (ji [] 1) gN))) (KY g) [o0,o1,some (yd o p R y)]=some [some (.str g.1),some (.str g.2),some (yd o p R y)]:=rfl;have m:=Ko (p:=p) (R:=R) (y:=y) (po:=pV 2) (pa:=pV 1) (ρ:=[some (.str g.1),some (.str g.2),some (yd o p R y)]) (o:=o) (h g L7) rfl rfl;have q:jx (kO jn 0 "is_missed" (pV 2) (jc (pV 1) pN)) [some (.str g.1),some (.str g.2),some (yd o p R y)]=some (mis y g.2):=by
   rw[jiS,m];rfl
  rw[L5,jL,a,L4,q,L4,e];unfold drn;rw[List.filter_cons];cases h:mis y g.2<;>simp[h]
theorem uY:∀{S:List Qt}{o0 o1:Option D},(∀ q∈S,q.1∈nC p/\q.1∈(gr p).1)->jJ (gT 2 (gC (ji [] 0) (gC (ji [] 1) gN))) qT (kH (jc (pF (pV 0)) (jc (kO jE 0 "days_behind" (pV 2) (jc (pV 0) (jc (pV 1) pN))) pN))) (S.map jK) [o0,o1,some (yd o p R y)]=some (obR p S y)
 | [],_,_,_=>rfl
 | q::S,o0,o1,h=>by
  have e:=uY (S:=S) (o0:=some (.str q.1)) (o1:=some (.int q.2)) λg a=>h g (L6 _ a);have a:(gT 2 (gC (ji [] 0) (gC (ji [] 1) gN))) (jK q) [o0,o1,some (yd o p R y)]=some [some (.str q.1),some (.int q.2),some (yd o p R y)]:=rfl;have m:kO jE 0 "days_behind" (pV 2) (jc (pV 0) (jc (pV 1) pN)) [some (.str q.1),some (.int q.2),some (yd o p R y)]=some (.int (if mis y q.1 then mn (q.2+1) ((gr p).2 q.1) else 0)) :=
   wQ rfl (ds:=[.str q.1,.int q.2]) rfl (λ_ _ _ _ _ _ _ _ _=>rfl) (jiV (h q L7).1 (h q L7).2) rfl
  rw[L5,jL,a,L4];unfold obR at *;rw[L5,L5];generalize(S.map (jmn p y)).map jK=SS at *;generalize yd o p R y=I at *;simp[m,e,jmn,jK,jg,-qj]
theorem xW:∀{N:List WN}{o0:Option D},(∀ n∈N,n∈nC p)->jJ (ji [] 0) qT (QN (p2 y6 (Kk 0 "alive" (pV 1)) (pV 0)) (p2 (Kv true) (pV 0) (Kk 0 "repaid" (pV 1)))) (N.map D.str) [o0,some (yd o p R y)]=some (N.map λn=>D.bl (y.al n&&!decide (n∈y.rp)))
 | [],_,_=>rfl
 | n::N,o0,h=>by
  have e:=xW (N:=N) (o0:=some (.str n)) λg a=>h g (L6 _ a);have a:ji [] 0 (.str n) [o0,some (yd o p R y)]=some [some (.str n),some (yd o p R y)]:=rfl;have b:=VC (o:=o) (f:=λn=>D.bl (y.al n)) (h n L7);have d:=jex (o:=o) (neg:=true) (N:=y.rp) (f:=λ_=>D.bl true) (c:=n);have i:=fo5 (p:=p) (R:=R) (y:=y) (o:=o);have j:=fo8 (p:=p) (R:=R) (y:=y) (o:=o);rw[L5,jL,a,L4,L5];generalize(N.map λn=>D.bl (y.al n&&!decide (n∈y.rp)))=NN at *;generalize yd o p R y=I at *;unfold bd td at *;generalize gd o (nC p) (λn=>D.bl (y.al n))=A,gd o y.rp (λ_=>D.bl true)=S at *;cases q:y.al n<;>simp[i,j,b,d,e,q]
theorem uz{T:List WN}{o':Bool}:∀{N:List WN}{o0:Option D},(∀ n∈N,n∈nP p)->jJ (ji [] 0) qT (QN (p2 y6 (Kk 0 "full" (pV 1)) (pV 0)) (p2 (QM true) (pV 0) (pV 2))) (N.map D.str) [o0,some (yd o p R y),some (.lst o' (T.map D.str))]=some (N.map λn=>D.bl (y.fu n&&!decide (n∈T)))
 | [],_,_=>rfl
 | n::N,o0,h=>by
  have e:=uz (o':=o') (T:=T) (N:=N) (o0:=some (.str n)) λg a=>h g (L6 _ a);have a:ji [] 0 (.str n) [o0,some (yd o p R y),some (.lst o' (T.map D.str))]=some [some (.str n),some (yd o p R y),some (.lst o' (T.map D.str))]:=rfl;have b:=VC (o:=o) (f:=λn=>D.bl (y.fu n)) (h n L7);have c:=jdu true o' n T;have d:=fo6 (p:=p) (R:=R) (y:=y) (o:=o);rw[L5,jL,a,L4,L5];generalize(N.map λn=>D.bl (y.fu n&&!decide (n∈T)))=NN at *;generalize yd o p R y=I,T.map D.str=TT at *;unfold bd at *;generalize gd o (nP p) (λn=>D.bl (y.fu n))=A at *;cases q:y.fu n<;>simp[d,b,c,e,q]
theorem jd5(h:PlOk p)(s:R.map (·.1)=(gr p).1):jF [yd false p R y]=some (ob p R y):=by
 have a:=jee h;have v:R.length<=2:=by
  have:=congrArg List.length s;rw[L1] at this;have:=a.l;omega
 have g6:=h.g6;have c6:=h.c;have p6:=h.p6;have b:∀ q∈R,q.1∈nC p/\q.1∈(gr p).1:=λq w=>by
  have m:q.1∈(gr p).1:=by rw[<- s];exact M6.mpr ⟨q,w,rfl⟩
  obtain⟨l,x,e⟩:=a.i q.1 m;exact⟨e▸(h.l l x).m,m⟩
 have z:=xG (p:=p) (R:=R) (y:=y) (o:=false) (G:=p.G) (o0:=none) (o1:=none) λg A=>(h.g g A).2.2;have B:=uY (p:=p) (R:=R) (y:=y) (o:=false) (S:=R) (o0:=none) (o1:=none) b;have t:=xW (p:=p) (R:=R) (y:=y) (o:=false) (N:=nC p) (o0:=none) λn d=>d;have u:=uz (p:=p) (R:=R) (y:=y) (o:=false) (o':=true) (T:=drn p.G y) (N:=nP p) (o0:=none) λn d=>d;have C:frzs (obR p R y)=true:=jR _;have E:frzs (obA p y)=true:=vV (nC p) λn=>y.al n&&!decide (n∈y.rp);have F:frzs (obF p y)=true:=vV (nP p) λn=>y.fu n&&!decide (n∈drn p.G y);have H:lim (p.G.map KY).length=true:=jg (by rw[L1];omega);have l2:lim (R.map jK).length=true:=jg (by rw[L1];omega);have J:lim ((nC p).map D.str).length=true:=jg (by rw[L1,L1];omega);have K:lim ((nP p).map D.str).length=true:=jg (by rw[L1,L1];omega);have L:=KP p.G;have M:=jR R;have O:=jB (nC p);have P:=jB (nP p);have Q:=fo0 (p:=p) (R:=R) (y:=y) (o:=false);have U:=fo1 (p:=p) (R:=R) (y:=y) (o:=false);have V:=fo2 (p:=p) (R:=R) (y:=y) (o:=false);have W:=fo4 (p:=p) (R:=R) (y:=y) (o:=false);unfold ob;change jJ _ _ _ _ _=some (obA p y) at t;change jJ _ _ _ _ _=some (obF p y) at u;generalize yd false p R y=I at *;generalize(drn p.G y).map D.str=DR at *;generalize obR p R y=RR,obA p y=AA,obF p y=FF,p.G.map KY=GG,R.map jK=QQ at *;generalize(nC p).map D.str=CC at *;generalize(nP p).map D.str=PP at *;have f:jJ (gT 2 (gC (ji [] 0) (gC (ji [] 1) gN))) (jx (kO jn 0 "is_missed" (pV 2) (jc (pV 1) pN))) (pF (pV 0)) GG (jI [none,none,some 0] [some I,none,none,none,none])=some DR:=z;have j:jJ (gT 2 (gC (ji [] 0) (gC (ji [] 1) gN))) qT (kH (jc (pF (pV 0)) (jc (kO jE 0 "days_behind" (pV 2) (jc (pV 0) (jc (pV 1) pN))) pN))) QQ (jI [none,none,some 0] [some I,some (.lst true DR),none,none,none])=some RR:=B;have k:jJ (ji [] 0) qT (QN (p2 y6 (Kk 0 "alive" (pV 1)) (pV 0)) (p2 (Kv true) (pV 0) (Kk 0 "repaid" (pV 1)))) CC (jI [none,some 0] [some I,some (.lst true DR),some (.lst true RR),none,none])=some AA:=t;have r:jJ (ji [] 0) qT (QN (p2 y6 (Kk 0 "full" (pV 1)) (pV 0)) (p2 (QM true) (pV 0) (pV 2))) PP (jI [none,some 0,some 1] [some I,some (.lst true DR),some (.lst true RR),some (.lst true AA),none])=some FF:=u;simp[jF,j7,yB,Q,U,V,W,f,j,k,r,C,E,F,H,l2,J,K,L,M,O,P,jg,-qj]
end
structure Ol where
 R:List Qt
 al:WN->Bool
 fu:WN->Bool
noncomputable def yZ(p:Pl)(o:Ol):D:=.tup [.tup (o.R.map jK),.tup ((nC p).map λn=>.bl (o.al n)),.tup ((nP p).map λn=>.bl (o.fu n))]
theorem J0(p:Pl)(o:Ol):jq (yZ p o) (.int 0)=some (.tup (o.R.map jK)):=rfl
theorem J1(p:Pl)(o:Ol):jq (yZ p o) (.int 1)=some (.tup ((nC p).map λn=>.bl (o.al n))):=rfl
theorem J2(p:Pl)(o:Ol):jq (yZ p o) (.int 2)=some (.tup ((nP p).map λn=>.bl (o.fu n))):=rfl
theorem P3(o:Bool)(p:Pl):jq (jw o p) (.int 3)=some (.lst false (p.E.map D.str)):=rfl
theorem P6(p:Pl):jq (jw false p) (.int 6)=some (.lst false (p.G.map KY)):=rfl
theorem jdz(p:Pl)(o:Ol):frz (yZ p o)=true:=by
 have a:=jR o.R;have b:=vV (nC p) o.al;have c:=vV (nP p) o.fu;show frz (D.tup [.tup (o.R.map jK),.tup _,.tup _])=true;simp only[frz,frzs,a,b,c,Bool.and_self]
theorem jel(g:WN->D):∀ N:List WN,zpD (N.map D.str) (N.map g)=some (N.map λn=>(KA.str n,g n))
 | []=>rfl
 | n::N=>by rw[L5,L5,zpD,jel g N];rfl
theorem jiA{N:List WN}(h:N.Nodup):(N.map KA.str).Nodup:=by
 induction N with
 | nil=>exact List.nodup_nil
 | cons n N a =>
  obtain⟨b,c⟩:=List.nodup_cons.mp h;rw[L5];refine List.nodup_cons.mpr ⟨λz=>?_,a c⟩;obtain⟨m,d,e⟩:=M6.mp z;exact b (KA.str.inj e▸d)
theorem jgy{N:List WN}(h:N.Nodup)(g:WN->D):YJ (N.map λn=>(KA.str n,g n))=(N.map KA.str,N.map g):=by
 have:=VQ (N.map λn=>(KA.str n,g n)) [] [] (by rw[X8,U2];exact jiA h);unfold YJ;rw[this,X8,X8,U2,U2];rfl
theorem jdd{o:Bool}{N:List WN}(h:N.Nodup)(b:N.length<=1000)(f:WN->Bool):xz [.lst o (N.map D.str),.tup (N.map λn=>.bl (f n))]=some (bd true N f):=by
 have a:=vV N f;have e:(N.map λn=>(KA.str n,D.bl (f n))).map (·.2)=N.map λn=>D.bl (f n):=by rw[U2];rfl
 rw[jeY,jel,L4,e,a,jg (by rw[L1];omega),jgy h];rfl
section
variable {p:Pl}{R:List Qt}{y:Sy}{c:WN}{o:Ol}
theorem jbk:∀{C:List Cl}{o0:Option D},jJ (ji [] 0) qT (pF (p2 jq (pV 0) (pC (.int 0)))) (C.map JH) [o0]=some ((C.map (·.1)).map D.str)
 | [],_=>rfl
 | c::C,o0=>by
  have e:=jbk (C:=C) (o0:=some (JH c));have a:ji [] 0 (JH c) [o0]=some [some (JH c)]:=rfl;have b:jq (JH c) (.int 0)=some (.str c.1):=rfl;rw[L5,jL,a,L4,L5,L5];generalize JH c=cc at *;simp[e,b]
theorem jdr:∀{C:List Qt}{o0:Option D},jJ (ji [] 0) qT (pF (p2 jq (pV 0) (pC (.int 0)))) (C.map jK) [o0]=some ((C.map (·.1)).map D.str)
 | [],_=>rfl
 | c::C,o0=>by
  have e:=jdr (C:=C) (o0:=some (jK c));have a:ji [] 0 (jK c) [o0]=some [some (jK c)]:=rfl;have b:jq (jK c) (.int 0)=some (.str c.1):=rfl;rw[L5,jL,a,L4,L5,L5];generalize jK c=cc at *;simp[e,b]
theorem Yv{f:Str}{pv:PF}{r:Rh}{ns ns':List Str}{l l':List D}{v:D}(a:pv (some (.ins true 0 ns l)::r)=some v)(h:Yz ns l f v=(ns',l'))(hn:ns.length<=900):V0 0 0 f pv (some (.ins true 0 ns l)::r)=some (.nx (some (.ins true 0 ns' l')::r)):=by
 rw[jiN,a,L4];show(bif (0==0)&&decide (ns.length<=900) then some (Out.nx (some (D.ins true 0 (Yz ns l f v).1 (Yz ns l f v).2)::r)) else none)=_;rw[h,X4 hn];rfl
noncomputable abbrev I6(a0 a1 a2 a3 a4 a5:D):D:=.ins true 0 ["claims","pots","guards","greatest","runs","alive"] [a0,a1,a2,a3,a4,a5]
theorem jjE(w:WN)(f:WN->Bool):(λn=>if n=w then D.bl false else D.bl (f n))=λn=>D.bl (if n=w then false else f n):=by
 funext n;split<;>rfl
noncomputable def kil(al:WN->Bool)(K:List WN)(n:WN):Bool:=al n&&!decide (n∈K)
theorem u8{a0 a1 a2 a3 a4:D}{b1 b2 b3:Option D}{N:List WN}(a:N.length<=1000):∀{K:List WN}{al:WN->Bool}{o4:Option D},(∀ k∈K,k∈N) ->
  ∃ o4',vW (ji [0] 4) yr (K.map D.str) [some (I6 a0 a1 a2 a3 a4 (bd true N al)),b1,b2,b3,o4]=some (.nx [some (I6 a0 a1 a2 a3 a4 (bd true N (kil al K))),b1,b2,b3,o4'])
 | [],al,o4,_=>⟨o4,by rw[show kil al []=al by funext n;simp[kil]];rfl⟩
 | k::K,al,o4,h=>by
  obtain⟨o4',e⟩:=u8 (a0:=a0) (a1:=a1) (a2:=a2) (a3:=a3) (a4:=a4) (b1:=b1) (b2:=b2) (b3:=b3) a (K:=K) (al:=λn=>if n=k then false else al n) (o4:=some (.str k)) λx c=>h x (L6 _ c);have d:ji [0] 4 (.str k) [some (I6 a0 a1 a2 a3 a4 (bd true N al)),b1,b2,b3,o4]=some [some (I6 a0 a1 a2 a3 a4 (bd true N al)),b1,b2,b3,some (.str k)]:=rfl;have g:yr [some (I6 a0 a1 a2 a3 a4 (bd true N al)),b1,b2,b3,some (.str k)]=some (.nx [some (I6 a0 a1 a2 a3 a4 (bd true N λn=>if n=k then false else al n)),b1,b2,b3,some (.str k)]):=by
   have:=jbF (ρ:=[some (I6 a0 a1 a2 a3 a4 (bd true N al)),b1,b2,b3,some (.str k)]) (i:=0) (L:=jbr 0 "alive" jci) (pk:=pV 4) (t:=I6 a0 a1 a2 a3 a4 (bd true N al)) (N:=N) (f:=λn=>.bl (al n)) (kk:=λz=>I6 a0 a1 a2 a3 a4 z) (w:=k) (b:=false) rfl rfl rfl a;rw[jjE,show YR N k=N from if_pos (h k L7)] at this;exact this
  refine⟨o4',?_⟩;rw[L5,yy,d,L4,g,L4,kK,e];have:kil (λn=>if n=k then false else al n) K=kil al (k::K):=by
   funext n
   unfold kil;by_cases q:n=k<;>simp[q]
  rw[this]
theorem jdQ(N:List WN)(f:WN->Int):kt (dct true N f)=true:=by
 have:yg (N.map λn=>D.int (f n))=true:=by rw[vU,List.all_map,List.all_eq_true];intro x _;rfl
 show(true&&yg _)=true;rw[this];rfl
theorem jjJ(h:PlOk p){K:List WN}(q:∀ k∈K,k∈nC p):yk [.ins true 0 [] [],jw false p,yZ p o,.lst false (K.map D.str)]=some (.non,yd true p o.R ⟨kil o.al K,o.fu,[],[]⟩):=by
 have c6:=h.c;have p6:=h.p6;have s:lim (p.C.map JH).length=true:=jg (by rw[L1];omega);have t:lim (p.P.map jK).length=true:=jg (by rw[L1];omega);have u:=Vi p.C;have w:=jR p.P;have y:=KP p.G;have z:=jR o.R;have A:=jB K;have B:=yY K;have E:=ja7 h;have F:=jdQ (gr p).1 (gr p).2;have H:=jdd (o:=true) h.cN (by rw[L1];omega) o.al;have J:=jdd (o:=true) h.pN (by rw[L1];omega) o.fu;have L:=jbk (C:=p.C) (o0:=none);have M:=jdr (C:=p.P) (o0:=none);have O:=P1 false p;have Q:=P2 false p;have S:=P6 p;have T:=J0 p o;have U:=J1 p o;have V:=J2 p o;have W:=vX p;have e:=qd _ W;obtain⟨g,X⟩:=u8 (a0:=.lst true ((nC p).map D.str)) (a1:=.lst true ((nP p).map D.str)) (a2:=.lst false (p.G.map KY)) (a3:=dct true (gr p).1 (gr p).2) (a4:=.tup (o.R.map jK)) (b1:=some (jw false p)) (b2:=some (yZ p o)) (b3:=some (.lst false (K.map D.str))) (N:=nC p) (by rw[L1];omega) (K:=K) (al:=o.al) (o4:=none) q;show _=some (D.non,D.ins true 0 FN [.lst true ((nC p).map D.str),.lst true ((nP p).map D.str),.lst false (p.G.map KY),dct true (gr p).1 (gr p).2,.tup (o.R.map jK),bd true (nC p) (kil o.al K),bd true (nP p) o.fu,.dK true [] [],.dK true [] []]);generalize bd true (nC p) (kil o.al K)=aK,bd true (nC p) o.al=a5,bd true (nP p) o.fu=a6,dct true (gr p).1 (gr p).2=a3 at *;generalize((nC p).map λn=>D.bl (o.al n))=B1 at *;generalize((nP p).map λn=>D.bl (o.fu n))=B2 at *;generalize Y:(nC p).map D.str=CC at *;generalize Z:(nP p).map D.str=PP,jw false p=EP,yZ p o=EO,p.G.map KY=GG,o.R.map jK=RR,p.C.map JH=XC,p.P.map jK=XP,K.map D.str=KK at *;have i:jJ (ji [] 0) qT (pF (p2 jq (pV 0) (pC (.int 0)))) XC [none]=some CC:=L;have j:jJ (ji [] 0) qT (pF (p2 jq (pV 0) (pC (.int 0)))) XP [none]=some PP:=M
 let r:Rh:=[some EP,some EO,some (.lst false KK),none]
 let b:Rh:=[some EP,some EO,some (.lst false KK),g]
 have a:r=[some EP,some EO,some (.lst false KK),none]:=rfl;have d:b=[some EP,some EO,some (.lst false KK),g]:=rfl;have m:∀ x:Option D,jI [none] (x::r)=[none]:=λ_=>rfl;have s0:=Yv (f:="claims") (pv:=vR (K1 (p2 jq (pV 1) (pC (.int 1)))) (ji [] 0) qT (pF (p2 jq (pV 0) (pC (.int 0)))) [none]) (r:=r) (ns:=[]) (l:=[]) (ns':=["claims"]) (l':=[.lst true CC]) (v:=.lst true CC) (by rw[jeK,m];rw[a];simp[O,u,s,i]) rfl (by decide);have s1:=Yv (f:="pots") (pv:=vR (K1 (p2 jq (pV 1) (pC (.int 2)))) (ji [] 0) qT (pF (p2 jq (pV 0) (pC (.int 0)))) [none]) (r:=r) (ns:=["claims"]) (l:=[.lst true CC]) (ns':=["claims","pots"]) (l':=[.lst true CC,.lst true PP]) (v:=.lst true PP) (by rw[jeK,m];rw[a];simp[Q,w,t,j]) rfl (by decide);have s2:=Yv (f:="guards") (pv:=pF (p2 jq (pV 1) (pC (.int 6)))) (r:=r) (ns:=["claims","pots"]) (l:=[.lst true CC,.lst true PP]) (ns':=["claims","pots","guards"]) (l':=[.lst true CC,.lst true PP,.lst false GG]) (v:=.lst false GG) (by rw[a];simp[S,y]) rfl (by decide);have s3:=Yv (f:="greatest") (pv:=yh vC (jc (pV 1) pN)) (r:=r) (ns:=["claims","pots","guards"]) (l:=[.lst true CC,.lst true PP,.lst false GG]) (ns':=["claims","pots","guards","greatest"]) (l':=[.lst true CC,.lst true PP,.lst false GG,a3]) (v:=a3) (by rw[a];simp[E,F,e]) rfl (by decide);have s4:=Yv (f:="runs") (pv:=pF (p2 jq (pV 2) (pC (.int 0)))) (r:=r) (ns:=["claims","pots","guards","greatest"]) (l:=[.lst true CC,.lst true PP,.lst false GG,a3]) (ns':=["claims","pots","guards","greatest","runs"]) (l':=[.lst true CC,.lst true PP,.lst false GG,a3,.tup RR]) (v:=.tup RR) (by rw[a];simp[T,z]) rfl (by decide);have s5:=Yv (f:="alive") (pv:=pCB xz (jc (Kk 0 "claims" (pV 0)) (jc (p2 jq (pV 2) (pC (.int 1))) pN))) (r:=r) (ns:=["claims","pots","guards","greatest","runs"]) (l:=[.lst true CC,.lst true PP,.lst false GG,a3,.tup RR]) (ns':=["claims","pots","guards","greatest","runs","alive"]) (l':=[.lst true CC,.lst true PP,.lst false GG,a3,.tup RR,a5]) (v:=a5) (by rw[a];simp[U,H,show wc ["claims","pots","guards","greatest","runs"] [D.lst true CC,D.lst true PP,D.lst false GG,a3,D.tup RR] "claims" = some (.lst true CC) from rfl]) rfl (by decide);have s6:Kc (pIt (pF (pV 3))) (ji [0] 4) yr (some (I6 (.lst true CC) (.lst true PP) (.lst false GG) a3 (.tup RR) a5)::r)=some (.nx (some (I6 (.lst true CC) (.lst true PP) (.lst false GG) a3 (.tup RR) aK)::b)):=by
  rw[a,d];generalize hI:I6 (.lst true CC) (.lst true PP) (.lst false GG) a3 (.tup RR) a5=I at *;simp[A,B,X]
 have s7:=Yv (f:="full") (pv:=pCB xz (jc (Kk 0 "pots" (pV 0)) (jc (p2 jq (pV 2) (pC (.int 2))) pN))) (r:=b) (ns:=["claims","pots","guards","greatest","runs","alive"]) (l:=[.lst true CC,.lst true PP,.lst false GG,a3,.tup RR,aK]) (ns':=["claims","pots","guards","greatest","runs","alive","full"]) (l':=[.lst true CC,.lst true PP,.lst false GG,a3,.tup RR,aK,a6]) (v:=a6) (by rw[d];simp[V,J,show wc ["claims","pots","guards","greatest","runs","alive"] [D.lst true CC,D.lst true PP,D.lst false GG,a3,D.tup RR,aK] "pots" = some (.lst true PP) from rfl]) rfl (by decide);have s8:=Yv (f:="served") (pv:=pC (.dK true [] [])) (r:=b) (ns:=["claims","pots","guards","greatest","runs","alive","full"]) (l:=[.lst true CC,.lst true PP,.lst false GG,a3,.tup RR,aK,a6]) (ns':=["claims","pots","guards","greatest","runs","alive","full","served"]) (l':=[.lst true CC,.lst true PP,.lst false GG,a3,.tup RR,aK,a6,.dK true [] []]) (v:=.dK true [] []) rfl rfl (by decide);have s9:=Yv (f:="repaid") (pv:=pC (.dK true [] [])) (r:=b) (ns:=["claims","pots","guards","greatest","runs","alive","full","served"]) (l:=[.lst true CC,.lst true PP,.lst false GG,a3,.tup RR,aK,a6,.dK true [] []]) (ns':=FN) (l':=[.lst true CC,.lst true PP,.lst false GG,a3,.tup RR,aK,a6,.dK true [] [],.dK true [] []]) (v:=.dK true [] []) rfl rfl (by decide);have e0:yk [.ins true 0 [] [],EP,EO,.lst false KK]=(yM (some (.ins true 0 [] [])::r)).bind (jfV 0):=rfl;rw[e0];unfold yM;simp only[je4,s0,s1,s2,s3,s4,s5,s6,s7,s8,s9,L4,jdi];rfl
end
noncomputable def stp(k c:Int)(d:D):D:=.tup [.int k,.int c,d]
noncomputable def run(p:Pl)(R:List Qt)(kl:Int):List Rl->Nat->Sy->List D×Sy
 | [],_,y=>([],y)
 | r::rs,k,y=>bif nd y r then(stp kl (k:Int) (ob p R y)::(run p R kl rs (k+1) (fl y r)).1,(run p R kl rs (k+1) (fl y r)).2) else run p R kl rs (k+1) y
noncomputable def fst(y:Sy):List Rl->Nat->Option Nat
 | [],_=>none
 | r::rs,k=>bif nd y r then some k else fst y rs (k+1)
noncomputable def stW(p:Pl)(R:List Qt)(ten:Bool)(kl:Int)(rs:List Rl)(y:Sy):List D :=
 bif ten then [stp kl (((fst y rs 0).getD rs.length:Nat):Int) (ob p R y)] else(run p R kl rs 0 y).1++[stp kl (rs.length:Int) (ob p R (run p R kl rs 0 y).2)]
theorem xV(N:List WN)(f:WN->Bool):yg (N.map λn=>D.bl (f n))=true:=by rw[vU,List.all_map,List.all_eq_true];intro x _;rfl
theorem jcc(N:List Qt):yg (N.map jK)=true:=by rw[vU,List.all_map,List.all_eq_true];intro x _;rfl
theorem jbE(p:Pl)(R:List Qt)(y:Sy):kt (ob p R y)=true:=by
 have a:yg (obR p R y)=true:=jcc _;have b:yg (obA p y)=true:=xV _ _;have c:yg (obF p y)=true:=xV _ _;unfold ob;simp only[kt,yg,a,b,c,Bool.and_self]
theorem jha(p:Pl)(R:List Qt)(y:Sy):frz (ob p R y)=true:=by
 have a:frzs (obR p R y)=true:=jR _;have b:frzs (obA p y)=true:=vV (nC p) λn=>y.al n&&!decide (n∈y.rp);have c:frzs (obF p y)=true:=vV (nP p) λn=>y.fu n&&!decide (n∈drn p.G y);unfold ob;simp only[frz,frzs,a,b,c,Bool.and_self]
theorem jbZ:∀{Q:List Qt}{o0:Option D},jJ (ji [] 0) qT (pF (p2 jq (pV 0) (pC (.int 1)))) (Q.map jK) [o0]=some ((Q.map (·.2)).map D.int)
 | [],_=>rfl
 | c::C,o0=>by
  have e:=jbZ (Q:=C) (o0:=some (jK c));have a:ji [] 0 (jK c) [o0]=some [some (jK c)]:=rfl;have b:jq (jK c) (.int 1)=some (.int c.2):=rfl;rw[L5,jL,a,L4,L5,L5];generalize jK c=cc at *;simp[e,b]
theorem wn(l:List Int):Y6 (l.map D.int)=some l:=by
 induction l with
 | nil=>rfl
 | cons a l b=>simp[Y6,b]
noncomputable def jch(Q:List Qt):Int:=(Q.map (·.2)).sum
theorem uh{Q:List Qt}(h:Q.length<=1000):Yi [.lst false (Q.map jK)]=some (.int (jch Q)):=by
 have e:=jbZ (Q:=Q) (o0:=none);have a:=wn (Q.map (·.2));have f:=jR Q;have l:lim (Q.map jK).length=true:=jg (by rw[L1];omega);unfold jch;generalize Q.map jK=QQ at *;generalize c:(Q.map (·.2)).map D.int=NN at *;have b:jJ (ji [] 0) qT (pF (p2 jq (pV 0) (pC (.int 1)))) QQ (jI [none] [some (.lst false QQ)])=some NN:=e;simp[Yi,j7,VG,b,f,l,a]
section
variable {p:Pl}{R:List Qt}{y:Sy}{a0 a2 a4:Option D}{x:Od}{kl:Int}
theorem wV{r:Rl}(a:ui (nC p) (nP p) r){ρ:Rh}{po pa:PF}{o:Bool}(h0:po ρ=some (yd o p R y))(h1:pa ρ=some (jA r)):kO jz 0 "needs" po (jc pa pN) ρ=some (.bl (nd y r)) :=
 wQ h0 (ds:=[jA r]) (by simp[h1]) (λ_ _ _ _ _ _ _ _ _=>rfl) (by rw[show fzs [jA r]=[jA r] by rw[fzs,qd _ (QX r)];rfl];exact jf5 a) rfl
theorem Kg(h:PlOk p)(a:R.map (·.1)=(gr p).1){ρ:Rh}{po:PF}{o:Bool}(h0:po ρ=some (yd o p R y)):kO jF 0 "outline_behind" po pN ρ=some (ob p R y) :=
 wQ h0 (ds:=[]) rfl (λ_ _ _ _ _ _ _ _ _=>rfl) (jd5 h a) (jbE p R y)
noncomputable abbrev fr(a0:Option D)(x:Od)(a2:Option D)(kl:Int)(a4:Option D)(I:D)(S:List D)(o7 o8:Option D):Rh:=[a0,some (jT false x),a2,some (.int kl),a4,some I,some (.lst true S),o7,o8]
theorem O1(o:Bool)(x:Od):jq (jT o x) (.int 1)=some (.lst false (x.2.1.map jK)):=rfl
theorem O2(o:Bool)(x:Od):jq (jT o x) (.int 2)=some (.lst o (x.2.2.map jA)):=rfl
theorem jeC{r:Rl}(a:ui (nC p) (nP p) r)(hn:nd y r=false){S:List D}{k:Int} :
  j8 (fr a0 x a2 kl a4 (yd true p R y) S (some (.int k)) (some (jA r)))=some (.nx (fr a0 x a2 kl a4 (yd true p R y) S (some (.int k)) (some (jA r)))):=by
 have m:=wV (p:=p) (R:=R) (y:=y) a (ρ:=fr a0 x a2 kl a4 (yd true p R y) S (some (.int k)) (some (jA r))) (po:=pV 5) (pa:=pV 8) rfl rfl;rw[hn] at m;unfold fr at *;generalize yd true p R y=I,jT false x=X,jA r=Y at *;simp[j8,m,-qj]
theorem jgS(h:PlOk p)(j:R.map (·.1)=(gr p).1)(l:OrOk (nC p) (nP p) x)(s:jch x.2.1 < 10){r:Rl}(d:ui (nC p) (nP p) r)(hn:nd y r=true){S:List D}(u:S.length<=900){k:Int}(h1:y.sv.length<=900)(h2:y.rp.length<=900) :
  j8 (fr a0 x a2 kl a4 (yd true p R y) S (some (.int k)) (some (jA r)))=some (.nx (fr a0 x a2 kl a4 (yd true p R (fl y r)) (S++[stp kl k (ob p R y)]) (some (.int k)) (some (jA r)))):=by
 have m:=wV (p:=p) (R:=R) (y:=y) d (ρ:=fr a0 x a2 kl a4 (yd true p R y) S (some (.int k)) (some (jA r))) (po:=pV 5) (pa:=pV 8) rfl rfl;rw[hn] at m;have b:=Kg (p:=p) (R:=R) (y:=y) h j (ρ:=fr a0 x a2 kl a4 (yd true p R y) S (some (.int k)) (some (jA r))) (po:=pV 5) rfl;have t:=uh (Q:=x.2.1) (by have:=l.p;omega);have n:=O1 false x;have e:=jR x.2.1;have o:=jl _ e;have f:=jiw (p:=p) (R:=R) (y:=y) h.p6 d hn h1 h2;have g:=jgO (m:=jM) (mn:="fill") (pa:=jc (pF (pV 8)) pN) (ρ:=fr a0 x a2 kl a4 (yd true p R y) (S++[stp kl k (ob p R y)]) (some (.int k)) (some (jA r))) (i:=5) (ds:=[jA r]) (h0:=rfl) (by simp[QX r]) (by simp[QX r]) rfl;have q:Qu jM 5 0 "fill" (jc (pF (pV 8)) pN) (fr a0 x a2 kl a4 (yd true p R y) (S++[stp kl k (ob p R y)]) (some (.int k)) (some (jA r)))=some (.non,fr a0 x a2 kl a4 (yd true p R (fl y r)) (S++[stp kl k (ob p R y)]) (some (.int k)) (some (jA r))):=by
  refine g.trans ?_;show(jM [yd true p R y,jA r]).bind _=_;rw[f];rfl
 have a:lim S.length=true:=jg (by omega);have c:¬ (10<=jch x.2.1):=by omega
 clear g;unfold fr stp at *;generalize yd true p R (fl y r)=I2,yd true p R y=I,jT false x=X,jA r=Y,ob p R y=B,x.2.1.map jK=QQ at *;simp[j8,m,b,n,e,o,t,c,a,q,jg,-qj,-jbX]
theorem jf4(h:PlOk p)(d:R.map (·.1)=(gr p).1)(e:OrOk (nC p) (nP p) x)(f:10<=jch x.2.1){r:Rl}(g:ui (nC p) (nP p) r)(hn:nd y r=true){S:List D}(l:S.length<=900){k:Int} :
  ∃ ρ',j8 (fr a0 x a2 kl a4 (yd true p R y) S (some (.int k)) (some (jA r)))=some (.rt (.lst true (S++[stp kl k (ob p R y)])) ρ'):=by
 have m:=wV (p:=p) (R:=R) (y:=y) g (ρ:=fr a0 x a2 kl a4 (yd true p R y) S (some (.int k)) (some (jA r))) (po:=pV 5) (pa:=pV 8) rfl rfl;rw[hn] at m;have b:=Kg (p:=p) (R:=R) (y:=y) h d (ρ:=fr a0 x a2 kl a4 (yd true p R y) S (some (.int k)) (some (jA r))) (po:=pV 5) rfl;have t:=uh (Q:=x.2.1) (by have:=e.p;omega);have i:=O1 false x;have c:=jR x.2.1;have j:=jl _ c;have a:lim S.length=true:=jg (by omega);unfold fr stp at *;generalize yd true p R y=I,jT false x=X,jA r=Y,ob p R y=B,x.2.1.map jK=QQ at *;refine⟨[a0,some X,a2,some (.int kl),a4,some I,none,some (.int k),some Y],?_⟩;simp[j8,m,b,i,c,j,t,f,a,jg,-qj]
theorem jkj{r:Rl}(c:ui (nC p) (nP p) r)(y:Sy):(fl y r).sv.length<=y.sv.length+8/\(fl y r).rp.length<=y.rp.length+8:=by
 cases r with
 | two a x =>
  unfold fl;dsimp only;have:=QU y.sv x;have:=QU y.rp x;split
  ·exact⟨by show y.sv.length<=_;omega,by show y.rp.length<=_;omega⟩
  ·refine⟨by show(YR y.sv x).length<=_;omega,?_⟩;show(if a=km then YR y.rp x else y.rp).length<=_;split<;>omega
 | many b =>
  have:=jgs b y.sv;have:=c.1;exact⟨by show(b.foldl YR y.sv).length<=_;omega,by show y.rp.length<=_;omega⟩
 | lend a x v=>exact⟨by show y.sv.length<=_;omega,by show y.rp.length<=_;omega⟩
theorem hgE(k:Nat)(d:D)(I:D)(S:List D)(o7 o8:Option D):(gT 2 (gC (ji [] 7) (gC (ji [] 8) gN))) (.tup [.int (k:Int),d]) (fr a0 x a2 kl a4 I S o7 o8)=some (fr a0 x a2 kl a4 I S (some (.int (k:Int))) (some d)):=rfl
theorem ud(h:PlOk p)(b:R.map (·.1)=(gr p).1)(c:OrOk (nC p) (nP p) x)(d:jch x.2.1 < 10):∀{rs:List Rl}{k:Nat}{y:Sy}{S:List D}{o7 o8:Option D},(∀ r∈rs,ui (nC p) (nP p) r)->S.length+rs.length<=900->y.sv.length+8*rs.length<=900->y.rp.length+8*rs.length<=900 ->
  ∃ o7' o8',vW (gT 2 (gC (ji [] 7) (gC (ji [] 8) gN))) j8 (yq k (rs.map jA)) (fr a0 x a2 kl a4 (yd true p R y) S o7 o8)=some (.nx (fr a0 x a2 kl a4 (yd true p R (run p R kl rs k y).2) (S++(run p R kl rs k y).1) o7' o8'))
 | [],k,y,S,o7,o8,_,_,_,_=>⟨o7,o8,by rw[show S++(run p R kl [] k y).1=S from N0 _];rfl⟩
 | r::rs,k,y,S,o7,o8,f,i,j,l=>by
  have a:=f r L7;rw[M3] at i j l;rw[L5,yq,yy,hgE,L4];cases hn:nd y r with
  | false =>
   obtain⟨o7',o8',e⟩:=ud h b c d (rs:=rs) (k:=k+1) (y:=y) (S:=S) (o7:=some (.int (k:Int))) (o8:=some (jA r)) (λq g=>f q (L6 _ g)) (by omega) (by omega) (by omega);refine⟨o7',o8',?_⟩;rw[jeC a hn,L4,kK,e,run,hn];rfl
  | true =>
   have:=jkj a y;obtain⟨o7',o8',e⟩:=ud h b c d (rs:=rs) (k:=k+1) (y:=fl y r) (S:=S++[stp kl (k:Int) (ob p R y)]) (o7:=some (.int (k:Int))) (o8:=some (jA r)) (λq g=>f q (L6 _ g)) (by simp;omega) (by omega) (by omega);refine⟨o7',o8',?_⟩;rw[jgS h b c d a hn (by omega) (by omega) (by omega),L4,kK,e,run,hn,List.append_assoc];rfl
theorem xE(h:PlOk p)(b:R.map (·.1)=(gr p).1)(c:OrOk (nC p) (nP p) x)(d:10<=jch x.2.1){S:List D}(f:S.length<=900):∀{rs:List Rl}{k:Nat}{o7 o8:Option D},(∀ r∈rs,ui (nC p) (nP p) r) ->
  (fst y rs k=none/\∃ o7' o8',vW (gT 2 (gC (ji [] 7) (gC (ji [] 8) gN))) j8 (yq k (rs.map jA)) (fr a0 x a2 kl a4 (yd true p R y) S o7 o8)=some (.nx (fr a0 x a2 kl a4 (yd true p R y) S o7' o8'))) \/
  ∃ j ρ',fst y rs k=some j/\vW (gT 2 (gC (ji [] 7) (gC (ji [] 8) gN))) j8 (yq k (rs.map jA)) (fr a0 x a2 kl a4 (yd true p R y) S o7 o8)=some (.rt (.lst true (S++[stp kl (j:Int) (ob p R y)])) ρ')
 | [],k,o7,o8,_=>.inl ⟨rfl,o7,o8,rfl⟩
 | r::rs,k,o7,o8,g=>by
  have a:=g r L7;rw[L5,yq,yy,hgE,L4,fst];cases hn:nd y r with
  | false =>
   rw[jeC a hn,L4,kK];exact xE h b c d f (rs:=rs) (k:=k+1) (λq i=>g q (L6 _ i))
  | true =>
   obtain⟨ρ',e⟩:=jf4 (a0:=a0) (a2:=a2) (a4:=a4) (kl:=kl) h b c d a hn f (k:=(k:Int));exact .inr ⟨k,ρ',rfl,by rw[e];rfl⟩
end
structure OlOk(p:Pl)(o:Ol):Prop where
 r:o.R.map (·.1)=(gr p).1
theorem xT{a b:List D}(h1:yg a=true)(h2:yg b=true):yg (a++b)=true:=by
 rw[vU] at *;rw[List.all_append,h1,h2];rfl
theorem jbG{a b:List D}(h1:frzs a=true)(h2:frzs b=true):frzs (a++b)=true:=by
 rw[Vw] at *;rw[List.all_append,h1,h2];rfl
theorem jds(p:Pl)(R:List Qt)(y:Sy)(k c:Int):kt (stp k c (ob p R y))=true/\frz (stp k c (ob p R y))=true:=by
 unfold stp;simp only[kt,yg,frz,frzs,jbE,jha,Bool.and_self,and_self]
theorem jbO(p:Pl)(R:List Qt)(kl:Int):∀(rs:List Rl) (k:Nat) (y:Sy),yg (run p R kl rs k y).1=true/\frzs (run p R kl rs k y).1=true/\(run p R kl rs k y).1.length<=rs.length
 | [],_,_=>⟨rfl,rfl,M9 _⟩
 | r::rs,k,y=>by
  rw[run];cases nd y r with
  | true =>
   have:=jbO p R kl rs (k+1) (fl y r);have q:=jds p R y kl (k:Int);simp only[cond_true,yg,frzs,this.1,this.2.1,q.1,q.2,Bool.and_self,M3,true_and];omega
  | false =>
   have:=jbO p R kl rs (k+1) y;exact⟨this.1,this.2.1,by simp only[cond_false,M3];omega⟩
theorem jhG(p:Pl)(R:List Qt)(ten:Bool)(kl:Int)(rs:List Rl)(y:Sy):yg (stW p R ten kl rs y)=true/\frzs (stW p R ten kl rs y)=true/\(stW p R ten kl rs y).length<=rs.length+1:=by
 unfold stW;cases ten with
 | true =>
  have q:=jds p R y kl (((fst y rs 0).getD rs.length:Nat):Int);simp only[cond_true,yg,frzs,q.1,q.2,Bool.and_self,M3,List.length_nil,true_and];omega
 | false =>
  have:=jbO p R kl rs 0 y;have q:=jds p R (run p R kl rs 0 y).2 kl (rs.length:Int);refine⟨xT this.1 (by simp only[yg,q.1,Bool.and_self]),jbG this.2.1 (by simp only[frzs,q.2,Bool.and_self]),?_⟩;simp only[cond_false,N5,M3,List.length_nil];omega
noncomputable def ten(x:Od):Bool:=decide (10<=jch x.2.1)
section
variable {p:Pl}{o:Ol}{x:Od}{kl:Int}{K:List WN}
theorem jbL(l:List Rl):Kx [.lst false (l.map jA)]=some (yq 0 (l.map jA)):=by
 show some (yq 0 (fzs (l.map jA)))=_;rw[jl _ (vb l)]
theorem wk(h:PlOk p)(m:OlOk p o)(d:OrOk (nC p) (nP p) x)(z:∀ k∈K,k∈nC p) :
  vJ [jw false p,jT false x,yZ p o,.int kl,.lst false (K.map D.str)]=some (.lst true (stW p o.R (ten x) kl x.2.2 ⟨kil o.al K,o.fu,[],[]⟩)):=by
 have A:=jjJ (o:=o) h z;have u:=vX p;have v:=jdz p o;have w:=jB K;have F:=qJ x;have n:=jbL x.2.2;have q:=vb x.2.2;have s:=O2 false x;have C:=d.r;have f:(((x.2.2.map jA).length:Nat):Int)=(x.2.2.length:Int):=by rw[L1]
 have a:jcr yk 0 (jc (pF (pV 0)) (jc (pF (pV 2)) (jc (pF (pV 4)) pN))) [some (jw false p),some (jT false x),some (yZ p o),some (.int kl),some (.lst false (K.map D.str)),none,none,none,none]=some (yd true p o.R ⟨kil o.al K,o.fu,[],[]⟩):=by
  rw[wz];have:jc (pF (pV 0)) (jc (pF (pV 2)) (jc (pF (pV 4)) pN)) [some (jw false p),some (jT false x),some (yZ p o),some (.int kl),some (.lst false (K.map D.str)),none,none,none,none]=some [jw false p,yZ p o,.lst false (K.map D.str)]:=by simp[u,v,w]
  rw[this,L4,A];simp[u,v,w]
 have g:∀ S:List D,S.length<=900->lim S.length=true:=λS G=>jg (by omega);cases ht:ten x with
 | false =>
  have c:jch x.2.1 < 10:=by have:=of_decide_eq_false ht;omega
  obtain⟨i,l,e⟩:=ud (a0:=some (jw false p)) (a2:=some (yZ p o)) (a4:=some (.lst false (K.map D.str))) (kl:=kl) h m.r d c (rs:=x.2.2) (k:=0) (y:=⟨kil o.al K,o.fu,[],[]⟩) (S:=[]) (o7:=none) (o8:=none) d.k (by simp;omega) (by simp;omega) (by simp;omega);rw[X8] at e;have E:=g _ (N8 (jbO p o.R kl x.2.2 0 ⟨kil o.al K,o.fu,[],[]⟩).2.2 (by omega));have b:=Kg (p:=p) (R:=o.R) (y:=(run p o.R kl x.2.2 0 ⟨kil o.al K,o.fu,[],[]⟩).2) h m.r (ρ:=fr (some (jw false p)) x (some (yZ p o)) kl (some (.lst false (K.map D.str))) (yd true p o.R (run p o.R kl x.2.2 0 ⟨kil o.al K,o.fu,[],[]⟩).2) (run p o.R kl x.2.2 0 ⟨kil o.al K,o.fu,[],[]⟩).1 i l) (po:=pV 5) rfl;unfold stW stp;unfold fr at *;rw[cond_false];generalize run p o.R kl x.2.2 0 ⟨kil o.al K,o.fu,[],[]⟩=Z at *;generalize yd true p o.R Z.2=I2,yd true p o.R ⟨kil o.al K,o.fu,[],[]⟩=I,ob p o.R Z.2=B,jw false p=EP,yZ p o=EO,jT false x=EX,K.map D.str=KK,x.2.2.map jA=RR at *;simp[vJ,j7,qf,a,s,q,n,e,f,b,E,jg,-wz,-qj]
 | true =>
  have c:10<=jch x.2.1:=X6 ht;rcases xE (a0:=some (jw false p)) (a2:=some (yZ p o)) (a4:=some (.lst false (K.map D.str))) (kl:=kl) h m.r d c (S:=[]) (by simp) (rs:=x.2.2) (k:=0) (y:=⟨kil o.al K,o.fu,[],[]⟩) (o7:=none) (o8:=none) d.k with⟨t,i,l,e⟩ | ⟨j,H,t,e⟩
  ·have b:=Kg (p:=p) (R:=o.R) (y:=⟨kil o.al K,o.fu,[],[]⟩) h m.r (ρ:=fr (some (jw false p)) x (some (yZ p o)) kl (some (.lst false (K.map D.str))) (yd true p o.R ⟨kil o.al K,o.fu,[],[]⟩) [] i l) (po:=pV 5) rfl;unfold stW stp;unfold fr at *;rw[cond_true,t];generalize yd true p o.R ⟨kil o.al K,o.fu,[],[]⟩=I,ob p o.R ⟨kil o.al K,o.fu,[],[]⟩=B,jw false p=EP,yZ p o=EO,jT false x=EX,K.map D.str=KK,x.2.2.map jA=RR at *;simp[vJ,j7,qf,a,s,q,n,e,f,b,jg,-wz,-qj]
  ·unfold stW stp;unfold fr stp at e;rw[cond_true,t];generalize yd true p o.R ⟨kil o.al K,o.fu,[],[]⟩=I,ob p o.R ⟨kil o.al K,o.fu,[],[]⟩=B,jw false p=EP,yZ p o=EO,jT false x=EX,K.map D.str=KK,x.2.2.map jA=RR at *;simp[vJ,j7,qf,a,s,q,n,e,jg,-wz,-qj]
theorem xX{a0:Option D}{nm:WN}:∀{X:List Od}{o2:Option D}{x:Od}{t:List Od},X.filter (λx=>x.1==nm)=x::t ->
  ∃ r,vW (ji [] 2) vE (X.map (jT false)) [a0,some (.str nm),o2]=some (.rt (jT false x) r)
 | [],_,_,_,h=>by cases h
 | z::X,o2,x,t,h=>by
  have a:=O0 false z;have b:=qJ z;have c:ji [] 2 (jT false z) [a0,some (.str nm),o2]=some [a0,some (.str nm),some (jT false z)]:=rfl;rw[List.filter_cons] at h;rw[L5,yy,c,L4];cases q:z.1==nm with
  | true =>
   rw[q] at h;cases h;refine⟨[a0,some (.str nm),some (jT false z)],?_⟩;generalize jT false z=X at *;simp[vE,a,q,b]
  | false =>
   rw[q] at h;obtain⟨r,e⟩:=xX (a0:=a0) (nm:=nm) (X:=X) (o2:=some (jT false z)) h;refine⟨r,?_⟩;have d:vE [a0,some (.str nm),some (jT false z)]=some (.nx [a0,some (.str nm),some (jT false z)]):=by
    generalize jT false z=Z at *;simp[vE,a,q]
   rw[d,L4,kK,e]
theorem jb2{nm:WN}{t:List Od}(h:p.X.filter (λx=>x.1==nm)=x::t):vS [jw false p,.str nm]=some (jT false x):=by
 obtain⟨r,e⟩:=xX (a0:=some (jw false p)) (o2:=none) h;have b:=P4 false p;have a:=Ju p.X;have c:=jl _ a;generalize jw false p=PP,jT false x=XX,p.X.map (jT false)=XS at *;simp[vS,j7,Yc,b,a,c,e]
theorem uO{nm:WN}:∀{X:List Od}{o0:Option D},jJ (ji [] 0) (jx (p2 Jd (p2 jq (pV 0) (pC (.int 0))) (pV 1))) (pF (pV 0)) (X.map (jT false)) [o0,some (.str nm)]=some ((X.filter (λx=>x.1==nm)).map (jT false))
 | [],_=>rfl
 | z::X,o0=>by
  have e:=uO (nm:=nm) (X:=X) (o0:=some (jT false z));have a:=O0 false z;have b:=qJ z;have c:ji [] 0 (jT false z) [o0,some (.str nm)]=some [some (jT false z),some (.str nm)]:=rfl;rw[L5,jL,c,L4,List.filter_cons];cases q:z.1==nm with
  | true =>
   rw[if_pos rfl,L5];generalize(X.filter (λx=>x.1==nm)).map (jT false)=XX at *;generalize jT false z=Z at *;simp[e,a,q,b]
  | false =>
   rw[if_neg (by exact M4)];generalize(X.filter (λx=>x.1==nm)).map (jT false)=XX at *;generalize jT false z=Z at *;simp[e,a,q]
theorem xK(i:p.X.length<=1000){N:List WN}{f:WN->Int}{b0 b1:Option D}:∀{L:List Lk}{q2 q3 q4 r3 r4 r5:Option D},(∀ l∈L,l.1∈N/\∃ y∈p.X,y.1=l.2.2) ->
  (∃ q2' q3' q4' r3' r4' r5',vW (gT 3 (gC (ji [] 2) (gC (ji [] 3) (gC (ji [] 4) gN)))) vm (L.map YD) [b0,some (dct false N f),q2,q3,q4]=some (.nx [b0,some (dct false N f),q2',q3',q4']) /\
   vW (gT 3 (gC (ji [] 3) (gC (ji [] 4) (gC (ji [] 5) gN)))) vP (L.map YD) [some (jw false p),b1,some (dct true N f),r3,r4,r5]=some (.nx [some (jw false p),b1,some (dct true N f),r3',r4',r5'])) \/
  ∃ nm x t r r',p.X.filter (λx=>x.1==nm)=x::t/\vW (gT 3 (gC (ji [] 2) (gC (ji [] 3) (gC (ji [] 4) gN)))) vm (L.map YD) [b0,some (dct false N f),q2,q3,q4]=some (.rt (.str nm) r) /\
   vW (gT 3 (gC (ji [] 3) (gC (ji [] 4) (gC (ji [] 5) gN)))) vP (L.map YD) [some (jw false p),b1,some (dct true N f),r3,r4,r5]=some (.rt (jT false x) r')
 | [],q2,q3,q4,r3,r4,r5,_=>.inl ⟨q2,q3,q4,r3,r4,r5,rfl,rfl⟩
 | l::L,q2,q3,q4,r3,r4,r5,h=>by
  obtain⟨j,z,v,w⟩:=h l L7;have k:=wM (o:=false) (f:=f) j;have s:=wM (o:=true) (f:=f) j;have a:(gT 3 (gC (ji [] 2) (gC (ji [] 3) (gC (ji [] 4) gN)))) (YD l) [b0,some (dct false N f),q2,q3,q4]=some [b0,some (dct false N f),some (.str l.1),some (.int l.2.1),some (.str l.2.2)]:=rfl;have b:(gT 3 (gC (ji [] 3) (gC (ji [] 4) (gC (ji [] 5) gN)))) (YD l) [some (jw false p),b1,some (dct true N f),r3,r4,r5]=some [some (jw false p),b1,some (dct true N f),some (.str l.1),some (.int l.2.1),some (.str l.2.2)]:=rfl;rw[L5,yy,yy,a,b,L4,L4];by_cases q:l.2.1<=f l.1
  ·right
   obtain⟨x,t,e⟩:∃ x t,p.X.filter (λx=>x.1==l.2.2)=x::t:=by
    cases hh:p.X.filter (λx=>x.1==l.2.2) with
    | nil =>
     have m:z∈p.X.filter (λx=>x.1==l.2.2):=List.mem_filter.mpr ⟨v,by simp[w]⟩;rw[hh] at m;cases m
    | cons x t=>exact⟨x,t,rfl⟩
   refine⟨l.2.2,x,t,[b0,some (dct false N f),some (.str l.1),some (.int l.2.1),some (.str l.2.2)],[some (jw false p),b1,some (dct true N f),some (.str l.1),some (.int l.2.1),some (.str l.2.2)],e,?_,?_⟩
   ·generalize dct false N f=A at *;simp[vm,k,q]
   ·have u:=uO (nm:=l.2.2) (X:=p.X) (o0:=none);rw[e,L5] at u;have B:=P4 false p;have C:=Ju p.X;have c:∀ n,p.X.length<=n->n<=1000->lim (p.X.map (jT false)).length=true:=λn I J=>jg (by rw[L1];omega);have d:=qJ x;have E:∀ T:List D,jq (.lst true (jT false x::T)) (.int 0)=some (jT false x):=λT=>by rw[jhx (by decide) (by rw[M3];omega)];rfl
    generalize t.map (jT false)=TT,jT false x=X at *;have c:=c 1000 i (by decide);generalize jw false p=PP,p.X.map (jT false)=XS,dct true N f=A at *;have g:jJ (ji [] 0) (jx (p2 Jd (p2 jq (pV 0) (pC (.int 0))) (pV 1))) (pF (pV 0)) XS (jI [none,some 5] [some PP,b1,some A,some (.str l.1),some (.int l.2.1),some (.str l.2.2)])=some (X::TT):=u;simp[vP,s,q,B,C,c,g,E,d]
  ·have F:vm [b0,some (dct false N f),some (.str l.1),some (.int l.2.1),some (.str l.2.2)]=some (.nx [b0,some (dct false N f),some (.str l.1),some (.int l.2.1),some (.str l.2.2)]):=by
    generalize dct false N f=A at *;simp[vm,k,q]
   have G:vP [some (jw false p),b1,some (dct true N f),some (.str l.1),some (.int l.2.1),some (.str l.2.2)]=some (.nx [some (jw false p),b1,some (dct true N f),some (.str l.1),some (.int l.2.1),some (.str l.2.2)]):=by
    generalize dct true N f=A,jw false p=PP at *;simp[vP,s,q]
   rw[F,G,L4,L4,kK,kK];exact xK i λl H=>h l (L6 _ H)
end
section
variable {p:Pl}{o:Ol}
theorem jhH{S:List Qt}(hn:(S.map (·.1)).Nodup)(a:S.length<=1000):xI [.tup (S.map jK)]=some (dct true (S.map (·.1)) (fnOf S)):=by
 have:=jeZ (o:=true) (S:=S) hn (by omega);rw[jd9] at this;rw[KC];exact this
theorem jaT(h:PlOk p)(a:OlOk p o):(o.R.map (·.1)).Nodup/\o.R.length<=2:=by
 have b:=jee h;refine⟨by rw[a.r];exact b.n,?_⟩;have:=congrArg List.length a.r;rw[L1] at this;have:=b.l;omega
theorem jij(h:PlOk p):∀ l∈p.L,l.1∈(gr p).1:=by
 have d:∀(L:List Lk) (S:Gw),(∀ c∈S.1,c∈(L.foldl grow S).1)/\∀ l∈L,l.1∈(L.foldl grow S).1:=by
  intro L
  induction L with
  | nil=>intro S;exact⟨λc a=>a,λl b=>nomatch b⟩
  | cons x L e =>
   intro S;have k:=e (grow S x);have m:∀ c,c∈S.1 \/ c=x.1->c∈(grow S x).1:=λc a=>by
    unfold grow;dsimp only;by_cases q:x.1∈S.1
    ·rw[if_pos q];rcases a with a | rfl
     ·exact a
     ·exact q
    ·rw[if_neg q];simpa using a
   rw[X2];refine⟨λc a=>k.1 c (m c (.inl a)),λl b=>?_⟩;rcases M5.mp b with rfl | b
   ·exact k.1 _ (m _ (.inr rfl))
   ·exact k.2 l b
 exact(d p.L _).2
theorem jgI(h:PlOk p)(s:OlOk p o):∃ x∈p.X,∃ nm,qP [jw false p,yZ p o]=some (.str nm)/\vS [jw false p,.str nm]=some (jT false x)/\kW [jw false p,yZ p o]=some (jT false x):=by
 obtain⟨rn,N⟩:=jaT h s;have hd:=jhH rn (by omega);have d:=J0 p o;have u:=P4 false p;have e:=P5 false p;have b:=Vj p.L;have g:=jl _ b;have B:=vX p;have v:=qd _ B;have zd:fz (dct true (o.R.map (·.1)) (fnOf o.R))=dct false (o.R.map (·.1)) (fnOf o.R):=by
  show D.dK false _ (fzs _)=_;rw[jl _ (wI _ _)];rfl
 have C:∀ l∈p.L,l.1∈o.R.map (·.1)/\∃ y∈p.X,y.1=l.2.2:=λl w=>⟨by rw[s.r];exact jij h l w,(h.l l w).n⟩;have x5:=h.x5;obtain⟨a,c,j⟩:∃ x c,p.X=x::c:=by
  cases hh:p.X with
  | nil=>have:=h.x1;rw[hh] at this;simp at this
  | cons x c=>exact⟨x,c,rfl⟩
 rcases xK (p:=p) (by omega) (f:=fnOf o.R) (b0:=some (jw false p)) (b1:=some (yZ p o)) (q2:=none) (q3:=none) (q4:=none) (r3:=none) (r4:=none) (r5:=none) C with⟨E,F,G,H,I,J,k,m⟩ | ⟨nm,x,t,r,O,i,k,m⟩
 ·have i:p.X.filter (λx=>x.1==a.1)=a::c.filter (λx=>x.1==a.1):=by rw[j,List.filter_cons,if_pos (by simp)]
  have z:jq (.lst false (p.X.map (jT false))) (.int 0)=some (jT false a):=by rw[j,L5,jhx (by decide) (by rw[M3];omega)];rfl
  have K:=O0 false a;have M:=qJ a;refine⟨a,by rw[j];exact L7,a.1,?_,jb2 i,?_⟩
  ·have q:kj [jw false p,dct false (o.R.map (·.1)) (fnOf o.R)]=some (.str a.1):=by
    generalize jw false p=PP,jT false a=XX,p.X.map (jT false)=XS,p.L.map YD=LS,dct false (o.R.map (·.1)) (fnOf o.R)=A at *;simp[kj,j7,Jp,e,b,g,k,u,z,K]
   generalize jw false p=PP,yZ p o=OO,o.R.map jK=RR,dct true (o.R.map (·.1)) (fnOf o.R)=A at *;simp[qP,j7,Vo,d,hd,v,zd,q,-KC]
  ·generalize jw false p=PP,yZ p o=OO,o.R.map jK=RR,jT false a=XX,p.X.map (jT false)=XS,p.L.map YD=LS,dct true (o.R.map (·.1)) (fnOf o.R)=A at *;simp[kW,j7,Yd,d,hd,e,b,g,m,u,z,M,-KC]
 ·refine⟨x,?_,nm,?_,jb2 i,?_⟩
  ·exact(List.mem_filter.mp (by rw[i];exact L7:x∈p.X.filter (λx=>x.1==nm))).1
  ·have q:kj [jw false p,dct false (o.R.map (·.1)) (fnOf o.R)]=some (.str nm):=by
    generalize jw false p=PP,p.L.map YD=LS,dct false (o.R.map (·.1)) (fnOf o.R)=A at *;simp[kj,j7,Jp,e,b,g,k]
   generalize jw false p=PP,yZ p o=OO,o.R.map jK=RR,dct true (o.R.map (·.1)) (fnOf o.R)=A at *;simp[qP,j7,Vo,d,hd,v,zd,q,-KC]
  ·generalize jw false p=PP,yZ p o=OO,o.R.map jK=RR,jT false x=XX,p.L.map YD=LS,dct true (o.R.map (·.1)) (fnOf o.R)=A at *;simp[kW,j7,Yd,d,hd,e,b,g,m,-KC]
noncomputable def die(p:Pl)(o:Ol):List WN:=p.E.filter o.al
noncomputable def sy0(p:Pl)(o:Ol)(k:Nat):Sy:=⟨kil o.al ((die p o).take k),o.fu,[],[]⟩
noncomputable def xf(p:Pl)(o:Ol)(x:Od)(n:Nat):List D:=(List.range n).flatMap λ(k:Nat)=>stW p o.R (ten x) (k:Int) x.2.2 (sy0 p o k)
theorem w8{b:Bool}{N:List WN}{al:WN->Bool}:∀{E:List WN}{o0:Option D},(∀ n∈E,n∈N)->jJ (ji [] 0) (jx (p2 y6 (pV 1) (pV 0))) (pF (pV 0)) (E.map D.str) [o0,some (bd b N al)]=some ((E.filter al).map D.str)
 | [],_,_=>rfl
 | n::E,o0,h=>by
  have e:=w8 (b:=b) (N:=N) (al:=al) (E:=E) (o0:=some (.str n)) λg a=>h g (L6 _ a);have a:ji [] 0 (.str n) [o0,some (bd b N al)]=some [some (.str n),some (bd b N al)]:=rfl;have c:=VC (o:=b) (f:=λn=>D.bl (al n)) (h n L7);rw[L5,jL,a,L4,List.filter_cons];unfold bd at *;generalize gd b N (λn=>D.bl (al n))=A at *;cases q:al n with
  | true =>
   rw[if_pos rfl,L5];generalize(E.filter al).map D.str=NN at *;simp[c,e,q]
  | false =>
   rw[if_neg (by exact M4)];generalize(E.filter al).map D.str=NN at *;simp[c,e,q]
theorem xa(p:Pl)(o:Ol)(x:Od)(a:x.2.2.length<=5):∀ n,yg (xf p o x n)=true/\frzs (xf p o x n)=true/\(xf p o x n).length<=6*n
 | 0=>⟨rfl,rfl,M9 _⟩
 | n+1=>by
  have i:=xa p o x a n;have q:=jhG p o.R (ten x) (n:Int) x.2.2 (sy0 p o n);have e:xf p o x (n+1)=xf p o x n++stW p o.R (ten x) (n:Int) x.2.2 (sy0 p o n):=by
   unfold xf;rw[List.range_succ,List.flatMap_append];simp
  rw[e];exact⟨xT i.1 q.1,jbG i.2.1 q.2.1,by rw[N5];omega⟩
theorem jau(p:Pl)(o:Ol)(x:Od)(n:Nat):xf p o x (n+1)=xf p o x n++stW p o.R (ten x) (n:Int) x.2.2 (sy0 p o n):=by
 unfold xf;rw[List.range_succ,List.flatMap_append];simp
theorem jby(h:PlOk p)(L:OlOk p o){x:Od}{nm:WN}(M:x∈p.X)(O:qP [jw false p,yZ p o]=some (.str nm))(P:vS [jw false p,.str nm]=some (jT false x)) :
  JQ [jw false p,yZ p o]=some (.lst true (xf p o x ((die p o).length+1))):=by
 have d:=h.x x M;have c6:=h.c;have Q:=h.e;have dl:(die p o).length<=6:=N8 (List.length_filter_le ..) Q;have g:=vX p;have y:=qd _ g;have l:=jdz p o;have z:=qd _ l;have m:=qJ x;have T:=qd _ m;have U:lim (p.C.map JH).length=true:=jg (by rw[L1];omega);have V:lim (p.E.map D.str).length=true:=jg (by rw[L1];omega);have W:=Vi p.C;have Y:=jB p.E;have Z:=jbk (C:=p.C) (o0:=none);have zA:=jdd (o:=true) h.cN (by rw[L1];omega) o.al;have B:=w8 (b:=true) (N:=nC p) (al:=o.al) (E:=p.E) (o0:=none) h.me;have j1:=P1 false p;have j3:=P3 false p;have k1:=J1 p o;have a:=kB (j:=((die p o).length:Int)+1) (by omega) (by omega);have s:((((die p o).map D.str).length:Nat):Int)=((die p o).length:Int):=by rw[L1]
 obtain⟨ρ',F,S,t,rfl,H⟩:=vj (G:=ji [] 6) (f:=Qq) (xs:=YG 0 (((die p o).length:Int)+1).toNat) (λi ρ=>∃(S:List D) (t:Option D),ρ=[some (jw false p),some (yZ p o),some (jT false x),some (bd true (nC p) o.al),some (.lst true ((die p o).map D.str)),some (.lst true S),t]/\S=xf p o x i) (by
  rintro i v ρ hv ⟨S,t,rfl,rfl⟩;obtain⟨rfl,hi⟩:=Yg hv;have sl:=zk true (die p o) none (some (0+(i:Int)));have ct:vy (die p o) none (some (0+(i:Int)))=(die p o).take i:=by rw[wo _ (by omega)];congr 1;omega
  rw[ct] at sl;have I:=wk (o:=o) (x:=x) (kl:=(i:Int)) (K:=(die p o).take i) h L d λk hk=>h.me k (List.mem_filter.mp (List.mem_of_mem_take hk)).1;have q:=jhG p o.R (ten x) (i:Int) x.2.2 (sy0 p o i);have qa:=xa p o x d.r i;have o5:=d.r;have zK:=yY ((die p o).take i);refine⟨_,[some (jw false p),some (yZ p o),some (jT false x),some (bd true (nC p) o.al),some (.lst true ((die p o).map D.str)),some (.lst true (xf p o x (i+1))),some (.int (0+(i:Int)))],rfl,.inl ?_,xf p o x (i+1),_,rfl,rfl⟩;rw[jau];have J:(0:Int)+(i:Int)=(i:Int):=by omega
  rw[J] at sl;change vJ _=some (.lst true (stW p o.R (ten x) (i:Int) x.2.2 (sy0 p o i))) at I;refine jg3 (e:=.lst true (stW p o.R (ten x) (i:Int) x.2.2 (sy0 p o i))) ?_ (by show(bif frzs _ then _ else _)=_;rw[q.2.1];rfl) rfl (by omega);have qc:=q.1;generalize stW p o.R (ten x) (i:Int) x.2.2 (sy0 p o i)=ST at *;generalize((die p o).take i).map D.str=TK at *;generalize(die p o).map D.str=DD at *;generalize jw false p=EP,yZ p o=EO,jT false x=EX,xf p o x i=AS at *;simp[sl,y,z,T,g,l,m,zK,I,qc,J]) (ρ:=[some (jw false p),some (yZ p o),some (jT false x),some (bd true (nC p) o.al),some (.lst true ((die p o).map D.str)),some (.lst true []),none]) ⟨[],none,rfl,rfl⟩
 rw[v9,show(((die p o).length:Int)+1).toNat=(die p o).length+1 by omega] at H;rw[show(((die p o).length:Int)+1).toNat=(die p o).length+1 by omega] at F a;subst H;change jJ _ _ _ _ _=some ((die p o).map D.str) at B;generalize xf p o x ((die p o).length+1)=AS,jw false p=EP,yZ p o=EO,jT false x=EX at *;generalize((nC p).map λn=>D.bl (o.al n))=B1 at *;generalize bd true (nC p) o.al=A at *;generalize hDD:(die p o).map D.str=DD at *;generalize hCC:(nC p).map D.str=CC,p.C.map JH=XC,p.E.map D.str=XE at *;have u:jJ (ji [] 0) qT (pF (p2 jq (pV 0) (pC (.int 0)))) XC (jI [none] [some EP,some EO,some EX,none,none,none,none])=some CC:=Z;have w:jJ (ji [] 0) (jx (p2 y6 (pV 1) (pV 0))) (pF (pV 0)) XE (jI [none,some 3] [some EP,some EO,some EX,some A,none,none,none])=some DD:=B;simp[JQ,j7,K7,g,l,y,z,O,P,m,j1,W,U,u,k1,zA,j3,Y,V,w,s,a,F,jg,-jeY]
end
noncomputable def YF:Rl->List Rl
 | .many ws=>[.two YO (ws.headD [])]
 | .two kw x=>if kw=YO \/ kw=km then [.two YO x] else []
 | .lend _ _ _=>[]
noncomputable def jay(x:Od):Od:=(x.1,x.2.1,x.2.2.flatMap YF++x.2.2.drop (x.2.2.length - 1))
noncomputable def jiE(p:Pl):Pl:={ p with P:=[],X:=p.X.map jay,G:=[] }
theorem jb1(r:Rl):(YF r).length<=1:=by
 cases r with
 | many b=>exact M9 _
 | two a x=>rw[show YF (.two a x)=if a=YO \/ a=km then [.two YO x] else [] from rfl];split<;>simp
 | lend _ _ _=>exact U6 _
theorem zD:∀ R:List Rl,(R.flatMap YF).length<=R.length
 | []=>M9 _
 | r::R=>by
  rw[List.flatMap_cons,N5,M3];have:=jb1 r;have:=zD R;omega
theorem jea{C P:List (List Nat)}{r:Rl}(h:ui C P r):∀ y∈YF r,ui C [] y:=by
 cases r with
 | many g =>
  intro y c;rw[M8.mp c];obtain⟨_,e,d,a⟩:=h
  match g,e,d,a with
  | w::g,e,d,_=>exact⟨by decide,by decide,e w L7,.inl ⟨.inl rfl,d w L7⟩⟩
 | two f x =>
  intro y c;rw[show YF (.two f x)=if f=YO \/ f=km then [.two YO x] else [] from rfl] at c;split at c
  ·rename_i b;rw[M8.mp c];obtain⟨_,_,d,a⟩:=h;refine⟨by decide,by decide,d,.inl ⟨.inl rfl,?_⟩⟩;rcases a with a | a | a | a
   ·exact a.2
   ·rcases b with b | b<;>rw[b] at a<;>exact absurd a.1 (by decide)
   ·rcases b with b | b<;>rw[b] at a<;>exact absurd a (by decide)
   ·rcases b with b | b<;>rw[b] at a<;>exact absurd a (by decide)
  ·cases c
 | lend _ _ _=>intro y c;cases c
theorem jbz{x:Od}{R:List Rl}{w:List Nat}(h:x.2.2=R++[.two kS w]):jay x=(x.1,x.2.1,R.flatMap YF++[.two kS w]):=by
 unfold jay;rw[h,List.flatMap_append,N5,show R.length+[Rl.two kS w].length - 1=R.length from rfl,List.drop_left];have:[Rl.two kS w].flatMap YF=[]:=by simp[YF]
 rw[this,N0]
theorem jji{C P:List (List Nat)}{x:Od}(h:OrOk C P x):OrOk C [] (jay x):=by
 obtain⟨R,w,e⟩:=h.z;have a:=h.r;rw[e,N5] at a;rw[jbz e];have b:=h.k;rw[e] at b;have c:=b _ (U4 _ L7);refine⟨h.nm,h.p,h.q,?_,λr a=>?_,R.flatMap YF,w,rfl⟩
 ·show(R.flatMap YF++[Rl.two kS w]).length<=5;rw[N5];have:=zD R;have a:R.length+1<=5:=a;show _+1<=5;omega
 ·rcases N3.mp a with a | a
  ·obtain⟨q,d,f⟩:=List.mem_flatMap.mp a;exact jea (b q (List.mem_append_left _ d)) r f
  ·rw[M8.mp a];obtain⟨_,_,g,_⟩:=c;exact⟨by decide,by decide,g,.inr (.inr (.inr rfl))⟩
theorem jiL{p:Pl}(h:PlOk p):PlOk (jiE p) where
 nm:=h.nm
 c:=h.c
 nC:=h.nC
 p6:=U6 _
 nP:=λc d=>nomatch d
 e:=h.e
 nE:=h.nE
 x1:=by show 1<=(p.X.map jay).length;rw[L1];exact h.x1
 x5:=by show(p.X.map jay).length<=5;rw[L1];exact h.x5
 x:=λx i=>by
  obtain⟨y,f,rfl⟩:=M6.mp i;exact jji (h.x y f)
 l2:=h.l2
 l:=λl j=>by
  obtain⟨a,b,c,y,f,e⟩:=h.l l j;exact⟨a,b,c,jay y,List.mem_map_of_mem f,e⟩
 cN:=h.cN
 c1:=h.c1
 pN:=List.nodup_nil
 p1:=λc d=>nomatch d
 g6:=U6 _
 g:=λg k=>nomatch k
 me:=h.me
theorem jdb{C P:List (List Nat)}{r:Rl}(h:ui C P r){Y:List Rl}(s:Y.length<=100){a0 a1 a2 a3 a4:Option D} :
  vH [a0,a1,a2,a3,a4,some (.lst true (Y.map jA)),some (jA r)]=some (.nx [a0,a1,a2,a3,a4,some (.lst true ((Y++YF r).map jA)),some (jA r)]):=by
 have t:=vb Y;have g:lim (Y.map jA).length=true:=jg (by rw[L1];omega);cases r with
 | many b =>
  obtain⟨_,_,_,i⟩:=h
  match b,i with
  | w::b,_ =>
   have c:jq (jA (.many (w::b))) (.int 0)=some (.str qv):=rfl;have d:jq (jA (.many (w::b))) (.int 1)=some (.tup ((w::b).map D.str)):=rfl;have j:jq (.tup ((w::b).map D.str)) (.int 0)=some (.str w):=by rw[jbU (by decide) (by simp;try omega)];rfl
   have e:(Y++YF (.many (w::b))).map jA=Y.map jA++[.tup [.str YO,.str w]]:=by rw[N6];rfl
   rw[e];generalize jA (.many (w::b))=rr,D.tup ((w::b).map D.str)=tt,Y.map jA=YY at *;simp[vH,c,d,j,g,jg]
 | two a x =>
  obtain⟨f,_,_,_⟩:=h;have c:jq (jA (.two a x)) (.int 0)=some (.str a):=rfl;have d:jq (jA (.two a x)) (.int 1)=some (.str x):=rfl;have u:Jd (.str a) (.str qv)=some (.bl false):=by rw[jnl,U3.mpr f]
  by_cases k:a=YO \/ a=km
  ·have e:(Y++YF (.two a x)).map jA=Y.map jA++[.tup [.str YO,.str x]]:=by
    rw[N6,show YF (.two a x)=if a=YO \/ a=km then [.two YO x] else [] from rfl,if_pos k];rfl
   rw[e];generalize jA (.two a x)=rr,Y.map jA=YY at *;rcases k with k | k<;>subst k<;>simp[vH,c,d,g,jg]
  ·have e:(Y++YF (.two a x)).map jA=Y.map jA:=by
    rw[show YF (.two a x)=if a=YO \/ a=km then [.two YO x] else [] from rfl,if_neg k,N0]
   rw[e];have l:¬ a=YO:=λz=>k (.inl z);have m:¬ a=km:=λz=>k (.inr z);generalize jA (.two a x)=rr,Y.map jA=YY at *;have n:(a==[115,104,97,114,101])=false:=U3.mpr f;have o:(a==[112,97,121])=false:=U3.mpr l;have p:(a==[114,101,112,97,121])=false:=U3.mpr m;simp[vH,c,d,n,o,p]
 | lend a x v =>
  obtain⟨⟨f,y⟩,_,_,q⟩:=h;subst q;have c:jq (jA (.lend jc8 x v)) (.int 0)=some (.str jc8):=rfl;have e:(Y++YF (.lend jc8 x v)).map jA=Y.map jA:=by rw[show YF (.lend jc8 x v)=[] from rfl,N0]
  rw[e];generalize jA (.lend jc8 x v)=rr,Y.map jA=YY at *;simp[vH,c]
theorem uI{C P:List (List Nat)}{a0 a1 a2 a3 a4:Option D}:∀{R Y:List Rl}{o6:Option D},(∀ r∈R,ui C P r)->Y.length+R.length<=50 ->
  ∃ q,vW (ji [] 6) vH (R.map jA) [a0,a1,a2,a3,a4,some (.lst true (Y.map jA)),o6]=some (.nx [a0,a1,a2,a3,a4,some (.lst true ((Y++R.flatMap YF).map jA)),q])
 | [],Y,o6,_,_=>⟨o6,by rw[List.flatMap_nil,N0];rfl⟩
 | r::R,Y,o6,h,a=>by
  rw[M3] at a;have f:=jb1 r;obtain⟨q,e⟩:=uI (a0:=a0) (a1:=a1) (a2:=a2) (a3:=a3) (a4:=a4) (R:=R) (Y:=Y++YF r) (o6:=some (jA r)) (λz b=>h z (L6 _ b)) (by rw[N5];omega);have c:=jdb (h r L7) (Y:=Y) (by omega) (a0:=a0) (a1:=a1) (a2:=a2) (a3:=a3) (a4:=a4);have d:ji [] 6 (jA r) [a0,a1,a2,a3,a4,some (.lst true (Y.map jA)),o6]=some [a0,a1,a2,a3,a4,some (.lst true (Y.map jA)),some (jA r)]:=rfl;refine⟨q,?_⟩;rw[L5,yy,d,L4,c,L4,kK,e,List.flatMap_cons,List.append_assoc]
theorem jgZ{R:List Rl}{w:Rl}(a:R.length<=4):vy (R++[w]) (some (-1)) none=[w]:=by
 match R,a with
 | [],_=>rfl
 | [_],_=>rfl
 | [_,_],_=>rfl
 | [_,_,_],_=>rfl
 | [_,_,_,_],_=>rfl
 | _::_::_::_::_::R,h=>exact absurd h (by simp only[M3];omega)
theorem jcu{C P:List (List Nat)}{x:Od}(h:OrOk C P x){Z:List Od}(s:Z.length<=50){a0 o5 o6:Option D} :
  ∃ q,Js [a0,some (.lst true (Z.map (jT true))),some (.str x.1),some (.lst false (x.2.1.map jK)),some (.lst false (x.2.2.map jA)),o5,o6] =
   some (.nx [a0,some (.lst true ((Z++[jay x]).map (jT true))),some (.str x.1),some (.lst false (x.2.1.map jK)),some (.lst false (x.2.2.map jA)),some (.lst true ((x.2.2.flatMap YF).map jA)),q]):=by
 obtain⟨R,w,e⟩:=h.z;have a:=h.r;have f:=h.k;obtain⟨q,b⟩:=uI (a0:=a0) (a1:=some (.lst true (Z.map (jT true)))) (a2:=some (.str x.1)) (a3:=some (.lst false (x.2.1.map jK))) (a4:=some (.lst false (x.2.2.map jA))) (R:=x.2.2) (Y:=[]) (o6:=o6) f (by simp;omega);have g:=jbz e;have c:=jR x.2.1;have i:=jl _ c;have fr:=vb x.2.2;have j:=jl _ fr;have d:=vb (x.2.2.flatMap YF);have t:=zD x.2.2;have l:jft (some (-1)) none (.lst false (x.2.2.map jA))=some (.lst true [.tup [.str kS,.str w]]):=by
  rw[jm8 fr,wB,e,jgZ (by rw[e,N5] at a;have:R.length+1<=5:=a;omega)];rfl
 have m:jG (.lst true ((x.2.2.flatMap YF).map jA)) (.lst true [.tup [.str kS,.str w]])=some (.lst true ((x.2.2.flatMap YF).map jA++[.tup [.str kS,.str w]])):=by
  show(bif lim (((x.2.2.flatMap YF).map jA).length+1)&&(frzs ((x.2.2.flatMap YF).map jA)&&frzs [.tup [.str kS,.str w]]) then some (D.lst true ((x.2.2.flatMap YF).map jA++[.tup [.str kS,.str w]])) else none)=_;rw[d,jg (by rw[L1];omega)];rfl
 have n:(Z++[jay x]).map (jT true)=Z.map (jT true)++[.tup [.str x.1,.lst false (x.2.1.map jK),.lst true ((x.2.2.flatMap YF).map jA++[.tup [.str kS,.str w]])]]:=by
  rw[N6,g];have:x.2.2.flatMap YF=R.flatMap YF:=by rw[e,List.flatMap_append];simp[YF]
  rw[this];show _++[D.tup [.str x.1,.lst false (x.2.1.map jK),.lst true ((R.flatMap YF++[Rl.two kS w]).map jA)]]=_;rw[N6];rfl
 have o:lim (Z.map (jT true)).length=true:=jg (by rw[L1];omega);refine⟨q,?_⟩;rw[n];rw[X8,List.map_nil] at b;have p:lim (x.2.2.map jA).length=true:=jg (by rw[L1];omega);generalize x.2.2.map jA=XR at *;generalize(x.2.2.flatMap YF).map jA=PR at *;generalize x.2.1.map jK=XQ,Z.map (jT true)=ZZ at *;simp[Js,b,l,m,c,i,fr,j,d,o,p,jg]
theorem jb9{C P:List (List Nat)}{a0:Option D}:∀{X Z:List Od}{o2 o3 o4 o5 o6:Option D},(∀ x∈X,OrOk C P x)->Z.length+X.length<=50 ->
  ∃ q2 q3 q4 q5 q6,vW (gT 3 (gC (ji [] 2) (gC (ji [] 3) (gC (ji [] 4) gN)))) Js (X.map (jT false)) [a0,some (.lst true (Z.map (jT true))),o2,o3,o4,o5,o6] =
   some (.nx [a0,some (.lst true ((Z++X.map jay).map (jT true))),q2,q3,q4,q5,q6])
 | [],Z,o2,o3,o4,o5,o6,_,_=>⟨o2,o3,o4,o5,o6,by rw[List.map_nil,List.map_nil,N0];rfl⟩
 | x::X,Z,o2,o3,o4,o5,o6,h,a=>by
  rw[M3] at a;obtain⟨q,b⟩:=jcu (h x L7) (Z:=Z) (by omega) (a0:=a0) (o5:=o5) (o6:=o6);obtain⟨q2,q3,q4,q5,q6,e⟩:=jb9 (a0:=a0) (X:=X) (Z:=Z++[jay x]) (o2:=some (.str x.1)) (o3:=some (.lst false (x.2.1.map jK))) (o4:=some (.lst false (x.2.2.map jA))) (o5:=some (.lst true ((x.2.2.flatMap YF).map jA))) (o6:=q) (λz c=>h z (L6 _ c)) (by rw[N5];show Z.length+1+_<=50;omega);have d:(gT 3 (gC (ji [] 2) (gC (ji [] 3) (gC (ji [] 4) gN)))) (jT false x) [a0,some (.lst true (Z.map (jT true))),o2,o3,o4,o5,o6]=some [a0,some (.lst true (Z.map (jT true))),some (.str x.1),some (.lst false (x.2.1.map jK)),some (.lst false (x.2.2.map jA)),o5,o6]:=rfl;refine⟨q2,q3,q4,q5,q6,?_⟩;rw[L5,yy,d,L4,b,L4,kK,e,L5,List.append_assoc];rfl
theorem jid(x:Od):fz (jT true x)=jT false x:=by
 unfold jT;have a:=jl _ (jR x.2.1);have b:=jl _ (vb x.2.2);generalize x.2.1.map jK=A,x.2.2.map jA=B at *;simp[a,b]
theorem jfB(X:List Od):fzs (X.map (jT true))=X.map (jT false):=by
 rw[JJ,U2];exact List.map_congr_left λx _=>jid x
noncomputable def jfE(p:Pl):D:=.tup [.str p.nm,.lst false (p.C.map JH),.lst true [],.lst false (p.E.map D.str),.lst false ((p.X.map jay).map (jT false)),.lst false (p.L.map YD),.lst true []]
theorem ja5{p:Pl}(h:PlOk p):Vx [jw false p]=some (jfE p):=by
 have x5:=h.x5;obtain⟨r,s,t,u,v,e⟩:=jb9 (a0:=some (jw false p)) (X:=p.X) (Z:=[]) (o2:=none) (o3:=none) (o4:=none) (o5:=none) (o6:=none) h.x (by simp;omega);have f:jq (jw false p) (.int 0)=some (.str p.nm):=rfl;have g:jq (jw false p) (.int 1)=some (.lst false (p.C.map JH)):=rfl;have i:jq (jw false p) (.int 3)=some (.lst false (p.E.map D.str)):=rfl;have j:jq (jw false p) (.int 4)=some (.lst false (p.X.map (jT false))):=rfl;have k:jq (jw false p) (.int 5)=some (.lst false (p.L.map YD)):=rfl;have a:=vX p;have l:=qd _ a;have b:frz (.lst false (p.X.map (jT false)))=true:=by
  have:=a;unfold jw at this;simp only[frz,frzs,M0] at this ⊢;exact this.2.2.2.2.1
 have c:frz (.lst false (p.C.map JH))=true:=by
  have:=a;unfold jw at this;simp only[frz,frzs,M0] at this ⊢;exact this.2.1
 have d:frz (.lst false (p.E.map D.str))=true:=by
  have:=a;unfold jw at this;simp only[frz,frzs,M0] at this ⊢;exact this.2.2.2.1
 have fl:frz (.lst false (p.L.map YD))=true:=by
  have:=a;unfold jw at this;simp only[frz,frzs,M0] at this ⊢;exact this.2.2.2.2.2.1
 have m:=jfB (p.X.map jay);have n:=jl _ (Ju p.X);have o:=Ju (p.X.map jay);have q:lim (p.X.map (jT false)).length=true:=jg (by rw[L1];omega);rw[X8,List.map_nil] at e;unfold jfE;generalize jw false p=EP at *;generalize(p.X.map jay).map (jT true)=XT at *;generalize(p.X.map jay).map (jT false)=XF at *;generalize p.X.map (jT false)=X0,p.C.map JH=C0,p.E.map D.str=E0,p.L.map YD=L0 at *;simp at b c d fl;simp(maxSteps:=400000) [Vx,j7,K9,f,g,i,j,k,a,l,e,b,c,d,fl,m,n,o,q,jg]
theorem jgE(p:Pl):fz (jfE p)=jw false (jiE p):=by
 have h:=vX (jiE p);have z:=qd _ h;rw[<- z];show D.tup (fzs _)=D.tup (fzs _);rfl
def PR(C:List WN)(r:Rl):Prop:=(∃ c∈C,r=.two YO c) \/ ∃ w,r=.two kS w
theorem jil{p:Pl}(h:PlOk p){x:Od}(f:x∈(jiE p).X):∀ r∈x.2.2,PR (nC p) r:=by
 obtain⟨y,g,rfl⟩:=M6.mp f;have d:=h.x y g;obtain⟨R,w,e⟩:=d.z;rw[jbz e];intro r a;rcases N3.mp a with a | a
 ·obtain⟨q,i,a⟩:=List.mem_flatMap.mp a;have k:=jea (d.k q (by rw[e];exact List.mem_append_left _ i)) r a;have:∃ c,r=.two YO c:=by
   cases q with
   | many j=>exact⟨_,M8.mp a⟩
   | two b x =>
    rw[show YF (.two b x)=if b=YO \/ b=km then [.two YO x] else [] from rfl] at a;split at a
    ·exact⟨_,M8.mp a⟩
    ·cases a
   | lend _ _ _=>cases a
  obtain⟨c,rfl⟩:=this;obtain⟨_,_,_,k⟩:=k;refine .inl ⟨c,?_,rfl⟩;rcases k with k | k | k | k
  ·exact k.2
  ·exact absurd k.1 (by decide)
  ·exact absurd k (by decide)
  ·exact absurd k (by decide)
 ·exact .inr ⟨w,M8.mp a⟩
noncomputable def sy(al fu:WN->Bool)(S:List Qt):Sy:=⟨al,fu,S.map (·.1),[]⟩
noncomputable def rn:Rl->WN
 | .two _ c=>c
 | _=>[]
noncomputable def fpl(al fu:WN->Bool):List Rl->Nat->List Qt->List Qt
 | [],_,S=>S
 | r::rs,k,S=>bif nd (sy al fu S) r then fpl al fu rs (k+1) (S++[(rn r,(k:Int))]) else fpl al fu rs (k+1) S
section
variable {p:Pl}{R:List Qt}{al fu:WN->Bool}{kl:Int}{C:List WN}
theorem jky{S:List Qt}{r:Rl}(h:PR C r)(hn:nd (sy al fu S) r=true):∃ c,c∈C/\r=.two YO c/\¬ c∈S.map (·.1):=by
 rcases h with⟨c,a,rfl⟩ | ⟨w,rfl⟩
 ·have:(al c&&!decide (c∈S.map (·.1)))=true:=hn;rw[M0,Bool.not_eq_true'] at this;exact⟨c,a,rfl,of_decide_eq_false this.2⟩
 ·exact absurd (show nd (sy al fu S) (.two kS w)=false from rfl) (by rw[hn];exact Bool.noConfusion)
theorem jni{S:List Qt}{c:WN}{k:Int}(h:¬ c∈S.map (·.1)):fl (sy al fu S) (.two YO c)=sy al fu (S++[(c,k)]):=by
 show Sy.mk al fu (YR (S.map (·.1)) c) []=Sy.mk al fu ((S++[(c,k)]).map (·.1)) [];unfold YR;rw[if_neg h,N6];rfl
noncomputable def got(F:List Qt)(c:WN)(s:Int):Int:=(lkp c F).getD s
noncomputable def lob(p:Pl)(R:List Qt)(al:WN->Bool)(F:List Qt)(s:Int):D:=.tup [.tup ((R.map λq=>(q.1,if al q.1&&decide (s<=got F q.1 s) then mn (q.2+1) ((gr p).2 q.1) else 0)).map jK),.tup ((nC p).map λn=>.bl (al n)),.tup []]
theorem jbW(a:p.P=[]){S F:List Qt}{s:Int}(h:∀ c,c∈S.map (·.1)↔¬ s<=got F c s):ob p R (sy al fu S)=lob p R al F s:=by
 have b:R.map (jmn p (sy al fu S))=R.map λq=>(q.1,if al q.1&&decide (s<=got F q.1 s) then mn (q.2+1) ((gr p).2 q.1) else 0):=List.map_congr_left λq _=>by
  show(q.1,if(al q.1&&!decide (q.1∈S.map (·.1)))=true then mn (q.2+1) ((gr p).2 q.1) else 0)=_;have:(!decide (q.1∈S.map (·.1)))=decide (s<=got F q.1 s):=by
   rw[decide_eq_decide.mpr (h q.1),decide_not,Bool.not_not]
  rw[this]
 have d:obA p (sy al fu S)=(nC p).map λn=>.bl (al n):=List.map_congr_left λn _=>by
  show D.bl (al n&&true)=_;rw[Bool.and_true]
 have e:obF p (sy al fu S)=[]:=by
  unfold obF nP;rw[a];rfl
 unfold ob lob obR;rw[b,d,e]
theorem jeI{c:WN}:∀{S T:List Qt},lkp c (S++T)=(lkp c S).or (lkp c T)
 | [],T=>rfl
 | q::S,T=>by
  rw[List.cons_append,lkp,lkp];split
  ·rfl
  ·exact jeI
theorem jbm{c:WN}{v:Int}:∀{S:List Qt},lkp c S=some v->(c,v)∈S
 | [],h=>by cases h
 | q::S,h=>by
  rw[lkp] at h;split at h
  ·rename_i e;cases h;rw[<- e];exact L7
  ·exact L6 _ (jbm h)
theorem jev{c:WN}{S:List Qt}(h:¬ c∈S.map (·.1)):lkp c S=none:=by
 cases e:lkp c S with
 | none=>rfl
 | some v=>exact absurd (M6.mpr ⟨_,jbm e,rfl⟩) h
theorem wD{S T:List Qt}{k:Int}(a:∀ q∈S,q.2 < k)(b:∀ q∈T,k<=q.2)(c:WN):c∈S.map (·.1)↔¬ k<=got (S++T) c k:=by
 unfold got;rw[jeI];by_cases h:c∈S.map (·.1)
 ·obtain⟨v,e,m⟩:=wE h;have:=a _ m;rw[e];exact⟨λ_=>Int.not_le.mpr this,λ_=>h⟩
 ·rw[jev h];refine⟨λz=>absurd z h,λz=>absurd ?_ z⟩;cases e:lkp c T with
  | none=>exact Int.le_refl _
  | some v=>exact b _ (jbm e)
theorem jbI(j:p.P=[]):∀(rs:List Rl) (k:Nat) (S:List Qt),(∀ r∈rs,PR C r)->(∀ q∈S,q.2 < (k:Int)) ->
  ∃ T,fpl al fu rs k S=S++T/\(∀ q∈T,(k:Int)<=q.2)/\(T.map (·.2)).Pairwise (·<=·)/\(∀ q∈T,q.2 < ((k+rs.length:Nat):Int)) /\
   (run p R kl rs k (sy al fu S)).1=T.map (λq=>stp kl q.2 (lob p R al (fpl al fu rs k S) q.2))/\(run p R kl rs k (sy al fu S)).2=sy al fu (fpl al fu rs k S)/\fst (sy al fu S) rs k=T.head?.map λq=>q.2.toNat
 | [],k,S,_,_=>⟨[],(N0 _).symm,(λ_ h=>nomatch h),List.Pairwise.nil,(λ_ h=>nomatch h),rfl,rfl,rfl⟩
 | r::rs,k,S,l,m=>by
  rw[fpl,run,fst];cases hn:nd (sy al fu S) r with
  | false =>
   rw[cond_false,cond_false,cond_false];obtain⟨T,a,b,c,d,e⟩:=jbI j rs (k+1) S (λq i=>l q (L6 _ i)) (λq i=>by have:=m q i;omega);exact⟨T,a,λq i=>by have:=b q i;omega,c,λq i=>by have:=d q i;rw[M3];omega,e⟩
  | true =>
   rw[cond_true,cond_true,cond_true];obtain⟨c,x,rfl,n⟩:=jky (l r L7) hn;obtain⟨T,a,b,u,d,e,f,g⟩:=jbI j rs (k+1) (S++[(c,(k:Int))]) (λq i=>l q (L6 _ i)) (λq i=>by
    rcases N3.mp i with i | i
    ·have:=m q i;omega
    ·rw[M8.mp i];show(k:Int) < _;omega)
   rw[jni (k:=(k:Int)) n,show rn (.two YO c)=c from rfl];have t:fpl al fu rs (k+1) (S++[(c,(k:Int))])=S++(c,(k:Int))::T:=by rw[a,List.append_assoc];rfl
   have o:∀ q∈(c,(k:Int))::T,(k:Int)<=q.2:=λq i=>by
    rcases M5.mp i with rfl | i
    ·exact Int.le_refl _
    ·have:=b q i;omega
   refine⟨(c,(k:Int))::T,t,o,?_,λq i=>?_,?_,f,?_⟩
   ·rw[L5];exact List.Pairwise.cons (λv w=>by obtain⟨q,i,rfl⟩:=M6.mp w;exact o q (L6 _ i)) u
   ·rcases M5.mp i with rfl | i
    ·show(k:Int) < _;rw[M3];omega
    ·have:=d q i;rw[M3];omega
   ·rw[e,L5];have:=jbW (p:=p) (R:=R) (al:=al) (fu:=fu) j (S:=S) (F:=fpl al fu rs (k+1) (S++[(c,(k:Int))])) (s:=(k:Int)) (by rw[t];exact wD m o);rw[this]
   ·show some k=some ((k:Int).toNat);rw[N9]
theorem KH:∀(rs:List Rl) (k:Nat) (S:List Qt),(∀ r∈rs,PR C r)->(S.map (·.1)).Nodup->((fpl al fu rs k S).map (·.1)).Nodup/\(fpl al fu rs k S).length<=S.length+rs.length
 | [],_,S,_,h=>⟨h,M9 _⟩
 | r::rs,k,S,d,h=>by
  rw[fpl,M3];cases hn:nd (sy al fu S) r with
  | false =>
   have:=KH rs (k+1) S (λq f=>d q (L6 _ f)) h;exact⟨this.1,by rw[cond_false];omega⟩
  | true =>
   obtain⟨c,_,rfl,i⟩:=jky (d r L7) hn;have:=KH rs (k+1) (S++[(c,(k:Int))]) (λq f=>d q (L6 _ f)) (by
    rw[N6,X1];exact⟨h,List.nodup_cons.mpr ⟨nofun,List.nodup_nil⟩,λa j b g e=>i (by have g:b=c:=M8.mp g;rw[<- g,<- e];exact j)⟩)
   rw[N5] at this;exact⟨this.1,N8 this.2 (by show S.length+1+_<=_;omega)⟩
noncomputable def Q4(tn:Bool)(F:List Qt)(n:Nat):List Int:=bif tn then(F.map (·.2)++[(n:Int)]).take 1 else F.map (·.2)++[(n:Int)]
theorem jkF(i:p.P=[]){rs:List Rl}(k:∀ r∈rs,PR C r)(j:Bool):stW p R j kl rs (sy al fu [])=(Q4 j (fpl al fu rs 0 []) rs.length).map λs=>stp kl s (lob p R al (fpl al fu rs 0 []) s):=by
 obtain⟨T,a,b,c,d,e,f,g⟩:=jbI (p:=p) (R:=R) (al:=al) (fu:=fu) (kl:=kl) i rs 0 [] k (λq h=>nomatch h);rw[X8] at a;unfold stW Q4;rw[e,f,g,a];rw[Nat.zero_add] at d;cases j with
 | false =>
  rw[cond_false,cond_false,N6,U2];have:=jbW (p:=p) (R:=R) (al:=al) (fu:=fu) i (S:=T) (F:=T) (s:=(rs.length:Int)) (by
   have:=wD (T:=[]) d (λq h=>nomatch h);rw[N0] at this;exact this)
  rw[this];rfl
 | true =>
  rw[cond_true,cond_true];cases T with
  | nil =>
   have:=jbW (p:=p) (R:=R) (al:=al) (fu:=fu) i (S:=[]) (F:=[]) (s:=(rs.length:Int)) (wD (S:=[]) (T:=[]) (λq h=>nomatch h) (λq h=>nomatch h));rw[this];rfl
  | cons q T =>
   have l:=b q L7;have m:((q.2.toNat:Nat):Int)=q.2:=Int.toNat_of_nonneg l;rw[L5,List.pairwise_cons] at c;have:=jbW (p:=p) (R:=R) (al:=al) (fu:=fu) i (S:=[]) (F:=q::T) (s:=q.2) (wD (S:=[]) (T:=q::T) (λq h=>nomatch h) (λz h=>by
    rcases M5.mp h with rfl | h
    ·exact Int.le_refl _
    ·exact c.1 _ (M6.mpr ⟨z,h,rfl⟩)))
   rw[this];show [stp kl ((q.2.toNat:Nat):Int) _]=_;rw[m];rfl
end
noncomputable def pd(o:Bool)(F:List Qt):D:=.dK o ((F.map (·.1)).map KA.str) ((F.map (·.2)).map D.int)
theorem jeE(c:WN)(F:List Qt):VX ((F.map (·.1)).map KA.str) ((F.map (·.2)).map D.int) (.str c)=(lkp c F).map D.int:=by
 have:=uw c (F.map λq=>(q.1,D.int q.2));rw[U2,U2,je1] at this;rw[U2,U2];exact this
theorem jkJ{o:Bool}{F:List Qt}{c:WN}:Kv true (.str c) (pd o F)=some (.bl (!decide (c∈F.map (·.1)))):=by
 show some (D.bl (true != (VX _ _ _).isSome))=_;rw[jeE];by_cases h:c∈F.map (·.1)
 ·obtain⟨v,e,_⟩:=wE h;rw[e,X4 h];rfl
 ·rw[jev h,X5 h];rfl
theorem jkz{F:List Qt}{c:WN}{k:Int}(h:¬ c∈F.map (·.1)):D.dK true (qD ((F.map (·.1)).map KA.str) ((F.map (·.2)).map D.int) (.str c) (.int k)).1 (qD ((F.map (·.1)).map KA.str) ((F.map (·.2)).map D.int) (.str c) (.int k)).2=pd true (F++[(c,k)]):=by
 unfold qD pd;rw[if_neg (λz=>h (by obtain⟨q,a,e⟩:=M6.mp z;injection e with e;rw[<- e];exact a)),N6,N6,N6,N6];rfl
section
variable {p:Pl}{al fu:WN->Bool}{N:List WN}{x:Od}
theorem jcH{r:Rl}(e:PR N r){S:List Qt}(p:S.length<=1000){k:Int}{a0 a5:Option D} :
  vf [a0,some (bd false N al),some (pd true S),some (.int k),some (jA r),a5]=some (.nx [a0,some (bd false N al),some (pd true (bif nd (sy al fu S) r then S++[(rn r,k)] else S)),some (.int k),some (jA r),a5]):=by
 rcases e with⟨c,g,rfl⟩ | ⟨w,rfl⟩
 ·have a:jq (jA (.two YO c)) (.int 0)=some (.str YO):=rfl;have d:jq (jA (.two YO c)) (.int 1)=some (.str c):=rfl;have b:=VC (o:=false) (f:=λn=>D.bl (al n)) g;have hd:=jkJ (o:=true) (F:=S) (c:=c);have h:lim ((S.map (·.1)).map KA.str).length=true:=jg (by rw[L1,L1];omega);have i:jj0 (pd true S)=some ((S.map (·.1)).map KA.str,(S.map (·.2)).map D.int):=rfl;rw[show nd (sy al fu S) (.two YO c)=(al c&&!decide (c∈S.map (·.1))) from rfl,show rn (.two YO c)=c from rfl];by_cases m:c∈S.map (·.1)
  ·rw[X4 m] at hd ⊢;rw[Bool.not_true,Bool.and_false,cond_false];unfold bd at *;generalize gd false N (λn=>D.bl (al n))=A,pd true S=PS,jA (.two YO c)=Y at *;cases q:al c<;>simp[vf,a,d,b,q,hd]
  ·have j:=jkz (F:=S) (k:=k) m;rw[X5 m] at hd ⊢;rw[Bool.not_false,Bool.and_true];have l:=b;unfold bd at *;generalize gd false N (λn=>D.bl (al n))=A,jA (.two YO c)=Y at *;cases q:al c with
   | false =>
    rw[cond_false];generalize pd true S=PS at *;simp[vf,a,d,b,q]
   | true =>
    rw[cond_true];generalize pd true (S++[(c,k)])=P2,pd true S=PS at *;generalize(S.map (·.1)).map KA.str=KS at *;generalize(S.map (·.2)).map D.int=VS at *;simp[vf,a,d,b,q,hd,i,h,j]
 ·have a:jq (jA (.two kS w)) (.int 0)=some (.str kS):=rfl;rw[show nd (sy al fu S) (.two kS w)=false from rfl,cond_false];generalize bd false N al=A,pd true S=PS,jA (.two kS w)=Y at *;simp[vf,a]
theorem xQ{a0 a5:Option D}:∀{rs:List Rl}{k:Nat}{S:List Qt}{o3 o4:Option D},(∀ r∈rs,PR N r)->S.length+rs.length<=900 ->
  ∃ q3 q4,vW (gT 2 (gC (ji [] 3) (gC (ji [] 4) gN))) vf (yq k (rs.map jA)) [a0,some (bd false N al),some (pd true S),o3,o4,a5]=some (.nx [a0,some (bd false N al),some (pd true (fpl al fu rs k S)),q3,q4,a5])
 | [],k,S,o3,o4,_,_=>⟨o3,o4,rfl⟩
 | r::rs,k,S,o3,o4,a,b=>by
  rw[M3] at b;have c:=jcH (al:=al) (fu:=fu) (a r L7) (S:=S) (by omega) (k:=(k:Int)) (a0:=a0) (a5:=a5);obtain⟨q3,q4,e⟩:=xQ (a0:=a0) (a5:=a5) (rs:=rs) (k:=k+1) (S:=bif nd (sy al fu S) r then S++[(rn r,(k:Int))] else S) (o3:=some (.int (k:Int))) (o4:=some (jA r)) (λq d=>a q (L6 _ d)) (by
   cases nd (sy al fu S) r
   ·rw[cond_false];omega
   ·rw[cond_true,N5];show S.length+1+_<=_;omega)
  have f:(gT 2 (gC (ji [] 3) (gC (ji [] 4) gN))) (.tup [.int (k:Int),jA r]) [a0,some (bd false N al),some (pd true S),o3,o4,a5]=some [a0,some (bd false N al),some (pd true S),some (.int (k:Int)),some (jA r),a5]:=rfl;refine⟨q3,q4,?_⟩;rw[L5,yq,yy,f,L4,c,L4,kK,e,fpl];cases nd (sy al fu S) r<;>rfl
theorem zV{b:Bool}{F:List Qt}(hn:(F.map (·.1)).Nodup):∀{M:List Qt}{o0:Option D},(∀ q∈M,q∈F)->jJ (ji [] 0) qT (pF (p2 y6 (pV 1) (pV 0))) ((M.map (·.1)).map D.str) [o0,some (pd b F)]=some ((M.map (·.2)).map D.int)
 | [],_,_=>rfl
 | q::M,o0,h=>by
  have e:=zV (b:=b) hn (M:=M) (o0:=some (.str q.1)) λz a=>h z (L6 _ a);have c:ji [] 0 (.str q.1) [o0,some (pd b F)]=some [some (.str q.1),some (pd b F)]:=rfl;have i:y6 (pd b F) (.str q.1)=some (.int q.2):=by
   show VX _ _ _=_;rw[jeE,zZ hn q (h q L7)];rfl
  rw[L5,L5,jL,c,L4,L5,L5];generalize(M.map (·.2)).map D.int=MM at *;generalize(M.map (·.1)).map D.str=MK at *;generalize pd b F=A at *;simp[e,i]
theorem jd6(l:List Int):jeR (l.map D.int)=true:=by
 induction l with
 | nil=>rfl
 | cons a l b=>rw[L5,jeR,b];rfl
theorem uH:∀{Q:List Qt}{o0 o1:Option D},jJ (gT 2 (gC (ji [] 0) (gC (ji [] 1) gN))) qT (pF (pV 1)) (Q.map jK) [o0,o1]=some ((Q.map (·.2)).map D.int)
 | [],_,_=>rfl
 | q::Q,o0,o1=>by
  have e:=uH (Q:=Q) (o0:=some (.str q.1)) (o1:=some (.int q.2));have a:(gT 2 (gC (ji [] 0) (gC (ji [] 1) gN))) (jK q) [o0,o1]=some [some (.str q.1),some (.int q.2)]:=rfl;rw[L5,jL,a,L4,L5,L5];generalize(Q.map (·.2)).map D.int=QQ at *;simp[e]
theorem uE{C P:List WN}(v:OrOk C P x)(m:∀ r∈x.2.2,PR N r){F:List Qt}(w:F=fpl al fu x.2.2 0 []) :
  kM [jT false x,bd false N al]=some (.tup [pd true F,.lst true ((Q4 (ten x) F x.2.2.length).map D.int)]):=by
 have Z:=v.r;have hp:=v.p;obtain⟨i,j,l⟩:=xQ (al:=al) (fu:=fu) (a0:=some (jT false x)) (a5:=none) (rs:=x.2.2) (k:=0) (S:=[]) (o3:=none) (o4:=none) m (by simp;omega);rw[<- w] at l;have fn:=KH (al:=al) (fu:=fu) x.2.2 0 [] m List.nodup_nil;obtain⟨T,o,_,hs,_⟩:=jbI (p:=⟨[],[],[],[],[],[],[]⟩) (R:=[]) (al:=al) (fu:=fu) (kl:=0) rfl x.2.2 0 [] m (λq h=>nomatch h);rw[<- w] at fn o;rw[X8] at o;subst o;rw[List.length_nil,Nat.zero_add] at fn;have lF:F.length<=5:=N8 fn.2 Z;have y:=jbL x.2.2;have s:=vb x.2.2;have B:=O2 false x;have E:=O1 false x;have G:JT 2 [some (jT false x),some (bd false N al),some (pd true F),i,j,none]=some ((F.map (·.1)).map D.str,[some (jT false x),some (bd false N al),some (pd false F),i,j,none]):=by
  show(bif frzs ((F.map (·.2)).map D.int) then some (((F.map (·.1)).map KA.str).map kaD,_) else none)=_;rw[kT,wg];rfl
 have pc:=zV (b:=false) fn.1 (M:=F) (o0:=none) λq H=>H;have I:=jd6 (F.map (·.2));have J:jaf [.lst true ((F.map (·.2)).map D.int)]=some (.lst true ((F.map (·.2)).map D.int)):=by
  rw[wN,wn,L4,X4 (by rw[L1,L1];omega),cond_true,jcf (List.Perm.refl _) hs]
 have K:jG (.lst true ((F.map (·.2)).map D.int)) (.lst true [.int (x.2.2.length:Int)])=some (.lst true ((F.map (·.2)++[(x.2.2.length:Int)]).map D.int)):=by
  show(bif lim (((F.map (·.2)).map D.int).length+1)&&(frzs ((F.map (·.2)).map D.int)&&frzs [.int (x.2.2.length:Int)]) then some (D.lst true ((F.map (·.2)).map D.int++[.int (x.2.2.length:Int)])) else none)=_;rw[kT,jg (by rw[L1,L1];omega),N6];rfl
 have L:lim ((F.map (·.1)).map D.str).length=true:=jg (by rw[L1,L1];omega);have a:(((x.2.2.map jA).length:Nat):Int)=(x.2.2.length:Int):=by rw[L1]
 have sl:=wT true (F.map (·.2)++[(x.2.2.length:Int)]) none (some 1);rw[wo _ (by decide)] at sl;have ts:=uH (Q:=x.2.1) (o0:=none) (o1:=none);have ti:=wn (x.2.1.map (·.2));have O:=jR x.2.1;have U:lim (x.2.1.map jK).length=true:=jg (by rw[L1];omega);have V:lim (x.2.2.map jA).length=true:=jg (by rw[L1];omega);have W:=jl _ s;have tq:ten x=decide (10<=jch x.2.1):=rfl;have c:∀ d,Y6 d=some (x.2.1.map (·.2))->jj1 [.lst true d]=some (.int (jch x.2.1)):=λd h=>by unfold jch;simp[h]
 have e:=c _ ti;unfold Q4;have Y:lim (yq 0 (x.2.2.map jA)).length=true:=jg (by rw[v7,L1];omega);change vW _ _ _ [_,_,some (D.dK true [] []),_,_,_]=_ at l;generalize hST:(F.map (·.2)++[(x.2.2.length:Int)])=ST,x.2.2.map jA=RR at *;generalize x.2.2.length=n at *;have sN:(ST.take (1:Int).toNat)=ST.take 1:=rfl;rw[sN] at sl;generalize ST.take 1=ST1 at *;generalize u:ST.map D.int=STd at *;generalize(F.map (·.2)).map D.int=V2 at *;generalize(F.map (·.1)).map D.str=K2 at *;generalize pd true F=PT,pd false F=PF',bd false N al=A,jT false x=X,x.2.1.map jK=QQ at *;generalize H:(x.2.1.map (·.2)).map D.int=d at *;generalize hz:jch x.2.1=z at *;have f:jJ (ji [] 0) qT (pF (p2 y6 (pV 1) (pV 0))) K2 (jI [none,some 2] [some X,some A,some PF',i,j,none])=some V2:=pc;have g:∀ q,jJ (gT 2 (gC (ji [] 0) (gC (ji [] 1) gN))) qT (pF (pV 1)) QQ (jI [none,none] [some X,some A,some PT,i,j,q])=some d:=λ_=>ts;rw[tq];by_cases t:10<=z
 ·rw[X4 t,cond_true];simp[kM,j7,Ys,E,B,y,l,G,L,f,I,J,a,K,O,U,g,e,t,sl,s,W,Y,V,jg,-wl,-wN,-jbQ]
 ·rw[X5 t,cond_false,u];simp[kM,j7,Ys,E,B,y,l,G,L,f,I,J,a,K,O,U,g,e,t,s,W,Y,V,jg,-wl,-wN,-jbQ]
end
section
variable {p:Pl}{o:Ol}{x:Od}
noncomputable def grQ(p:Pl):List Qt:=(gr p).1.map λn=>(n,(gr p).2 n)
theorem Q3{N:List WN}{f:WN->Int}{b:Bool}:∀{M:List WN}{o0:Option D},(∀ n∈M,n∈N)->jJ (ji [] 0) qT (kH (jc (pF (pV 0)) (jc (pF (p2 y6 (pV 1) (pV 0))) pN))) (M.map D.str) [o0,some (dct b N f)]=some ((M.map λn=>(n,f n)).map jK)
 | [],_,_=>rfl
 | n::M,o0,h=>by
  have e:=Q3 (N:=N) (f:=f) (b:=b) (M:=M) (o0:=some (.str n)) λg a=>h g (L6 _ a);have a:ji [] 0 (.str n) [o0,some (dct b N f)]=some [some (.str n),some (dct b N f)]:=rfl;have i:=wM (o:=b) (f:=f) (h n L7);rw[L5,jL,a,L4,L5,L5];generalize(M.map λn=>(n,f n)).map jK=NN at *;generalize dct b N f=A at *;simp[e,i,jK,jg]
theorem uQ(h:PlOk p):kZ [jw false p]=some (.lst true ((grQ p).map jK)):=by
 have k:=jee h;have l2:=h.l2;obtain⟨a,d,g,e,_⟩:=Vl (A:=p.L) (a0:=some (jw false p)) (L:=p.L) (S:=([],λ_=>0)) (m:=0) (o2:=none) (o3:=none) (o4:=none) (by omega) (λx o=>o) ⟨List.nodup_nil,M9 _,λc q=>(nomatch q)⟩;have r:=P5 false p;have j:=Vj p.L;have s:=jl _ j;have t:=Q3 (N:=(gr p).1) (f:=(gr p).2) (b:=false) (M:=(gr p).1) (o0:=none) λn u=>u;have fd:=wI (gr p).1 (gr p).2;have v:=wg (gr p).1;have C:=k.l;have w:lim ((gr p).1.map D.str).length=true:=jg (by rw[L1];omega);have E:qr=yz:=rfl;have y:vW (gT 3 (gC (ji [] 2) (gC (ji [] 3) (gC (ji [] 4) gN)))) qr (p.L.map YD) [some (jw false p),some (.dK true [] []),none,none,none]=some (.nx [some (jw false p),some (dct true (gr p).1 (gr p).2),a,d,g]):=e;have z:JT 1 [some (jw false p),some (dct true (gr p).1 (gr p).2),a,d,g]=some ((gr p).1.map D.str,[some (jw false p),some (dct false (gr p).1 (gr p).2),a,d,g]):=by
  show(bif frzs ((gr p).1.map λn=>D.int ((gr p).2 n)) then some (((gr p).1.map KA.str).map kaD,_) else none)=_;rw[fd,v];rfl
 show _=some (D.lst true (((gr p).1.map λn=>(n,(gr p).2 n)).map jK));generalize((gr p).1.map λn=>(n,(gr p).2 n)).map jK=QQ at *;generalize(gr p).1.map D.str=NN at *;generalize dct true (gr p).1 (gr p).2=A,dct false (gr p).1 (gr p).2=B,jw false p=PP,p.L.map YD=LL at *;have i:jJ (ji [] 0) qT (kH (jc (pF (pV 0)) (jc (pF (p2 y6 (pV 1) (pV 0))) pN))) NN (jI [none,some 1] [some PP,some B,a,d,g])=some QQ:=t;simp[kZ,j7,JD,r,j,s,y,z,w,i,-wl]
theorem uC{N:List WN}{g:WN->Bool}{a b:D}{c:Int}{A:List D}(h:jq a (.int c)=some (.lst false A))(j:jq b (.int c)=some (.tup (N.map λn=>.bl (g n))))(m:∀(i:Nat) (n:WN),N[i]?=some n->∃ d,A[i]?=some d/\jq d (.int 0)=some (.str n))(p:A.length=N.length) :
  ∀{S:List WN}{k:Nat}{o0:Option D},N.drop k=S->k<=N.length ->
   jJ (ji [] 0) qT (kH (jc (pF (p2 jq (p2 jq (p2 jq (pV 1) (pC (.int c))) (pV 0)) (pC (.int 0)))) (jc (pF (p2 jq (p2 jq (pV 2) (pC (.int c))) (pV 0))) pN))) (YG (k:Int) S.length) [o0,some a,some b]=some (S.map λn=>.tup [.str n,.bl (g n)])
 | [],k,o0,_,_=>rfl
 | n::S,k,o0,hd,x=>by
  have r:k < N.length:=by
   rcases Nat.lt_or_ge k N.length with q | q
   ·exact q
   ·rw[List.drop_eq_nil_of_le q] at hd;cases hd
  have o:N[k]?=some n:=by
   have:=congrArg (λl=>l[0]?) hd;simpa [List.getElem?_drop] using this
  have f:N.drop (k+1)=S:=by
   have:=congrArg (λl=>l.drop 1) hd;simpa [List.drop_drop] using this
  obtain⟨d,s,t⟩:=m k n o;have e:=uC (N:=N) (g:=g) h j m p (S:=S) (k:=k+1) (o0:=some (.int (k:Int))) f (by omega);have x1:jq (.lst false A) (.int (k:Int))=some d:=by rw[jhx (by omega) (by omega),N9,s]
  have u:jq (.tup (N.map λn=>D.bl (g n))) (.int (k:Int))=some (.bl (g n)):=by rw[jbU (by omega) (by rw[L1];omega),N9,List.getElem?_map,o];rfl
  have v:YG (k:Int) (S.length+1)=.int (k:Int)::YG ((k+1:Nat):Int) S.length:=by
   unfold YG;rw[List.range_succ_eq_map,L5,U2];refine congr (congrArg _ (by simp)) (List.map_congr_left λi _=>?_);simp only[Function.comp];congr 1
   push_cast
   omega
  have w:ji [] 0 (.int (k:Int)) [o0,some a,some b]=some [some (.int (k:Int)),some a,some b]:=rfl;rw[M3,v,jL,w,L4,L5];generalize(S.map λn=>D.tup [.str n,.bl (g n)])=SS at *;generalize(N.map λn=>D.bl (g n))=NN at *;generalize YG ((k+1:Nat):Int) S.length=RG at *;simp[h,j,x1,u,t,e,jg]
theorem x4{N:List WN}(h:N.Nodup)(c:N.length<=1000)(g:WN->Bool){b:Bool}:xB [.lst b (N.map λn=>.tup [.str n,.bl (g n)])]=some (bd true N g):=by
 have:=xJ (o:=b) (l:=N.map λn=>(n,D.bl (g n))) (by rw[U2];exact(List.map_id N).symm▸h) (λq a=>by obtain⟨x,_,rfl⟩:=M6.mp a;rfl) (by rw[L1];omega);rw[U2,U2,U2] at this;exact this
theorem jcg{N T:List WN}{al:WN->Bool}{k:Nat}{b b':Bool}:∀{M:List WN}{o0:Option D},(∀ n∈M,n∈N) ->
  jJ (ji [] 0) qT (kH (jc (pF (pV 0)) (jc (QN (p2 y6 (pV 1) (pV 0)) (p2 (QM true) (pV 0) (pSl (pV 2) oN (oS (pV 3))))) pN))) (M.map D.str) [o0,some (bd b N al),some (.lst b' (T.map D.str)),some (.int (k:Int))]=some (M.map λn=>.tup [.str n,.bl (kil al (T.take k) n)])
 | [],_,_=>rfl
 | n::M,o0,h=>by
  have e:=jcg (N:=N) (T:=T) (al:=al) (k:=k) (b:=b) (b':=b') (M:=M) (o0:=some (.str n)) λg a=>h g (L6 _ a);have a:ji [] 0 (.str n) [o0,some (bd b N al),some (.lst b' (T.map D.str)),some (.int (k:Int))]=some [some (.str n),some (bd b N al),some (.lst b' (T.map D.str)),some (.int (k:Int))]:=rfl;have c:=VC (o:=b) (f:=λn=>D.bl (al n)) (h n L7);have sl:=zk b' T none (some (k:Int));rw[wo _ (by omega),N9] at sl;have d:=jdu true true n (T.take k);rw[L5,jL,a,L4,L5];show _=some (D.tup [.str n,.bl (al n&&!decide (n∈T.take k))]::_);generalize(M.map λn=>D.tup [.str n,.bl (kil al (T.take k) n)])=MM at *;unfold bd at *;generalize gd b N (λn=>D.bl (al n))=A at *;generalize(T.take k).map D.str=TK at *;generalize T.map D.str=TT at *;cases q:al n<;>simp[c,q,sl,d,e,jg]
theorem jdT(N:List WN)(g:WN->Bool):jeR (N.map λn=>.tup [.str n,.bl (g n)])=true:=by
 induction N with
 | nil=>rfl
 | cons n N a=>rw[L5,jeR,a];rfl
noncomputable abbrev fd(p:Pl)(o:Ol)(x:Od)(S:List D)(o7 o8 o9 o10 o11 o12 o13 o14 o15 o16:Option D):Rh:=[some (jw false p),some (.lst false ((grQ p).map jK)),some (yZ p o),some (jT false x),some (bd true (nC p) o.al),some (.lst true ((die p o).map D.str)),some (.lst true S),o7,o8,o9,o10,o11,o12,o13,o14,o15,o16]
noncomputable def jmk(p:Pl)(al:WN->Bool)(F:List Qt)(s:Int)(q:Qt):Qt:=(q.1,if al q.1&&decide (s<=got F q.1 s) then mn (q.2+1) ((gr p).2 q.1) else 0)
theorem jig{b:Bool}{F:List Qt}{c:WN}{s:Int}:Ki (pd b F) (.str c) (.int s)=some (.int (got F c s)):=by
 show((qV (.str c)).bind λk=>some ((VX ((F.map (·.1)).map KA.str) ((F.map (·.2)).map D.int) k).getD (.int s)))=_;rw[uN,L4,jeE];unfold got;cases lkp c F<;>rfl
theorem jnS{al:WN->Bool}{F:List Qt}{s:Int}{i:Nat}{q:Qt}(k:q.1∈nC p)(hi:(grQ p)[i]?=some (q.1,(gr p).2 q.1)){acc:List Qt}(t:acc.length<=100){S:List D}{o7 o10 o15 o16:Option D} :
  kR (fd p o x S o7 (some (bd true (nC p) al)) (some (pd true F)) o10 (some (.int s)) (some (.lst true (acc.map jK))) (some (.int (i:Int))) (some (jK q)) o15 o16) =
   some (.nx (fd p o x S o7 (some (bd true (nC p) al)) (some (pd true F)) o10 (some (.int s)) (some (.lst true ((acc++[jmk p al F s q]).map jK))) (some (.int (i:Int))) (some (jK q)) (some (.bl (al q.1&&decide (s<=got F q.1 s)))) o16)):=by
 have d:=VC (o:=true) (f:=λn=>D.bl (al n)) k;have j:=jig (b:=true) (F:=F) (c:=q.1) (s:=s);have e:jq (jK q) (.int 0)=some (.str q.1):=rfl;have g:jq (jK q) (.int 1)=some (.int q.2):=rfl;have u:i < (grQ p).length:=(L9.mp hi).1;have l:jq (.lst false ((grQ p).map jK)) (.int (i:Int))=some (jK (q.1,(gr p).2 q.1)):=by
  rw[jhx (by omega) (by rw[L1];omega),N9,List.getElem?_map,hi];rfl
 have h:jq (jK (q.1,(gr p).2 q.1)) (.int 1)=some (.int ((gr p).2 q.1)):=rfl;have r:jj2 [.int (q.2+1),.int ((gr p).2 q.1)]=some (.int (mn (q.2+1) ((gr p).2 q.1))):=rfl;have a:lim (acc.map jK).length=true:=jg (by rw[L1];omega);unfold jmk;rw[N6];show _=some (Out.nx [_,_,_,_,_,_,_,_,_,_,_,_,some (.lst true (acc.map jK++[.tup [.str q.1,.int (if(al q.1&&decide (s<=got F q.1 s))=true then mn (q.2+1) ((gr p).2 q.1) else 0)]])),_,_,_,_]);unfold fd bd at *;generalize gd true (nC p) (λn=>D.bl (o.al n))=A0,gd true (nC p) (λn=>D.bl (al n))=A,pd true F=PT,got F q.1 s=gt,jK (q.1,(gr p).2 q.1)=Y2,jK q=Y,acc.map jK=AA at *;generalize(grQ p).map jK=GG at *;generalize jw false p=EP,yZ p o=EO,jT false x=EX at *;generalize(die p o).map D.str=DD at *;cases q1:al q.1 with
 | false=>simp[kR,e,g,d,q1,a,jg]
 | true =>
  by_cases m:s<=gt
  ·simp[kR,e,g,d,q1,j,m,l,h,r,a,jg,-jg6]
  ·simp[kR,e,g,d,q1,j,m,a,jg]
theorem jah{al:WN->Bool}{N:List WN}{b:Bool}:∀{C:List Cl}{o0:Option D},(∀ c∈C,c.1∈N)->jJ (ji [] 0) qT (pF (p2 y6 (pV 1) (p2 jq (pV 0) (pC (.int 0))))) (C.map JH) [o0,some (bd b N al)]=some ((C.map (·.1)).map λn=>D.bl (al n))
 | [],_,_=>rfl
 | c::C,o0,h=>by
  have e:=jah (al:=al) (N:=N) (b:=b) (C:=C) (o0:=some (JH c)) λg a=>h g (L6 _ a);have a:ji [] 0 (JH c) [o0,some (bd b N al)]=some [some (JH c),some (bd b N al)]:=rfl;have d:=VC (o:=b) (f:=λn=>D.bl (al n)) (h c L7);have i:jq (JH c) (.int 0)=some (.str c.1):=rfl;rw[L5,jL,a,L4,L5,L5];generalize((C.map (·.1)).map λn=>D.bl (al n))=NN at *;unfold bd at *;generalize gd b N (λn=>D.bl (al n))=A,JH c=Y at *;simp[i,d,e]
theorem jnM(h:PlOk p)(w:OlOk p o){al:WN->Bool}{F:List Qt}{s kl:Int}{S:List D}(hS:S.length<=900){o10 o12 o13 o14 o15 o16:Option D} :
  ∃ r12 r13 r14 r15 r16,qQ (fd p o x S (some (.int kl)) (some (bd true (nC p) al)) (some (pd true F)) o10 (some (.int s)) o12 o13 o14 o15 o16) =
   some (.nx (fd p o x (S++[stp kl s (lob p o.R al F s)]) (some (.int kl)) (some (bd true (nC p) al)) (some (pd true F)) o10 (some (.int s)) r12 r13 r14 r15 r16)):=by
 obtain⟨rn,rl⟩:=jaT h w;have c6:=h.c;have y:=jee h;obtain⟨ρ1,Q,v,g,j,a,rfl,t⟩:=vj (G:=gT 2 (gC (ji [10] 13) (gC (ji [10] 14) gN))) (f:=kR) (xs:=yq 0 (o.R.map jK)) (λi ρ=>∃(k:List Qt) (g j a:Option D),ρ=fd p o x S (some (.int kl)) (some (bd true (nC p) al)) (some (pd true F)) o10 (some (.int s)) (some (.lst true (k.map jK))) g j a o16/\k=(o.R.take i).map (jmk p al F s)) (by
  rintro i z ρ B ⟨k,g,j,a,rfl,rfl⟩;obtain⟨d,hd,rfl⟩:=k6 0 _ i z B;rw[List.getElem?_map] at hd;cases hz:o.R[i]? with
  | none=>rw[hz] at hd;cases hd
  | some q =>
   rw[hz] at hd;cases hd;have hi:i < o.R.length:=(L9.mp hz).1;have E:(grQ p)[i]?=some (q.1,(gr p).2 q.1):=by
    have:=congrArg (λl=>l[i]?) w.r;simp only[List.getElem?_map,hz,Option.map_some] at this;unfold grQ;rw[List.getElem?_map,<- this];rfl
   have H:q.1∈nC p:=by
    obtain⟨l,T,e⟩:=y.i q.1 (by rw[<- w.r];exact M6.mpr ⟨q,List.mem_of_getElem? hz,rfl⟩);exact e▸(h.l l T).m
   have b:=jnS (p:=p) (o:=o) (x:=x) (al:=al) (F:=F) (s:=s) H E (acc:=(o.R.take i).map (jmk p al F s)) (by rw[L1,E1];omega) (S:=S) (o7:=some (.int kl)) (o10:=o10) (o15:=a) (o16:=o16);refine⟨_,_,?_,.inl b,_,_,_,_,rfl,?_⟩
   ·rw[Nat.zero_add];rfl
   ·rw[List.take_add_one,hz,N6];rfl) (ρ:=fd p o x S (some (.int kl)) (some (bd true (nC p) al)) (some (pd true F)) o10 (some (.int s)) (some (.lst true [])) o13 o14 o15 o16) ⟨[],o13,o14,o15,rfl,rfl⟩
 rw[v7,L1,List.take_length] at t;have U:=jah (al:=al) (N:=nC p) (b:=true) (C:=p.C) (o0:=none) λc V=>M6.mpr ⟨c,V,rfl⟩;have P:=jR o.R;have W:jfH [.tup (o.R.map jK)]=some (yq 0 (o.R.map jK)):=by
  show(bif frzs (o.R.map jK) then some (yq 0 (o.R.map jK)) else none)=_;rw[P];rfl
 have X:=J0 p o;have Y:=P1 false p;have Z:=Vi p.C;have lC:lim (p.C.map JH).length=true:=jg (by rw[L1];omega);have u:lim S.length=true:=jg (by omega);have fA:=jR v;have fB:=vV (nC p) al;have el:lob p o.R al F s=.tup [.tup (v.map jK),.tup ((nC p).map λn=>.bl (al n)),.tup []]:=by rw[t];rfl
 refine⟨some (.lst true (v.map jK)),g,j,a,some (.tup ((nC p).map λn=>.bl (al n))),?_⟩;rw[el];unfold fd stp bd at *;generalize gd true (nC p) (λn=>D.bl (o.al n))=A0,gd true (nC p) (λn=>D.bl (al n))=A at *;generalize((nC p).map λn=>D.bl (al n))=BB at *;generalize pd true F=PT,v.map jK=AA at *;generalize(grQ p).map jK=GG at *;generalize jw false p=EP,yZ p o=EO,jT false x=EX at *;generalize(die p o).map D.str=DD at *;generalize o.R.map jK=RR,p.C.map JH=CC at *;have I:∀ J K L M O:Option D,jJ (ji [] 0) qT (pF (p2 y6 (pV 1) (p2 jq (pV 0) (pC (.int 0))))) CC (jI [none,some 8] [some EP,some (.lst false GG),some EO,some EX,some A0,some (.lst true DD),some (.lst true S),some (.int kl),some A,some PT,o10,some (.int s),J,K,L,M,O])=some BB:=λ_ _ _ _ _=>U;simp(maxSteps:=400000) [qQ,X,P,W,Q,Y,Z,lC,I,u,fA,fB,jg]
theorem jfW(h:PlOk p)(c:OlOk p o){al:WN->Bool}{F:List Qt}{kl:Int}{T:List Int}(t:T.length<=100){S:List D}(u:S.length<=500){o11 o12 o13 o14 o15 o16:Option D} :
  ∃ r11 r12 r13 r14 r15 r16,jaP 10 (ji [10] 11) qQ (fd p o x S (some (.int kl)) (some (bd true (nC p) al)) (some (pd true F)) (some (.lst true (T.map D.int))) o11 o12 o13 o14 o15 o16) =
   some (.nx (fd p o x (S++T.map λs=>stp kl s (lob p o.R al F s)) (some (.int kl)) (some (bd true (nC p) al)) (some (pd true F)) (some (.lst true (T.map D.int))) r11 r12 r13 r14 r15 r16)):=by
 obtain⟨v,e,U,r11,r12,r13,r14,r15,r16,rfl,a⟩:=jeG (i:=10) (G:=ji [10] 11) (f:=qQ) (o:=true) (l:=T.map D.int) (λi ρ=>∃(U:List D) (r11 r12 r13 r14 r15 r16:Option D),ρ=fd p o x U (some (.int kl)) (some (bd true (nC p) al)) (some (pd true F)) (some (.lst true (T.map D.int))) r11 r12 r13 r14 r15 r16/\U=S++(T.take i).map λs=>stp kl s (lob p o.R al F s)) (by
  rintro j ρ ⟨U,r11,r12,r13,r14,r15,r16,rfl,_⟩;rfl) (by
  rintro i d ρ hd ⟨U,r11,r12,r13,r14,r15,r16,rfl,rfl⟩;rw[List.getElem?_map] at hd;cases hz:T[i]? with
  | none=>rw[hz] at hd;cases hd
  | some k =>
   rw[hz] at hd;cases hd;refine⟨rfl,?_⟩;obtain⟨g,m,n,q,r,b⟩:=jnM (x:=x) h c (kl:=kl) (al:=al) (F:=F) (s:=k) (S:=S++(T.take i).map λs=>stp kl s (lob p o.R al F s)) (by rw[N5,L1,E1];omega) (o10:=some (.lst true (T.map D.int))) (o12:=r12) (o13:=r13) (o14:=r14) (o15:=r15) (o16:=r16);refine⟨_,_,rfl,.inl b,_,_,_,_,_,_,_,rfl,?_⟩;rw[List.take_add_one,hz,N6,<- List.append_assoc];rfl) (ρ:=fd p o x S (some (.int kl)) (some (bd true (nC p) al)) (some (pd true F)) (some (.lst true (T.map D.int))) o11 o12 o13 o14 o15 o16) ⟨S,o11,o12,o13,o14,o15,o16,rfl,by simp⟩
 rw[L1,List.take_length] at a;exact⟨r11,r12,r13,r14,r15,r16,by rw[<- a];exact e⟩
end
section
variable {p:Pl}{o:Ol}{x:Od}
theorem VN(l:List Int):yg (l.map D.int)=true:=by rw[vU,List.all_map,List.all_eq_true];intro x _;rfl
theorem jnR(h:PlOk p)(m:OlOk p o)(q:p.P=[])(i:OrOk (nC p) (nP p) x)(d:∀ r∈x.2.2,PR (nC p) r){k:Nat}{S:List D}(s:S.length<=500){o8 o9 o10 o11 o12 o13 o14 o15 o16:Option D} :
  ∃ r8 r9 r10 r11 r12 r13 r14 r15 r16,JZ (fd p o x S (some (.int (k:Int))) o8 o9 o10 o11 o12 o13 o14 o15 o16)=some (.nx (fd p o x (S++stW p o.R (ten x) (k:Int) x.2.2 (sy0 p o k)) (some (.int (k:Int))) r8 r9 r10 r11 r12 r13 r14 r15 r16)):=by
 have c6:=h.c;have Q:=i.r;have t:=wg (nC p);have e:=vV (nC p) o.al;obtain⟨al,a⟩:∃ al,al=kil o.al ((die p o).take k):=⟨_,rfl⟩;obtain⟨F,f⟩:∃ F,F=fpl al o.fu x.2.2 0 []:=⟨_,rfl⟩;have u:Kn 4 (ji [] 0) qT (kH (jc (pF (pV 0)) (jc (QN (p2 y6 (pV 1) (pV 0)) (p2 (QM true) (pV 0) (pSl (pV 2) oN (oS (pV 3))))) pN))) [none,some 4,some 5,some 7] (fd p o x S (some (.int (k:Int))) o8 o9 o10 o11 o12 o13 o14 o15 o16)=some (.lst true ((nC p).map λn=>.tup [.str n,.bl (al n)]),fd p o x S (some (.int (k:Int))) o8 o9 o10 o11 o12 o13 o14 o15 o16):=by
  have v:JT 4 (fd p o x S (some (.int (k:Int))) o8 o9 o10 o11 o12 o13 o14 o15 o16)=some ((nC p).map D.str,(fd p o x S (some (.int (k:Int))) o8 o9 o10 o11 o12 o13 o14 o15 o16).set 4 (some (bd false (nC p) o.al))):=by
   show(bif frzs ((nC p).map λn=>D.bl (o.al n)) then some (((nC p).map KA.str).map kaD,_) else none)=_;rw[e,t];rfl
  have w:=jcg (N:=nC p) (T:=die p o) (al:=o.al) (k:=k) (b:=false) (b':=true) (M:=nC p) (o0:=none) λn y=>y;rw[jf0,v,L4,jg (by rw[L1,L1];omega),cond_true];have g:jJ (ji [] 0) qT (kH (jc (pF (pV 0)) (jc (QN (p2 y6 (pV 1) (pV 0)) (p2 (QM true) (pV 0) (pSl (pV 2) oN (oS (pV 3))))) pN))) ((nC p).map D.str) (jI [none,some 4,some 5,some 7] ((fd p o x S (some (.int (k:Int))) o8 o9 o10 o11 o12 o13 o14 o15 o16).set 4 (some (bd false (nC p) o.al))))=some ((nC p).map λn=>.tup [.str n,.bl (kil o.al ((die p o).take k) n)]):=w;rw[g,L4,<- a,jdT];rfl
 have z:=x4 (b:=true) h.cN (by rw[L1];omega) al;have B:yx (dCB xB (zU (Kn 4 (ji [] 0) qT (kH (jc (pF (pV 0)) (jc (QN (p2 y6 (pV 1) (pV 0)) (p2 (QM true) (pV 0) (pSl (pV 2) oN (oS (pV 3))))) pN))) [none,some 4,some 5,some 7]) jhn)) (ji [] 8) (fd p o x S (some (.int (k:Int))) o8 o9 o10 o11 o12 o13 o14 o15 o16)=some (.nx (fd p o x S (some (.int (k:Int))) (some (bd true (nC p) al)) o9 o10 o11 o12 o13 o14 o15 o16)):=by
  have:dCB xB (zU (Kn 4 (ji [] 0) qT (kH (jc (pF (pV 0)) (jc (QN (p2 y6 (pV 1) (pV 0)) (p2 (QM true) (pV 0) (pSl (pV 2) oN (oS (pV 3))))) pN))) [none,some 4,some 5,some 7]) jhn) (fd p o x S (some (.int (k:Int))) o8 o9 o10 o11 o12 o13 o14 o15 o16)=some (bd true (nC p) al,fd p o x S (some (.int (k:Int))) o8 o9 o10 o11 o12 o13 o14 o15 o16):=by
   unfold dCB;rw[jjN,u,L4,jlw,L4];dsimp only;rw[z]
  rw[jlK,this];rfl
 have C:=uE (al:=al) (fu:=o.fu) i d f;have E:=qJ x;have G:=qd _ E;have H:fz (bd true (nC p) al)=bd false (nC p) al:=by show D.dK false _ (fzs _)=_;rw[jl _ (vV _ _)];rfl
 have j:kt (.tup [pd true F,.lst true ((Q4 (ten x) F x.2.2.length).map D.int)])=true:=by
  have I:kt (pd true F)=true:=VN _;have J:=VN (Q4 (ten x) F x.2.2.length);simp only[kt,yg,I,J,Bool.and_self]
 have K:yx (dP (yh kM (jc (pV 3) (jc (pV 8) pN)))) (gT 2 (gC (ji [] 9) (gC (ji [] 10) gN))) (fd p o x S (some (.int (k:Int))) (some (bd true (nC p) al)) o9 o10 o11 o12 o13 o14 o15 o16) =
   some (.nx (fd p o x S (some (.int (k:Int))) (some (bd true (nC p) al)) (some (pd true F)) (some (.lst true ((Q4 (ten x) F x.2.2.length).map D.int))) o11 o12 o13 o14 o15 o16)):=by
  unfold fd at *;generalize bd true (nC p) o.al=A0,bd true (nC p) al=A,bd false (nC p) al=A',pd true F=PT at *;generalize(Q4 (ten x) F x.2.2.length).map D.int=ST at *;generalize jT false x=EX,jw false p=EP,yZ p o=EO at *;generalize(grQ p).map jK=GG at *;generalize(die p o).map D.str=DD at *;simp at j;simp[G,H,C,j]
 have fn:=KH (al:=al) (fu:=o.fu) x.2.2 0 [] d List.nodup_nil;rw[<- f,List.length_nil,Nat.zero_add] at fn;have L:(Q4 (ten x) F x.2.2.length).length<=100:=by
  unfold Q4;cases ten x
  ·rw[cond_false,N5,L1];show _+1<=_;omega
  ·rw[cond_true,E1];omega
 obtain⟨r11,r12,r13,r14,r15,r16,O⟩:=jfW (x:=x) h m (kl:=(k:Int)) (al:=al) (F:=F) L s (o11:=o11) (o12:=o12) (o13:=o13) (o14:=o14) (o15:=o15) (o16:=o16);have l:=jkF (p:=p) (R:=o.R) (al:=al) (fu:=o.fu) (kl:=(k:Int)) q d (ten x);rw[<- f] at l;refine⟨some (bd true (nC p) al),some (pd true F),some (.lst true ((Q4 (ten x) F x.2.2.length).map D.int)),r11,r12,r13,r14,r15,r16,?_⟩;unfold JZ;rw[je4,B,L4,jdi,je4,K,L4,jdi,O,<- l];unfold sy0 sy;rw[<- a];rfl
theorem jc3(h:PlOk p)(U:OlOk p o)(V:p.P=[])(W:x∈p.X)(Y:∀ r∈x.2.2,PR (nC p) r)(Z:kW [jw false p,yZ p o]=some (jT false x)) :
  Ky [jw false p,.lst false ((grQ p).map jK),yZ p o]=some (.lst true (xf p o x ((die p o).length+1))):=by
 have F:=h.x x W;have c6:=h.c;have e6:=h.e;have o5:=F.r;have dl:(die p o).length<=6:=N8 (List.length_filter_le ..) e6;have w:=kB (j:=((die p o).length:Int)+1) (by omega) (by omega);have tn:(((die p o).length:Int)+1).toNat=(die p o).length+1:=by omega
 rw[tn] at w;obtain⟨ρ',el,S,H,y,z,a,d,l,m,s,t,u,rfl,L⟩:=vj (G:=ji [] 7) (f:=JZ) (xs:=YG 0 ((die p o).length+1)) (λi ρ=>∃(S:List D) (H y z a d l m s t u:Option D),ρ=fd p o x S H y z a d l m s t u/\S=xf p o x i) (by
  rintro i v ρ hv ⟨S,H,y,z,a,d,l,m,s,t,u,rfl,rfl⟩;obtain⟨rfl,hi⟩:=Yg hv;have qa:=xa p o x F.r i;obtain⟨r8,r9,r10,r11,r12,r13,r14,r15,r16,b⟩:=jnR h U V F Y (k:=i) (S:=xf p o x i) (by omega) (o8:=y) (o9:=z) (o10:=a) (o11:=d) (o12:=l) (o13:=m) (o14:=s) (o15:=t) (o16:=u);refine⟨_,_,?_,.inl b,_,_,_,_,_,_,_,_,_,_,_,rfl,(jau p o x i).symm⟩;rw[Int.zero_add];rfl) (ρ:=fd p o x [] none none none none none none none none none none) ⟨[],none,none,none,none,none,none,none,none,none,none,rfl,rfl⟩
 rw[v9] at L;subst L;have M:=vX p;have zp:=qd _ M;have O:=jdz p o;have zo:=qd _ O;have fx:=qJ x;have Q:=P1 false p;have j3:=P3 false p;have k1:=J1 p o;have pc:=uC (N:=nC p) (g:=o.al) Q k1 (λi n B=>by
  rw[List.getElem?_map] at B ⊢;cases q:p.C[i]? with
  | none=>rw[q] at B;cases B
  | some c=>rw[q] at B;cases B;exact⟨JH c,rfl,rfl⟩) (by rw[L1,L1]) (S:=nC p) (k:=0) (o0:=none) rfl (U6 _)
 have d1:=x4 (b:=true) h.cN (by rw[L1];omega) o.al;have R:=w8 (b:=true) (N:=nC p) (al:=o.al) (E:=p.E) (o0:=none) h.me;have fE:=jB p.E;have lE:lim (p.E.map D.str).length=true:=jg (by rw[L1];omega);have I:((((die p o).map D.str).length:Nat):Int)=((die p o).length:Int):=by rw[L1]
 have T:=kB (j:=((nC p).length:Int)) (by omega) (by rw[L1];omega);rw[N9] at T;have l1:(((p.C.map JH).length:Nat):Int)=((nC p).length:Int):=by rw[L1,L1]
 have m1:lim (YG 0 (nC p).length).length=true:=jg (by rw[v9,L1];omega);change jJ _ _ _ _ _=some ((die p o).map D.str) at R;unfold fd at *;generalize xf p o x ((die p o).length+1)=AS,bd true (nC p) o.al=A at *;generalize((nC p).map λn=>D.tup [.str n,.bl (o.al n)])=T1 at *;generalize hq1:(nC p).length=n1,jw false p=EP,yZ p o=EO at *;generalize(die p o).map D.str=DD at *;generalize p.E.map D.str=EE,p.C.map JH=CC at *;generalize(grQ p).map jK=GG at *;generalize jT false x=EX at *;have J:jJ (ji [] 0) qT (kH (jc (pF (p2 jq (p2 jq (p2 jq (pV 1) (pC (.int 1))) (pV 0)) (pC (.int 0)))) (jc (pF (p2 jq (p2 jq (pV 2) (pC (.int 1))) (pV 0))) pN))) (YG 0 n1) (jI [none,some 0,some 2] [some EP,some (.lst false GG),some EO,some EX,none,none,none,none,none,none,none,none,none,none,none,none,none])=some T1:=pc;have K:jJ (ji [] 0) (jx (p2 y6 (pV 1) (pV 0))) (pF (pV 0)) EE (jI [none,some 4] [some EP,some (.lst false GG),some EO,some EX,some A,none,none,none,none,none,none,none,none,none,none,none,none])=some DD:=R;simp[Ky,j7,zB,zp,zo,M,O,Z,fx,Q,l1,T,m1,J,d1,j3,fE,lE,K,I,w,el,jg,-jd9]
end
theorem jjA{n:Nat}{l:List D}(c:frzs l=true)(q:l.length<=1000)(h:∀ x∈l,alk n x):alk (n+1) (.lst false l):=by
 have d:=jl l c;have a:=kB (j:=(l.length:Int)) (by omega) (by omega);rw[N9] at a;obtain⟨r,e,g,rfl⟩:=vj (G:=ji [] 2) (f:=kD (j9 n)) (xs:=YG 0 l.length) (λi ρ=>∃ g:Option D,ρ=[some (.lst false l),some (.lst false l),g]) (by
  rintro i x ρ p ⟨g,rfl⟩;obtain⟨rfl,k⟩:=Yg p;have ix:jq (.lst false l) (.int (0+(i:Int)))=some l[i]:=by
   rw[jhx (by omega) (by omega),show(0+(i:Int)).toNat=i by omega,X9 k]
  have m:j9 n [l[i],l[i]]=some (.bl true):=h _ (List.getElem_mem k);have b:frz l[i]=true:=by
   rw[Vw,List.all_eq_true] at c;exact c _ (List.getElem_mem k)
  have o:=qd _ b;refine⟨_,[some (.lst false l),some (.lst false l),some (.int (0+(i:Int)))],rfl,.inl ?_,some (.int (0+(i:Int))),rfl⟩;generalize l[i]=x at *;simp[kD,ix,m,b,o,-Int.zero_add]) (ρ:=[some (.lst false l),some (.lst false l),none]) ⟨none,rfl⟩
 unfold alk j9;simp[j7,kg,wS,c,d,a,e]
section
variable {p:Pl}{o:Ol}{x:Od}
theorem jbj(h:PlOk p){R:List Qt}(g:R.length<=100)(y:Sy)(k c:Int):alk 7 (stp k c (ob p R y)):=by
 have i:=h.c;have f:=h.p6;have a:frzs (obR p R y)=true:=jR _;have b:frzs (obA p y)=true:=vV (nC p) λn=>y.al n&&!decide (n∈y.rp);have e:frzs (obF p y)=true:=vV (nP p) λn=>y.fu n&&!decide (n∈drn p.G y);refine Qa (n:=6) (by simp only[frz,frzs,jha,Bool.and_self]) (by simp) λd hd=>?_;rcases M5.mp hd with rfl | hd
 ·exact jbg 5 _
 rcases M5.mp hd with rfl | hd
 ·exact jbg 5 _
 rw[M8.mp hd];refine Qa (n:=5) (by simp only[frz,frzs,a,b,e,Bool.and_self]) (by simp) λd hd=>?_;rcases M5.mp hd with rfl | hd
 ·refine Qa (n:=4) a (by unfold obR;rw[L1,L1];omega) λd hd=>?_;obtain⟨q,_,rfl⟩:=M6.mp hd;refine Qa (n:=3) rfl (by simp) λd hd=>?_;rcases M5.mp hd with rfl | hd
  ·exact jh0 2 _
  ·rw[M8.mp hd];exact jbg 2 _
 rcases M5.mp hd with rfl | hd
 ·refine Qa (n:=4) b (by unfold obA;rw[L1,L1];omega) λd hd=>?_;obtain⟨q,_,rfl⟩:=M6.mp hd;exact jhp 3 _
 ·rw[M8.mp hd];refine Qa (n:=4) e (by unfold obF;rw[L1,L1];omega) λd hd=>?_;obtain⟨q,_,rfl⟩:=M6.mp hd;exact jhp 3 _
theorem jaR(p:Pl)(R:List Qt)(kl:Int):∀(rs:List Rl) (k:Nat) (y:Sy),∀ d∈(run p R kl rs k y).1,∃(c:Int) (z:Sy),d=stp kl c (ob p R z)
 | [],_,_,d,h=>by cases h
 | r::rs,k,y,d,h=>by
  rw[run] at h;cases q:nd y r with
  | true =>
   rw[q] at h;rcases M5.mp h with rfl | h
   ·exact⟨_,_,rfl⟩
   ·exact jaR p R kl rs (k+1) (fl y r) d h
  | false=>rw[q] at h;exact jaR p R kl rs (k+1) y d h
theorem jjf(h:PlOk p)(a:OlOk p o)(b:x.2.2.length<=5){n:Nat}(hn:n<=20):vF [.lst false (xf p o x n),.lst false (xf p o x n)]=some (.bl true):=by
 have q:=xa p o x b n;have e:=(jaT h a).2;refine jjA (n:=7) q.2.1 (by omega) λd hd=>?_;obtain⟨k,_,hd⟩:=List.mem_flatMap.mp hd;unfold stW at hd;cases t:ten x with
 | true =>
  rw[t,cond_true] at hd;rw[M8.mp hd];exact jbj h (by omega) _ _ _
 | false =>
  rw[t,cond_false] at hd;rcases N3.mp hd with hd | hd
  ·obtain⟨c,z,rfl⟩:=jaR _ _ _ _ _ _ d hd;exact jbj h (by omega) _ _ _
  ·rw[M8.mp hd];exact jbj h (by omega) _ _ _
end
theorem jbM:∀{N:List WN}{B:List Bool},N.Nodup->B.length=N.length->∃ g:WN->Bool,B=N.map g
 | [],[],_,_=>⟨λ_=>false,rfl⟩
 | [],_::_,_,h=>by simp at h
 | n::N,[],_,h=>by simp at h
 | n::N,b::B,a,h=>by
  obtain⟨c,d⟩:=List.nodup_cons.mp a;obtain⟨g,e⟩:=jbM (N:=N) (B:=B) d (by simpa using h);refine⟨λm=>if m=n then b else g m,?_⟩;rw[L5,if_pos rfl,e];congr 1;exact List.map_congr_left λm f=>(if_neg (λz=>c (by rw[<- z];exact f):¬ m=n)).symm
theorem jbY{m:Int}(b:0<=m):∀{S:List Qt}{k:Nat}{o0 o1:Option D},(∀ q∈S,0<=q.2)->k+S.length<=100->∃ T:List Qt,jJ (gT 2 (gC (ji [] 0) (gC (ji [] 1) gN))) qT (kH (jc (pF (p2 jq (pV 1) (pC (.int 0)))) (jc (p2 jC (p2 jZ (pV 2) (p2 jG (pC (.int 3)) (p2 vw (pC (.int 8)) (pV 0)))) (p2 jG (p2 jq (pV 1) (pC (.int 1))) (pC (.int 1)))) pN))) (yq k (S.map jK)) [o0,o1,some (.int m)]=some (T.map jK)/\T.map (·.1)=S.map (·.1)
 | [],_,_,_,_,_=>⟨[],rfl,rfl⟩
 | q::S,k,o0,o1,a,c=>by
  rw[M3] at c;obtain⟨T,e,d⟩:=jbY b (S:=S) (k:=k+1) (o0:=some (.int (k:Int))) (o1:=some (jK q)) (λz f=>a z (L6 _ f)) (by omega);have g:=a q L7;have h:(gT 2 (gC (ji [] 0) (gC (ji [] 1) gN))) (.tup [.int (k:Int),jK q]) [o0,o1,some (.int m)]=some [some (.int (k:Int)),some (jK q),some (.int m)]:=rfl;have i:jq (jK q) (.int 0)=some (.str q.1):=rfl;have j:jq (jK q) (.int 1)=some (.int q.2):=rfl;have l:vw (.int 8) (.int (k:Int))=some (.int (8*(k:Int))):=Ji (by omega) (by omega);have n:jZ (.int m) (.int (3+8*(k:Int)))=some (.int (m / (3+8*(k:Int)))):=yn (by omega) (by omega);have o:jC (.int (m / (3+8*(k:Int)))) (.int (q.2+1))=some (.int (m / (3+8*(k:Int)) % (q.2+1))):=jH (by omega);refine⟨(q.1,m / (3+8*(k:Int)) % (q.2+1))::T,?_,by rw[L5,d];rfl⟩;rw[L5,yq,jL,h,L4,L5];generalize T.map jK=TT,yq (k+1) (S.map jK)=SS,jK q=Y at *;simp[i,j,l,n,o,e,jg]
theorem ji0{m:Int}{pe:PF}{n:Nat}(a:∀(i:Nat),i < n->∃ b,pe [some (.int (0+(i:Int))),some (.int m)]=some (.bl b)){ρ:Rh}(g:∃ o,ρ=[o,some (.int m)]):∃ B:List Bool,B.length=n/\jJ (ji [] 0) qT pe (YG 0 n) ρ=some (B.map D.bl):=by
 obtain⟨q,e,c,h⟩:=KM (G:=ji [] 0) (p:=pe) (Good:=λd=>∃ b,d=.bl b/\True) (P:=λρ=>∃ o,ρ=[o,some (.int m)]) (xs:=YG 0 n) (by
  rintro x j ρ ⟨o,rfl⟩;obtain⟨i,k,rfl⟩:=M6.mp j;obtain⟨b,l⟩:=a i (List.mem_range.mp k);exact⟨_,_,rfl,l,⟨b,rfl,trivial⟩,_,rfl⟩) g
 obtain⟨B,rfl,_⟩:=Kp (f:=D.bl) (Q:=λ_=>True) h;rw[L1,v9] at c;exact⟨B,c,e⟩
theorem jmg{p:Pl}(h:PlOk p):∀ c∈(gr p).1,0<=(gr p).2 c:=by
 have b:∀(L:List Lk) (S:Gw),(∀ c∈S.1,0<=S.2 c)->(∀ l∈L,1<=l.2.1)->∀ c∈(L.foldl grow S).1,0<=(L.foldl grow S).2 c:=by
  intro L
  induction L with
  | nil=>intro S e _;exact e
  | cons x L i =>
   intro S e g;rw[X2];refine i _ (λc a=>?_) λl f=>g l (L6 _ f);have j:=g x L7;unfold grow at a ⊢;dsimp only at a ⊢;by_cases q:c=x.1
   ·rw[if_pos q];unfold big;split<;>omega
   ·rw[if_neg q];refine e c ?_;split at a
    ·exact a
    ·rcases N3.mp a with a | a
     ·exact a
     ·exact absurd (M8.mp a) q
 exact b p.L _ (λc a=>nomatch a) λl f=>(h.l l f).d
theorem jfz{p:Pl}(h:PlOk p)(N:p.P=[])(hr:∀ x∈p.X,∀ r∈x.2.2,PR (nC p) r){z:Int}(hz:Builtin.Int.intBits z<=2 ^ 20){i:Nat}(hi:i<=100){a0 a5 a6 a7 a8 a9 a10:Option D} :
  ∃ r5 r6 r7 r8 r9 r10:Option D,zb [a0,some (jw false p),some (.lst false ((grQ p).map jK)),some (.int (i:Int)),some (.int z),a5,a6,a7,a8,a9,a10]=some (.nx [a0,some (jw false p),some (.lst false ((grQ p).map jK)),some (.int (i:Int)),some (.int z),r5,r6,r7,r8,r9,r10]):=by
 obtain⟨m,O,u,hm1⟩:=J4 (k:=(i:Int)+20) hz (by omega) (by omega);have c6:=h.c;have v:=jee h;have gl:=v.l;have gq:(grQ p).length<=2:=by unfold grQ;rw[L1];exact gl
 obtain⟨T,eT,hT⟩:=jbY u (S:=grQ p) (k:=0) (o0:=none) (o1:=none) (λq hq=>by
  obtain⟨n,hn,rfl⟩:=M6.mp hq;exact jmg h n hn) (by omega)
 have f:T.map (·.1)=(gr p).1:=by
  rw[hT];unfold grQ;rw[U2];exact List.map_id _
 have hTl:T.length<=2:=by have:=congrArg List.length f;rw[L1] at this;omega
 obtain⟨B1,w,b⟩:=ji0 (m:=m) (n:=p.C.length) (pe:=p2 ug (p2 jC (p2 jZ (pV 1) (p2 jG (pC (.int 5)) (pV 0))) (pC (.int 4))) (pC (.int 0))) (λj hj=>⟨_,by
  have dv:jZ (.int m) (.int (5+(0+(j:Int))))=some (.int (m / (5+(0+(j:Int))))):=yn (by omega) (by omega);have md:jC (.int (m / (5+(0+(j:Int))))) (.int 4)=some (.int (m / (5+(0+(j:Int))) % 4)):=jH (by omega);simp[dv,md,-Int.zero_add];rfl⟩) (ρ:=[none,some (.int m)]) ⟨none,rfl⟩
 obtain⟨al,rfl⟩:=jbM h.cN (B:=B1) (by rw[L1];exact w);rw[U2] at b;have s:OlOk p ⟨T,al,λ_=>false⟩:=⟨f⟩;obtain⟨x,t,nm,e1,e2,e3⟩:=jgI h s;have y:=jby h s t e1 e2;have A:=jc3 h s N t (hr x t) e3;have Q:=h.x x t;have dl:(die p ⟨T,al,λ_=>false⟩).length<=6:=N8 (List.length_filter_le ..) h.e;have R:=jjf h s Q.r (n:=(die p ⟨T,al,λ_=>false⟩).length+1) (by omega);have U:=xa p ⟨T,al,λ_=>false⟩ x Q.r ((die p ⟨T,al,λ_=>false⟩).length+1);have V:=U.1;have E:=U.2.1;have W:=jl _ E;have F:=vX p;have Y:=qd _ F;have G:=jR (grQ p);have H:=jl _ G;have I:=jR T;have J:frzs (p.C.map ((D.bl ∘ al) ∘ (·.1)))=true:=kP λd hd=>by obtain⟨_,_,rfl⟩:=M6.mp hd;rfl
 have Z:=P1 false p;have K:=kB (j:=(p.C.length:Int)) (by omega) (by omega);rw[N9] at K;have l1:(((p.C.map JH).length:Nat):Int)=(p.C.length:Int):=by rw[L1]
 have m1:lim (YG 0 p.C.length).length=true:=jg (by rw[v9];omega);have en:Kx [.lst false ((grQ p).map jK)]=some (yq 0 ((grQ p).map jK)):=by
  show some (yq 0 (fzs ((grQ p).map jK)))=_;rw[H]
 have le:lim (yq 0 ((grQ p).map jK)).length=true:=jg (by rw[v7,L1];omega);have eo:yZ p ⟨T,al,λ_=>false⟩=.tup [.tup (T.map jK),.tup (p.C.map ((D.bl ∘ al) ∘ (·.1))),.tup []]:=by
  unfold yZ nP;rw[U2,N];rfl
 rw[U2] at b;rw[eo] at y A;refine⟨some (.int m),some (.lst true (T.map jK)),some (.tup (p.C.map ((D.bl ∘ al) ∘ (·.1)))),some (.tup [.tup (T.map jK),.tup (p.C.map ((D.bl ∘ al) ∘ (·.1))),.tup []]),some (.lst true []),some (.lst true (xf p ⟨T,al,λ_=>false⟩ x ((die p ⟨T,al,λ_=>false⟩).length+1))),?_⟩;generalize xf p ⟨T,al,λ_=>false⟩ x ((die p ⟨T,al,λ_=>false⟩).length+1)=AS,jw false p=EP,p.C.map ((D.bl ∘ al) ∘ (·.1))=C1,T.map jK=TT,yq 0 ((grQ p).map jK)=EN at *;generalize(grQ p).map jK=GG at *;generalize p.C.map JH=CC at *;generalize hn1:p.C.length=n1 at *;have g:∀ q:Option D,jJ (gT 2 (gC (ji [] 0) (gC (ji [] 1) gN))) qT (kH (jc (pF (p2 jq (pV 1) (pC (.int 0)))) (jc (p2 jC (p2 jZ (pV 2) (p2 jG (pC (.int 3)) (p2 vw (pC (.int 8)) (pV 0)))) (p2 jG (p2 jq (pV 1) (pC (.int 1))) (pC (.int 1)))) pN))) EN (jI [none,none,some 5] [a0,some EP,some (.lst false GG),q,some (.int z),some (.int m),a6,a7,a8,a9,a10])=some TT:=λ_=>eT;have a:∀ q b6 b7 b8 b9 L:Option D,jJ (ji [] 0) qT (p2 ug (p2 jC (p2 jZ (pV 1) (p2 jG (pC (.int 5)) (pV 0))) (pC (.int 4))) (pC (.int 0))) (YG 0 n1) (jI [none,some 5] [a0,some EP,some (.lst false GG),q,some (.int z),some (.int m),b6,b7,b8,b9,L])=some C1:=λ_ _ _ _ _ _=>b;have zT:=jl _ I;have o:=jl _ J;by_cases i0:i=0
 ·subst i0;have M:yi [.int z,.int 20]=some (.int m):=by simpa using O
  simp(maxSteps:=400000) [zb,M,zT,o,G,H,en,le,g,Z,l1,K,m1,a,J,I,F,Y,y,A,R,V,E,W,jg]
 ·have i1:((i:Int)==0)=false:=U3.mpr (by omega);simp(maxSteps:=400000) [zb,O,zT,o,G,H,en,le,g,Z,l1,K,m1,a,J,I,F,Y,y,A,R,V,E,W,i0,i1,jg]
theorem jfu(ns:List Int)(J:ns.length<=63)(n:∀ x∈ns,Builtin.Int.intBits x<=2 ^ 20):jcP [.lst false (ns.map D.int)]=some (.bl true):=by
 have n:jhc ns:=n;obtain⟨a,K,c⟩:=jkm n;have u:=kT ns;have v:=VY ns;have w:jhc (vy ns none (some 63)):=λx g=>n x (V3 g);have L:(vy ns none (some 63)).length<=63:=N8 (J8 _ _ _) J;have M:=wT false ns none (some 63);generalize vy ns none (some 63)=cs at *;have y:=jgb a;have N:=ja5 c;have j:=vX a;have k:=qd _ j;have A:=jgE a;have H:=jiL c;have l:=λx g=>jil c (x:=x) g;have O:(jiE a).P=[]:=rfl;have Q:nC (jiE a)=nC a:=rfl;rw[<- Q] at l;generalize jiE a=p at *;have R:=uQ H;have I:=jR (grQ p);have S:=jl _ I;have T:=jcc (grQ p);have m:=vX p;have B:=qd _ m;obtain⟨ρ',U,C,E,o,q,r,s,t,b,rfl⟩:=vj (G:=gT 2 (gC (ji [] 3) (gC (ji [] 4) gN))) (f:=zb) (xs:=yq 0 ((0::cs).map D.int)) (λi ρ=>∃ C E o q r s t b:Option D,ρ=[some (.lst false (ns.map D.int)),some (jw false p),some (.lst false ((grQ p).map jK)),C,E,o,q,r,s,t,b]) (by
  rintro i x ρ g ⟨C,E,o,q,r,s,t,b,rfl⟩;obtain⟨d,hd,rfl⟩:=k6 0 _ i x g;rw[List.getElem?_map] at hd;cases hz:(0::cs)[i]? with
  | none=>rw[hz] at hd;cases hd
  | some z =>
   rw[hz] at hd;cases hd;have V:i < (0::cs).length:=(L9.mp hz).1;rw[M3] at V;have W:Builtin.Int.intBits z<=2 ^ 20:=by
    rcases M5.mp (List.mem_of_getElem? hz) with rfl | h
    ·decide
    ·exact w z h
   obtain⟨X,Y,Z,r8,r9,F,e⟩:=jfz H O l W (i:=i) (by omega) (a0:=some (.lst false (ns.map D.int))) (a5:=o) (a6:=q) (a7:=r) (a8:=s) (a9:=t) (a10:=b);refine⟨_,_,?_,.inl e,some (.int (i:Int)),some (.int z),X,Y,Z,r8,r9,F,rfl⟩;rw[Nat.zero_add];rfl) (ρ:=[some (.lst false (ns.map D.int)),some (jw false p),some (.lst false ((grQ p).map jK)),none,none,none,none,none,none,none,none]) ⟨_,_,_,_,_,_,_,_,rfl⟩
 have ad:jG (.lst true [.int 0]) (.lst true (cs.map D.int))=some (.lst true ((0::cs).map D.int)):=by
  show(bif lim (1+(cs.map D.int).length)&&(frzs [.int 0]&&frzs (cs.map D.int)) then some (D.lst true ([.int 0]++cs.map D.int)) else none)=_;rw[kT cs,jg (by rw[L1];omega)];rfl
 have en:Kx [.lst true ((0::cs).map D.int)]=some (yq 0 ((0::cs).map D.int)):=by
  show some (yq 0 (fzs ((0::cs).map D.int)))=_;rw[VY]
 have fq:=kT (0::cs);generalize(0::cs).map D.int=CS0 at *;generalize cs.map D.int=CS,ns.map D.int=NS,jw true a=pt0,jw false a=pp0,jfE a=py0,jw false p=pp at *;generalize(grQ p).map jK=GG at *;simp(maxSteps:=400000) [jcP,j7,jhM,u,v,K,y,k,j,N,A,B,m,R,I,S,T,M,ad,en,fq,U,jg]
end K42
set_option maxHeartbeats 0
namespace K42
open PySem L2 QD
theorem all_mk{l:PySem.W.OpenLaw}{w:World}{K:PySem.W.Frag}{h:Heap}{mg:Str->Option Value}{fa:Addr}(X:K.In h)(G:h.Ns mainGlobals mg)(hfa:mg "law" = some (.ref fa))
  {a_C0:Addr}
  {ji4:Addr}{jlo jkp:Option Addr}{jlI:Array (Option Value)}{jku jkM jlh jkG jhh jl1:Value}
  (c1_C0:PySem.W.nsIn K mainGlobals "OutlineDay" = some (some (.ref a_C0))) (c2_C0:PySem.W.plainGet K a_C0 Str.empty=true) (c3_C0:PySem.W.hasDictIn K a_C0=true) (c4_C0:PySem.W.plainOver K a_C0=true) (c5_C0:PySem.W.findIn K (.ref a_C0) "__setattr__" = some (some (.builtin "object.__setattr__"))) (c6_C0:PySem.W.makesIn K a_C0=true) (c7_C0:PySem.W.keepIn K (.ref a_C0)=true)
  (wu:PySem.W.findIn K (.ref a_C0) "served" = some none)
  (jaX:PySem.W.findIn K (.ref a_C0) "alive" = some none)
  (jeF:PySem.W.findIn K (.ref a_C0) "full" = some none)
  (x9:PySem.W.findIn K (.ref a_C0) "repaid" = some none)
  (wd:PySem.W.findIn K (.ref a_C0) "claims" = some none)
  (jek:PySem.W.findIn K (.ref a_C0) "pots" = some none)
  (wt:PySem.W.findIn K (.ref a_C0) "guards" = some none)
  (Qe:PySem.W.findIn K (.ref a_C0) "greatest" = some none)
  (je8:PySem.W.findIn K (.ref a_C0) "runs" = some none)
  (VP:qh K mg "tenths_of" J3 YB)
  (Yl:qh K mg "order_named" qF qL)
  (YN:qh K mg "look_order" Jq Jr)
  (qU:qh K mg "greatest_days" kE kF)
  (vn:jcB K a_C0 "is_missed" "OutlineDay.is_missed" yD yC)
  (kI:jcB K a_C0 "fill" "OutlineDay.fill" vO vQ)
  (Yx:qh K mg "_law_cell_at" qM qG)
  (V7:qh K mg "_law_mixed" Yt J5)
  (Yu:qh K mg "_law_letters" qC qE)
  (V9:qh K mg "_law_spelt" Yk J7)
  (Y7:qh K mg "_law_amount" JA Jo)
  (V1:qh K mg "_law_looks" Yj J6)
  (YT:qh K mg "_law_guards" Jf Jw)
  (V6:qh K mg "_law_order" YC Ya)
  (JG:qh K mg "_law_greatest" kX kY)
  (Qj:qh K mg "_law_pays" Va Vm)
  (VR:qh K mg "_law_stops" Yn Yh)
  (K0:qh K mg "order_of" Vr Vu)
  (vz:jcB K a_C0 "__init__" "OutlineDay.__init__" yQ yK)
  (kC:jcB K a_C0 "needs" "OutlineDay.needs" vv vq)
  (y8:jcB K a_C0 "days_behind" "OutlineDay.days_behind" ym yo)
  (VT:qh K mg "_law_words" Yq YA)
  (KW:qh K mg "_law_rule" Ve Vp)
  (zc:qh K mg "_law_due" KN KB)
  (yA:jcB K a_C0 "outline_behind" "OutlineDay.outline_behind" ye ya)
  (YM:qh K mg "_law_orders" Jx Jh)
  (Y5:qh K mg "steps_with" Jt Je)
  (Qn:qh K mg "_law_pool" Vg Vs)
  (Qm:qh K mg "steps_of" Vh Vb)
  (zj:qh K mg "_law_one" Kq Ke)
  (Ka:qh K mg "_law_alike" Yf qX)
  (jak:PySem.W.nsIn K mainGlobals "law" = some (some (.ref ji4))) (jdx:K.lookup ji4=some ⟨jku,jlo,.func (PySem.W.fnOf "law" "law" (Ym uP) (qp uP) (jo uP) .none jkM jlh jkG jkp jhh jl1),jlI⟩) (jd1:PySem.W.codeIn K jhh "law" = true) (jeP:PySem.W.keepIn K (.ref ji4)=true)
  (jhX:PySem.W.nsIn K mainGlobals "any" = some none)
  (jde:PySem.W.nsIn K mainGlobals "bool" = some none)
  (jfi:PySem.W.nsIn K mainGlobals "dict" = some none)
  (VM:PySem.W.nsIn K mainGlobals "enumerate" = some none)
  (jhP:PySem.W.nsIn K mainGlobals "int" = some none)
  (YQ:PySem.W.nsIn K mainGlobals "isinstance" = some none)
  (jjm:PySem.W.nsIn K mainGlobals "len" = some none)
  (jey:PySem.W.nsIn K mainGlobals "list" = some none)
  (jiF:PySem.W.nsIn K mainGlobals "max" = some none)
  (jiy:PySem.W.nsIn K mainGlobals "min" = some none)
  (ja9:PySem.W.nsIn K mainGlobals "range" = some none)
  (K8:PySem.W.nsIn K mainGlobals "reversed" = some none)
  (uf:PySem.W.nsIn K mainGlobals "sorted" = some none)
  (jhW:PySem.W.nsIn K mainGlobals "str" = some none)
  (jh9:PySem.W.nsIn K mainGlobals "sum" = some none)
  (jaY:PySem.W.nsIn K mainGlobals "tuple" = some none)
  (jhL:PySem.W.nsIn K mainGlobals "zip" = some none)
  : ∃ fd:FuncData,(∀(s:Shared) (v:Value),BindsTo s fd ⟨[v],[]⟩ [("_law_script",v)])/\∀ base:Heap,K.In base->base.Ns mainGlobals mg->FnOk l.prog w K mg base CX0 9 fa fd ["_law_script"] (λvs H Q E=>∀ C:Addr,spP ⟨K,λ_=>C⟩ jcP 1 vs H Q E):=by
 have e:=hfa.symm.trans (PySem.W.mg_of X G jak);cases e;have T:Txt l.prog w K mg (λ_=>a_C0):=⟨⟨c2_C0,c3_C0,c4_C0,c5_C0⟩,c6_C0,c7_C0,PySem.W.mg_of X G c1_C0,wu,jaX,jeF,x9,wd,jek,wt,Qe,je8,PySem.W.mg_none_of X G jhX,PySem.W.mg_none_of X G jde,PySem.W.mg_none_of X G jfi,PySem.W.mg_none_of X G VM,PySem.W.mg_none_of X G jhP,PySem.W.mg_none_of X G YQ,PySem.W.mg_none_of X G jjm,PySem.W.mg_none_of X G jey,PySem.W.mg_none_of X G jiF,PySem.W.mg_none_of X G jiy,PySem.W.mg_none_of X G ja9,PySem.W.mg_none_of X G K8,PySem.W.mg_none_of X G uf,PySem.W.mg_none_of X G jhW,PySem.W.mg_none_of X G jh9,PySem.W.mg_none_of X G jaY,PySem.W.mg_none_of X G jhL⟩;have F:Fun K "law" "law" uP _ _:=uV jdx jd1 jeP;have jnr:qh K mg "law" uP jgh:=⟨_,_,F,PySem.W.mg_of X G jak,F.binds λ_ _ _ _ _ _ us hl=>match us,hl with | [_],_=>rfl⟩;have V8:=uv T VP;have Yp:=xx T Yl;have Y1:=wm T YN;have qW:=QF T qU;have ju:=JY T vn;have kL:=KJ T kI;have yN:=xv T Yx;have jY:=jao T V7;have qB:=xw T Yu;have VZ:=jae T V9;have ve:=uc T Y7;have VV:=ut T V1;have Y4:=wL T YT;have VI:=uG T V6;have JK:=xm T JG;have K6:=jaF T Qj;have VH:=jan T VR;have Qb:=jbi T K0 Y1;have vD:=YE T vz qW;have kG:=V5 T kC ju;have vc:=JE T y8 ju;have Yo:=uM T VT qB jY VZ;have Qc:=ja1 T KW ve;have xb:=jcV T zc VI VH;have yc:=qw T yA vc ju;have YI:=wY T YM jY Qc;have YW:=wP T Y5 vD kL kG yc V8;have Qk:=jbq T Qn ve yN Y4 VV jY YI;have Vq:=jaM T Qm Yp Qb YW;have zG:=jcp T zj yN Qk Yo;have kN:=jat T Ka;have jmA:=jmf T jnr kN xb JK jY zG K6 Vq;obtain⟨f',fd',F',G'⟩:=jmA;cases(PySem.W.mg_of X G jak).symm.trans F'.mgf;obtain⟨⟨oc,od,kV,doc,pm,an,cdv,ct,osl,rfl,_,_⟩,_⟩:=F'.fn;exact⟨_,λs v=>.of_eq rfl,λbase _ _=>(G' base).imp λvs H Q E h=>h a_C0⟩
theorem walk{l:PySem.W.OpenLaw}{q:Program}{loose:List Str}{XP:(Str->Option Value)->Heap->Prop}{YP:World->Heap->Prop}{d:DefRec}{K:Params->PySem.W.Frag}(hn:l.most=some 63)(hdf:d.params.defaults=[])
  (hY:∀(w:World) (h:Heap),YP w h->(K w.params).In h)
  (F:∀(w:World) (mg:Str->Option Value) (fa:Addr) (h:Heap),(K w.params).In h->h.Ns mainGlobals mg->mg d.name=some (.ref fa) ->
   ∃ fd:FuncData,(∀(s:Shared) (u:Value),BindsTo s fd ⟨[u],[]⟩ [("_law_script",u)])/\∀ base:Heap,(K w.params).In base->base.Ns mainGlobals mg->FnOk l.prog w (K w.params) mg base CX0 9 fa fd ["_law_script"] (λvs H Q E=>∀ C:Addr,spP ⟨K w.params,λ_=>C⟩ jcP 1 vs H Q E)) :
  PySem.W.WalkO q loose XP YP l.row.toRowW d [] (λf vs=>PySem.call f vs) :=
 L2.walk_ofB (n:=63) (k:=9) (x:="_law_script") (CX:=λ_=>CX0) (sp:=λw=>(λvs H Q E=>∀ C:Addr,spP ⟨K w.params,λ_=>C⟩ jcP 1 vs H Q E)) hn (by decide) hdf ⟨rfl,by decide,by decide⟩ hY F (λ_ H a ns hl hb _ hS=>λC=>jkN (jfu ns hl hb) hS) λ_ _ _ _ _ z=>z
end K42
namespace PySem.W.Fast
def tw18160697538135903859:=0
def tw1166909070763595213:=0
def tw12747483321674807413:=0
def tw16453535027160050830:=0
def tw4992954675710847388:=0
def tw4163085314285681649:=0
def tw5301722180533011987:=0
def tw14646389962621365863:=0
def tw17282961454539436688:=0
def tw11675757237524349977:=0
def tw9431901815798578570:=0
def tw5680123630478929854:=0
def tw18112077070764649617:=0
def tw12067644285539748558:=0
def tw15396183089486530953:=0
def tw8590958148788146013:=0
def tw17697949367279677142:=0
def tw14967452657766534203:=0
def tw5398033329175586137:=0
def tw5534626304593316420:=0
def tw15749257848786036416:=0
def tw2244619724333275347:=0
def tw14995170267039378547:=0
def tw11732020837698917898:=0
def tw14313305754875549719:=0
def tw1702239156537598032:=0
def tw12309285328856486401:=0
def tw4411523705005106364:=0
def tw3801995883622488019:=0
def tw13231889076497202339:=0
def tw4131277787309094135:=0
def tw17063302073449611088:=0
def tw6861845290900674732:=0
def tw7581536936311474935:=0
def tw8458184185338272413:=0
def tw11155913164446868638:=0
def tw7525486303596811440:=0
def tw13030183459675190879:=0
def tw12331507956890252156:=0
def tw10335201525324128831:=0
def tw8743245103032701935:=0
def tw12955103830819839183:=0
def tw7732200601636962939:=0
def tw11769647583690752675:=0
def tw18057145179674223944:=0
def tw11932406704401671953:=0
def tw16889834473191158962:=0
def tw4120229169621707432:=0
end PySem.W.Fast
set_option maxHeartbeats 0
open PySem PySem.W PyProof.Rows
set_option maxRecDepth 100000 in
set_option maxHeartbeats 0 in
theorem PySem.Challenge.cw_tranchefall_k42_steps_of_pays_holds : PySem.Challenge.rw_tranchefall_k42_steps_of_pays.Holds := by
 w_on;o_law;k_head;(case hw=>w_witness2)
 k_fill
 refine K42.walk (l:=PySem.Challenge.rw_tranchefall_k42_steps_of_pays) rfl rfl (λw h Y=>PySem.W.kIn_of Y) ?F
 case F =>
  intro w mg fa h KX G hmg;refine' K42.all_mk KX G hmg ?c1_C0 ?c2_C0 ?c3_C0 ?c4_C0 ?c5_C0 ?c6_C0 ?c7_C0 ?wu ?jaX ?jeF ?x9 ?wd ?jek ?wt ?Qe ?je8 ?VP ?Yl ?YN ?qU ?vn ?kI ?Yx ?V7 ?Yu ?V9 ?Y7 ?V1 ?YT ?V6 ?JG ?Qj ?VR ?K0 ?vz ?kC ?y8 ?VT ?KW ?zc ?yA ?YM ?Y5 ?Qn ?Qm ?zj ?Ka ?jak ?jdx ?jd1 ?jeP ?jhX ?jde ?jfi ?VM ?jhP ?YQ ?jjm ?jey ?jiF ?jiy ?ja9 ?K8 ?uf ?jhW ?jh9 ?jaY ?jhL
  (case c1_C0 | c2_C0 | c3_C0 | c4_C0 | c5_C0 | c6_C0 | c7_C0 | wu | jaX | jeF | x9 | wd | jek | wt | Qe | je8 | jak | jdx | jd1 | jeP | jhX | jde | jfi | VM | jhP | YQ | jjm | jey | jiF | jiy | ja9 | K8 | uf | jhW | jh9 | jaY | jhL=>k_is)
  (case VP | Yl | YN | qU | vn | kI | Yx | V7 | Yu | V9 | Y7 | V1 | YT | V6 | JG | Qj | VR | K0 | vz | kC | y8 | VT | KW | zc | yA | YM | Y5 | Qn | Qm | zj | Ka =>
   first | exact QD.hasF KX G (by k_is) (by k_is) (by k_is) (by k_is) (by first | exact λ_ _ _ _ _ _ us hl=>(match us,hl with | [_],_=>rfl) | exact λ_ _ _ _ _ _ us hl=>(match us,hl with | [_,_],_=>rfl) | exact λ_ _ _ _ _ _ us hl=>(match us,hl with | [_,_,_],_=>rfl) | exact λ_ _ _ _ _ _ us hl=>(match us,hl with | [_,_,_,_],_=>rfl) | exact λ_ _ _ _ _ _ us hl=>(match us,hl with | [_,_,_,_,_],_=>rfl)) | exact QD.hasM (by k_is) (by k_is) (by k_is) (by k_is) (by k_is) (by first | exact λ_ _ _ _ _ _ us hl=>(match us,hl with | [_],_=>rfl) | exact λ_ _ _ _ _ _ us hl=>(match us,hl with | [_,_],_=>rfl) | exact λ_ _ _ _ _ _ us hl=>(match us,hl with | [_,_,_],_=>rfl) | exact λ_ _ _ _ _ _ us hl=>(match us,hl with | [_,_,_,_],_=>rfl) | exact λ_ _ _ _ _ _ us hl=>(match us,hl with | [_,_,_,_,_],_=>rfl)))
