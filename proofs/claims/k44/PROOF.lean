import PyProof.Rows.All
import Wide.All
import OpenK.AllK
import Wide.FinOn
import Lean
import PyProof.EqAt
import PyProof.EqKinds
import PyProof.TupleCall
import PyProof.AttrMissHeap
import KE.KItemsList
import KE.KRevIter
import PyProof.CollectIter
import PyProof.DictWalks
import PyProof.WalksMore
import PyProof.SumWalkG
import KE.KSortTup
import PyProof.Draws
import KE.KTupSum
import PyProof.DictValues
import KE.KDictList
import PyProof.Rows.SortShell
import PyProof.P3In
import PySem.Challenge.RW_tranchefall_k44_whole_each_day_is_a_step
set_option Elab.async false
set_option linter.all false
set_option compiler.extract_closed false
set_option genSizeOf false
noncomputable section
local macro_rules|`(tactic|symm at $h:ident)=>`(tactic|conv at $h:ident=>whnf)|`(tactic|symm)=>`(tactic|conv=>whnf)
local macro_rules|`($x⁻¹)=>`(PySem.wpAny (PySem.model ($x).prog ($x).w) ($x).A)
local macro_rules|`(↥$x)=>`(($x).heap.objs.size)|`(⇑$x)=>`(by simpa using $x)|`(∅)=>`(by lia)
local macro_rules|`(tactic|let[$x,*]:=$e)=>do
 let y<-x.getElems.mapM λ|`($i:ident)=>`(rcasesPat|$i:ident)|_=>`(rcasesPat|_)
 `(tactic|obtain⟨$[$y:rcasesPat],*⟩:=$e)
local macro_rules|`(#v[$x,*])=>`(⟨$x,*⟩)
local macro_rules|`(tactic|cases $h:ident)=>`(tactic|first|(replace $h:ident:=Option.some.inj $h;subst $h)|cases ($h))
local macro_rules|`(-$x)=>`(($x).length)|`($x\$y)=>`($x=some $y)
local macro_rules|`(%[$x,*|$_])=>do
 let y<-x.getElems.mapM λ|`(_)=>`(none)|`(($z))=>pure z|`(‹$z›)=>`(‹$z›)|`(↑$z)=>`(↑$z)|z=>`(some $(⟨z⟩))
 `([$y,*])
local macro_rules(kind:=Lean.Parser.Command.declaration)|x=>do
 let m<-`(noncomputable def a:=0)
 if x[0].getPos?.isNone&&x[1].isOfKind `Lean.Parser.Command.definition then pure<|x.setArg 0 m.raw[0] else Lean.Macro.throwUnsupported
section
open PySem PySem.Spec PyProof.Rows
abbrev L1:=@List.length_map
abbrev L3:=@wpAny_bind
abbrev L4:=@Option.bind_some
abbrev L5:=@List.map_cons
abbrev L6:=@List.mem_cons_of_mem
abbrev L7:=@List.mem_cons_self
abbrev L8:=@Heap.get?_push_of_some
abbrev L9:=@List.getElem?_eq_some_iff
abbrev M0:=@Bool.and_eq_true
abbrev M1:=@List.length_cons
abbrev M3:=@Bool.false_ne_true
abbrev M4:=@List.mem_cons
abbrev M5:=@List.mem_map
abbrev M6:=@wpAny_pure
abbrev M7:=@List.mem_singleton
abbrev M8:=@Nat.le_refl
abbrev M9:=@List.append_nil
abbrev N0:=@Heap.lt_size
abbrev N1:=@List.mem_append
abbrev N2:=@List.size_toArray
abbrev N3:=@List.length_append
abbrev N4:=@List.map_append
abbrev N5:=@Nat.ne_of_lt
abbrev N6:=@Nat.le_trans
abbrev N7:=@Int.toNat_natCast
abbrev N8:=@Int.emod_lt_of_pos
abbrev N9:=@Int.emod_nonneg
abbrev U0:=@List.map_map
abbrev U1:=@beq_eq_false_iff_ne
abbrev U2:=@List.mem_append_right
abbrev U3:=@Nat.lt_of_lt_of_le
abbrev U4:=@Nat.zero_le
abbrev U5:=@wpAny_field
abbrev U6:=@List.zip_cons_cons
abbrev U7:=@List.count_append
abbrev U8:=@List.nodup_append
abbrev U9:=@List.foldl_cons
abbrev X0:=@decide_eq_true
abbrev X1:=@decide_eq_false
abbrev X2:=@of_decide_eq_true
abbrev X3:=@Option.some.inj
abbrev X4:=@List.nil_append
abbrev X5:=@List.getElem?_eq_getElem
abbrev X6:=@List.length_take
abbrev X7:=@Heap.get?_push_size
abbrev X8:=@Nat.lt_of_le_of_lt
end
abbrev J0:=PySem.Value->PySem.Shared->Prop
abbrev W0:=List (PySem.Addr×PySem.Obj)
abbrev W1:=List (List Nat)
abbrev W4:=PySem.W.Frag
abbrev W5:=List PySem.Addr
abbrev W6:=PySem.Str->Option PySem.Value
namespace L2
inductive eB {s u:Type}(P:s->u->Prop):Prop | mk:∀ x0 x1,P x0 x1->eB P
inductive dL {s u γ:Type}(P:s->u->γ->Prop):Prop | mk:∀ x0 x1 x2,P x0 x1 x2->dL P
inductive gP {s u γ δ:Type}(P:s->u->γ->δ->Prop):Prop | mk:∀ x0 x1 x2 x3,P x0 x1 x2 x3->gP P
inductive pR {s u γ δ ε:Type}(P:s->u->γ->δ->ε->Prop):Prop | mk:∀ x0 x1 x2 x3 x4,P x0 x1 x2 x3 x4->pR P
inductive w_ {s u γ δ ε ζ:Type}(P:s->u->γ->δ->ε->ζ->Prop):Prop | mk:∀ x0 x1 x2 x3 x4 x5,P x0 x1 x2 x3 x4 x5->w_ P
inductive pT {s u γ δ ε ζ η:Type}(P:s->u->γ->δ->ε->ζ->η->Prop):Prop | mk:∀ x0 x1 x2 x3 x4 x5 x6,P x0 x1 x2 x3 x4 x5 x6->pT P
inductive nr {s u γ δ ε ζ η θ:Type}(P:s->u->γ->δ->ε->ζ->η->θ->Prop):Prop | mk:∀ x0 x1 x2 x3 x4 x5 x6 x7,P x0 x1 x2 x3 x4 x5 x6 x7->nr P
inductive pU {s u γ δ ε ζ η θ ι:Type}(P:s->u->γ->δ->ε->ζ->η->θ->ι->Prop):Prop | mk:∀ x0 x1 x2 x3 x4 x5 x6 x7 x8,P x0 x1 x2 x3 x4 x5 x6 x7 x8->pU P
inductive l6 {u v γ δ ε ζ η θ ι s μ:Type}(P:u->v->γ->δ->ε->ζ->η->θ->ι->s->μ->Prop):Prop | mk:∀ x0 x1 x2 x3 x4 x5 x6 x7 x8 x9 x10,P x0 x1 x2 x3 x4 x5 x6 x7 x8 x9 x10->l6 P
inductive j4 (a b:Prop):Prop | mk:a->b->j4 a b
inductive cM (a b c:Prop):Prop | mk:a->b->c->cM a b c
inductive dY (a b c d:Prop):Prop | mk:a->b->c->d->dY a b c d
inductive fI (a b c d e:Prop):Prop | mk:a->b->c->d->e->fI a b c d e
inductive pW (a b c d e f:Prop):Prop | mk:a->b->c->d->e->f->pW a b c d e f
inductive pX (a b c d e f g:Prop):Prop | mk:a->b->c->d->e->f->g->pX a b c d e f g
inductive x_ (a b c d e f g h:Prop):Prop | mk:a->b->c->d->e->f->g->h->x_ a b c d e f g h
end L2
set_option maxRecDepth 100000
namespace L2
open PySem PySem.Spec PyProof.Rows
noncomputable abbrev cS:=Sum Int Str
def j5:cS->Value->Bool
 | .inl k,v=>Value.isInt k v
 | .inr x,v=>Value.isStrOf x v
def E8(w:World):cS->Int
 | .inl k=>hashInt k
 | .inr x=>hashStr w x
def yo:∀{k}{v},j5 k v=true->(∃ i t,k=Sum.inl i/\v=Value.int i t)\/(∃ x t,k=Sum.inr x/\v=Value.str x t)
 | .inl i,v,h=>by
  let[t,e]:=Value.isInt_shape h;exact .inl #v[i,t,rfl,e]
 | .inr x,v,h=>by
  let[t,e]:=Value.isStrOf_shape h;exact .inr #v[x,t,rfl,e]
def E9(i)(t):j5 (.inl i) (.int i t)=true:=by simp[j5,Value.isInt]
def E'(x)(t):j5 (.inr x) (.str x t)=true:=by simp[j5,Value.isStrOf]
def E_(a b):decide ((Sum.inl a:cS)=Sum.inl b)=(a==b):=by
 by_cases e:a=b
 ·subst e;simp
 ·have h:¬ (Sum.inl a:cS)=Sum.inl b:=λq=>e<|Sum.inl.inj q;rw[X1 h];exact(U1.mpr e).symm
def Fa(a b):decide ((Sum.inr a:cS)=Sum.inr b)=decide (a=b):=by
 by_cases e:a=b
 ·subst e;simp
 ·have h:¬ (Sum.inr a:cS)=Sum.inr b:=λq=>e<|Sum.inr.inj q;rw[X1 h,X1 e]
def Fb(a)(b):decide ((Sum.inl a:cS)=Sum.inr b)=false:=X1 (λq=>nomatch q)
def Fc(a)(b):decide ((Sum.inr a:cS)=Sum.inl b)=false:=X1 (λq=>nomatch q)
def yi(prog)(w):PySem.KeyKind prog w cS where
 is:=j5
 hash:=E8 w
 inj:=λv a b ha hb=>by
  rcases yo ha with⟨i,t,rfl,rfl⟩ | ⟨x,t,rfl,rfl⟩
  ·rcases yo hb with⟨j,u,rfl,e⟩ | ⟨y,u,rfl,e⟩
   ·injection e with e1 _;rw[e1]
   ·exact nomatch e
  ·rcases yo hb with⟨j,u,rfl,e⟩ | ⟨y,u,rfl,e⟩
   ·exact nomatch e
   ·injection e with e1 _;rw[e1]
 byValue:=λk v h=>by
  rcases yo h with⟨i,t,rfl,rfl⟩ | ⟨x,t,rfl,rfl⟩<;>rfl
 pyHash:=λhv h=>by
  rcases yo hv with⟨i,t,rfl,rfl⟩ | ⟨x,t,rfl,rfl⟩
  ·exact wpAny_pyHash_int h
  ·exact wpAny_pyHash_str h
 eqBool:=λhu hv h=>by
  rcases yo hu with⟨i,t,rfl,rfl⟩ | ⟨x,t,rfl,rfl⟩
  ·rcases yo hv with⟨j,u,rfl,rfl⟩ | ⟨y,u,rfl,rfl⟩
   ·rw[E_] at h;exact wpAny_eqBool_int h
   ·rw[Fb] at h;exact SeqAt.EqAt.int_str i t y u _ _ _ _ h
  ·rcases yo hv with⟨j,u,rfl,rfl⟩ | ⟨y,u,rfl,rfl⟩
   ·rw[Fc] at h;exact SeqAt.EqAt.str_int x t j u _ _ _ _ h
   ·rw[Fa] at h;exact wpAny_eqBool_str h
 «strs»:=λk x t v h=>by
  rcases yo h with⟨i,u,rfl,e⟩ | ⟨y,u,rfl,e⟩
  ·exact nomatch e
  ·injection e with e1 _;subst e1;cases v<;>rfl
inductive V where
 | non | bl (b:Bool) | int (i:Int) | str (x:Str) | byt (b:Array UInt8) | flt (b:UInt64) | ref (a:Addr) | ty (n:String)
 deriving DecidableEq
def bR:V->Value->Prop
 | .non,u=>u=Value.none
 | .bl b,u=>u=Value.bool b
 | .int i,u=>∃ t,u=Value.int i t
 | .str x,u=>∃ t,u=Value.str x t
 | .byt b,u=>∃ t,u=Value.bytes b t
 | .flt b,u=>∃ t,u=Value.float b t
 | .ref a,u=>u=Value.ref a
 | .ty n,u=>u=Value.type n
abbrev bQ:List V->List Value->Prop:=Paired bR
def bQ.length(r:bQ xs us):-xs=-us:=Paired.length r
theorem bQ.get:∀{xs}{us}{i:Nat}{x},bQ xs us->xs[i]?\x->∃ u,us[i]?\u/\bR x u
 | _,_,_,_,.nil,e=>by simp at e
 | _,_,0,_,.cons r _,e=>by simp at e;subst e;exact#v[_,rfl,r]
 | _,_,i+1,x,.cons _ t,e=>by
  let[u,a,b]:=bQ.get t ⇑e;exact#v[u,by simpa using a,b]
theorem bQ.set(r:bR x u):∀{xs}{us} i,bQ xs us->bQ (xs.set i x) (us.set i u)
 | _,_,_,.nil=>.nil
 | _,_,0,.cons _ t=>.cons r t
 | _,_,i+1,.cons q t=>.cons q<|bQ.set r i t
def bQ.append{xs ys}{us ws}(h:bQ xs us)(s:bQ ys ws):bQ (xs++ys) (us++ws):=by
 induction h with
 | nil=>exact s
 | cons r _ a=>exact .cons r a
theorem bQ.take:∀{xs}{us} n,bQ xs us->bQ (xs.take n) (us.take n)
 | _,_,0,_=>.nil
 | _,_,_+1,.nil=>.nil
 | _,_,n+1,.cons r t=>.cons r<|bQ.take n t
theorem bQ.drop:∀{xs}{us} n,bQ xs us->bQ (xs.drop n) (us.drop n)
 | _,_,0,r=>r
 | _,_,_+1,.nil=>.nil
 | _,_,n+1,.cons _ t=>bQ.drop n t
def cT:Option V->Option Value->Prop
 | some v,some u=>bR v u
 | none,none=>True
 | _,_=>False
def KV{s}:List (s×V)->List (s×Value)->Prop:=Paired λp q=>p.1=q.1/\bR p.2 q.2
def kV:cS->V
 | .inl i=>.int i
 | .inr x=>.str x
inductive HO where
  | lst (xs:List V)
  | tup (xs:List V)
  | dK (kvs:List (cS×V)) | dT (kvs:List (List cS×V))
  | set (S:Int->Bool) (n:Nat)
  | ins (C dx:Addr) (fs:List (Str×V))
  | own (x:Addr)
  | xd (fs:List (Str×V))
  | met (f x:Addr)
  | rng (lo hi:Int)
  | frz (o:Obj) (u:HO)
  | tbl (ps:Array Value)
  | ext (φ:Heap->Prop)
noncomputable abbrev Hp:=Addr->Option HO
def bU(H:Hp)(a:Addr)(o:HO):Hp:=λb=>if b=a then some o else H b
def js:bU H a o a\o:=by unfold bU;rw[if_pos rfl]
def jh(h:b≠a):bU H a o b=H b:=by unfold bU;rw[if_neg h]
def yn:bU (bU H a o) a u=bU H a u:=by
 funext b;unfold bU;split<;>rfl
def qC{H:Hp}{a b}{o}(h:H a\o)(h':H b=none):a≠b:=by
 intro e;subst e;rw[h] at h';cases h'
def cV(h:Heap)(a:Addr)(its:Array Value):Prop:=IsTup h a its/\∃ o,h.get? a\o/\o.dict=none
def cV.new(h:Heap)(its):cV (h.push {cls:=.type "tuple",data:=.seq its}) h.objs.size its:=#v[IsTup.new h its,_,X7 _ rfl,rfl]
def cV.lt(x:cV h a its):a<h.objs.size:=x.1.lt
section
variable (P:Program)(w:World)
def cu(H:Hp)(h:Heap)(a:Addr):HO->Prop
 | .lst xs=>-xs<=sizeLine/\∃ its n,bQ xs its/\h.get? a=some {cls:=.type "list",data:=.seq its.toArray n}
 | .tup xs=>-xs<=sizeLine/\∃ its:List Value,bQ xs its/\cV h a its.toArray
 | .dK kvs=>-kvs<=sizeLine/\(a==sysModules)=false/\∃ vs,KV kvs vs/\h.DictOf (yi P w) a vs
 | .dT kvs=>-kvs<=sizeLine/\(a==sysModules)=false/\∃ xs:List (List cS×Addr×Value),
   Paired (λp q=>p.1=q.1/\H q.2.1\(.tup<|p.1.map kV)/\bR p.2 q.2.2) kvs xs /\
   ∃ o es ep,h.get? a\o/\o.ExactDict/\o.data=.dict es ep/\es.toList=xs.map (entryOfKey<|tupleKind<|yi P w)/\(xs.map (·.1)).Nodup
 | .set S n=>h.SetOf (intKind P w) a S n
 | .ins C dx fs=>H dx\(.own a)/\ -fs<=1000/\dx≠a/\h.get? a=some (PySem.W.instObj C dx) /\
   ∃ mA,h.Ns1 dx mA/\(∀ f,cT (fs.lookup f)<|mA f)/\PySem.Within mA (fs.map (·.1))
 | .own _=>∃ o,h.get? a\o
 | .xd fs=>∃ mA,h.Ns1 a mA/\∀ f,cT (fs.lookup f)<|mA f
 | .rng lo hi=>∃ t u v,h.get? a=some {cls:=.type "range",data:=.fields #[.int lo t,.int hi u,.int 1 v]}
 | .frz o u=>h.get? a\o/\cu H h a u
 | .tbl ps=>h.get? a=some {cls:=.none,data:=.fields ps}
 | .met f x=>h.get? a\(PySem.W.methodObj (.ref f)<|.ref x)
 | .ext φ=>φ h/\(∃ o,h.get? a\o)/\∀ h1 h2:Heap,φ h1->(∀ o,h1.get? a\o->h2.get? a\o)->φ h2
def c8(H:Hp)(h:Heap):Prop:=∀ a o,H a\o->cu P w H h a o
end
section
variable {P:Program}{w:World}{H H':Hp}{h h':Heap}{a:Addr}{o:HO}
def cu.lt(x:cu P w H h a o):a<h.objs.size:=by
 cases o with
 | lst c=>let[_,_,_,_,e]:=x;exact N0 e
 | tup c=>let[_,_,_,p]:=x;exact p.lt
 | dK b=>let[_,_,_,_,o,_,_,e,_]:=x;exact N0 e
 | dT b=>let[_,_,_,_,o,_,_,e,_]:=x;exact N0 e
 | set S n=>let[o,_,_,_,e,_]:=x;exact N0 e
 | ins C d fs=>let[_,_,_,e,_]:=x;exact N0 e
 | own y=>let[_,e]:=x;exact N0 e
 | xd fs=>obtain⟨_,⟨_,_,_,e,_⟩,_⟩:=x;exact N0 e
 | rng lo hi=>let[_,_,_,e]:=x;exact N0 e
 | frz ob u=>let[e,_]:=x;exact N0 e
 | tbl g=>exact N0<|x
 | met f y=>exact N0<|x
 | ext φ=>obtain⟨_,⟨_,e⟩,_⟩:=x;exact N0 e
def Paired.mapP{c}{l₂}(h:Paired F c l₂)(f:∀ a b,F a b->G a b):Paired G c l₂:=by
 induction h with
 | nil=>exact .nil
 | cons r _ d=>exact .cons (f _ _ r) d
def cu.stay(x:cu P w H h a o)(k:∀ b u,(b=a\/H b\(.own a))->h.get? b\u->h'.get? b\u)
  (B:∀ b,H b\(.own a)->H' b\(.own a)) (D:∀ b xs,H b\(.tup xs)->H' b\(.tup xs)):cu P w H' h' a o:=by
 induction o with
 | lst xs=>let[z,j,n,r,e]:=x;exact#v[z,j,n,r,k _ _ (.inl rfl) e]
 | tup xs=>obtain⟨z,j,r,⟨ob,e,c⟩,l,e2,E⟩:=x;exact#v[z,j,r,#v[ob,k _ _ (.inl rfl) e,c],l,k _ _ (.inl rfl) e2,E]
 | dK m=>let[z,y,vs,r,ob,g,i,e,c]:=x;exact#v[z,y,vs,r,ob,g,i,k _ _ (.inl rfl) e,c]
 | dT m=>
  let[z,y,xs,r,ob,g,i,e,c]:=x;exact#v[z,y,xs,Paired.mapP r λp q z=>#v[z.1,D _ _ z.2.1,z.2.2],ob,g,i,k _ _ (.inl rfl) e,c]
 | set S n=>let[ob,g,i,t,e,c]:=x;exact#v[ob,g,i,t,k _ _ (.inl rfl) e,c]
 | ins C G fs=>
  obtain⟨d,z,ne,e,s,⟨od,g,i,e2,c⟩,r⟩:=x;exact#v[B _ d,z,ne,k _ _ (.inl rfl) e,s,#v[od,g,i,k _ _ (.inr d) e2,c],r]
 | own y=>let[ob,e]:=x;exact#v[ob,k _ _ (.inl rfl) e]
 | xd fs=>obtain⟨s,⟨od,g,i,e,c⟩,r⟩:=x;exact#v[s,#v[od,g,i,k _ _ (.inl rfl) e,c],r]
 | rng lo hi=>let[t,u,v,e]:=x;exact#v[t,u,v,k _ _ (.inl rfl) e]
 | frz ob u F=>let[e,q]:=x;exact#v[k _ _ (.inl rfl) e,F q]
 | tbl I=>
  have e:=x;exact k a _ (.inl rfl) e
 | met f y=>
  have e:=x;exact k a _ (.inl rfl) e
 | ext φ=>obtain⟨p,⟨o,e⟩,A⟩:=x;exact#v[A _ _ p λo q=>k _ _ (.inl rfl) q,#v[o,k _ _ (.inl rfl) e],A]
def c8.lt(x:c8 P w H h)(e:H a\o):a<h.objs.size:=(x a o e).lt
def c8.fresh(x:c8 P w H h)(e:h.objs.size<=a):H a=none:=by
 cases q:H a with
 | none=>rfl
 | some u=>exact absurd (U3 (x.lt q) e)<|Nat.lt_irrefl _
def c8.kept(x:c8 P w H h)(k:∀ b u,h.get? b\u->h'.get? b\u):c8 P w H h':=λa o e=>
 (x a o e).stay (λb u _ q=>k b u q) (λ_ q=>q) λ_ _ q=>q
def c8.laid(x:c8 P w H h)(k:∀ b u,h.get? b\u->h'.get? b\u)(g:h.objs.size<=a)(new:cu P w (bU H a o) h' a o):c8 P w (bU H a o) h':=λb u e=>by
 have d:=x.fresh g;by_cases f:b=a
 ·subst f;rw[js] at e;cases e;exact new
 ·rw[jh f] at e;exact(x b u e).stay (λc v _ q=>k c v q) (λc q=>by rw[jh<|qC q d];exact q) λc i q=>by rw[jh<|qC q d];exact q
end
def Rd(H:Hp)(a:Addr)(u:HO):Prop:=H a=some u \/ ∃ o,H a\(.frz o u)
def Rd.ok(r:Rd H a u)(x:c8 P w H h):cu P w H h a u:=by
 rcases r with r | ⟨o,r⟩
 ·exact x a u r
 ·let[_,q]:=x a _ r;exact q
def l7:Option HO->Prop
 | some (.lst _)=>True
 | some (.dK _)=>True
 | some (.dT _)=>True
 | some (.set _ _)=>True
 | some (.ins _ _ _)=>True
 | some (.ext _)=>True
 | _=>False
section
variable {P:Program}{w:World}{H:Hp}{h h':Heap}{x e:Addr}{o':HO}
def c8.write(ok:c8 P w H h)(g:l7<|H x)(n:e=x\/H e\(.own x))(k:∀ b u,b≠e->h.get? b\u->h'.get? b\u)(m:∃ u,h'.get? e\u)
  (new:cu P w (bU H x o') h' x o'):c8 P w (bU H x o') h':=λb u q=>by
 have d:∀ c y,H c\(.own y)->c≠x:=λc y r z=>by subst z;rw[r] at g;exact g
 have f:∀ c i,H c\(.tup i)->c≠x:=λc i r z=>by subst z;rw[r] at g;exact g
 by_cases j:b=x
 ·subst j;rw[js] at q;cases q;exact new
 ·rw[jh j] at q;by_cases a:b=e
  ·have o:H b\(.own x):=by
    rcases n with z | z
    ·exact absurd (a.trans z) j
    ·rw[a];exact z
   rw[q] at o;cases o;let[v,p]:=m;exact#v[v,by rw[a];exact p]
  ·refine(ok b u q).stay (λc v l r=>k c v ?_ r) (λc r=>by rw[jh<|d c b r];exact r) λc i r=>by rw[jh<|f c i r];exact r
   rcases l with rfl | l
   ·exact a
   ·rintro rfl;rcases n with z | z
    ·exact d c b l z
    ·rw[l] at z;cases z;exact j rfl
end
structure Un(fs ex:W5)(H H':Hp)(h h':Heap):Prop where
 keep:∀ b o,h.get? b\o->H b=none->b∉fs->b∉ex->h'.get? b\o
 slot:∀ b o,h.get? b\o->H b=none->b∈fs->b∉ex->∃ sl,h'.get? b=some {o with slots:=sl}
 free:∀ b o,h.get? b\o->H b=none->b∉ex->H' b=none
 there:∀ b o,h.get? b\o->b∉ex->∃ o',h'.get? b\o'
 tups:∀ b xs,H b\(.tup xs)->H' b\(.tup xs)
 frzs:∀ b o u,H b\(.frz o u)->H' b\(.frz o u)
 tbls:∀ b ps,H b\(.tbl ps)->∃ more,H' b\(.tbl<|ps++more)
section
variable {fs fs' ex ex':W5}{H H1 H2:Hp}{h h1 h2 h':Heap}{a x e:Addr}{o:HO}
def Un.any(u:Un fs ex H H1 h h1)  (q:h.get? b\ob) (n:H b=none) (hx:b∉ex):∃ sl,h1.get? b=some {ob with slots:=sl}:=by
 by_cases a:b∈fs
 ·exact u.slot b ob q n a hx
 ·exact#v[ob.slots,u.keep b ob q n a hx]
def Un.kept(k:∀ b u,h.get? b\u->h'.get? b\u):Un fs ex H H h h':=
 ⟨λb ob q _ _ _=>k b ob q,λb ob q _ _ _=>#v[ob.slots,k b ob q],λ_ _ _ n _=>n,λb ob q _=>#v[ob,k b ob q],λ_ _ q=>q,λ_ _ _ q=>q,λ_ a q=>#v[#[],by rw[q];simp]⟩
def Un.refl:Un fs ex H H h h:=Un.kept λ_ _ q=>q
def Un.laid(k:∀ b u,h.get? b\u->h'.get? b\u)(c:h.objs.size<=a)(hn:H a=none):Un fs ex H (bU H a o) h h' where
 keep:=λb u q _ _ _=>k b u q
 slot:=λb u q _ _ _=>#v[u.slots,k b u q]
 free:=λb u q n _=>by rw[jh<|N5<|U3 (N0 q) c];exact n
 there:=λb u q _=>#v[u,k b u q]
 tups:=λb d q=>by rw[jh<|qC q hn];exact q
 frzs:=λb u d q=>by rw[jh<|qC q hn];exact q
 tbls:=λb e q=>#v[#[],by rw[jh<|qC q hn,q];simp]
def Un.write(c:l7<|H x)(i:e=x\/H e\(.own x))(k:∀ b u,b≠e->h.get? b\u->h'.get? b\u)(d:∃ u,h'.get? e\u):Un fs ex H (bU H x o) h h':=by
 have hx:∀ b,H b=none->b≠x:=λb n z=>by subst z;rw[n] at c;exact c
 have g:∀ b,H b=none->b≠e:=λb n z=>by
  subst z;rcases i with r | r
  ·exact hx b n r
  ·rw[n] at r;cases r
 have f:∀ b u,H b\u->¬ l7 (some u)->b≠x:=λb u q nm z=>by subst z;rw[q] at c;exact nm c
 refine#v[λb u q n _ _=>k b u (g b n) q,λb u q n _ _=>#v[u.slots,k b u (g b n) q],λb u q n _=>by rw[jh<|hx b n];exact n,λb u q _=>?_,
  λb j q=>by rw[jh<|f b _ q λz=>z];exact q,λb u j q=>by rw[jh<|f b _ q λz=>z];exact q,λb l q=>#v[#[],by rw[jh<|f b _ q λz=>z,q];simp]]
 by_cases a:b=e
 ·subst a;exact d
 ·exact#v[u,k b u a q]
end
def nt(h:Heap)(H:Hp):List Addr:=(List.range h.objs.size).filter λa=>(H a).isSome
def j'(h:Heap)(H:Hp):Heap:=PySem.W.hideAll h<|nt h H
def Fd(e:h.get? b\o)(n:H b=none):(j' h H).get? b\o:=
 PySem.W.hideAll_get _ e λa=>by
  have q:=(List.mem_filter.mp a).2;rw[n] at q;simp at q
def Fe(g h:Heap)(L:Addr):List (Addr×Obj):=(List.range h.objs.size).filterMap λa=>if a=L\/(g.get? a).isSome=true then none else(h.get? a).map λo=>(a,o)
def rest(g h:Heap)(L d:Addr):List (Addr×Obj):=(Fe g h L).filter λp=>decide<|p.1≠d
structure Mod(K:W4)(mg:W6)(base:Heap):Prop where
 kin:K.In base
 glob:base.Ns mainGlobals mg
 blt:∃ mb,base.Ns builtinsNs mb/\∀ x:Str,x≠"__name__"->mb x=bootBuiltins x
 nolimit:base.NoLimit
structure Cx where
 prog:Program
 w:World
 K:PySem.W.Frag
 mg:Str->Option Value
 base:Heap
 A:Around
 N:List Str
 s₀:Shared
 H₀:Hp
 env:Env
 outer:List Env
 stack:List Env
 ex:List Addr
 fn:Str->Bool
 calm:Bool
 pn:List (Addr×Obj)
 xe:Value->Shared->Prop
def f_(l:List Env):List Addr:=l.filterMap (·.frame)
abbrev Cx.fs(X:Cx):List Addr:=f_ X.outer
def l8(sc:Scope)(x:Str):Prop:=sc.names.lookup x=some .local\/sc.names.lookup x=some .cell\/sc.names.lookup x\.free
def ga(sc:Scope)(x:Str):Prop:=sc.names.lookup x=some .local\/sc.names.lookup x\.cell
def Ff(env:Env)(h:Heap)(m:W6)(x:Str)(u:Value):Prop:=
 (env.kindOf x\.local/\m x\u)\/((env.kindOf x=some .cell\/env.kindOf x\.free)/\∃ c,env.cells.lookup x\c/\h.IsCell c (some u))
structure Cx.Ok(X:Cx):Prop where
 mod:Mod X.K X.mg X.base
 kind:X.env.scope.kind=.function
 glob:X.env.globals=mainGlobals
 blt:X.env.builtins=builtinsNs
 above:X.s₀.heap.objs.size<=X.env.locals
 inj:∀ x y c,X.env.cells.lookup x\c->X.env.cells.lookup y\c->x=y
 has:∀ x,(X.env.kindOf x=some .cell\/X.env.kindOf x\.free)->∃ c,X.env.cells.lookup x\c
 cab:∀ x c,X.fn x=true->X.env.cells.lookup x\c->X.s₀.heap.objs.size<=c
 hd:X.calm=true->X.A.handled=none
 frames:X.A.frames\X.stack
 stk:X.stack=X.outer\/(X.stack=X.env::X.outer/\X.env.frame\X.env.locals)
 exf:∀ b∈X.ex,b≠X.env.locals/\∀ x c,X.env.cells.lookup x\c->c≠b
 bs:∀ b o,X.base.get? b\o->X.s₀.heap.get? b\o/\X.H₀ b=none
 bsz:X.base.objs.size<=X.s₀.heap.objs.size
 noex:∀ b o,X.base.get? b\o->b∉X.ex
 exfs:∀ b∈X.ex,b∉X.fs
 funs:X.s₀.heap.FunFrames X.base X.outer
 frf:∀ b∈X.fs,X.H₀ b=none
structure bP(X:Cx)(pins:W0)(y:List<|Option V)(H:Hp)(s:Shared):Prop where
 ok:X.Ok
 os:s.os=X.s₀.os
 bare:AllBare s.gens
 base:Un X.fs X.ex X.H₀ H X.s₀.heap s.heap
 loc:∃ m,s.heap.Ns X.env.locals m/\∀(i:Nat) (x:Str) (v:V),X.N[i]?\x->y[i]?\(some v)->l8 X.env.scope x->∃ u,bR v u/\Ff X.env s.heap m x u
 cell:∀ x c,X.env.cells.lookup x\c->∃ v,s.heap.IsCell c v
 free:H X.env.locals=none
 freeC:∀ x c,X.env.cells.lookup x\c->H c=none
 pin:∀ p∈X.pn++pins,s.heap.get? p.1\p.2/\H p.1=none/\p.1≠X.env.locals/\p.1∉X.fs/\∀ v,p.2.data≠.cell v
 hok:c8 X.prog X.w H s.heap
 len:-y=-X.N
section
variable {X:Cx}{pins:List (Addr×Obj)}{σ:List (Option V)}{H H':Hp}{s:Shared}{h':Heap}
def Cx.Ok.nofr(ok:X.Ok)  {o}(e:X.base.get? b\o):b∉X.fs:=λa=>by
 have:=(ok.funs.mem a).1;rw[e] at this;cases this
def bP.bs(I:bP X pins σ H s):∀ b o,X.base.get? b\o->s.heap.get? b\o/\H b=none:=λb o e=>
 ⟨I.base.keep b o (I.ok.bs b o e).1 (I.ok.bs b o e).2 (I.ok.nofr e) (I.ok.noex b o e),I.base.free b o (I.ok.bs b o e).1 (I.ok.bs b o e).2 (I.ok.noex b o e)⟩
def bP.bk(I:bP X pins σ H s):∀ b o,X.base.get? b\o->s.heap.get? b\o:=λb o e=>(I.bs b o e).1
def bP.mod(I:bP X pins σ H s):Mod X.K X.mg X.base:=I.ok.mod
def bP.kIn(I:bP X pins σ H s):X.K.In s.heap:=I.ok.mod.kin.keeps I.bk
def bP.lt(I:bP X pins σ H s):X.env.locals < ↥s:=let ⟨_,hn,_⟩:=I.loc;hn.lt
def bP.sz(I:bP X pins σ H s):X.s₀.heap.objs.size<=↥s:=N6 I.ok.above<|Nat.le_of_lt I.lt
def bP.nofs(I:bP X pins σ H s)  (h:↥s<=a):a∉X.fs:=λb=>by
 let[_,o,c,_]:=I.ok.funs.mem b;exact absurd (U3 (N0 c)<|N6 I.sz h)<|Nat.lt_irrefl _
def bP.cne(I:bP X pins σ H s):∀ x c,X.env.cells.lookup x\c->c≠X.env.locals:=λx c e z=>by
 let[v,o,d,hd]:=I.cell x c e;obtain⟨m,⟨f,g,h,a,b,_⟩,_⟩:=I.loc;rw[z,a] at d;cases d;rw[b] at hd;cases hd
def bP.funs(I:bP X pins σ H s):s.heap.FunFrames X.base X.outer:=by
 have all:∀ l,(∀ b∈f_ l,b∈X.fs)->X.s₀.heap.FunFrames X.base l->s.heap.FunFrames X.base l:=by
  intro l
  induction l with
  | nil=>intro _ _;trivial
  | cons env r g=>
   intro f h;obtain⟨i,⟨L,o,a,j,k,hd⟩,m⟩:=h;have c:=f L (by unfold f_;rw[List.filterMap_cons,a];exact L7);let[n,e]:=I.base.slot L o k (I.ok.frf L c) c λz=>I.ok.exfs L z c;exact#v[i,#v[L,_,a,j,e,hd],g (λb d=>f b<|by unfold f_;rw[List.filterMap_cons,a];exact L6 _ d) m]
 exact all X.outer (λ_ d=>d) I.ok.funs
def bP.stack(I:bP X pins σ H s):s.heap.FunFrames X.base X.stack:=by
 rcases I.ok.stk with e | ⟨e,a⟩
 ·rw[e];exact I.funs
 ·rw[e];let[m,b,_]:=I.loc;refine .cons (by rw[I.ok.kind];decide) a b ?_ I.funs;exact Heap.get?_none_of_le<|N6 I.ok.bsz I.ok.above
def bP.stkSub(I:bP X pins σ H s):∀ b∈f_ X.stack,b∈X.env.locals::X.fs:=λb a=>by
 rcases I.ok.stk with e | ⟨e,c⟩
 ·rw[e] at a;exact L6 _ a
 ·rw[e] at a;unfold f_ at a;rw[List.filterMap_cons,c] at a;exact a
def bP.stkFree(I:bP X pins σ H s):∀ b∈f_ X.stack,H b=none:=λb a=>by
 rcases M4.mp (I.stkSub b a) with e | a
 ·rw[e];exact I.free
 ·let[_,o,c,_]:=I.ok.funs.mem a;exact I.base.free b o c (I.ok.frf b a) λz=>I.ok.exfs b z a
def bP.step{C}{t'}{ch:W5}(I:bP X pins σ H s)
  (a:∀ b∈ch,(b∈X.ex\/X.s₀.heap.objs.size<=b)/\b≠X.env.locals/\(∀ x c,X.env.cells.lookup x\c->c≠b)/\∀ p∈X.pn++pins,p.1≠b)
  (keep:∀ b o,b≠X.env.locals->b∉X.fs->b∉ch->s.heap.get? b\o->H b=none->h'.get? b\o)
  (slot:∀ b o,b≠X.env.locals->b∈X.fs->b∉ch->s.heap.get? b\o->H b=none->∃ sl,h'.get? b=some {o with slots:=sl}) (free:∀ b o,b∉ch->s.heap.get? b\o->H b=none->H' b=none)
  (there:∀ b o,b∉ch->s.heap.get? b\o->∃ o',h'.get? b\o')
  (tups:∀ b xs,H b\(.tup xs)->H' b\(.tup xs)) (frzs:∀ b o u,H b\(.frz o u)->H' b\(.frz o u)) (tbls:∀ b ps,H b\(.tbl ps)->∃ more,H' b\(.tbl<|ps++more))
  (ns:∀ m,s.heap.Ns X.env.locals m->h'.Ns X.env.locals m) (hok:c8 X.prog X.w H' h') (G:AllBare C):
  bP X pins σ H' {s with heap:=h',gens:=C,drawn:=d',toks:=t'}:=by
 have A:∀ b o,X.s₀.heap.get? b\o->b≠X.env.locals:=λb o e=>N5<|U3 (N0 e) I.ok.above;have h:∀ b o,X.s₀.heap.get? b\o->b∉X.ex->b∉ch:=λb o e hx t=>by
  rcases(a b t).1 with z | z
  ·exact hx z
  ·exact absurd (U3 (N0 e) z)<|Nat.lt_irrefl _
 have f:∀ x c,X.env.cells.lookup x\c->∀ v,s.heap.IsCell c v->h'.IsCell c v:=λx c e v ⟨o,y,hd⟩=>by
  have g:=λz=>(a c z).2.2.1 x c e rfl;by_cases D:c∈X.fs
  ·let[sl,q]:=slot c o (I.cne x c e) D g y<|I.freeC x c e;exact#v[_,q,hd]
  ·exact#v[o,keep c o (I.cne x c e) D g y<|I.freeC x c e,hd]
 refine#v[I.ok,I.os,G,#v[λb o e n t hx=>(keep b o (A b o e) t (h b o e hx) (I.base.keep b o e n t hx)<|I.base.free b o e n hx),λb o e n t hx=>?_,λb o e n hx=>?_,λb o e hx=>?_,λb xs e=>tups b xs<|I.base.tups b xs e,λb o xs e=>frzs b o xs<|I.base.frzs b o xs e,λb ps e=>?_],?_,λx c e=>?_,?_,λx c e=>?_,λp E=>?_,hok,I.len]
 ·let[sl,j]:=I.base.slot b o e n t hx;let[B,e2]:=slot b _ (A b o e) t (h b o e hx) j<|I.base.free b o e n hx;exact#v[B,e2]
 ·let[o',j]:=I.base.there b o e hx;exact free b o' (h b o e hx) j<|I.base.free b o e n hx
 ·let[o',j]:=I.base.there b o e hx;exact there b o' (h b o e hx) j
 ·let[J,j]:=I.base.tbls b ps e;let[K,e2]:=tbls b _ j;exact#v[J++K,by rw[e2,Array.append_assoc]]
 ·let[m,L,M]:=I.loc;refine#v[m,ns m L,λi x v j e2 e3=>?_];let[u,r,l]:=M i x v j e2 e3;refine#v[u,r,?_];rcases l with l | ⟨k,c,e,z⟩
  ·exact .inl l
  ·exact .inr #v[k,c,e,f x c e _ z]
 ·let[v,z]:=I.cell x c e;exact#v[v,f x c e v z]
 ·obtain⟨m,⟨o,_,_,y,_⟩,_⟩:=I.loc;exact free _ o (λz=>(a _ z).2.1 rfl) y I.free
 ·let[v,o,y,hd]:=I.cell x c e;exact free c o (λz=>(a c z).2.2.1 x c e rfl) y<|I.freeC x c e
 ·let[e,n,ne,F,d]:=I.pin p E;have g:=λz=>(a p.1 z).2.2.2 p E rfl;exact#v[keep p.1 p.2 ne F g e n,free p.1 p.2 g e n,ne,F,d]
def bP.un{t'}(I:bP X pins σ H s)(u:Un X.fs [] H H' s.heap h')(hok:c8 X.prog X.w H' h'):bP X pins σ H' {s with heap:=h',toks:=t'}:=by
 obtain⟨m,⟨o,k,l,g,r⟩,_⟩:=id I.loc;let[p,h]:=u.any g I.free (by simp);exact I.step (ch:=[]) (λ_ z=>nomatch z) (λb o _ c _ e n=>u.keep b o e n c<|by simp) (λb o _ c _ e n=>u.slot b o e n c<|by simp) (λb o _ e n=>u.free b o e n<|by simp) (λb o _ e=>u.there b o e<|by simp) u.tups u.frzs u.tbls (λq i=>by
  let[t,d,f,a,j]:=i;rw[g] at a;cases a;exact#v[_,d,f,h,j]) hok I.bare
def bP.call{j}{t'}{ch}(I:bP X pins σ H s)(u:Un (f_ X.stack) ch H H' s.heap h')(hok:c8 X.prog X.w H' h')(l:AllBare j)
  (d:∀ b∈ch,(b∈X.ex\/X.s₀.heap.objs.size<=b)/\b≠X.env.locals/\(∀ x c,X.env.cells.lookup x\c->c≠b)/\∀ p∈X.pn++pins,p.1≠b):
  bP X pins σ H' {s with heap:=h',gens:=j,drawn:=d',toks:=t'}:=by
 obtain⟨m,⟨o,y,A,k,r⟩,_⟩:=id I.loc;let[B,g]:=u.any k I.free λz=>(d _ z).2.1 rfl;exact I.step d (λb o g q a e n=>u.keep b o e n (λz=>(M4.mp<|I.stkSub b z).elim g q) a) (λb o _ _ a e n=>u.any e n a) (λb o a e n=>u.free b o e n a) (λb o a e=>u.there b o e a) u.tups u.frzs u.tbls (λC t=>by
  let[D,h,i,f,v]:=t;rw[k] at f;cases f;exact#v[_,h,i,g,v]) hok l
def bP.turned{t'}(I:bP X pins σ H s)(k:∀ b o,b≠it->s.heap.get? b\o->h'.get? b\o)(hn:H it=none)(f:it≠X.env.locals)
  (h1:it∈X.ex\/X.s₀.heap.objs.size<=it) (h2:∀ x c,X.env.cells.lookup x\c->c≠it) (g:∀ p∈X.pn++pins,p.1≠it):bP X pins σ H {s with heap:=h',toks:=t'}:=by
 have d:∀ b u,H b\u->b≠it:=λb u e z=>by rw[z,hn] at e;cases e
 refine I.step (ch:=[it]) (λb h=>?_) (λb o _ _ a e _=>k b o (λz=>a<|by simp[z]) e) (λb o _ _ a e _=>#v[o.slots,k b o (λz=>a<|by simp[z]) e]) (λ_ _ _ _ n=>n)
  (λb o a e=>#v[o,k b o (λz=>a<|by simp[z]) e]) (λ_ _ e=>e) (λ_ _ _ e=>e) (λb w e=>#v[#[],by rw[e];simp]) (λm i=>?_) (λb u e=>?_) I.bare
 ·have e:b=it:=by simpa using h
  subst e;exact#v[h1,f,h2,g]
 ·let[o,j,l,t,r]:=i;exact#v[o,j,l,k _ o (Ne.symm f) t,r]
 ·refine(I.hok b u e).stay (λc v a q=>k c v ?_ q) (λ_ q=>q) λ_ _ q=>q;rcases a with z | z
  ·rw[z];exact d b u e
  ·exact d c _ z
def bP.tok(I:bP X pins σ H s)(t):bP X pins σ H {s with toks:=t}:=I.un Un.refl I.hok
def bP.kept(I:bP X pins σ H s)(k:∀ b u,s.heap.get? b\u->h'.get? b\u):bP X pins σ H {s with heap:=h',toks:=t'}:=I.un (Un.kept k)<|I.hok.kept k
def bP.laid(I:bP X pins σ H s)(k:∀ b u,s.heap.get? b\u->h'.get? b\u)(c:↥s<=a)(new:cu X.prog X.w (bU H a o) h' a o):
  bP X pins σ (bU H a o) {s with heap:=h',toks:=t'}:=I.un (Un.laid k c<|I.hok.fresh c)<|I.hok.laid k c new
def bP.write(I:bP X pins σ H s)(c:l7<|H x)(d:e=x\/H e\(.own x))(k:∀ b u,b≠e->s.heap.get? b\u->h'.get? b\u)(a:∃ u,h'.get? e\u)
  (new:cu X.prog X.w (bU H x o) h' x o):bP X pins σ (bU H x o) {s with heap:=h',toks:=t'}:=I.un (Un.write c d k a)<|I.hok.write c d k a new
def bP.pins_of(I:bP X pins σ H s)(h:∀ p∈pins',s.heap.get? p.1\p.2/\H p.1=none/\p.1≠X.env.locals/\p.1∉X.fs/\∀ v,p.2.data≠.cell v):bP X pins' σ H s:=
 ⟨I.ok,I.os,I.bare,I.base,I.loc,I.cell,I.free,I.freeC,λp a=>(N1.mp a).elim (λz=>I.pin p<|List.mem_append_left _ z) (h p),I.hok,I.len⟩
def y0{N:List Str}(c:N.Nodup){i j:Nat}(a:N[i]?\x)(b:N[j]?\x):i=j:=by
 let[e,d]:=L9.mp a;let[f,e2]:=L9.mp b;exact(List.getElem_inj c).mp (d.trans e2.symm)
def Fg(I:bP X pins σ H s)(hN:X.N.Nodup)(hi:X.N[i]?\x)(hx:ga X.env.scope x)(r:bR v u)
  (h:∀ s',bP X pins (σ.set i<|some v) H s'->(∃ a,Heap.SameBut a s.heap s'.heap/\(a=X.env.locals\/X.env.cells.lookup x\a))->Q () s') (hf:X.fn x=true\/X.env.scope.names.lookup x\.local:=by first | exact .inl rfl | exact .inr rfl | assumption):wpAny M A (storeName X.env x u) Q E s:=by
 let[m,V,hl]:=id I.loc;have K:(X.env.scope.kind==.class||(X.env.scope.kind==.module&&X.env.locals != X.env.globals))=false:=by rw[I.ok.kind];rfl
 have L:i< -σ:=by rw[I.len];exact(L9.mp hi).1
 have cne:=I.cne;have g:∀{a}{J},(∃ o,s.heap.get? a\o/\H a=none)->Heap.SameBut a s.heap J->c8 X.prog X.w H J:=λ{a J} ha f b ob e=>by
  let[_,_,B]:=ha;refine(I.hok b ob e).stay (λc T t q=>(f.2 c ?_).trans q) (λ_ q=>q) λ_ _ q=>q;rintro rfl;rcases t with rfl | t
  ·rw[B] at e;cases e
  ·rw[B] at t;cases t
 rcases hx with C | C
 ·refine wpAny_storeName_local C V (λJ W f=>?_) K;let[oL,_,_,Y,_]:=id V;refine h _ #v[I.ok,I.os,I.bare,#v[λb o e n D hx=>((f.2 b<|N5<|U3 (N0 e) I.ok.above).trans (I.base.keep b o e n D hx)),λb o e n D hx=>?_,I.base.free,λb o e hx=>?_,I.base.tups,I.base.frzs,I.base.tbls],#v[_,W,λj y Z l e2 e3=>?_],λy c e=>?_,I.free,I.freeC,λp hp=>?_,g #v[oL,Y,I.free] f,by simpa using I.len] #v[_,f,.inl rfl]
  ·let[sl,l]:=I.base.slot b o e n D hx;exact#v[sl,(f.2 b<|N5<|U3 (N0 e) I.ok.above).trans l]
  ·let[o',l]:=I.base.there b o e hx;exact#v[o',(f.2 b<|N5<|U3 (N0 e) I.ok.above).trans l]
  ·by_cases F:j=i
   ·subst F;rw[hi] at l;cases l;rw[List.getElem?_set_self L] at e2;cases e2;exact#v[u,r,.inl #v[C,by simp]]
   ·rw[List.getElem?_set_ne<|Ne.symm F] at e2;let[u',r',q]:=hl j y Z l e2 e3;refine#v[u',r',?_];rcases q with⟨k,e⟩ | ⟨k,c,e,z⟩
    ·refine .inl #v[k,?_];have:y≠x:=λe=>F<|y0 hN l<|e▸hi;simp[this,e]
    ·exact .inr #v[k,c,e,z.sameBut f<|cne y c e]
  ·let[T,z]:=I.cell y c e;exact#v[T,z.sameBut f<|cne y c e]
  ·let[e,n,ne,nf,d]:=I.pin p hp;exact#v[(f.2 p.1 ne).trans e,n,ne,nf,d]
 ·have G:X.fn x=true:=by
   rcases hf with z | z
   ·exact z
   ·rw[z] at C;cases C
  let[c,t]:=I.ok.has x<|.inl C;let[T,z]:=I.cell x c t;refine wpAny_storeName_cell I.ok.kind C t z<|λJ O f=>?_;let[oc,P,R]:=id z;refine h {s with heap:=J} #v[I.ok,I.os,I.bare,#v[λb o e n D hx=>((f.2 b<|N5<|U3 (N0 e)<|I.ok.cab x c G t).trans (I.base.keep b o e n D hx)),λb o e n D hx=>?_,I.base.free,λb o e hx=>?_,I.base.tups,I.base.frzs,I.base.tbls],#v[m,V.sameBut f<|Ne.symm<|cne x c t,λj y Z l e2 e3=>?_],λy U e=>?_,I.free,I.freeC,λp hp=>?_,g #v[oc,P,I.freeC x c t] f,by simpa using I.len] #v[c,f,.inr t]
  ·let[sl,l]:=I.base.slot b o e n D hx;exact#v[sl,(f.2 b<|N5<|U3 (N0 e)<|I.ok.cab x c G t).trans l]
  ·let[o',l]:=I.base.there b o e hx;exact#v[o',(f.2 b<|N5<|U3 (N0 e)<|I.ok.cab x c G t).trans l]
  ·by_cases F:j=i
   ·subst F;rw[hi] at l;cases l;rw[List.getElem?_set_self L] at e2;cases e2;exact#v[u,r,.inr #v[.inl C,c,t,O]]
   ·rw[List.getElem?_set_ne<|Ne.symm F] at e2;let[u',r',q]:=hl j y Z l e2 e3;refine#v[u',r',?_];rcases q with q | ⟨k,U,e,z'⟩
    ·exact .inl q
    ·refine .inr #v[k,U,e,z'.sameBut f ?_];rintro rfl;exact F<|y0 hN l<|I.ok.inj _ _ _ e t▸hi
  ·by_cases S:U=c
   ·subst S;exact#v[_,O]
   ·let[w2,z2]:=I.cell y U e;exact#v[w2,z2.sameBut f S]
  ·let[e,n,ne,nf,d]:=I.pin p hp;refine#v[(f.2 p.1 ?_).trans e,n,ne,nf,d];intro q;rw[q,P] at e;exact d T (by rw[<- (X3 e)];exact R)
def Vs(I:bP X pins σ H s)(a:X.N.Nodup)(hi:X.N[i]?\x)(hx:ga X.env.scope x)(r:bR v u)
  (h:∀ s',bP X pins (σ.set i<|some v) H s'->Q () s') (b:X.fn x=true\/X.env.scope.names.lookup x\.local:=by first | exact .inl rfl | exact .inr rfl | assumption):wpAny M A (storeName X.env x u) Q E s:=
 Fg I a hi hx r (λs' c _=>h s' c) b
end
abbrev XK:=Value->Option Addr->Hp->Prop
noncomputable abbrev St:=List<|Option V
abbrev VK:=V->Hp->Prop
abbrev TE:=St->Hp->VK->Prop
abbrev TT:=St->Hp->(Bool->Hp->Prop)->Prop
abbrev TA:=St->Hp->(List V->Hp->Prop)->Prop
structure iN where
 nx:St->Hp->Prop
 rt:VK
 bk:St->Hp->Prop:=λ_ _=>False
 ct:St->Hp->Prop:=λ_ _=>False
abbrev TS:=iN->St->Hp->Prop
def EP(X:Cx)(pins:W0)(s:St)(Q:VK)(u:Value)(s':Shared):Prop:=∃ v H',bP X pins s H' s'/\bR v u/\Q v H'
def TP(X:Cx)(pins:W0)(s:St)(Q:Bool->Hp->Prop)(b:Bool)(s':Shared):Prop:=∃ H',bP X pins s H' s'/\Q b H'
def AP(X:Cx)(pins:W0)(s:St)(Q:List V->Hp->Prop)(us:List Value)(s':Shared):Prop:=∃ vs H',bP X pins s H' s'/\bQ vs us/\Q vs H'
def SP(X:Cx)(pins:W0)(D:iN)(f:Flow)(s':Shared):Prop:=
 match f with
 | .next=>∃ σ' H',bP X pins σ' H' s'/\D.nx σ' H'
 | .brk=>∃ σ' H',bP X pins σ' H' s'/\D.bk σ' H'
 | .cont=>∃ σ' H',bP X pins σ' H' s'/\D.ct σ' H'
 | .ret u=>∃ v σ' H',bP X pins σ' H' s'/\bR v u/\D.rt v H'
def PE(X:Cx)(e:Expr)(t:TE):Prop:=
 ∀ pins s (u:St) H Q,bP X pins u H s->t u H Q->X⁻¹ (eval e X.env) (EP X pins u Q) X.xe s
def PT(X:Cx)(e:Expr)(t:TT):Prop:=
 ∀ pins s (u:St) H (Q:Bool->Hp->Prop),bP X pins u H s->t u H Q->X⁻¹ (isTrue e X.env<|eval e X.env) (TP X pins u Q) X.xe s
def PW(X:Cx)(e:Expr)(t:TT):Prop:=
 ∀ whole pins s (u:St) H (Q:Bool->Hp->Prop),bP X pins u H s->t u H Q->X⁻¹ (isTrue e X.env whole) (TP X pins u Q) X.xe s
def PW.pt(h:PW X e t):PT X e t:=h _
def PA(X:Cx)(es:List Expr)(t:TA):Prop:=
 ∀ pos pins s (u:St) H (Q:List V->Hp->Prop),bP X pins u H s->t u H Q->X⁻¹ (spliced<|backTo pos<|starEach es X.env) (AP X pins u Q) X.xe s
def PS(X:Cx)(st:Stmt)(t:TS):Prop:=
 ∀ pins s (u:St) H D,bP X pins u H s->t D u H->X⁻¹ (exec st X.env) (SP X pins D) X.xe s
def fW(X:Cx)(st:List Stmt)(t:TS):Prop:=
 ∀ pins s (u:St) H D,bP X pins u H s->t D u H->X⁻¹ (execs st X.env) (SP X pins D) X.xe s
def thn(h:wpAny M A t Q E s)(b:∀ a s,Q a s->Q' a s):wpAny M A t Q' E s:=wpAny_mono h b λ_ _ x=>x
section
variable {X:Cx}
def vw(i:Nat):TE:=λs H Q=>∃ v,s[i]?\(some v)/\Q v H
def tC(v:V):TE:=λ_ H Q=>Q v H
abbrev Nd(x:Str):Prop:=(x==("__debug__" : Str))=false
def y_(k:X.N[i]?\x)(n:l8 X.env.scope x)(hd:Nd x:=by decide)(g:(x==("__classdict__" : Str))=false:=by decide):PE X (.Name x pos) (vw i):=by
 intro f s w H Q I h;let[v,e,h]:=h;let[m,o,p]:=I.loc;let[u,r,l]:=p i x v k e n;have b:EP X f w Q u s:=#v[v,H,I,r,h];rcases l with⟨d,q⟩ | ⟨d,c,j,a⟩
 ·exact wpAny_Name (wpAny_loadName_local I.ok.kind d o q b) hd
 ·rcases d with d | d
  ·exact wpAny_Name (wpAny_loadName_cell I.ok.kind d j a b) hd
  ·exact wpAny_Name (wpAny_loadName_free I.ok.kind d j a b g) hd
def zk{i j pos}:PE X (.Constant (.int i) j pos) (tC<|.int i):=λ_ _ _ H _ I h=>wpAny_Constant_int #v[.int i,H,I.tok _,#v[_,rfl],h]
def Gl(X:Cx)(x:Str):Prop:=X.env.kindOf x\.globalImplicit
def zl(I:bP X pins v H s)(a:Gl X x)(b:X.mg x\u)(h:Q u s)
  (hd:Nd x:=by decide):X⁻¹ (eval (.Name x pos) X.env) Q E s:=
 Calls.Name_function_global I.ok.kind a (Calls.loadGlobal_global (by rw[I.ok.glob];exact I.mod.glob.keeps I.bk) b h) hd
def JF(I:bP X pins v H s)(a:Gl X x)(b:X.mg x=none)(c:bootBuiltins x\u)(h:Q u s)
  (hn:x≠"__name__":=by decide) (hd:Nd x:=by decide):X⁻¹ (eval (.Name x pos) X.env) Q E s:=by
 let[f,d,e]:=I.mod.blt;exact Calls.Name_function_global I.ok.kind a (Calls.loadGlobal_builtin (by rw[I.ok.glob];exact I.mod.glob.keeps I.bk) b (by rw[I.ok.blt];exact d.keeps I.bk) ((e x hn).trans c) h) hd
variable {a b:Expr}{ta tb:TE}{pos:Pos}
def PC(X:Cx)(op:CmpOp)(a b:Expr)(t:TE):Prop:=
 ∀ pins s (x:St) H Q,bP X pins x H s->t x H Q ->
  X⁻¹ (eval a X.env) (λv s₁=>X⁻¹ (eval b X.env) (λu s₂=>X⁻¹ (compareOp op v u) (EP X pins x Q) X.xe s₂) X.xe s₁) X.xe s
def Fh(b)  (h:op≠.In) (h2:op≠.NotIn):behindInMarks op b=false:=by
 have a:(op==CmpOp.In)=false:=by cases op<;>first | rfl | exact absurd rfl h
 have e2:(op==CmpOp.NotIn)=false:=by cases op<;>first | rfl | exact absurd rfl h2
 cases b with
 | Set=>
  show(_&&(op==CmpOp.In||op==CmpOp.NotIn)&&_)=false;rw[a,e2];simp
 | _=>rfl
def tB(t:TE):TT:=λs H Q=>t s H λx H1=>∃ c,x=.bl c/\Q c H1
variable {tA tB':TT}{rest:List Expr}
def Fi(t u:TT):TT:=λs H Q=>t s H λc H1=>if c=true then u s H1 Q else Q false H1
def Fj(t u:TT):TT:=λs H Q=>t s H λc H1=>if c=true then Q true H1 else u s H1 Q
def Fk(ta tb:TE):TE:=λs H Q=>ta s H λx H1=>∃ c,x=.bl c/\if c=true then tb s H1 Q else Q (.bl false) H1
def Fm(ta:TE):TE:=λs H Q=>ta s H λx H1=>∃ c,x=.bl c/\Q (.bl<|!c) H1
def Fo(t:TT)(ta tb:TE):TE:=λs H Q=>t s H λc H1=>if c=true then ta s H1 Q else tb s H1 Q
end
def cD(K:W4)(H:Hp)(a:Addr)(xs:List V):Prop:=
 Rd H a (.lst xs) \/
  ∃ o its n,K.lookup a\o/\o.cls=.type "list"/\o.dict=none/\o.data=.seq its n/\its.size<=sizeLine/\bQ xs its.toList
def cK(K:W4)(H:Hp)(a:Addr)(xs:List V):Prop:=
 Rd H a (.tup xs) \/
  ∃ o its n,K.lookup a\o/\o.cls=.type "tuple"/\o.data=.seq its n/\its.size<=sizeLine/\bQ xs its.toList
def Fp:Value->Option V
 | .none=>some .non
 | .bool b=>some<|.bl b
 | .int i _=>some<|.int i
 | .str x _=>some<|.str x
 | .bytes b _=>some<|.byt b
 | .float b _=>some<|.flt b
 | .ref a=>some<|.ref a
 | .type n=>some<|.ty n
 | _=>none
def bR.abs(r:bR x u):Fp u\x:=by
 cases x with
 | non=>cases r;rfl
 | bl _=>cases r;rfl
 | int _=>let[t,rfl]:=r;rfl
 | str _=>let[t,rfl]:=r;rfl
 | byt _=>let[t,rfl]:=r;rfl
 | flt _=>let[t,rfl]:=r;rfl
 | ref _=>cases r;rfl
 | ty _=>cases r;rfl
def bR.inj(r:bR x u)(q:bR y u):x=y:=X3<|r.abs.symm.trans q.abs
def bQ.inj{xs ys}{us}(h:bQ xs us)(k:bQ ys us):xs=ys:=by
 induction h generalizing ys with
 | nil=>cases k;rfl
 | cons r t a=>cases k with
  | cons b c=>rw[r.inj b,a c]
section
variable {X:Cx}{pins:List (Addr×Obj)}{u:St}{H:Hp}{s:Shared}{a:Addr}{xs ys:List V}
def cD.of{K}(h:H a\(.lst xs)):cD K H a xs:=.inl<|.inl h
def cK.of{K}(h:H a\(.tup xs)):cK K H a xs:=.inl<|.inl h
def bP.list(I:bP X pins u H s)(h:cD X.K H a xs):∃(its:List Value),cM (bQ xs its) (PlainL s.heap a its.toArray) (-xs<=sizeLine):=by
 rcases h with h | ⟨o,its,n,b,c,hd,d,f,r⟩
 ·let[z,its,n,r,e]:=h.ok I.hok;exact#v[its,r,#v[_,n,e,rfl,rfl,rfl],z]
 ·refine#v[its.toList,r,#v[o,n,I.kIn a o b,c,hd,by simpa using d],?_];have e:=-r;simp only[Array.length_toList] at e
  lia
def bP.tuple(I:bP X pins u H s)(h:cK X.K H a xs):∃(its:List Value),cM (bQ xs its) (IsTup s.heap a its.toArray) (-xs<=sizeLine):=by
 rcases h with h | ⟨o,its,n,b,c,d,f,r⟩
 ·let[z,its,r,p]:=h.ok I.hok;exact#v[its,r,p.1,z]
 ·refine#v[its.toList,r,#v[o,I.kIn a o b,c,n,by simpa using d],?_];have e:=-r;simp only[Array.length_toList] at e
  lia
def bP.list_inj(I:bP X pins u H s)(h:cD X.K H a xs)(h':cD X.K H a ys):xs=ys:=by
 obtain⟨c,r,⟨o,n,e,_,_,d⟩,_⟩:=I.list h;obtain⟨b,i,⟨j,k,f,_,_,g⟩,_⟩:=I.list h';rw[e] at f;cases f;rw[d] at g;injection g with d1 _;have:c=b:=by simpa using congrArg Array.toList d1
 subst this;exact r.inj i
def bP.tuple_inj(I:bP X pins u H s)(h:cK X.K H a xs)(h':cK X.K H a ys):xs=ys:=by
 obtain⟨c,r,⟨o,e,_,n,d⟩,_⟩:=I.tuple h;obtain⟨b,i,⟨j,f,_,k,g⟩,_⟩:=I.tuple h';rw[e] at f;cases f;rw[d] at g;injection g with d1 _;have:c=b:=by simpa using congrArg Array.toList d1
 subst this;exact r.inj i
end
noncomputable abbrev Cx.wish(X:Cx)(E:J0):Cx:={X with xe:=E}
noncomputable abbrev Cx.nox(X:Cx):Cx:=X.wish λ_ _=>False
def Cx.Ok.wish{X:Cx}(ok:X.Ok)(E):(X.wish E).Ok:=
 ⟨ok.mod,ok.kind,ok.glob,ok.blt,ok.above,ok.inj,ok.has,ok.cab,ok.hd,ok.frames,ok.stk,ok.exf,ok.bs,ok.bsz,ok.noex,ok.exfs,ok.funs,ok.frf⟩
def Cx.Ok.unwish{X:Cx}{E}(ok:(X.wish E).Ok):X.Ok:=
 ⟨ok.mod,ok.kind,ok.glob,ok.blt,ok.above,ok.inj,ok.has,ok.cab,ok.hd,ok.frames,ok.stk,ok.exf,ok.bs,ok.bsz,ok.noex,ok.exfs,ok.funs,ok.frf⟩
section
variable {X:Cx}{pins:List (Addr×Obj)}{w:St}{H:Hp}{s:Shared}{E:J0}
def bP.wish(I:bP X pins w H s)(E):bP (X.wish E) pins w H s:=#v[I.ok.wish E,I.os,I.bare,I.base,I.loc,I.cell,I.free,I.freeC,I.pin,I.hok,I.len]
def bP.unwish(I:bP (X.wish E) pins w H s):bP X pins w H s:=#v[I.ok.unwish,I.os,I.bare,I.base,I.loc,I.cell,I.free,I.freeC,I.pin,I.hok,I.len]
def SP.unwish(h:SP (X.wish E) pins D f s'):SP X pins D f s':=by
 cases f with
 | next=>let[a,b,I,q]:=h;exact#v[a,b,I.unwish,q]
 | brk=>let[a,b,I,q]:=h;exact#v[a,b,I.unwish,q]
 | cont=>let[a,b,I,q]:=h;exact#v[a,b,I.unwish,q]
 | ret u=>let[v,a,b,I,r,q]:=h;exact#v[v,a,b,I.unwish,r,q]
def fW.nox{st}{t}(h:fW X.nox st t):fW X st t:=λa s w H D I b=>
 wpAny_mono (h a s w H D (I.wish _) b) (λ_ _ q=>q.unwish) λ_ _ z=>False.elim z
end
section
variable {X:Cx}{st:Stmt}{rest:List Stmt}{t u:TS}{e:Expr}{te:TE}{pos:Pos}
def Fq:TS:=λD s H=>D.nx s H
def l9(t u:TS):TS:=λD s H=>t {D with nx:=u D} s H
def zo(h1:PS X st t)(h2:fW X rest u):fW X (st::rest) (l9 t u):=by
 intro a s w H D I h;refine wpAny_execs_cons<|thn (h1 a s w H {D with nx:=u D} I h) λf s1 q=>?_;cases f with
 | next=>
  let[b,c,d,q]:=q;exact h2 a s1 b c D d q
 | ret v=>exact q
 | brk=>exact q
 | cont=>exact q
def zp(h1:PS X st t):fW X [st] t:=by
 intro a s w H D I h;refine wpAny_execs_cons<|thn (h1 a s w H D I h) λf s1 q=>?_;cases f with
 | next=>exact wpAny_execs_nil q
 | ret v=>exact q
 | brk=>exact q
 | cont=>exact q
def bP.quiet(I:bP X pins v H s):interactive X.env=false:=by simp[interactive,I.ok.kind]
def V7(te:TE):TS:=λD s H=>te s H λ_ H1=>D.nx s H1
def VO(b:PE X e te)(c:swapsWith e none pos.line X.env=pure false:=by rfl):PS X (.Expr e pos) (V7 te):=by
 intro a s w H D I h;exact wpAny_Expr_any (thn (b a s w H _ I h) λv s1 ⟨x,d,f,i,g⟩=>#v[w,d,f,g]) I.quiet c
def pY(te:TE):TS:=λD s H=>te s H D.rt
def Fr(b:PE X e te):PS X (.Return (some e) pos) (pY te):=by
 intro a s w H D I h;exact wpAny_Return_some<|thn (b a s w H _ I h) λv s1 ⟨x,c,d,f,g⟩=>#v[x,w,c,d,f,g]
def nu(c:TT)(t u:TS):TS:=λD s H=>c s H λb H1=>if b=true then t D s H1 else u D s H1
def zv(j:PT X c tc)(k:fW X a t)(l:fW X b u):PS X (.If c a b pos) (nu tc t u):=by
 intro e s v H D I h;refine wpAny_If<|thn (j e s v H _ I h) λd s1 ⟨f,g,i⟩=>?_;cases d with
 | true=>exact k e s1 v f D g i
 | false=>exact l e s1 v f D g i
end
abbrev TG:=V->St->Hp->(St->Hp->Prop)->Prop
abbrev iO:=List V->St->Hp->(St->Hp->Prop)->Prop
def PG(X:Cx)(target:Expr)(t:TG):Prop:=
 ∀ pins s (x:St) H v u (Q:St->Hp->Prop),bP X pins x H s->bR v u->t v x H Q ->
  X⁻¹ (assign target X.env u) (λ_ s'=>∃ σ' H',bP X pins σ' H' s'/\Q σ' H') X.xe s
def Fs(X:Cx)(ts:List Expr)(t:iO):Prop:=
 ∀ pins s (u:St) H vs us (Q:St->Hp->Prop),bP X pins u H s->bQ vs us->t vs u H Q ->
  X⁻¹ (assignInOrder ((assignEach ts X.env).map (·.2)) us) (λ_ s'=>∃ σ' H',bP X pins σ' H' s'/\Q σ' H') X.xe s
abbrev pZ:=V->V->V->Hp->(Hp->Prop)->Prop
def zA(X:Cx)(t:pZ):Prop:=
 ∀ pins s (x:St) H o i v ov iv u Q,bP X pins x H s->bR o ov->bR i iv->bR v u->t o i v H Q ->
  X⁻¹ (setItem ov iv u) (λ_ s'=>∃ H',bP X pins x H' s'/\Q H') X.xe s
abbrev nv:=V->V->Hp->VK->Prop
def j_(X:Cx)(op:Operator)(t:nv):Prop:=
 ∀ pins s (z:St) H x y v u Q,bP X pins z H s->bR x v->bR y u->t x y H Q ->
  X⁻¹ (inplaceOp op v u) (EP X pins z Q) X.xe s
section
variable {X:Cx}{pos:Pos}
def Jl(i:Nat):TG:=λv s H Q=>Q (s.set i<|some v) H
def ka:iO:=λvs s H Q=>vs=[]/\Q s H
def zi(t:TG)(u:iO):iO:=λvs s H Q=>∃ v r,vs=v::r/\t v s H λσ' H'=>u r σ' H' Q
def iP(K:W4)(n:Nat)(t:iO):TG:=λv s H Q=>∃ a xs,v=.ref a/\cK K H a xs/\ -xs=n/\t xs s H Q
def zB(to ti:TE)(t:pZ):TG:=λv s H Q=>to s H λo H1=>ti s H1 λi H2=>t o i v H2 λH3=>Q s H3
def gc(te:TE)(g:TG):TS:=λD s H=>te s H λx H1=>g x s H1 D.nx
def zF(b:PE X e te)(c:PG X tg g)(d:swapsWithSole [tg] e pos.line X.env=pure false:=by rfl)(f:swappedStores [tg] e X.env=pure none:=by rfl)
  (h1:(assignEach [tg] X.env).map (·.2)=[assign tg X.env]:=by rfl):PS X (.Assign [tg] e pos) (gc te g):=by
 intro a s u H D I h;refine wpAny_Assign_stores (thn (b a s u H _ I h) λv s1 i=>?_) d f;let[x,j,k,l,m]:=i;rw[h1];exact thn (c a s1 u j x v _ k l m) λ_ n q=>q
def zL(b:X.N.Nodup)(hi:X.N[i]?\x)(hx:ga X.env.scope x)(c:PE X e te)(d:swapsWith e (some<|.Name x pos') pos.line X.env=pure false:=by rfl)(f:X.fn x=true\/X.env.scope.names.lookup x\.local:=by first | exact .inl rfl | exact .inr rfl | assumption):
  PS X (.Assign [.Name x pos'] e pos) (gc te<|Jl i):=by
 intro a s u H D I h;refine wpAny_Assign_Name (thn (c a s u H _ I h) λv s1 g=>?_) d;let[y,j,k,l,m]:=g;exact Vs k b hi hx l (λo n=>#v[_,j,n,m]) f
def zP(i:Nat)(te:TE)(ti:nv):TS:=λD s H=>∃ x,s[i]?\(some x)/\te s H λy H1=>ti x y H1 λz H2=>D.nx (s.set i<|some z) H2
def Ft(j:X.N.Nodup)(hi:X.N[i]?\x)(hx:ga X.env.scope x)(n:PE X e te)(o:j_ X op ti)(p:X.fn x=true\/X.env.scope.names.lookup x\.local:=by first | exact .inl rfl | exact .inr rfl | assumption):
  PS X (.AugAssign (.Name x pos') op e pos) (zP i te ti):=by
 intro a s W H D I h;let[v,q,h]:=h;let[m,t,B]:=I.loc;have f:l8 X.env.scope x:=by rcases hx with k | k;exact .inl k;exact .inr<|.inl k
 let[u,r,l]:=B i x v hi q f;refine wpAny_AugAssign_Name ?_;have go:X⁻¹ (eval e X.env) (λw C=>X⁻¹ (inplaceOp op u w) (λr E=>X⁻¹ (storeName X.env x r) (λ_=>SP X a D .next) X.xe E) X.xe C) X.xe s:=by
  refine thn (n a s W H _ I h) λw s1 g=>?_;let[y,F,G,J,K]:=g;refine thn (o a s1 W F v y u w _ G r J K) λz T g=>?_;let[U,L,M,O,P]:=g;exact Vs M j hi hx O (λV Q=>#v[_,L,Q,P]) p
 rcases l with⟨b,R⟩ | ⟨b,c,S,d⟩
 ·exact wpAny_loadName_local I.ok.kind b t R go
 ·rcases b with b | b
  ·exact wpAny_loadName_cell I.ok.kind b S d go
  ·rcases hx with k | k
   ·have:X.env.scope.names.lookup x\.free:=b;rw[k] at this;cases this
   ·have:X.env.scope.names.lookup x\.free:=b;rw[k] at this;cases this
def zQ(to ti te:TE)(tget:V->V->Hp->VK->Prop)(tip:nv)(tset:pZ):TS:=λD s H=>to s H λo H1=>ti s H1 λi H2=>tget o i H2 λx H3=>te s H3 λy H4=>tip x y H4 λz H5=>tset o i z H5 λH6=>D.nx s H6
def z3(X:Cx)(t:V->V->Hp->VK->Prop):Prop:=
 ∀ pins s (u:St) H o i ov iv Q,bP X pins u H s->bR o ov->bR i iv->t o i H Q ->
  X⁻¹ (getItem ov iv) (EP X pins u Q) X.xe s
def Fu(j:PE X o to)(hi:PE X i ti)(k:z3 X tget)(l:PE X e te)(m:j_ X op tip)(n:zA X tset)
  (p:∀ ov iv new,augStore i ov iv new=(do holding [new,ov,iv] (setItem ov iv new);release [new,ov,iv] [];pure .next):=by intros;rfl):PS X (.AugAssign (.Subscript o i tpos) op e pos) (zQ to ti te tget tip tset):=by
 intro a s W H D I h;refine wpAny_AugAssign_SubscriptAny (thn (j a s W H _ I h) λov s1 b=>?_) p;let[x1,q,r,d,t]:=b;refine thn (hi a s1 W q _ r t) λiv u b=>?_;let[f,w,x,g,y]:=b;refine thn (k a u W w x1 f ov iv _ x d g y) λc z b=>?_;let[A,B,C,E,F]:=b;refine thn (l a z W B _ C F) λv G b=>?_;let[J,K,L,M,N]:=b;refine thn (m a G W K A J c v _ L E M N) λnew O b=>?_;let[x5,P,Q,R,S]:=b;exact thn (n a O W P x1 f x5 ov iv new _ Q d g R S) λ_ V ⟨T,I6,U⟩=>#v[W,T,I6,U]
def kb(f:Int->Int->Int):nv:=λx y H Q=>∃ i j,x=.int i/\y=.int j/\Q (.int<|f i j) H
def Fv:j_ X .Add (kb λi j=>i+j):=by
 intro a s w H x y v u Q I b c h;let[i,j,d,e2,q]:=h;subst d;subst e2;let[t,rfl]:=b;let[e,rfl]:=c;exact iadd_int #v[.int _,H,I.tok _,#v[_,rfl],q]
def Fw:j_ X .Sub (kb λi j=>i-j):=by
 intro a s w H x y v u Q I b c h;let[i,j,d,e2,q]:=h;subst d;subst e2;let[t,rfl]:=b;let[e,rfl]:=c;exact isub_int #v[.int _,H,I.tok _,#v[_,rfl],q]
end
structure It where
 go:Nat->Hp->Prop
 yld:Nat->Hp->V->Hp->Prop
 stop:Nat->Hp->Prop
def e_(X:Cx)(pins:W0)(H:Hp)(b:Addr):Prop:=
 H b=none/\b≠X.env.locals/\b∉X.fs/\(b∈X.ex\/X.s₀.heap.objs.size<=b)/\(∀ x c,X.env.cells.lookup x\c->c≠b)/\∀ p∈X.pn++pins,p.1≠b
def bP.fpOk(I:bP X pins u H s)(a:↥s<=b)(hn:H' b=none):e_ X pins H' b:=by
 refine#v[hn,Nat.ne_of_gt<|U3 I.lt a,I.nofs a,.inr<|N6 I.sz a,λx c e z=>?_,λp d z=>?_]
 ·let[v,q]:=I.cell x c e;exact absurd (U3 q.lt<|by rw[z];exact a)<|Nat.lt_irrefl _
 ·exact absurd (U3 (N0 (I.pin p d).1)<|by rw[z];exact a)<|Nat.lt_irrefl _
structure dZ(P:Program)(w:World)(K:W4)(tg:Expr)(J:It)(fp:W5)(it:Addr)(tn:Nat->Heap->Prop):Prop where
 mem:it∈fp
 obj:∀ i h,tn i h->∀ b∈fp,∃ o,h.get? b\o/\∀ v,o.data≠.cell v
 keep:∀ i h h',tn i h->(∀ b∈fp,∀ o,h.get? b\o->h'.get? b\o)->tn i h'
 item:∀(X:Cx),X.prog=P->X.w=w->X.K=K->X.calm=true->∀(i:Nat) (pins:W0) (s:Shared) (y:St) (H:Hp) (E:J0),bP X pins y H s->(∀ b∈fp,e_ X pins H b)->tn i s.heap->J.go i H ->
  wpAny (model P w) X.A (pyNext<|.ref it) (λr s1=>∃ u,r=some u /\
   wpAny (model P w) X.A (letOwnedTupleGo tg (.ref it) u) (λ_ s2=>∃ x H',bP X pins y H' s2/\bR x u/\J.yld i H x H'/\tn (i+1) s2.heap/\∀ b∈fp,H' b=none) E s1) E s
 done:∀(X:Cx),X.prog=P->X.w=w->X.K=K->X.calm=true->∀(i:Nat) (pins:W0) (s:Shared) (y:St) (H:Hp) (E:J0),bP X pins y H s->(∀ b∈fp,e_ X pins H b)->tn i s.heap->J.stop i H ->
  wpAny (model P w) X.A (pyNext<|.ref it) (λr s1=>r=none/\bP X pins y H s1) E s
 self:∀(A:Around) (i:Nat) (s:Shared) (Q:J0) (E:J0),tn i s.heap->Q (.ref it) s->wpAny (model P w) A (pyIter<|.ref it) Q E s
abbrev TI:=St->Hp->(It->Hp->Prop)->Prop
def l_(X:Cx)(pins:W0)(s:St)(tg:Expr)(R:It->Hp->Prop)(itv:Value)(s2:Shared):Prop:=
 ∃(it:Addr) (fp:W5) (tn:Nat->Heap->Prop) (J:It) (H':Hp),itv=.ref it/\bP X pins s H' s2/\dZ X.prog X.w X.K tg J fp it tn/\tn 0 s2.heap/\(∀ b∈fp,e_ X pins H' b)/\R J H'
def PI(X:Cx)(tg iter:Expr)(wi:TI):Prop:=
 ∀ pins s (u:St) H (R:It->Hp->Prop),bP X pins u H s->wi u H R ->
  X⁻¹ (eval iter X.env) (λv s1=>X⁻¹ (pyIter v) (l_ X pins u tg R) X.xe s1) X.xe s
def ma(b:s.heap.get? it\o)(c:o.cls=.type n)(hd:o.data=.fields vs)
  (hn:["enumerate","zip","dict_itemiterator","dict_reverseitemiterator","odict_iterator","itertools.zip_longest","itertools.pairwise"].contains n=false) (a:Q () s):wpAny M A (letOwnedTupleGo tg (.ref it) u) Q E s:=by
 cases tg<;>first
  | exact M6 a
  | (cases u<;>first
    | exact M6 a
    | (refine L3 (wpAny_load b ?_)
       rw[c,hd];show wpAny M A (if(["enumerate","zip","dict_itemiterator","dict_reverseitemiterator","odict_iterator","itertools.zip_longest","itertools.pairwise"].contains n&&vs[0]?==some (rawInt _))=true then _ else _) Q E s;rw[if_neg<|by intro h;rw[hn,Bool.false_and] at h;cases h];exact M6 a))
def p4(K:W4)(a:Addr):It:=
 ⟨λi H=>∃ xs x,cD K H a xs/\xs[i]?\x,λi H x H'=>H'=H/\∀ xs,cD K H a xs->xs[i]?\x,λi H=>∃ xs,cD K H a xs/\ -xs<=i⟩
def p7(K:W4)(a:Addr):It:=
 ⟨λi H=>∃ xs x,cK K H a xs/\xs[i]?\x,λi H x H'=>H'=H/\∀ xs,cK K H a xs->xs[i]?\x,λi H=>∃ xs,cK K H a xs/\ -xs<=i⟩
def p8(lo:Int)(n:Nat):It:=#v[λi _=>i<n,λi H x H'=>H'=H/\x=.int (lo+i),λi _=>n<=i]
def Fx{P}{w}{K}{tg}(a j):dZ P w K tg (p4 K a) [j] j (λi h=>h.IsListIter j a i) where
 mem:=by simp
 obj:=λi h f b l=>by
  have e:b=j:=by simpa using l
  subst e;let[o,e,c,d]:=f;exact#v[o,e,λv z=>by rw[d] at z;cases z]
 keep:=λi h r f k=>f.at (k j<|by simp)
 item:=by
  intro X t y A N i g s σ H E I n f B;subst t y A;let[O,x,q,hx]:=B;let[C,D,p,Q]:=I.list q;let[u,R,S]:=D.get hx;let[F,G,T,J,L,M]:=n j (by simp);refine wpAny_pyNext_list_item f p.isList ⇑R λr m U=>?_;have V:bP X g σ H {s with heap:=r}:=I.turned (λb o l e=>(U.2 b l).trans e) F G J L M;let[o,e,c,d]:=id m;exact#v[u,rfl,ma e c d (by decide) #v[x,H,V,S,#v[rfl,λZ W=>by rw[I.list_inj W q];exact hx],m,λb l=>(n b l).1]]
 done:=by
  intro X t y A N i g s σ H E I n f B;subst t y A;let[O,q,hx]:=B;let[C,D,p,Q]:=I.list q;let[F,G,T,J,L,M]:=n j (by simp);have hl:=D.length;exact wpAny_pyNext_list_end (I.ok.hd N) f p.isList (by simp;lia) λr Y=>#v[rfl,I.turned (Y) F G J L M]
 self:=λ_ _ _ _ _ f h=>wpAny_pyIter_listiter f h
def Fy{P}{w}{K}{tg}(a j):dZ P w K tg (p7 K a) [j] j (λi h=>h.IsTupleIter j a i) where
 mem:=by simp
 obj:=λi h f b l=>by
  have e:b=j:=by simpa using l
  subst e;let[o,e,c,d]:=f;exact#v[o,e,λv z=>by rw[d] at z;cases z]
 keep:=λi h r f k=>f.at (k j<|by simp)
 item:=by
  intro X t y A N i g s σ H E I n f B;subst t y A;let[O,x,q,hx]:=B;let[C,D,p,Q]:=I.tuple q;let[u,R,S]:=D.get hx;let[F,G,T,J,L,M]:=n j (by simp);refine wpAny_pyNext_tuple_item f (p) ⇑R λr m U=>?_;have V:bP X g σ H {s with heap:=r}:=I.turned (λb o l e=>(U.2 b l).trans e) F G J L M;let[o,e,c,d]:=id m;exact#v[u,rfl,ma e c d (by decide) #v[x,H,V,S,#v[rfl,λZ W=>by rw[I.tuple_inj W q];exact hx],m,λb l=>(n b l).1]]
 done:=by
  intro X t y A N i g s σ H E I n f B;subst t y A;let[O,q,hx]:=B;let[C,D,p,Q]:=I.tuple q;let[F,G,T,J,L,M]:=n j (by simp);have hl:=D.length;exact wpAny_pyNext_tuple_end (I.ok.hd N) f (p) (by simp;lia) λr Y=>#v[rfl,I.turned (Y) F G J L M]
 self:=λ_ _ _ _ _ f h=>wpAny_pyIter_tupleiter f h
def Fz{P}{w}{K}{tg}(c)(lo)(n):dZ P w K tg (p8 lo n) [c] c (λi h=>IsRangeIter h c (lo+(i:Nat)*1) ((n:Int)-(i:Nat)) 1) where
 mem:=by simp
 obj:=λi h a b f=>by
  have e:b=c:=by simpa using f
  subst e;exact#v[_,a,λv z=>by
   cases z]
 keep:=λi h l a k=>k c (by simp) _ a
 item:=by
  intro X A B C m i d s U H E I j a p;subst A B C;let[q,r,D,u,x,y]:=j c (by simp);refine(Walks.range (prog:=X.prog) (w:=X.w) (I.ok.hd m) c lo 1 n).item i s _ _ p a λv l F G g J=>?_;let[t,rfl]:=G;have L:bP X d U H {s with heap:=l,toks:=F}:=I.turned (λb o f e=>J b o ⇑f e) q r u x y;refine#v[_,rfl,ma g rfl rfl (by decide) #v[.int<|lo+i,H,L,#v[t,?_],#v[rfl,rfl],g,λb f=>(j b f).1]];rw[Int.mul_one]
 done:=by
  intro X A B C m i d s U H E I j a p;let[q,r,D,u,x,y]:=j c (by simp);exact wpAny_pyNext_range_end (I.ok.hd m) a (by have:n<=i:=p;lia) λl M=>#v[rfl,I.turned (M) q r u x y]
 self:=λ_ _ _ _ _ a h=>wpAny_pyIter_rangeiter a h
section
variable {X:Cx}{tg:Expr}
def z_(ta:TA):TI:=λs H R=>ta s H λvs H1=>∃ j:Int,vs=[.int j]/\Neg.neg (2 ^ 62)<=j/\j<2 ^ 62/\R (p8 0 j.toNat) H1
def FC(i:Gl X "range")(k:X.mg "range" = none)(l:PA X [a] ta)(m:starEach [a] X.env=[(false,eval a X.env)]:=by rfl):PI X tg (.Call (.Name "range" p) [a] [] pos) (z_ ta):=by
 intro c s z H R I h;refine Call_<|JF I i k boot_range<|PyProof.Rows.callWith_type1 (thn (l pos c s z H _ I h) λy s1 ⟨vs,g,d,n,f⟩=>?_) m rfl;let[j,e,f,u,q]:=f;subst e;cases n with
 | cons r v=>
  cases v;let[t,rfl]:=r;exact call_range_1 ((by
    refine wpAny_pyIter_range (IsRange.new ..) (small_one ∅ ∅ f u) ?_;have d:bP X c z g { s1 with heap:=s1.heap.push {cls:=.type "range",data:=.fields #[.int 0 s1.toks,.int j t,.int 1<|s1.toks+1]},toks:=(s1.toks+1+1) }:=d.kept λb o e=>L8 _ e;refine#v[(s1.heap.push {cls:=.type "range",data:=.fields #[.int 0 s1.toks,.int j t,.int 1<|s1.toks+1]}).objs.size,[(s1.heap.push {cls:=.type "range",data:=.fields #[.int 0 s1.toks,.int j t,.int 1<|s1.toks+1]}).objs.size],_,_,g,rfl,
     d.kept λb o e=>L8 _ e,Fz _ 0 (j-0).toNat,?_,λb w=>?_,⇑q]
    ·have x:0+((0:Nat):Int)*1=0:=by simp
     have e2:(((j-0).toNat:Nat):Int)-((0:Nat):Int)=Builtin.Range.rangeSize 0 j 1:=by rw[rangeSize_one];split<;>lia
     rw[x,e2];exact X7 _ rfl
    ·have e:b=(s1.heap.push {cls:=.type "range",data:=.fields #[.int 0 s1.toks,.int j t,.int 1<|s1.toks+1]}).objs.size:=by simpa using w
     subst e;exact d.fpOk (M8 _)<|d.hok.fresh<|M8 _))
def p9(wi:TI)(g:TG)(tb:TS):TS:=λD s H=>wi s H λJ H1=>∃ W:Nat->Nat->St->Hp->Prop,(∃ m,W 0 m s H1)/\∀ i m s H,W i m s H ->
 (J.stop i H/\D.nx s H)\/(J.go i H/\∃ N:St->Hp->Prop,(∀ σ' H',N σ' H'->∃ m',m'<m/\W (i+1) m' σ' H')/\∀ x H',J.yld i H x H'->g x s H' λσ2 H2=>tb {D with nx:=N,ct:=N,bk:=D.nx} σ2 H2)
def KP(fp:W5)(h:Heap):List (Addr×Obj):=fp.filterMap λb=>(h.get? b).map λo=>(b,o)
def qH(a:b∈fp)(e:h.get? b\o):(b,o)∈KP fp h:=List.mem_filterMap.mpr #v[b,a,by rw[e];rfl]
def FD(a:p∈KP fp h):p.1∈fp/\h.get? p.1\p.2:=by
 let[b,c,e]:=List.mem_filterMap.mp a;cases q:h.get? b with
 | none=>rw[q] at e;cases e
 | some o=>
  rw[q] at e;have d:=X3 e;subst d;exact#v[c,q]
def bP.pinned(I:bP X pins u H s)(f:∀ b∈fp,e_ X pins H b)(g:∀ b∈fp,∃ o,s.heap.get? b\o/\∀ v,o.data≠.cell v):bP X (pins++KP fp s.heap) u H s:=
 I.pins_of λp h=>(N1.mp h).elim (λz=>I.pin p<|U2 _ z) λz=>by
  let[a,e]:=FD z;let[i,j,k,_]:=f p.1 a;let[o,c,d]:=g p.1 a;rw[e] at c;cases c;exact#v[e,i,j,k,d]
def bP.unpinned(I:bP X (pins++pl) u H s):bP X pins u H s:=I.pins_of λp a=>I.pin p<|U2 _<|List.mem_append_left _ a
def FG(z:PassesOwn (model X.prog X.w) X.A X.env X.xe)(S:X.calm=true)(hi:PI X tg iter wi)(hg:PG X tg g)(c:fW X body tb)
  (hs:∀ x,foldedSetIterable iter X.env x=pure x:=by intro _;rfl):PS X (.For tg iter body [] pos) (p9 wi g tb):=by
 intro a s σ H D I h;refine wpAny_For (thn (hi a s σ H _ I h) λv s1 h1=>thn h1 λitv s2 h2=>?_) hs;obtain⟨it,B,U,J,H2,e,I2,T,M,V,W,⟨m0,w0⟩,turn⟩:=h2;subst e;have j:∀{q},(∀ b∈B,q b=none)->∀ b∈B,e_ X a q b:=λhn b c=>#v[hn b c,(V b c).2];refine codeAny_forLoop_any (λn Y=>∃ i C q,bP X a C q Y/\U i Y.heap/\(∀ b∈B,q b=none)/\W i n C q) ?_ m0 #v[0,σ,H2,I2,M,λb c=>(V b c).1,w0];rintro n Z ⟨i,E,L,I3,F,G,w3⟩;rcases turn i n E L w3 with⟨stop,qn⟩ | ⟨go,N,hN,step⟩
 ·refine wpAny_passesOwn z<|thn (T.done X rfl rfl rfl S i a Z E L X.xe I3 (j G) F stop) λr s4 ⟨O,I4⟩=>?_;subst O;exact wpAny_execs_nil #v[E,L,I4,qn]
 ·refine wpAny_passesOwn z<|thn (T.item X rfl rfl rfl S i a Z E L X.xe I3 (j G) F go) λr s4 ⟨u,O,h4⟩=>?_;subst O;refine wpAny_passesOwn z<|thn h4 λ_ s5 P=>?_;let[x,H5,I5,r5,y5,y,Q]:=P;refine wpAny_passesOwn z<|thn (hg _ s5 E H5 x u _ (I5.pinned (j Q)<|T.obj _ _ y) r5<|step x H5 y5) λ_ s6 P=>?_;let[σ6,H6,I6,q6]:=P;refine wpAny_passesOwn z<|thn (c _ s6 σ6 H6 _ I6 q6) λf R t=>?_;have again:∀{k}{l},bP X (a++KP B s5.heap) k l R->N k l->∃ m,m<n/\∃ i C q,bP X a C q R/\U i R.heap/\(∀ b∈B,q b=none)/\W i m C q:=λ{k l} p K=>by
   let[m',hm,w7]:=hN k l K;refine#v[m',hm,i+1,k,l,p.unpinned,T.keep _ _ _ y λb c o e=>(p.pin (b,o)<|U2 _<|U2 _<|qH c e).1,λb c=>?_,w7];let[o,e,d]:=T.obj _ _ y b c;exact(p.pin (b,o)<|U2 _<|U2 _<|qH c e).2.1
  cases f with
  | next=>let[k,l,p,K]:=t;exact again p K
  | cont=>let[k,l,p,K]:=t;exact again p K
  | brk=>let[k,l,p,t]:=t;exact#v[k,l,p.unpinned,t]
  | ret v=>let[x7,k,l,p,r7,t]:=t;exact#v[x7,k,l,p.unpinned,r7,t]
end
abbrev R2:=V->V->Hp->VK->Prop
def dB(X:Cx)(f:Value->Value->Sem Value)(r:R2):Prop:=
 ∀ pins s (z:St) H x y v u Q,bP X pins z H s->bR x v->bR y u->r x y H Q ->
  X⁻¹ (f v u) (EP X pins z Q) X.xe s
def Aa(X:Cx)(f:Value->Sem Value)(r:V->Hp->VK->Prop):Prop:=
 ∀ pins s (u:St) H x v Q,bP X pins u H s->bR x v->r x H Q ->
  X⁻¹ (f v) (EP X pins u Q) X.xe s
def JX(X:Cx)(f:Value)(r:List V->Hp->VK->Prop):Prop:=
 ∀ pins s (u:St) H xs us Q,bP X pins u H s->bQ xs us->r xs H Q ->
  X⁻¹ (call f us) (EP X pins u Q) X.xe s
def de(r:R2)(ta tb:TE):TE:=λs H Q=>ta s H λx H1=>tb s H1 λy H2=>r x y H2 Q
def FH(r:V->Hp->VK->Prop)(ta:TE):TE:=λs H Q=>ta s H λx H1=>r x H1 Q
def rI(C:Int->Int->Prop)(g:Int->Int->V):R2:=λx y H Q=>∃ i j,x=.int i/\y=.int j/\C i j/\Q (g i j) H
def ff(g:Int->Int->V):R2:=λx y H Q=>∃ i j,x=.int i/\y=.int j/\Q (g i j) H
def rU(g:Int->V):V->Hp->VK->Prop:=λx H Q=>∃ i,x=.int i/\Q (g i) H
section
variable {X:Cx}{a b c:Expr}{ta tb tc:TE}{pos:Pos}
def p_(d:PE X a ta)(e:PE X b tb){pins}{s}{R:V->V->Hp->Prop}(I:bP X pins z H s)
  (h:ta z H λx H1=>tb z H1 λy H2=>R x y H2) {Q:J0}{f:Value->Value->Sem Value}
  (g:∀ v u s2 x y H2,bP X pins z H2 s2->bR x v->bR y u->R x y H2->X⁻¹ (f v u) Q X.xe s2):
  X⁻¹ (eval a X.env) (λv s₁=>X⁻¹ (eval b X.env) (λu s₂=>X⁻¹ (f v u) Q X.xe s₂) X.xe s₁) X.xe s:=by
 refine thn (d pins s z H _ I h) λv s1 c=>?_;let[x,H1,i,j,k]:=c;refine thn (e pins s1 z H1 _ i k) λu s2 c=>?_;let[y,H2,l,m,n]:=c;exact g v u s2 x y H2 l j m n
def ke(d:dB X (binaryOp op) r)(e:PE X a ta)(f:PE X b tb):PE X (.BinOp a op b pos) (de r ta tb):=by
 intro c s w H Q I h;exact wpAny_BinOp<|p_ e f I h λv u g x y i j k l q=>d c g w i x y v u Q j k l q
def ny{f}{C}{g:Int->Int->Int}
  (a:∀ i j t u s (Q:J0) (E:J0),C i j->Q (.int (g i j) s.toks) {s with toks:=s.toks+1}->X⁻¹ (f (.int i t)<|.int j u) Q E s):
  dB X f (rI C λi j=>.int<|g i j):=by
 intro b s z H x y v u Q I c d h;let[i,j,rfl,rfl,e,q]:=h;let[t,rfl]:=c;let[k,rfl]:=d;exact a i j t k s _ _ e #v[.int<|g i j,H,I.tok _,#v[_,rfl],q]
def Ab{f}{g:Int->Int->Int}
  (a:∀ i j t u s (Q:J0) (E:J0),Q (.int (g i j) s.toks) {s with toks:=s.toks+1}->X⁻¹ (f (.int i t)<|.int j u) Q E s):
  dB X f (ff λi j=>.int<|g i j):=by
 intro b s z H x y v u Q I c d h;let[i,j,rfl,rfl,q]:=h;let[t,rfl]:=c;let[e,rfl]:=d;exact a i j t e s _ _ #v[.int<|g i j,H,I.tok _,#v[_,rfl],q]
def qc{f}{g:Int->Int->Bool}
  (a:∀ i j t u s (Q:J0) (E:J0),Q (.bool<|g i j) s->X⁻¹ (f (.int i t)<|.int j u) Q E s):
  dB X f (ff λi j=>.bl<|g i j):=by
 intro b s z H x y v u Q I c d h;let[i,j,rfl,rfl,q]:=h;let[t,rfl]:=c;let[e,rfl]:=d;exact a i j t e s _ _ #v[.bl<|g i j,H,I,rfl,q]
def qi(i j:Int):Prop:=0<=j/\j<=1000000/\i.natAbs<2 ^ 64
def FI:dB X (binaryOp .Add) (ff λi j=>.int<|i+j):=Ab λ_ _ _ _ _ _ _ q=>add_int q
def FJ:dB X (binaryOp .Sub) (ff λi j=>.int<|i-j):=Ab λ_ _ _ _ _ _ _ q=>sub_int q
def FK:dB X (binaryOp .Mod) (rI (λ_ j=>0<j) λi j=>.int<|i%j):=ny λi j _ _ _ _ _ a q=>by
 exact mod_int' ∅ (by rw[Int.fmod_eq_emod_of_nonneg i ∅];exact q)
def FM:dB X (binaryOp .Pow) (rI qi λi j=>.int<|i ^ j.toNat):=ny λ_ _ _ _ _ _ _ a q=>pow_int_small a.1 a.2.1 a.2.2 q
def FO{f}{g:Int->Int}
  (a:∀ i t s (Q:J0) (E:J0),Q (.int (g i) s.toks) {s with toks:=s.toks+1}->X⁻¹ (f<|.int i t) Q E s):
  Aa X f (rU λi=>.int<|g i):=by
 intro b s u H x v Q I c h;let[i,rfl,q]:=h;let[t,rfl]:=c;exact a i t s _ _ #v[.int<|g i,H,I.tok _,#v[_,rfl],q]
def FP:Aa X (unaryOp .USub) (rU λi=>.int<|Neg.neg i):=FO λ_ _ _ _ _ q=>neg_int q
end
def Ac:V->V->Bool
 | .non,.non=>true | .non,.int _=>true | .int _,.non=>true | .non,.bl _=>true | .bl _,.non=>true | .non,.str _=>true | .str _,.non=>true
 | .int _,.int _=>true | .bl _,.bl _=>true | .str _,.str _=>true | .byt _,.byt _=>true
 | .int _,.str _=>true | .str _,.int _=>true | .bl _,.str _=>true | .str _,.bl _=>true
 | _,_=>false
def nA:R2:=λx y H Q=>Ac x y=true/\Q (.bl<|decide<|x=y) H
def Ad:decide (V.int i=V.int j)=(i==j):=by
 rw[Bool.eq_iff_iff];simp
def Ae:decide (V.bl i=V.bl j)=(i==j):=by
 rw[Bool.eq_iff_iff];simp
section
variable {X:Cx}{a b c:Expr}{ta tb tc:TE}{pos:Pos}
def kN(I:bP X pins u H s)(q:Q (.bl k) H)(e:k=k'):EP X pins u Q (.bool k') s:=by
 subst e;exact#v[.bl k,H,I,rfl,q]
def FQ:dB X (compareOp .Eq) nA:=by
 intro e s w H x y v u Q I d a h;let[c,q]:=h;cases x with
 | non=>
  cases d;cases y with
  | non=>cases a;exact PySem.EqNone.eq_none_none<|kN I q (by simp)
  | bl j=>cases a;exact PySem.EqNone.eq_none_bool<|kN I q (by simp)
  | int j=>let[b,rfl]:=a;exact PySem.EqNone.eq_none_int<|kN I q (by simp)
  | str j=>let[b,rfl]:=a;exact PySem.EqNone.eq_none_str<|kN I q (by simp)
  | _=>exact absurd (c) M3
 | bl i=>
  cases d;cases y with
  | non=>cases a;exact PySem.EqNone.eq_bool_none<|kN I q (by simp)
  | bl j=>cases a;exact eq_bool<|kN I q Ae
  | str j=>let[b,rfl]:=a;exact PySem.EqMixed.eq_bool_str<|kN I q (by simp)
  | _=>exact absurd (c) M3
 | int i=>
  let[t,rfl]:=d;cases y with
  | non=>cases a;exact PySem.EqNone.eq_int_none<|kN I q (by simp)
  | int j=>let[b,rfl]:=a;exact eq_int<|kN I q Ad
  | str j=>let[b,rfl]:=a;exact PySem.EqMixed.eq_int_str<|kN I q (by simp)
  | _=>exact absurd (c) M3
 | str i=>
  let[t,rfl]:=d;cases y with
  | non=>cases a;exact PySem.EqNone.eq_str_none<|kN I q (by simp)
  | bl j=>cases a;exact PySem.EqMixed.eq_str_bool<|kN I q (by simp)
  | int j=>let[b,rfl]:=a;exact PySem.EqMixed.eq_str_int<|kN I q (by simp)
  | str j=>let[b,rfl]:=a;exact eq_str (kN I q (by
    rw[Bool.eq_iff_iff];simp))
  | _=>exact absurd (c) M3
 | byt i=>
  let[t,rfl]:=d;cases y with
  | byt j=>let[b,rfl]:=a;exact PySem.W.eq_bytes (kN I q (by
    rw[Bool.eq_iff_iff];cases i;cases j;simp))
  | _=>exact absurd (c) M3
 | _=>cases y<;>exact absurd (c) M3
def nB(b)  (h:op≠.In:=by decide) (h2:op≠.NotIn:=by decide):behindInMarks op b=false:=Fh b h h2
def FR(d:dB X (compareOp op) r)(e:PE X a ta)(f:PE X b tb)(g:behindInMarks op b=false):PE X (.Compare a [op] [b] pos) (de r ta tb):=by
 intro c s w H Q I h;exact wpAny_Compare1 (p_ e f I h λv u i x y j k l m q=>d c i w j x y v u Q k l m q) g
def kf(t:TE):TT:=λs H Q=>t s H λx H'=>∃ k,x=.bl k/\Q k H'
def FU(f:dB X (compareOp op) r)(g:PE X a ta)(i:PE X b tb)(j:behindInMarks op b=false):PT X (.Compare a [op] [b] pos) (kf<|de r ta tb):=by
 intro d s U H Q I h;refine wpAny_isTrue_Compare1 (thn (g d s U H _ I h) λv s1 ⟨x,l,m,n,o⟩=>thn (i d s1 U l _ m o) λu p ⟨y,q,t,w,A⟩=>
  thn (f d p U q x y v u _ t n w A) λc F ⟨z,B,C,D,k,e,E⟩=>?_) j
 subst e;cases D;exact wpAny_truthy_bool #v[B,C,E]
def wV:(sizeLine:Nat)<2 ^ 63:=by rw[sizeLine_eq];decide
def FV:dB X (binaryOp .Add) (λx y H Q=>∃ i j,x=.str i/\y=.str j/\ -i+-j<=sizeLine/\Q (.str<|i++j) H):=by
 intro a s w H x y v u Q I b c h;let[i,j,rfl,rfl,d,q]:=h;let[t,rfl]:=b;let[e,rfl]:=c;exact add_str (λe f=>#v[.str<|i++j,H,I.tok _,#v[_,rfl],q]) d
def qm(r:bQ [x] us):∃ u,us=[u]/\bR x u:=by
 cases r with
 | cons a b=>cases b;exact#v[_,rfl,a]
def Af(r:bQ [x,y] us):eB λu w'=>cM (us=[u,w']) (bR x u) (bR y w'):=by
 cases r with
 | cons a b=>
  cases b with
  | cons c d=>cases d;exact#v[_,_,rfl,a,c]
def FW(c:X.calm=true):JX X (.builtin "max") (λxs H Q=>∃ i j,xs=[.int i,.int j]/\Q (.int<|if j>i then j else i) H):=by
 intro b s w H xs d Q I r h;let[i,j,rfl,q]:=h;obtain⟨u,e,rfl,⟨t,rfl⟩,⟨f,rfl⟩⟩:=Af r;refine max_two_ints (I.ok.hd c) λg l k=>#v[_,H,I.kept k,?_,q];by_cases a:j>i
 ·rw[if_pos a,if_pos a];exact#v[_,rfl]
 ·rw[if_neg a,if_neg a];exact#v[_,rfl]
def FX(c:X.calm=true):JX X (.builtin "min") (λxs H Q=>∃ i j,xs=[.int i,.int j]/\Q (.int<|if j<i then j else i) H):=by
 intro b s w H xs d Q I r h;let[i,j,rfl,q]:=h;obtain⟨u,e,rfl,⟨t,rfl⟩,⟨f,rfl⟩⟩:=Af r;refine min_two_ints (I.ok.hd c) λg l k=>#v[_,H,I.kept k,?_,q];by_cases a:j<i
 ·rw[if_pos a,if_pos a];exact#v[_,rfl]
 ·rw[if_neg a,if_neg a];exact#v[_,rfl]
def nD(K:W4)(x:V)(H:Hp)(n:Nat):Prop:=
 match x with
 | .str y=>-y<=sizeLine/\n=-y
 | .byt y=>y.size<=sizeLine/\n=y.size
 | .ref p=>(∃ xs,cD K H p xs/\n=-xs) \/ ∃ xs,cK K H p xs/\n=-xs
 | _=>False
def FY:JX X (.builtin "len") (λxs H Q=>∃ x n,xs=[x]/\nD X.K x H n/\Q (.int n) H):=by
 intro g s w H xs k Q I r h;let[x,n,rfl,e,q]:=h;let[u,rfl,c]:=qm r;have l:=sizeLine_eq;cases x with
 | str y=>
  let[t,rfl]:=c;obtain⟨i,b⟩:-y<=sizeLine/\n=-y:=e;subst b;exact len_str ∅ #v[.int _,H,I.tok _,#v[_,rfl],q]
 | byt y=>
  let[t,rfl]:=c;obtain⟨i,b⟩:y.size<=sizeLine/\n=y.size:=e;subst b;exact PySem.W.len_bytes ∅ #v[.int _,H,I.tok _,#v[_,rfl],q]
 | ref p=>
  cases c;have b:=e;rcases b with⟨xs,hx,b⟩ | ⟨xs,hx,b⟩
  ·subst b;let[d,f,pl,j]:=I.list hx;have a:=-f;exact Calls.call_len_list pl.isList (by simp only[N2];lia) #v[.int (-xs),H,I.tok _,#v[_,by simp only[N2];rw[a]],q]
  ·subst b;let[d,f,pl,j]:=I.tuple hx;have a:=-f;exact len_tuple pl (by simp only[N2];lia) #v[.int (-xs),H,I.tok _,#v[_,by simp only[N2];rw[a]],q]
 | _=>exact(e).elim
end
structure ge(h:Heap)(x dx C:Addr)(mA:W6):Prop where
 obj:h.get? x\(PySem.W.instObj C dx)
 ns:h.Ns1 dx mA
 ne:dx≠x
def FZ{h:Heap}{mA}(n:h.Ns1 dx mA):∃ od,h.get? dx\od/\∀ name,PySem.W.lookIn name od\(mA name):=by
 let[o,c,k,d,hd,f,_,g]:=n;refine#v[o,d,λname=>?_];have e:=g name;unfold nsFind findBy at e;rw[<- Array.find?_toList] at e;unfold PySem.W.lookIn;rw[hd];dsimp only;split
 ·rename_i y q;rw[q] at e;exact congrArg some e
 ·rename_i q;rw[q] at e;have a:c.toList.any (·.refKey)=false:=by
   rw[List.any_eq_false];intro y i;let[z,t,b]:=f y<|Array.mem_toList_iff.mp i;simp[DictEntry.refKey,b]
  have j:¬ c.toList.any (·.refKey)=true:=by rw[a];exact M3
  rw[if_neg j];exact congrArg some e
def ge.look(I:ge h x dx C mA):∃ od,PySem.W.InstAt h x (PySem.W.instObj C dx) C (some od)/\∀ name,PySem.W.lookIn name od\(mA name):=
 let ⟨od,ho,hl⟩:=FZ I.ns
 ⟨od,⟨I.obj,rfl,rfl,ho⟩,hl⟩
section
variable {prog:Program}{w:World}{A:Around}{E:J0}{s:Shared}{K:W4}{x dx C f:Addr}{mA:W6}{name:Str}{v:Value}
def F0{ns}{Q}(X:K.In s.heap)(I:ge s.heap x dx C mA)
  (i:PySem.W.findIn K (.ref C) "__setattr__" = some (some<|.builtin "object.__setattr__")) (j:PySem.W.plainOver K C=true) (k:PySem.W.takerIn K C name\none) (l:PySem.W.hasDictIn K C=true)
  (m:PySem.Within mA ns) (hsz:-ns<=sizeLine)
  (h:∀ h',ge h' x dx C (λy=>if y=name then some v else mA y)->Heap.SameBut dx s.heap h'->Q () {s with heap:=h',toks:=s.toks+2}):
  wpAny (model prog w) A (setAttr (.ref x) name v) Q E s:=by
 let[od,J,q]:=I.look;refine PySem.W.set_plain X J i<|PySem.W.osa_open X J j k λb=>?_;let[r,n,d]:=PySem.W.any_some l;refine L3<|M6<|L3<|L3<|wpAny_loadPart I.obj<|L3<|PySem.W.Looks.here (PySem.W.looks_clsIn X n) ?_;rw[d];refine M6<|L3<|M6<|L3<|wpAny_nsSet1 I.ns λh' a c=>?_;let[t,o,p,e,f,g]:=a.count<|PySem.Within.cons name v m;refine L3<|wpAny_lookBehind e (by rw[f];exact pastItsLine_dict<|N6 g<|by rw[M1];lia) ?_;exact M6<|h _ #v[(c.2 _<|Ne.symm I.ne).trans I.obj,a,I.ne] c
def F1{R}{vs}{kw}(X:K.In s.heap)(a:PySem.W.makesIn K C=true)
  (hi:PySem.W.findIn K (.ref C) "__init__" = some (some<|.ref f)) (b:PySem.W.typeIn K (.ref f)\(.type "function"))
  (h:codeAny (model prog w) (A.under<|.builtin "type.__call__" #v[.ref C::vs,kw]) (.call (.ref f) #v[.ref (↥s+1)::vs,kw]) (PySem.W.InitBack (↥s+1) R)
   {s with heap:=(s.heap.push PySem.W.emptyDict).push (PySem.W.instObj C ↥s)}):
  codeAny (model prog w) A (.call (.ref C) #v[vs,kw]) R s:=by
 let[c,g,d,t,os]:=s;exact PySem.W.make_core (PySem.W.makes_of X a) (PySem.W.looks_findIn X hi) (λself=>PySem.W.bind_fn X self b) (.inl rfl) h
end
def K6(f:Str)(v:V):List (Str×V)->List (Str×V)
 | []=>[(f,v)]
 | (g,x)::r=>if g=f then(g,v)::r else(g,x)::K6 f v r
theorem VV(f g)(v):∀ fs:List (Str×V),(K6 f v fs).lookup g=if g=f then some v else fs.lookup g
 | []=>by
  show List.lookup g [(f,v)]=_;by_cases h:g=f
  ·have a:=beq_iff_eq.mpr h;simp only[List.lookup,a,if_pos h]
  ·have a:=U1.mpr h;simp only[List.lookup,a,if_neg h]
 | (k,x)::r=>by
  rw[show K6 f v ((k,x)::r)=(if k=f then(k,v)::r else(k,x)::K6 f v r) from rfl];by_cases b:k=f
  ·rw[if_pos b];by_cases h:g=k
   ·have a:=beq_iff_eq.mpr h;simp only[List.lookup,a,if_pos<|h.trans b]
   ·have a:=U1.mpr h;simp only[List.lookup,a,if_neg<|λe:g=f=>h<|e.trans b.symm]
  ·rw[if_neg b];by_cases h:g=k
   ·have a:=beq_iff_eq.mpr h;simp only[List.lookup,a,if_neg<|λe:g=f=>b<|h.symm.trans e]
   ·have a:=U1.mpr h;simp only[List.lookup,a];exact(VV f g v r)
theorem Kl(f)(v):∀ fs:List (Str×V),f∈(K6 f v fs).map (·.1)/\∀ g,g∈fs.map (·.1)->g∈(K6 f v fs).map (·.1)
 | []=>#v[by simp[K6],λg h=>by simp at h]
 | (k,x)::r=>by
  let[b,c]:=Kl f v r;rw[show K6 f v ((k,x)::r)=(if k=f then(k,v)::r else(k,x)::K6 f v r) from rfl];by_cases a:k=f
  ·rw[if_pos a];subst a;exact#v[by simp,λg h=>by simpa using h]
  ·rw[if_neg a];refine#v[?_,λg h=>?_]
   ·rw[L5];exact L6 _ b
   ·rw[L5] at h ⊢;rcases M4.mp h with e | e
    ·exact M4.mpr<|.inl e
    ·exact L6 _<|c g e
theorem VZ(f)(v):∀ fs:List (Str×V),-(K6 f v fs)<=-fs+1
 | []=>by simp[K6]
 | (k,x)::r=>by
  have b:=VZ f v r;rw[show K6 f v ((k,x)::r)=(if k=f then(k,v)::r else(k,x)::K6 f v r) from rfl];by_cases a:k=f
  ·rw[if_pos a,M1,M1];lia
  ·rw[if_neg a,M1,M1];lia
def cT.some_of(r:cT (some v) o):∃ u,o\u/\bR v u:=by
 cases o with
 | none=>exact(r).elim
 | some u=>exact#v[u,rfl,r]
def cT.none_of(r:cT none o):o=none:=by
 cases o with
 | none=>rfl
 | some u=>exact(r).elim
def F2(r:bR v u):PySem.W.handedIn u=true:=by
 cases v with
 | non=>cases(r);rfl
 | bl b=>cases(r);rfl
 | int i=>let[t,e]:=(r);cases e;rfl
 | str x=>let[t,e]:=(r);cases e;rfl
 | byt b=>let[t,e]:=(r);cases e;rfl
 | flt b=>let[t,e]:=(r);cases e;rfl
 | ref a=>cases(r);rfl
 | ty n=>cases(r);rfl
section
variable {P:Program}{w:World}{H H':Hp}{h h':Heap}{a C dx:Addr}{fs fs':List (Str×V)}
def uY(hok:c8 P w H h)(e:H a\(.ins C dx fs)):∃ mA,fI (ge h a dx C mA) (∀ f,cT (fs.lookup f)<|mA f) (PySem.Within mA (fs.map (·.1))) (-fs<=1000) (H dx\(.own a)):=by
 let[d,z,ne,ob,mA,n,r,q]:=(hok a _ e);exact#v[mA,#v[ob,n,ne],r,q,z,d]
end
structure dM(K:W4)(C:Addr):Prop where
 pg:PySem.W.plainGet K C Str.empty=true
 hd:PySem.W.hasDictIn K C=true
 po:PySem.W.plainOver K C=true
 sa:PySem.W.findIn K (.ref C) "__setattr__" = some (some<|.builtin "object.__setattr__")
def dM.get{K}{C}(c:dM K C)(f):PySem.W.plainGet K C f=true:=c.pg
def bT(K:W4)(C:Addr)(f:Str):Prop:=PySem.W.findIn K (.ref C) f\none
def bT.taker{K}{C}{f}(n:bT K C f):PySem.W.takerIn K C f\none:=by
 unfold PySem.W.takerIn;rw[n];rfl
structure iQ(K:W4)(C:Addr)(m:Str)(f:Addr):Prop where
 at_:PySem.W.findIn K (.ref C) m\(some<|.ref f)
 fn:PySem.W.isFn K (.ref f)=true
 kp:PySem.W.keepIn K (.ref f)=true
section
variable {X:Cx}{pins:List (Addr×Obj)}{U:St}{H:Hp}{s:Shared}{a C dx:Addr}{fs:List (Str×V)}{f:Str}{v:V}{A:Around}{E:J0}
def KM(I:bP X pins U H s)(e:H a\(.ins C dx fs))(c:dM X.K C)(n:bT X.K C f)(l:fs.lookup f\v)
  (h:∀ u s',bP X pins U H s'->bR v u->Q u s'):wpAny (model X.prog X.w) A (getAttr (.ref a) f b) Q E s:=by
 let[j,O,r,_,_,_]:=uY I.hok e;let[u,g,d]:=cT.some_of (by rw[<- l];exact r f);exact(by
   let[od,J,i]:=O.look;exact PySem.W.get_value I.kIn J (PySem.W.plainGet_of<|c.get f).1 (PySem.W.findObj_own c.hd n rfl<|by rw[i,g]) (F2 d) (h u _ (I.tok _) d))
def Qk(I:bP X pins U H s)(e:H a\(.ins C dx fs))(c:dM X.K C)(k:iQ X.K C m g)(l:fs.lookup m=none)
  (h:Q (.ref g,[.ref a]) s):wpAny (model X.prog X.w) A (getMethod (.ref a) m pl) Q E s:=by
 let[i,O,r,_,_,_]:=uY I.hok e;have d:=cT.none_of (by rw[<- l];exact r m);exact(by
   have b:=(c.get m);let[od,J,f]:=O.look;exact PySem.W.method_fn I.kIn J (PySem.W.plainGet_of b).1 (PySem.W.plainGet_of b).2 k.at_ (beq_iff_eq.mp k.fn) (by show(PySem.W.lookIn m od).map (·.isSome)\false;rw[f,d];rfl) h)
def KW(I:bP X pins U H s)(e:H a\(.ins C dx fs))(c:dM X.K C)(n:bT X.K C f)(B:-fs<1000)(l:bR y u)
  (h:∀ s',bP X pins U (bU H a<|.ins C dx<|K6 f y fs) s'->Q () s'):wpAny (model X.prog X.w) A (setAttr (.ref a) f u) Q E s:=by
 let[i,O,r,j,_,k]:=uY I.hok e;have m:-(fs.map (·.1))<=sizeLine:=by rw[L1,sizeLine_eq];lia
 refine F0 I.kIn O c.sa c.po n.taker c.hd j m λp d t=>h _ ?_;have hd:∃ o,p.get? dx\o:=let ⟨o,_,_,e',_⟩:=d.ns;#v[o,e']
 refine I.write (by rw[e];exact True.intro) (.inr k) (λb q v z=>(t.2 b v).trans z) hd ?_;refine#v[by rw[jh O.ne];exact k,?_,O.ne,d.obj,_,d.ns,λg=>?_,λg x=>?_]
 ·have:=VZ f y fs;lia
 ·show cT ((K6 f y fs).lookup g) (if g=f then some u else i g);rw[VV];by_cases q:g=f
  ·rw[if_pos q,if_pos q];exact l
  ·rw[if_neg q,if_neg q];exact r g
 ·by_cases q:g=f
  ·rw[q];exact(Kl f y fs).1
  ·refine(Kl f y fs).2 g (j g λz=>x ?_);show(if g=f then some u else i g)=none;rw[if_neg q];exact z
def bP.made(I:bP X pins U H s):bP X pins U (bU (bU H ↥s (.own<|↥s+1)) (↥s+1)<|.ins C ↥s [])
  {s with heap:=(s.heap.push PySem.W.emptyDict).push (PySem.W.instObj C ↥s)}:=by
 have a:(s.heap.push PySem.W.emptyDict).get? ↥s\PySem.W.emptyDict:=X7 s.heap rfl;have e2:((s.heap.push PySem.W.emptyDict).push (PySem.W.instObj C ↥s)).get? (↥s+1)\(PySem.W.instObj C ↥s):=by
  have:=X7 (s.heap.push PySem.W.emptyDict) (o:=PySem.W.instObj C ↥s) rfl
  rwa [Heap.size_push] at this
 have e3:(s.heap.push PySem.W.emptyDict).Ns ↥s (λ_=>none):=#v[PySem.W.emptyDict,#[],_,a,rfl,(λe c=>absurd c<|by simp),λ_=>rfl];refine(I.laid (o:=.own<|↥s+1) (t':=s.toks) (λb u q=>L8 _ q) (M8 _) #v[_,a]).laid (λb u q=>L8 _ q) (Nat.le_of_eq<|Heap.size_push _ _) ?_;have ne:↥s≠↥s+1:=N5<|Nat.lt_succ_self _;refine#v[by rw[jh ne,js],U4 _,ne,e2,λ_=>none,(Heap.Ns1.of_empty e3).at λo q=>L8 _ q,λ_=>True.intro,λy d=>absurd rfl d]
def F3(a:attributeBase e f env (eval e env)=eval e env)
  (h:wpAny (model prog w) A (eval e env) (λo s₁=>wpAny (model prog w) A (getAttr o f true) Q E s₁) E s):wpAny (model prog w) A (eval (.Attribute e f pos) env) Q E s:=
 Attribute_any_ h (by rw[arm_eval_Attribute,a])
end
def io(K:W4)(ta:TE)(f:Str):TE:=λs H Q=>ta s H λx H1=>∃ a C dx fs v,x=.ref a/\H1 a\(.ins C dx fs)/\dM K C/\bT K C f/\fs.lookup f\v/\Q v H1
def F4(K:W4)(ta tv:TE)(f:Str):TS:=λD s H=>tv s H λy H1=>ta s H1 λx H2=>∃ a C dx fs,x=.ref a/\H2 a\(.ins C dx fs)/\dM K C/\bT K C f/\ -fs<1000 /\
 D.nx s (bU H2 a<|.ins C dx<|K6 f y fs)
def qt(X:Cx)(op:Operator)(rd:V->V->Hp->VK->Prop):Prop:=
 ∀ pins s (z:St) H x y u v Q,bP X pins z H s->bR x u->bR y v->rd x y H Q->X⁻¹ (inplaceOp op u v) (EP X pins z Q) X.xe s
def F5(K:W4)(ta tv:TE)(rd:V->V->Hp->VK->Prop)(f:Str):TS:=λD s H=>ta s H λx H1=>∃ a C dx fs v,x=.ref a/\H1 a\(.ins C dx fs)/\dM K C/\bT K C f/\fs.lookup f=some v /\
 tv s H1 λy H2=>rd v y H2 λz H3=>∃ dx' fs',H3 a\(.ins C dx' fs')/\ -fs'<1000/\D.nx s (bU H3 a<|.ins C dx'<|K6 f z fs')
section
variable {X:Cx}{o e value:Expr}{f:Str}{pos pos' tpos:Pos}{ta tv:TE}
def nF(d:PE X e ta)(g:attributeBase e f X.env (eval e X.env)=eval e X.env):PE X (.Attribute e f pos) (io X.K ta f):=by
 intro b s z H Q I h;refine F3 g<|thn (d b s z H _ I h) λu s1 i=>?_;let[x,j,k,m,a,C,t,fs,v,ex,o,c,n,l,q]:=i;subst ex;obtain rfl:u=Value.ref a:=m;exact KM k o c n l λw y p r=>#v[v,j,p,r,q]
def Ag:V->V->Hp->VK->Prop:=λx y H Q=>∃ i j,x=.int i/\y=.int j/\Q (.int<|i+j) H
def md:V->V->Hp->VK->Prop:=λx y H Q=>∃ i j,x=.int i/\y=.int j/\Q (.int<|i-j) H
def F6:qt X .Add Ag:=by
 rintro a s w H x y u v Q I b c ⟨i,j,rfl,rfl,q⟩;let[t,rfl]:=(b);let[d,rfl]:=(c);exact PyProof.Rows.iadd_int #v[.int<|i+j,H,I.tok _,#v[_,rfl],q]
def nH:qt X .Sub md:=by
 rintro a s w H x y u v Q I b c ⟨i,j,rfl,rfl,q⟩;let[t,rfl]:=(b);let[d,rfl]:=(c);exact PyProof.Rows.isub_int #v[.int<|i-j,H,I.tok _,#v[_,rfl],q]
end
structure ca(k:Nat)(A:Around):Prop where
 hd:A.handled=none
 dp:A.depth+3*k+5<recursionLimit
 un:A.units+16*k+200<cLine
def ca.mono(r:ca k A)(h:j<=k):ca j A:=#v[r.hd,by have:=r.dp;lia,by have:=r.un;lia]
def ca.deeper(r:ca (k+1) A)(env):ca k (A.deeper env):=
 ⟨r.hd,by have:=r.dp;show A.depth+1+3*k+5<_;lia,by have:=r.un;show A.units+3+16*k+200<_;lia⟩
def ca.make(r:ca (k+1) A)(C)(us)(kw):ca k (A.under<|.builtin "type.__call__" #v[.ref C::us,kw]):=
 ⟨r.hd,by have:=r.dp;rw[(show(A.under<|.builtin "type.__call__" #v[.ref C::us,kw]).depth=A.depth+1 from by first | rfl | simp[Around.under,Code.weight,Code.isCreation,Code.isGuard,Code.isCaller,Code.frames,Code.isFrame,guardIds])];lia,by have:=r.un;rw[(show(A.under<|.builtin "type.__call__" #v[.ref C::us,kw]).units=A.units+1 from by first | rfl | simp[Around.under,Code.cUnits,Code.frames,Code.isFrame])];lia⟩
def ca.depth(r:ca k A):A.depth<recursionLimit:=by have:=r.dp;lia
def ca.units(r:ca k A):A.units+64<cLine:=by have:=r.un;lia
def Qp:TA:=λ_ H Q=>Q [] H
def ve(ta:TE)(tr:TA):TA:=λs H Q=>ta s H λx H1=>tr s H1 λxs H2=>Q (x::xs) H2
section
variable {X:Cx}{e:Expr}{es:List Expr}{te:TE}{t:TA}{pos:Pos}
def Ji:PA X [] Qp:=λ_ _ _ _ H Q I h=>Calls.spliced_nil #v[[],H,I,.nil,h]
abbrev dS(X:Cx)(e:Expr)(es:List Expr):Prop:=starEach (e::es) X.env=(false,eval e X.env)::starEach es X.env
def yy(b:PE X e te)(c:PA X es t)(d:dS X e es:=by rfl):PA X (e::es) (ve te t):=by
 intro pos a s w H Q I h;rw[d];refine Calls.spliced_cons<|thn (b a s w H _ I h) λu s1 f=>?_;let[x,g,i,j,k]:=f;exact thn (c pos a s1 w g _ i k) λq r ⟨l,m,n,o,p⟩=>#v[x::l,m,n,.cons j o,p]
def gf(t:TA):TE:=λs H Q=>t s H λxs H1=>-xs<=sizeLine/\∀ p,H1 p=none->Q (.ref p) (bU H1 p<|.tup xs)
def F7(t:TA):TE:=λs H Q=>t s H λxs H1=>-xs<=sizeLine/\∀ p,H1 p=none->Q (.ref p) (bU H1 p<|.lst xs)
def Y9{x1}(h:PA X es t):PE X (.Tuple es x1 pos) (gf t):=by
 intro a s w H Q I d;refine wpAny_Tuple_spliced<|thn (h pos a s w H _ I d) λf s1 ⟨g,i,c,r,z,q⟩=>#v[by rw[<- r.length];exact z,?_];refine#v[.ref ↥s1,bU i ↥s1 (.tup g),c.laid (λb u e=>L8 _ e) (M8 _) ?_,rfl,q _<|c.hok.fresh<|M8 _];exact#v[z,f,r,#v[_,X7 _ rfl,rfl,_,rfl],_,X7 _ rfl,rfl]
end
abbrev Sp:=List V->Hp->VK->XK->Prop
abbrev iR:=List Env->Hp->Shared->XK->Value->Shared->Prop
structure eH(P:Program)(w:World)(K:W4)(mg:W6)(base:Heap)(A:Around)(outer:List Env)(s:Shared)(H:Hp):Prop where
 frames:A.frames\outer
 mod:Mod K mg base
 bs:∀ b o,base.get? b\o->s.heap.get? b\o/\H b=none
 bsz:base.objs.size<=↥s
 funs:s.heap.FunFrames base outer
 frf:∀ b∈f_ outer,H b=none
 hok:c8 P w H s.heap
 bare:AllBare s.gens
def CE(outer:List Env)(P:Program)(w:World)(H:Hp)(s:Shared)(Q:VK)(u:Value)(s':Shared):Prop:=
 ∃ v H',s'.os=s.os/\AllBare s'.gens/\Un (f_ outer) [] H H' s.heap s'.heap/\c8 P w H' s'.heap/\bR v u/\Q v H'
def CR(CX:iR)(outer:List Env)(P:Program)(w:World)(H:Hp)(s:Shared)(Q:VK)(E:XK)(r:Result)(s':Shared):Prop:=
 match r with
 | .ok (.ret u)=>CE outer P w H s Q u s'
 | .ok _=>False
 | .error e=>CX outer H s E e s'
structure cL(P:Program)(w:World)(K:W4)(mg:W6)(base:Heap)(CX:iR)(k:Nat)(f:Addr)(fd:FuncData)(ps:List Str)(sp:Sp):Prop where
 len:∀ vs H Q E,sp vs H Q E->-vs=-ps
 run:∀(A:Around) (outer:List Env) (s:Shared) (H:Hp) (args:Args) (us:List Value) (vs:List V) (Q:VK) (E:XK),ca k A->eH P w K mg base A outer s H->BindsTo s fd args (ps.zip us)->bQ vs us->sp vs H Q E ->
  codeAny (model P w) A (.call (.ref f) args) (CR CX outer P w H s Q E) s
def cL.imp{P}{w}{K}{mg}{base}{CX}{k}{f}{fd}{ps}{sp a}(F:cL P w K mg base CX k f fd ps sp)
  (h:∀ vs H Q E,a vs H Q E->sp vs H Q E):cL P w K mg base CX k f fd ps a:=
 ⟨λvs H Q E q=>F.len vs H Q E<|h _ _ _ _ q,λA outer s H b c vs Q E d e g i j=>F.run A outer s H b c vs Q E d e g i<|h _ _ _ _ j⟩
def eH.make{P}{w}{K}{mg}{base}{A}{outer}{s}{H}(e:eH P w K mg base A outer s H)(C)(us)(kw):
  eH P w K mg base (A.under<|.builtin "type.__call__" #v[.ref C::us,kw]) outer s H:=#v[by first | exact e.frames | (simpa [Around.under,Code.envs,Code.isFrame,pushEnvs] using e.frames),e.mod,e.bs,e.bsz,e.funs,e.frf,e.hok,e.bare]
section
variable {X:Cx}{pins:List (Addr×Obj)}{x:St}{H:Hp}{s s':Shared}
def bP.env0(I:bP X pins x H s):eH X.prog X.w X.K X.mg X.base X.A X.stack s H:=
 ⟨I.ok.frames,I.ok.mod,I.bs,N6 I.ok.bsz I.sz,I.stack,I.stkFree,I.hok,I.bare⟩
def bP.after(I:bP X pins x H s)(h:CE X.stack X.prog X.w H s Q u s'):EP X pins x Q u s':=by
 let[v,c,os,bare,un,hok,r,q]:=h;let[e,g,d,t,a]:=s';obtain rfl:a=s.os:=os;exact#v[v,c,I.call un hok bare<|λb z=>absurd z<|by simp,r,q]
end
def nI(sp:Sp)(dvs:List V)(E:XK)(t:TA):TE:=λs H Q=>t s H λvs H1=>sp (vs++dvs) H1 Q E
def kA(C:Addr)(m:Str)(sp:Sp)(dvs:List V)(E:XK)(ta:TE)(t:TA):TE:=λs H Q=>ta s H λx H1=>∃ a dx fs,x=.ref a/\H1 a\(.ins C dx fs)/\fs.lookup m=none /\
 t s H1 λvs H2=>sp (x::(vs++dvs)) H2 Q E
def qy(C:Addr)(sp:Sp)(dvs:List V)(E:XK)(t:TA):TE:=λs H Q=>t s H λvs H1=>∀ x dx,H1 x=none->H1 dx=none->dx≠x ->
 sp (.ref x::(vs++dvs)) (bU (bU H1 dx<|.own x) x<|.ins C dx []) (λv H2=>v=.non/\Q (.ref x) H2) E
def df(K:W4)(fd:FuncData)(ps:List Str)(ds:List Value):Prop:=
 ∀ s us,K.In s.heap->-(us++ds)=-ps->BindsTo s fd #v[us,[]] (ps.zip<|us++ds)
def df.all{K}{fd}{ps}(h:∀ us:List Value,-us=-ps->bindArgs fd #v[us,[]]=pure (ps.zip us)):df K fd ps []:=λs us _ a=>by
 rw[M9] at a ⊢;exact .of_eq<|h us a
def wv(CX:iR)(X:Cx)(E:XK):Prop:=∀ pins (u:St) H s e s',bP X pins u H s->CX X.stack H s E e s'->X.xe e s'
section
variable {X:Cx}{CX:iR}{k:Nat}{f C:Addr}{fd:FuncData}{ps:List Str}{sp:Sp}{dvs:List V}{ds:List Value}{E:XK}{x m:Str}{p pos apos:Pos}{e o:Expr}{es:List Expr}{ta:TE}{t:TA}
def qz(F:cL X.prog X.w X.K X.mg X.base CX k f fd ps sp)(c:ca k X.A)(d:df X.K fd ps ds)(hd:bQ dvs ds)(hx:wv CX X E)
  (I:bP X pins y H s) (r:bQ vs us) (h:sp (vs++dvs) H Q E):X⁻¹ (call (.ref f) us) (EP X pins y Q) X.xe s:=by
 have b:=r.append hd;have g:-(us++ds)=-ps:=by rw[<- b.length];exact F.len _ _ _ _ h
 refine wpAny_call<|codeAny_mono (F.run X.A X.stack s H #v[us,[]] (us++ds) (vs++dvs) Q E c I.env0 (d s us I.kIn g) b h) λr i a=>?_;cases r with
 | error e=>exact hx pins y H s e i I a
 | ok fl=>
  cases fl with
  | ret u=>exact I.after a
  | next=>exact False.elim a
  | brk=>exact False.elim a
  | cont=>exact False.elim a
abbrev eh(X:Cx)(p:Pos)(l:List Expr):Prop:=(backTo p<|starEach l X.env).any (·.1)=false
def Ah(p:PE X o ta)(c:dM X.K C)(i:iQ X.K C m f)(F:cL X.prog X.w X.K X.mg X.base CX k f fd ps sp)(v:ca k X.A)(y:df X.K fd ps ds)(hd:bQ dvs ds)(hx:wv CX X E)(z:PA X (e::es) t)
  (d:dS X e es:=by rfl) (g:eh X pos es:=by rfl)
  (B:eval (.Call (.Attribute o m apos) (e::es) [] pos) X.env=(do
   let ov <- eval o X.env
   standAt apos.atName
   let (f,first) <- holding [ov] (getMethod ov m pl)
   callWith pos f first (backTo pos<|starEach (e::es) X.env) (backToKw pos<|keywordEach [] X.env)):=by rfl):
  PE X (.Call (.Attribute o m apos) (e::es) [] pos) (kA C m sp dvs E ta t):=by
 intro b s U H Q I h;refine PySem.W.methodCall_KW (thn (p b s U H _ I h) λu s1 D=>?_) B;let[x,G,j,J,a,N,fs,ex,L,l,q]:=D;subst ex;obtain rfl:u=Value.ref a:=J;exact Qk j L c i l<|PySem.W.callWith_K I.ok.mod.kin i.kp (thn (z pos b s1 U G _ j q) λO P ⟨vs,R,n,r,M⟩=>#v[n.kIn,(qz (vs:=.ref a::vs) F v y hd hx n (.cons rfl r) M)]) d g
structure Mk(K:W4)(C f:Addr):Prop where
 makes:PySem.W.makesIn K C=true
 init:PySem.W.findIn K (.ref C) "__init__" = some (some<|.ref f)
 fn:PySem.W.isFn K (.ref f)=true
 kp:PySem.W.keepIn K (.ref C)=true
def F8(M:Mk X.K C f)(F:cL X.prog X.w X.K X.mg X.base CX k f fd ps sp)(g:ca (k+1) X.A)(i:df X.K fd ps ds)(hd:bQ dvs ds)
  (hx:wv CX X E) (I:bP X pins y H s) (r:bQ vs us)
  (h:∀ x dx,H x=none->H dx=none->dx≠x->sp (.ref x::(vs++dvs)) (bU (bU H dx<|.own x) x<|.ins C dx []) (λv H2=>v=.non/\Q (.ref x) H2) E):
  X⁻¹ (call (.ref C) us) (EP X pins y Q) X.xe s:=by
 have c:=h (↥s+1) ↥s (I.hok.fresh<|Nat.le_succ _) (I.hok.fresh<|M8 _) (N5<|Nat.lt_succ_self _);have b:=bP.made (C:=C) I;have d:bQ (V.ref (↥s+1)::(vs++dvs)) (Value.ref (↥s+1)::(us++ds)):=.cons rfl<|r.append hd;have j:-(Value.ref (↥s+1)::us++ds)=-ps:=by
  have e:=-d;rw[F.len _ _ _ _ c] at e;exact e.symm
 refine wpAny_call<|F1 I.kIn M.makes M.init (beq_iff_eq.mp M.fn)<|codeAny_mono (F.run _ X.stack _ _ #v[Value.ref (↥s+1)::us,[]] (Value.ref (↥s+1)::(us++ds)) _ _ E (g.make C us [])
  (b.env0.make C us []) (i _ (Value.ref (↥s+1)::us) b.kIn j) d c) λr l a=>?_
 cases r with
 | error e=>exact hx pins y _ _ e l b a
 | ok fl=>
  cases fl with
  | ret u=>
   let[v,m,n,o,p,q]:=b.after a;subst p;exact#v[o,#v[V.ref<|↥s+1,m,n,rfl,q]]
  | next=>exact False.elim a
  | brk=>exact False.elim a
  | cont=>exact False.elim a
def F9(M:Mk X.K C f)(F:cL X.prog X.w X.K X.mg X.base CX k f fd ps sp)(g:ca (k+1) X.A)(i:Gl X x)(j:X.mg x\(.ref C))(l:df X.K fd ps ds)(hd:bQ dvs ds)(hx:wv CX X E)
  (m:PA X (e::es) t) (b:Nd x:=by decide) (n:dS X e es:=by rfl) (c:eh X pos es:=by rfl):
  PE X (.Call (.Name x p) (e::es) [] pos) (qy C sp dvs E t):=by
 intro a s y H Q I h;exact wpAny_Call_Name_kw<|zl I i j (PySem.W.callWith_K I.ok.mod.kin M.kp (thn (m pos a s y H _ I h) λo s1 ⟨vs,u,d,r,q⟩=>#v[d.kIn,(F8 M F g l hd hx d r q)]) n c) b
end
structure cv(N P:List Str)(sc:Scope):Prop where
 kind:sc.kind=.function
 co:sc.isCoroutine=false
 gen:sc.isGenerator=false
 nd:N.Nodup
 pre:N.take (-P)=P
 par:∀ x∈P,sc.names.lookup x=some .local\/sc.names.lookup x\.cell
 nofree:∀ y∈sc.names,y.2≠.free
theorem wn{kindOf}  : ∀{binds}{m},(∀ v,(x,v)∉binds)->bindL kindOf binds m x=m x
 | [],_,_=>rfl
 | (n,v)::r,m,h=>by
  unfold bindL;rw[wn λw a=>h w<|L6 _ a];split
  ·have:x≠n:=by rintro rfl;exact h v L7
   simp[this]
  ·rfl
theorem xM{kindOf}  : ∀{binds}{m},(∀ v,(x,v)∉binds)->bindC kindOf binds m x=m x
 | [],_,_=>rfl
 | (n,v)::r,m,h=>by
  unfold bindC;rw[xM λw a=>h w<|L6 _ a];split
  ·rfl
  ·have:x≠n:=by rintro rfl;exact h v L7
   simp[this]
theorem wg{kindOf}  : ∀{P:List Str}{vs}{i:Nat}{m},P.Nodup->P[i]?\x->vs[i]?\v->kindOf x=some .local ->
  bindL kindOf (P.zip vs) m x\v
 | [],_,_,_,_,h,_,_=>by simp at h
 | _::_,[],_,_,_,_,h,_=>by simp at h
 | p::P,w::vs,0,m,nd,a,b,c=>by
  simp at a b;subst a;subst b;show bindL kindOf ((p,w)::P.zip vs) m p=_;unfold bindL;rw[wn λv d=>(List.nodup_cons.mp nd).1 (List.of_mem_zip d).1,if_pos c];simp
 | p::P,w::vs,i+1,m,nd,a,b,c=>by
  unfold bindL;exact wg (List.nodup_cons.mp nd).2 ⇑a ⇑b c
theorem xG{kindOf}  : ∀{P:List Str}{vs}{i:Nat}{m},P.Nodup->P[i]?\x->vs[i]?\v->kindOf x≠some .local ->
  bindC kindOf (P.zip vs) m x\v
 | [],_,_,_,_,h,_,_=>by simp at h
 | _::_,[],_,_,_,_,h,_=>by simp at h
 | p::P,w::vs,0,m,nd,a,b,c=>by
  simp at a b;subst a;subst b;show bindC kindOf ((p,w)::P.zip vs) m p=_;unfold bindC;rw[xM λv d=>(List.nodup_cons.mp nd).1 (List.of_mem_zip d).1,if_neg c];simp
 | p::P,w::vs,i+1,m,nd,a,b,c=>by
  unfold bindC;exact xG (List.nodup_cons.mp nd).2 ⇑a ⇑b c
def cy(N:List Str)(vs:List V):St:=vs.map some++List.replicate (-N- -vs) none
def ip(CX:iR)(P:Program)(w:World)(K:W4)(mg:W6)(base:Heap)(N:List Str)(qual:Str)(scope:Scope)(f:Addr)(cd:Value)(A:Around)(outer:List Env)(s:Shared)(H:Hp)(E:XK):Cx where
 prog:=P
 w:=w
 K:=K
 mg:=mg
 base:=base
 A:=A.deeper (envOfC qual scope ↥s f cd)
 N:=N
 s₀:=s
 H₀:=H
 env:=envOfC qual scope ↥s f cd
 outer:=outer
 stack:=envOfC qual scope ↥s f cd::outer
 ex:=[]
 calm:=true
 fn:=λ_=>true
 pn:=[]
 xe:=λe s'=>wpAny (model P w) (A.deeper<|envOfC qual scope ↥s f cd) (leaving (envOfC qual scope ↥s f cd) e) (λ_ s''=>CX outer H s E e s'') (λe' s''=>CX outer H s E e' s'') s'
def Aj{a:Scope}{n}(h:a.names.lookup x\.cell):∃ c,(cellsFrom n a.names []).lookup x\c:=by
 exact Option.isSome_iff_exists.mp<|PySem.W.cellsFrom_some a.names n []<|.inl h
def F_{CX}{P}{w}{K}{mg}{base}{N ps}{qual}{scope}{f}{cd}{A}{outer}{s s1}{H}{E}{us}{vs}
  (S:cv N ps scope) (hd:A.handled=none) (g:eH P w K mg base A outer s H) (G:-vs=-ps) (r:bQ vs us)
  (x:InCallC s ↥s (bindL (envOfC qual scope ↥s f cd).kindOf (ps.zip us) λ_=>none) (cellsFrom (↥s+1) scope.names []) (bindC (envOfC qual scope ↥s f cd).kindOf (ps.zip us) λ_=>none) s1):
  bP (ip CX P w K mg base N qual scope f cd A outer s H E) [] (cy N vs) H s1:=by
 have C:-ps<=-N:=by have:=congrArg List.length S.pre;rw[X6] at this;lia
 let[o,I,rfl,t]:=x.done;have j:∀ b:Addr,b∉(ip CX P w K mg base N qual scope f cd A outer s H E).ex:=λb z=>absurd (show b∈([]:W5) from z) (by simp);refine#v[#v[g.mod,S.kind,rfl,rfl,M8 _,λy z c o d=>?_,λy l=>?_,λy c _ h=>?_,λ_=>hd,Around.frames_deeper g.frames,.inr #v[rfl,rfl],λb z=>absurd z<|j b,g.bs,g.bsz,λb _ _=>j b,λb z=>absurd z<|j b,g.funs,g.frf],
  rfl,g.bare,Un.kept t,#v[_,x.toInCall.ns,λi y v o d J=>?_],λy c h=>#v[_,x.cell y c h],g.hok.fresh<|M8 _,λy c h=>?_,λp m=>absurd (show p∈([]:W0) from m)<|by simp,g.hok.kept t,?_]
 ·exact name_of_addr x.apart (PySem.mem_of_lookup o)<|PySem.mem_of_lookup d
 ·have l:=l;rcases l with l | l
  ·exact Aj l
  ·exact absurd rfl<|S.nofree _<|PySem.mem_of_lookup l
 ·exact Nat.le_of_lt<|x.above y c<|PySem.mem_of_lookup h
 ·have hi:i< -vs:=by
   unfold cy at d;by_cases hi:i< -vs
   ·exact hi
   ·rw[List.getElem?_append_right ⇑hi,List.getElem?_replicate] at d;split at d<;>cases d
  have D:vs[i]?\v:=by
   unfold cy at d;rw[List.getElem?_append_left ⇑hi,List.getElem?_map] at d;cases e:vs[i]? with
   | none=>rw[e] at d;cases d
   | some a=>rw[e] at d;cases d;rfl
  let[u,B,F]:=r.get D;have m:ps[i]?\y:=by
   rw[<- S.pre,List.getElem?_take_of_lt ∅];exact o
  have n:ps.Nodup:=by rw[<- S.pre];exact S.nd.sublist<|List.take_sublist _ _
  refine#v[u,F,?_];rcases S.par y (List.mem_of_getElem? m) with k | k
  ·exact .inl #v[k,wg n m B k]
  ·let[c,e]:=Aj k;refine .inr #v[.inl k,c,e,?_];have q:=x.cell y c e;rw[xG n m B<|by show scope.names.lookup y≠_;rw[k];decide] at q;exact q
 ·exact g.hok.fresh<|Nat.le_of_lt<|x.above y c<|PySem.mem_of_lookup h
 ·unfold cy;show _=-N;rw[N3,L1,List.length_replicate]
  lia
def Ga{CX}{P}{w}{K}{mg}{base}{k}{f}{name qual}{params}{body}{scope}{F kV h pm a ct oc}{an od}
  {p:Array (Option Value)}{N ps:List Str}{sp:Sp}(M:K.lookup f\#v[oc,od,.func<|PySem.W.fnOf name qual params body scope F kV h pm an a ct,p]) (z:PySem.W.codeIn K a qual=true) (S:cv N ps scope)
  (len:∀ vs H Q E,sp vs H Q E->-vs=-ps)
  (c:∀ A outer s H vs Q E,ca k (A.deeper<|envOfC qual scope ↥s f a)->sp vs H Q E ->
   ∃ t,fW (ip CX P w K mg base N qual scope f a A outer s H E) body t/\t {nx:=λ_ H'=>Q .non H',rt:=Q} (cy N vs) H):
  cL P w K mg base CX (k+1) f (PySem.W.fnOf name qual params body scope F kV h pm an a ct) ps sp:=by
 refine#v[len,λA outer s H G O vs Q E B i R r j=>?_];have L:=i.mod.kin.keeps λb o e=>(i.bs b o e).1;have d:∀ y∈ps.zip O,scope.names.lookup y.1=some .local\/(scope.names.lookup y.1\.cell/\((cellsFrom (↥s+1) scope.names []).lookup y.1).isSome=true):=λ⟨n,v⟩ T=>by
  rcases S.par n (List.of_mem_zip T).1 with q | q
  ·exact .inl q
  ·exact .inr #v[q,PySem.W.cellsFrom_some _ _ _<|.inl q]
 refine codeAny_call_function B.depth (L _ _ M) rfl S.co S.gen rfl (PySem.W.codeRec_of L z)<|R _ _ _ _<|wpAny_newFunctionEnv_cells S.kind d λenv U s1 x=>?_;subst U;refine#v[(i.mod.nolimit.keeps λb o e=>(i.bs b o e).1).keeps x.toInCall.keep,codeAny_func ?_];let[t,X,Y]:=c A outer s H vs Q E (B.deeper _) j;have I:bP (ip CX P w K mg base N qual scope f a A outer s H E) [] (cy N vs) H s1:=F_ S B.hd i (len _ _ _ _ j) r x;refine wpAny_mono (X [] s1 (cy N vs) H _ I Y) (λfl C g=>?_) λe C g=>g;have l:∀{m}{H'}{v}{u},bP (ip CX P w K mg base N qual scope f a A outer s H E) [] m H' C->bR v u->Q v H'->CE outer P w H s Q u C:=
  λ{m H' v u} J D q=>#v[v,H',J.os,J.bare,J.base,J.hok,D,q]
 cases fl with
 | ret u=>
  let[v,m,H',J,D,q]:=g;exact l J D q
 | next=>
  let[m,H',J,q]:=g;exact l (v:=V.non) J rfl q
 | brk=>
  let[_,_,_,q]:=g;exact False.elim q
 | cont=>
  let[_,_,_,q]:=g;exact False.elim q
section
variable {X:Cx}{x:Str}{p pos:Pos}{e:Expr}{es:List Expr}{t:TA}{id T:String}{r:List V->Hp->VK->Prop}
def gh(r:List V->Hp->VK->Prop)(t:TA):TE:=λs H Q=>t s H λvs H1=>r vs H1 Q
def Ak(d:JX X (.builtin id) r)(f:Gl X x)(g:X.mg x=none)(i:bootBuiltins x\(.builtin id))(j:PA X (e::es) t)(hn:x≠"__name__":=by decide)(b:Nd x:=by decide)
  (k:dS X e es:=by rfl) (c:eh X pos es:=by rfl):PE X (.Call (.Name x p) (e::es) [] pos) (gh r t):=by
 intro a s u H Q I h;exact wpAny_Call_Name_kw<|JF I f g i (PyProof.Rows.callWith_builtin1 (thn (j pos a s u H _ I h) λl s1 ⟨vs,m,n,o,q⟩=>d a s1 u m vs l Q n o q) k c) hn b
def wT(d:JX X (.type T) r)(f:Gl X x)(g:X.mg x=none)(i:bootBuiltins x\(.type T))(j:PA X (e::es) t)(hn:x≠"__name__":=by decide)(b:Nd x:=by decide)
  (k:dS X e es:=by rfl) (c:eh X pos es:=by rfl):PE X (.Call (.Name x p) (e::es) [] pos) (gh r t):=by
 intro a s u H Q I h;exact wpAny_Call_Name_kw<|JF I f g i (PyProof.Rows.callWith_type1 (thn (j pos a s u H _ I h) λl s1 ⟨vs,m,n,o,q⟩=>d a s1 u m vs l Q n o q) k c) hn b
end
end L2
namespace HT
open PySem PyProof.Rows
section
open PySem.SeqAt
open PySem.AutoSeq1 (wpAny_loadPart')
open PySem.MeetsSeq PySem.MeetsSeq2 PySem.MeetsSeq3
end
section
variable {prog:Program}{w:World}{A:Around}{E:J0}{s:Shared}
def g8(q:IsTup s.heap t vs.toArray)(r:IsTup s.heap b ws.toArray)(k:vs≠[])
  (h1:ws=[]->Q (.ref t) s) (h2:ws≠[]->Q (.ref ↥s) { s with heap:=s.heap.push {cls:=.type "tuple",data:=.seq (vs++ws).toArray} })
  (hsz:-vs+-ws<=sizeLine):wpAny (model prog w) A (binaryOp .Add (.ref t)<|.ref b) Q E s:=by
 obtain⟨⟨cls,l,data,m⟩,f,u,n,hd⟩:=id q;obtain⟨⟨o,c,h,d⟩,a,i,p,j⟩:=id r;subst u hd i j;have e:vs.toArray++ws.toArray=(vs++ws).toArray:=by simp
 by_cases g:ws=[]
 ·exact concat_meets #v[_,f,rfl] #v[_,a,rfl] noFill_tuple_add seq_tuple_add PySem.F.slot_tuple_add PySem.F.entry_tuple_add (PySem.F.args_tuple_add_2 _ _)
   (tuple_addW1 t b vs.toArray ws.toArray n p l c m d ⇑k (by simp[g])) #v[f,a,h1 g]
 ·refine concat_meets #v[_,f,rfl] #v[_,a,rfl] noFill_tuple_add seq_tuple_add PySem.F.slot_tuple_add PySem.F.entry_tuple_add (PySem.F.args_tuple_add_2 _ _)
   (tuple_addW2 t b vs.toArray ws.toArray n p l c m d ⇑k ⇑g (by rw[N2,N2];exact hsz)) #v[f,a,?_]
  rw[e];exact h2 g
def cQ(n d:Nat):Option Int->Nat
 | none=>d
 | some v=>if v<0 then(v+(n:Int)).toNat else min v.toNat n
def gi(n d):cQ n d none=d:=rfl
def g9(n d k:Nat):cQ n d (some (k:Int))=min k n:=by
 show(if k<0 then(k+(n:Int)).toNat else min (k:Int).toNat n)=min k n;rw[if_neg ∅,N7]
def iS(n d)(hd:d<=n)(o):cQ n d o<=n:=by
 cases o with
 | none=>exact hd
 | some v=>
  show(if v<0 then(v+n).toNat else min v.toNat n)<=n;by_cases a:v<0
  ·rw[if_pos a];lia
  ·rw[if_neg a];exact Nat.min_le_right _ _
end
end HT
namespace L2
open PySem PySem.Spec PyProof.Rows
abbrev TO:=St->Hp->(Option Int->Hp->Prop)->Prop
def PO(X:Cx)(e:Option Expr)(t:TO):Prop:=
 ∀ pins s (v:St) H (Q:Option Int->Hp->Prop),bP X pins v H s->t v H Q ->
  X⁻¹ (evalPart e X.env) (λu s'=>∃ o H',bP X pins v H' s'/\IsPart u o/\Q o H') X.xe s
def Gb:TO:=λ_ H Q=>Q none H
def Gc(t:TE):TO:=λs H Q=>t s H λx H1=>∃ i,x=.int i/\Q (some i) H1
def Ge:∀{us},bQ (ns.map V.int) us->IntsAre us ns:=by
 induction ns with
 | nil=>intro us r;rw[List.map_nil] at r;cases r;exact .nil
 | cons n ns a=>
  intro us r;cases r with
  | cons b c=>
   let[t,e]:=b;subst e;exact .cons n t<|a c
section
variable {X:Cx}{e:Expr}{te:TE}{lo hi:Option Expr}{tl th:TO}{pos p2:Pos}
def iq(X:Cx)(r:V->Option Int->Option Int->Hp->VK->Prop):Prop:=
 ∀ pins s (u:St) H x v vl vu lo hi sl Q,bP X pins u H s->bR x v->s.heap.IsSliceOf sl vl vu .none->IsPart vl lo->IsPart vu hi->r x lo hi H Q ->
  ∃ T id,typeLookup (.type T) "__getitem__" = pure (some<|.builtin id)/\s.TypeIs v T/\X⁻¹ (getItem v<|.ref sl) (EP X pins u Q) X.xe s
def iq.or(h:iq X r)(h':iq X r'):iq X (λx lo hi H Q=>r x lo hi H Q\/r' x lo hi H Q):=by
 intro a s u H x v b c lo hi d Q I e f pl g q;rcases q with q | q
 ·exact h a s u H x v b c lo hi d Q I e f pl g q
 ·exact h' a s u H x v b c lo hi d Q I e f pl g q
def Al(r:V->Option Int->Option Int->Hp->VK->Prop)(te:TE)(tl th:TO):TE:=λs H Q=>te s H λx H1=>tl s H1 λl H2=>th s H2 λu H3=>r x l u H3 Q
def mf(xs:List V)(lo hi:Option Int):List V:=(xs.drop<|HT.cQ xs.length 0 lo).take (HT.cQ xs.length xs.length hi-HT.cQ xs.length 0 lo)
def uA(xs)(lo hi):-(mf xs lo hi)<=-xs:=by
 unfold mf;rw[X6,List.length_drop]
 lia
def Gf(K:W4):R2:=λx y H Q=>∃ a b xs ys,x=.ref a/\y=.ref b/\cK K H a xs/\cK K H b ys/\xs≠[]/\ -xs+-ys<=sizeLine /\
 (ys=[]->Q (.ref a) H)/\(ys≠[]->∀ p,H p=none->Q (.ref p) (bU H p<|.tup<|xs++ys))
def bQ.nil_iff(r:bQ xs us):us=[]↔xs=[]:=by
 cases r with
 | nil=>simp
 | cons _ _=>simp
end
def dU(n:Nat)(i:Int):Option Nat:=if 0<=i then(if i<n then some i.toNat else none) else if Neg.neg (n:Int)<=i then some (i+n).toNat else none
def atI{s:Type}(xs:List s)(i:Int):Option s:=(dU xs.length i).bind λj=>xs[j]?
def uR(h:dU n i\j):seqIndex? i n\j/\j<n/\Neg.neg (n:Int)<=i/\i<n:=by
 unfold dU at h;by_cases b:0<=i
 ·rw[if_pos b] at h;by_cases a:i<n
  ·rw[if_pos a] at h;have e:=X3 h;exact#v[by rw[seqIndex_of b a,e],by lia,by lia,a]
  ·rw[if_neg a] at h;cases h
 ·rw[if_neg b] at h;by_cases a:Neg.neg (n:Int)<=i
  ·rw[if_pos a] at h;exact#v[by rw[seqIndex_neg ∅ a,X3 h],by lia,a,by lia]
  ·rw[if_neg a] at h;cases h
def zt(h:atI xs i\v):∃ j,fI (seqIndex? i (-xs)\j) (xs[j]?\v) (j< -xs) (Neg.neg (-xs:Int)<=i) (i< -xs):=by
 unfold atI at h;cases e:dU xs.length i with
 | none=>rw[e] at h;cases h
 | some j=>
  rw[e] at h;let[a,b,c,d]:=uR e;exact#v[j,a,h,b,c,d]
def VH(b:Expr):Prop:=∀ o i,subscripted b false o i=operate [o,i] (getItem o i)
def ir(X:Cx)(r:R2):Prop:=
 ∀ value slice pins s (z:St) H x y v u Q,bP X pins z H s->bR x v->bR y u->r x y H Q ->
  subscripted slice false v u=operate [v,u] (getItem v u)->X⁻¹ (subscriptTail value slice v u) (EP X pins z Q) X.xe s
def qO(X:Cx)(id:String)(r:V->List V->Hp->VK->Prop):Prop:=
 ∀ pins s (u:St) H x xs v us Q,bP X pins u H s->bR x v->bQ xs us->r x xs H Q ->
  X⁻¹ (call (.builtin id)<|v::us) (EP X pins u Q) X.xe s
section
variable {X:Cx}{a b:Expr}{ta tb:TE}{pos:Pos}
def ir.or(h:ir X r)(h':ir X r'):ir X (λx y H Q=>r x y H Q\/r' x y H Q):=by
 intro a slice b s w H x y v u Q I c d q e;rcases q with q | q
 ·exact h a slice b s w H x y v u Q I c d q e
 ·exact h' a slice b s w H x y v u Q I c d q e
def q7(d:ir X r)(e:PE X a ta)(f:PE X b tb)(g:VH b):PE X (.Subscript a b pos) (de r ta tb):=by
 intro c s w H Q I h;exact Subscript_<|p_ e f I h λv u i x y j k l m q=>d a b c i w j x y v u Q k l m q<|g _ _
def nJ(K:W4):R2:=λx y H Q=>∃ p xs i v,x=.ref p/\y=.int i/\cD K H p xs/\atI xs i\v/\Q v H
def Am(K:W4):R2:=λx y H Q=>∃ p xs i v,x=.ref p/\y=.int i/\cK K H p xs/\atI xs i\v/\Q v H
def Gg:R2:=λx y H Q=>∃ z i c,x=.str z/\y=.int i/\ -z<=sizeLine/\atI z.cps.toList i\c/\Q (.str #v[#[c]]) H
def g':ir X (nJ X.K):=by
 intro d slice a s U H x y v u Q I n o h k;let[p,G,i,z,rfl,rfl,A,B,q]:=h;cases n;let[t,rfl]:=o;let[e,r,pl,J]:=I.list A;let[j,c,C,L,D,E]:=zt B;let[w,l,f]:=r.get C;have F:=-r;have M:=wV;have b:EP X a U Q w s:=#v[z,H,I,f,q];by_cases m:0<=i
 ·have g:i.toNat=j:=by
   rw[seqIndex_of m E] at c;exact X3 c
  exact item_listR pl.isList m ∅ (by rw[g];simpa using l) b k
 ·have g:(i+e.toArray.size).toNat=j:=by
   rw[seqIndex_neg ∅ D] at c;rw[N2,<- F];exact X3 c
  exact subscriptTail_builtinR pl.isList.typeIs slot_list_getitem.lookup
   (wpAny_getItem_list_neg pl.isList ∅ (by rw[N2]<;>lia) ∅ (by rw[g];simpa using l) #v[rfl,b]) k
def iT:ir X (Am X.K):=by
 intro b slice a s U H x y v u Q I e f h g;let[p,B,i,z,rfl,rfl,k,l,q]:=h;cases e;let[t,rfl]:=f;let[m,r,pl,C]:=I.tuple k;let[j,n,o,D,E,F]:=zt l;let[w,A,c]:=r.get o;have G:=wV;have d:EP X a U Q w s:=#v[z,H,I,c,q];exact subscriptTail_builtinR pl.typeIs slot_tuple_getitem.lookup
  (getItem_tuple pl ∅ ∅ (by rw[N2,<- r.length];exact n) ⇑A #v[rfl,d]) g
def fg(K:W4):R2:=λx y H Q=>nJ K x y H Q\/Am K x y H Q\/Gg x y H Q
def q_:ir X (fg X.K):=g'.or (iT.or (by
  intro a slice b s U H x y v u Q I e f h g;let[z,i,c,rfl,rfl,r,k,q]:=h;let[t,rfl]:=e;let[w,rfl]:=f;let[j,d,l,A,m,n]:=zt k;have o:-z.cps.toList=-z:=by simp[Str.length]
  rw[o] at d m n;have B:=wV;exact tail_any (typeIs_str s z t) slot_str_getitem.lookup (getItem_str (by
   have p:decide (i < Neg.neg (2 ^ 63:Int))=false:=X1 ∅;have e2:decide (i ≥ 2 ^ 63)=false:=X1 ∅;rw[p,e2,Bool.or_false]) (by rw[d];simpa using l) #v[.str #v[#[c]],H,I.tok _,#v[_,rfl],q]) g))
def Gh(its:List Value)(n j)(u):Obj.mapSeq (·.setIfInBounds j u) {cls:=.type "list",data:=.seq its.toArray n}={cls:=.type "list",data:=.seq (its.set j u).toArray n}:=by
 simp[Obj.mapSeq]
def bP.lst(I:bP X pins u H s)(h:H p\(.lst xs)):
  eB λits n=>cM (bQ xs its) (s.heap.get? p=some {cls:=.type "list",data:=.seq its.toArray n}) (-xs<=sizeLine):=by
 let[z,its,n,r,e]:=I.hok p _ h;exact#v[its,n,r,e,z]
def bP.lstUpd{pins}{s}{xs ys}{its a:List Value}{n c}{f}(I:bP X pins w H s)(h:H p\(.lst xs))
  (g:s.heap.get? p=some {cls:=.type "list",data:=.seq its.toArray n}) (d:f {cls:=.type "list",data:=.seq its.toArray n}={cls:=.type "list",data:=.seq a.toArray c}) (r:bQ ys a) (i:-ys<=sizeLine) (t:Nat):
  bP X pins w (bU H p<|.lst ys) {s with heap:=s.heap.update p f,toks:=t}:=by
 have e:(s.heap.update p f).get? p=some {cls:=.type "list",data:=.seq a.toArray c}:=by
  rw[Heap.get?_update_self f g<|by rw[d]<;>rfl,d]
 refine I.write (by rw[h];trivial) (.inl rfl) (λb u j q=>(Heap.get?_update_other _ _<|Ne.symm j).trans q) #v[_,e] ?_;exact#v[i,a,c,r,e]
def nQ:V->V->V->Hp->(Hp->Prop)->Prop:=λo i v H Q=>∃ p xs k j,o=.ref p/\i=.int k/\H p\(.lst xs)/\dU xs.length k\j/\Q (bU H p<|.lst<|xs.set j v)
def An:zA X nQ:=by
 intro a s U H o i v E F u Q I y z A h;let[p,B,k,j,rfl,rfl,g,C,q]:=h;cases y;let[t,rfl]:=z;let[b,n,r,d,D]:=I.lst g;let[c,G,l,m]:=uR C;have e:=-r;have J:=wV;have w:bP X a U (bU H p<|.lst<|B.set j v) {s with heap:=s.heap.update p (Obj.mapSeq (·.setIfInBounds j u))}:=
  I.lstUpd g d (Gh b n j u) (r.set A j) (by rw[List.length_set];exact D) s.toks
 by_cases x:0<=k
 ·have f:k.toNat=j:=by
   rw[seqIndex_of x m] at c;exact X3 c
  exact PySem.W.ki_setAt d x ∅ (by rw[N2,<- e];exact m) (by rw[f];exact#v[_,w,q])
 ·have f:(k+b.toArray.size).toNat=j:=by
   rw[seqIndex_neg ∅ l] at c;rw[N2,<- e];exact X3 c
  exact PySem.W.ki_setBack d ∅ (by rw[N2,<- e];exact l) ∅ (by rw[f];exact#v[_,w,q])
def wH(lo hi)(n):(sliceBounds lo hi none n).1=((HT.cQ n 0 lo:Nat):Int)/\(sliceBounds lo hi none n).2.1=((HT.cQ n n hi:Nat):Int)/\(sliceBounds lo hi none n).2.2=1:=by
 refine#v[?_,?_,rfl]
 ·cases lo with
  | none=>simp[sliceBounds,HT.cQ]
  | some i=>
   simp only[sliceBounds,HT.cQ,Option.getD_none,show 1>0 by decide,if_true];by_cases h:i<0
   ·simp only[h,if_true]<;>lia
   ·simp only[h,if_false]<;>lia
 ·cases hi with
  | none=>simp[sliceBounds,HT.cQ]
  | some i=>
   simp only[sliceBounds,HT.cQ,Option.getD_none,show 1>0 by decide,if_true];by_cases h:i<0
   ·simp only[h,if_true]<;>lia
   ·simp only[h,if_false]<;>lia
def zG(its:List Value)(lo hi):slicePick its.toArray lo hi none=((its.drop<|HT.cQ its.length 0 lo).take (HT.cQ its.length its.length hi-HT.cQ its.length 0 lo)).toArray:=by
 let[a,b,c]:=wH lo hi its.toArray.size;unfold slicePick;rw[a,b,c];simp only[sliceRange_one,pick_run,N2]<;>rfl
def Ao(K:W4):V->Option Int->Option Int->Hp->VK->Prop:=λx lo hi H Q=>∃ a xs,x=.ref a/\cD K H a xs/\∀ p,H p=none->Q (.ref p) (bU H p<|.lst<|mf xs lo hi)
def Gi:iq X (Ao X.K):=by
 intro e s u H x v m n lo hi o Q I g i pl j h;let[a,c,rfl,hx,q]:=h;cases g;let[k,r,f,l]:=I.list hx;have d:=-r;refine#v["list",_,slot_list_getitem.lookup,f.isList.typeIs,?_];refine wpAny_getItem_list_slice f.isList i pl j .none (by simp) ?_ (by rw[N2]<;>lia);rw[zG,<- d];refine#v[.ref ↥s,_,I.laid (λb ob q=>L8 _ q) (M8 _) ?_,rfl,q _<|I.hok.fresh<|M8 _];exact#v[N6 (uA c lo hi) l,_,0,(r.drop<|HT.cQ c.length 0 lo).take (HT.cQ c.length c.length hi-HT.cQ c.length 0 lo),X7 _ rfl]
def Kg:V->Bool
 | .non=>true
 | .bl _=>true
 | .int _=>true
 | .str _=>true
 | _=>false
def gQ:V->V->Bool
 | .non,.non=>true
 | .bl a,.bl b=>a==b
 | .bl a,.int b=>(if a then 1 else 0)==b
 | .int a,.bl b=>a==(if b then 1 else 0)
 | .int a,.int b=>a==b
 | .str a,.str b=>a==b
 | _,_=>false
def Gj(e:bR y u)(c:bR x v)(g:Kg y=true)(f:Kg x=true):SeqAt.EqAt A s u v (gQ y x):=by
 cases y with
 | non=>
  cases e;cases x with
  | non=>cases c;exact SeqAt.EqAt.same _
  | bl b=>cases c;exact SeqAt.EqAt.none_bool b
  | int b=>let[t,rfl]:=c;exact SeqAt.EqAt.none_int b t
  | str b=>let[t,rfl]:=c;exact SeqAt.EqAt.none_str b t
  | _=>exact absurd (f) M3
 | bl a=>
  cases e;cases x with
  | non=>cases c;exact SeqAt.EqAt.bool_none a
  | bl b=>cases c;exact SeqAt.EqAt.bool_bool a b
  | int b=>let[t,rfl]:=c;exact SeqAt.EqAt.bool_int a b t
  | str b=>let[t,rfl]:=c;exact SeqAt.EqAt.bool_str a b t
  | _=>exact absurd (f) M3
 | int a=>
  let[d,rfl]:=e;cases x with
  | non=>cases c;exact SeqAt.EqAt.int_none a d
  | bl b=>cases c;exact SeqAt.EqAt.int_bool a d b
  | int b=>let[t,rfl]:=c;exact SeqAt.EqAt.int_int a d b t
  | str b=>let[t,rfl]:=c;exact SeqAt.EqAt.int_str a d b t
  | _=>exact absurd (f) M3
 | str a=>
  let[d,rfl]:=e;cases x with
  | non=>cases c;exact SeqAt.EqAt.str_none a d
  | bl b=>cases c;exact SeqAt.EqAt.str_bool a d b
  | int b=>let[t,rfl]:=c;exact SeqAt.EqAt.str_int a d b t
  | str b=>let[t,rfl]:=c;exact SeqAt.EqAt.str_str a d b t
  | _=>exact absurd (f) M3
 | _=>exact absurd (g) M3
def eJ(x:V)(u:Value):Bool:=match u with
 | .none=>gQ .non x
 | .bool b=>gQ (.bl b) x
 | .int i _=>gQ (.int i) x
 | .str z _=>gQ (.str z) x
 | _=>false
def Ap(r:bR y u)(f:Kg y=true):eJ x u=gQ y x:=by
 cases y with
 | non=>cases r;rfl
 | bl b=>cases r;rfl
 | int i=>let[t,rfl]:=r;rfl
 | str z=>let[t,rfl]:=r;rfl
 | _=>exact absurd (f) M3
theorem VE:∀{xs}{us},bQ xs us->xs.all Kg=true->us.any (eJ x)=xs.any λy=>gQ y x
 | _,_,.nil,_=>rfl
 | y::xs,u::us,.cons r t,f=>by
  rw[List.all_cons,M0] at f;rw[List.any_cons,List.any_cons,Ap r f.1,VE t f.2]
theorem Yx(b:bR x v)(c:Kg x=true):∀{xs}{us},bQ xs us->xs.all Kg=true->∀ u∈us,SeqAt.EqAt A s u v<|eJ x u
 | _,_,.nil,_=>λu a=>by cases a
 | y::xs,u::us,.cons r t,f=>λd a=>by
  rw[List.all_cons,M0] at f;rcases M4.mp a with rfl | a
  ·rw[Ap r f.1];exact Gj r b f.1 c
  ·exact Yx b c t f.2 d a
def nR(x:V)(xs:List V):Bool:=xs.any λy=>gQ y x
def ra(K:W4)(neg:Bool):R2:=λx y H Q=>∃ p xs,y=.ref p/\(cD K H p xs\/cK K H p xs)/\Kg x=true/\xs.all Kg=true/\Q (.bl<|if neg then !nR x xs else nR x xs) H
def Gk:dB X (compareOp .In) (ra X.K false):=by
 intro d s z H x y v u Q I e g h;let[p,j,rfl,b,f,fs,q]:=h;cases g;rcases b with b | b
 ·let[a,r,pl,i]:=I.list b;refine SeqAt.in_listAt (eJ x) pl.isList (λw c=>Yx e f r fs w ⇑c) #v[.bl _,H,I,rfl,?_];rw[show a.toArray.any (eJ x)=a.any (eJ x) by simp,VE r fs];exact q
 ·let[a,r,pl,i]:=I.tuple b;refine SeqAt.in_tupleAt (eJ x) pl (λw c=>Yx e f r fs w ⇑c) #v[.bl _,H,I,rfl,?_];rw[show a.toArray.any (eJ x)=a.any (eJ x) by simp,VE r fs];exact q
def ww:dB X (compareOp .NotIn) (ra X.K true):=by
 intro d s z H x y v u Q I e g h;let[p,j,rfl,b,f,fs,q]:=h;cases g;rcases b with b | b
 ·let[a,r,pl,i]:=I.list b;refine SeqAt.notIn_listAt (eJ x) pl.isList (λw c=>Yx e f r fs w ⇑c) #v[.bl _,H,I,rfl,?_];rw[show a.toArray.any (eJ x)=a.any (eJ x) by simp,VE r fs];exact q
 ·let[a,r,pl,i]:=I.tuple b;refine SeqAt.notIn_tupleAt (eJ x) pl (λw c=>Yx e f r fs w ⇑c) #v[.bl _,H,I,rfl,?_];rw[show a.toArray.any (eJ x)=a.any (eJ x) by simp,VE r fs];exact q
def wj:JX X (.type "list") (λxs H Q=>∃ p ys,xs=[.ref p]/\(cD X.K H p ys\/cK X.K H p ys)/\∀ l,H l=none->Q (.ref l) (bU H l<|.lst ys)):=by
 intro d s U H xs z Q I r h;let[p,ys,rfl,f,q]:=h;let[u,rfl,y]:=qm r;cases y;have g:∀ a,bQ ys a->-ys<=sizeLine->∀ i m,(∀ b x,s.heap.get? b\x->i.get? b\x) ->
   i.get? ↥s=some {cls:=.type "list",dict:=none,data:=.seq a.toArray m,slots:=#[]}->EP X d U Q (.ref ↥s) {s with heap:=i}:=λa c j i m kp e=>
  ⟨.ref ↥s,_,I.laid kp (M8 _)<|show cu X.prog X.w _ i _ (.lst ys) from#v[j,a,m,c,e],rfl,q _<|I.hok.fresh<|M8 _⟩
 rcases f with f | f
 ·let[a,c,pl,j]:=I.list f;have k:=-c;let[o,t,v,n,hd]:=pl.isList;exact call_list_seq p (.inl rfl) t v hd (g a c j) (by simp only[N2]<;>lia)
 ·let[a,c,pl,j]:=I.tuple f;have k:=-c;let[o,t,v,n,hd]:=pl;exact call_list_seq p (.inr rfl) t v hd (g a c j) (by simp only[N2]<;>lia)
def zr:JX X (.type "tuple") (λxs H Q=>∃ p ys,xs=[.ref p]/\((cD X.K H p ys/\∀ l,H l=none->Q (.ref l) (bU H l<|.tup ys))\/(cK X.K H p ys/\Q (.ref p) H))):=by
 intro a s w H xs t Q I r h;let[p,ys,rfl,h]:=h;let[u,rfl,m]:=qm r;cases m;rcases h with⟨f,q⟩ | ⟨f,q⟩
 ·let[c,g,pl,i]:=I.list f;have j:=-g;refine call_tuple_list pl.isList (λd kp=>?_) (by simp only[N2]<;>lia);have k:bP X a w H {s with heap:=d}:=I.kept kp;have n:bP X a w (bU H d.objs.size<|.tup ys) { s with heap:=d.push {cls:=.type "tuple",data:=.seq c.toArray} }:=
   k.laid (λb o e=>L8 _ e) (M8 _) (#v[i,c,g,cV.new _ _])
  exact#v[.ref d.objs.size,_,n,rfl,q _<|k.hok.fresh<|M8 _]
 ·let[c,g,pl,i]:=I.tuple f;exact call_tuple_same pl #v[.ref p,H,I,rfl,q]
def Aq(K:W4)(T:String)(x:V)(H:Hp):Prop:=match x with
 | .str _=>T = "str"
 | .int _=>T = "int"
 | .ref p=>(T = "list"/\∃ xs,cD K H p xs)\/(T = "tuple"/\∃ o,K.lookup p\o/\o.cls=.type "tuple"/\o.dict=none) \/
   (T = "dict"/\((∃ kvs,H p\(.dK kvs)) \/ ∃ kvs,H p\(.dT kvs)))\/(T = "set"/\∃ S n,H p\(.set S n))
 | _=>False
def Gm(I:bP X pins u H s)(r:bR x v)(ty:Aq X.K T x H):
  s.TypeIs v T/\∀ a,v=.ref a->∃ ob,s.heap.get? a\ob/\ob.dict=none:=by
 cases x with
 | str z=>
  let[t,rfl]:=r;cases(ty);exact#v[typeIs_str s z t,λ_ e=>nomatch e]
 | int i=>
  let[t,rfl]:=r;cases(ty);exact#v[typeIs_int s i t,λ_ e=>nomatch e]
 | ref p=>
  cases r;rcases ty with⟨rfl,j,f⟩ | ⟨rfl,o,b,g,hd⟩ | ⟨rfl,b⟩ | ⟨rfl,S,n,b⟩
  ·let[h,_,pl,_]:=I.list f;refine#v[pl.isList.typeIs,λa e=>?_];cases e;let[o,n,e,c,hd,_]:=pl;exact#v[o,e,hd]
  ·refine#v[#v[o,I.kIn p o b,g],λa e=>?_];cases e;exact#v[o,I.kIn _ o b,hd]
  ·have z:∃ o,s.heap.get? p\o/\o.ExactDict:=by
    rcases b with⟨d,b⟩ | ⟨d,b⟩
    ·let[_,_,_,_,o,_,_,e,ex,_]:=I.hok p _ b;exact#v[o,e,ex]
    ·let[_,_,_,_,o,_,_,e,ex,_]:=I.hok p _ b;exact#v[o,e,ex]
   let[o,e,ex]:=z;refine#v[#v[o,e,ex.1],λa e2=>?_];cases e2;exact#v[o,e,ex.2.1]
  ·let[o,_,_,_,e,ex,_]:=I.hok p _ b;refine#v[#v[o,e,ex.1],λa e2=>?_];cases e2;exact#v[o,e,ex.2.1]
 | _=>exact False.elim ty
def gR(K:W4)(T:String)(r:V->List V->Hp->VK->Prop)(to:TE)(t:TA):TE:=λs H Q=>to s H λx H1=>Aq K T x H1/\t s H1 λxs H2=>r x xs H2 Q
variable {o e:Expr}{es:List Expr}{to:TE}{t:TA}{name:Str}{apos cpos:Pos}{T id:String}{r:V->List V->Hp->VK->Prop}
def mh(pa:PlainAttrs T)(slot:Slot T name id)(g:typeOf (.builtin id)=pure (.type "method_descriptor"))(l:qO X id r)(m:PE X o to)(n:PA X (e::es) t)
  (c:attributeBase o name X.env (eval o X.env)=eval o X.env:=by rfl)
  (f:((backTo cpos<|starEach (e::es) X.env).all (λx=>!x.1)&&(backToKw cpos<|keywordEach [] X.env).all (λx=>x.1.isSome)
   && decide (-(e::es)+-([]:List Keyword)+(if([]:List Keyword).isEmpty then 0 else 1)<30))=true:=by rfl)
  (d:(apos.endLine==cpos.line)=true:=by rfl) (p:dS X e es:=by rfl) (b:eh X cpos es:=by rfl):
  PE X (.Call (.Attribute o name apos) (e::es) [] cpos) (gR X.K T r to t):=by
 intro a s U H Q I h;refine wpAny_Call_method_late c f d rfl<|thn (m a s U H _ I h) λv s1 q=>?_;let[x,u,i,j,ty,w]:=q;let[y,z]:=Gm i j ty;refine#v[T,id,pa,slot,g,y,z,?_];have k:=n cpos a s1 U u _ i w;rw[p] at k ⊢;refine Calls.callWith_builtin (by show(false||(backTo cpos<|starEach es X.env).any (·.1))=false;rw[b]<;>rfl)<|Calls.evalArgs_plain ?_;exact thn k λA B ⟨vs,C,D,E,F⟩=>l a B U C x vs v A Q D j E F
end
def Ar(X:Cx)(id:String)(r:V->List V->Hp->VK->Prop):Prop:=
 ∀ pins s (u:St) H x xs v us Q,bP X pins u H s->bR x v->bQ xs us->r x xs H Q ->
  X⁻¹ (call (.builtin id)<|v::us) (EP X pins u Q) X.xe s
def bQ.one(h:bQ [x] us):∃ u,us=[u]/\bR x u:=by
 cases h with | cons r t=>cases t;exact#v[_,rfl,r]
def bQ.two(h:bQ [x,y] us):eB λu v=>cM (us=[u,v]) (bR x u) (bR y v):=by
 cases h with | cons r t=>cases t with | cons q t=>cases t;exact#v[_,_,rfl,r,q]
section
variable {X:Cx}{pins:List (Addr×Obj)}{w:St}{H:Hp}{s:Shared}{l b:Addr}{xs ys zs:List V}
def bP.lset{its a:List Value}{n}{f}{t'}(I:bP X pins w H s)(b:H l\(.lst xs))
  (e:s.heap.get? l=some {cls:=.type "list",data:=.seq its.toArray n}) (c:f its.toArray=a.toArray) (d:bQ ys a) (g:-ys<=sizeLine):
  bP X pins w (bU H l<|.lst ys) {s with heap:=s.heap.update l<|Obj.mapSeq f,toks:=t'}:=by
 have q:=PySem.IsL.update e f;rw[c] at q;refine I.write (by rw[b];exact trivial) (.inl rfl) (λb' u h i=>(Heap.get?_update_other s.heap (Obj.mapSeq f)<|Ne.symm h).trans i) #v[_,q] ?_;exact#v[g,a,_,d,q]
def bP.lnew(I:bP X pins w H s)(a:bQ ys its)(b:-ys<=sizeLine):
  bP X pins w (bU H ↥s (.lst ys)) { s with heap:=s.heap.push {cls:=.type "list",data:=.seq its.toArray},toks:=t' }:=
 I.laid (λ_ _ q=>L8 _ q) (M8 _) #v[b,its,0,a,X7 _ rfl]
def bP.fresh(I:bP X pins w H s):H ↥s=none:=I.hok.fresh<|M8 _
def bP.lstM(I:bP X pins w H s)(a:H l\(.lst xs)):-xs<=sizeLine/\∃ its n,bQ xs its/\ -xs=-its/\s.heap.get? l=some {cls:=.type "list",data:=.seq its.toArray n}:=by
 let[z,its,n,r,e]:=I.hok l _ a;exact#v[z,its,n,r,r.length,e]
def As(h:n<=sizeLine):Builtin.List.listTooLong n=false:=by
 exact X1 ∅
end
section
variable {X:Cx}
def YT:V->List V->Hp->VK->Prop:=λx vs H Q=>∃ l xs y,x=.ref l/\vs=[y]/\H l\(.lst xs)/\ -xs<sizeLine/\Q .non (bU H l<|.lst<|xs++[y])
def Yr:Ar X "list.append" YT:=by
 intro b s w H x vs v i Q I d f h;let[l,j,y,rfl,rfl,c,k,q]:=h;cases d;let[u,rfl,g]:=f.one;let[z,a,n,r,m,e]:=I.lstM c;refine call_meets F.slot_list_append #v[_,e,rfl] F.entry_list_append (F.args_list_append_2 _ _) (PySem.list_append l a.toArray n u<|by rw[N2];lia) #v[e,?_];refine#v[.non,_,I.lset c e (by simp) (r.append<|.cons g .nil) ?_,rfl,q];rw[N3,List.length_singleton]
 lia
end
end L2
namespace Att
open PySem PySem.W PySem.Calls PyProof.Rows
def Ka:∀ ns vs,WellAll P h vs (ns.map WData.int)->IntsAre vs ns:=by
 intro ns
 induction ns with
 | nil=>
  intro vs w;cases w;exact .nil
 | cons n ns c=>
  intro vs w;cases w with
  | cons a b=>
   cases a;exact .cons _ _<|c _ b
def fJ{l:OpenLaw}{n}(hn:l.most\n)  {h}{b}{c}
  (e:l.row.toRowW.claim.pre b=true) (j:WellAll P h c b):
  ∃ a vs ns,c=[Value.ref a]/\b=[WData.list<|ns.map WData.int]/\h.get? a=some {cls:=.type "list",data:=.seq vs.toArray}/\IntsAre vs ns/\ -ns<=n:=by
 let[d,r,rfl,m,o]:=hasAllW_cons<|(pre_splitW e).1;obtain rfl:=hasAllW_nil o;let[v,rfl,p]:=hasW_list m;let[ns,rfl]:=items_int p;have f:-ns<=n:=by
  have i:(WTm.not<|.lt (.lit<|.int n)<|.len<|.arg 0).holds [] {args:=[.list<|ns.map .int]}=true:=by
   have i:=(holds_andW<|(pre_splitW e).2).1;rw[hn] at i;exact i
  have k:=condW_of i<|w_not<|w_lt w_lit<|w_len_list<|w_arg rfl;refine Nat.le_of_not_lt λq=>?_
  first
   | (rw[X0 q'] at k;exact absurd k (by decide))
   | (simp at k;lia)
 cases j with
 | cons s t=>
  cases t;cases s with
  | list u g=>exact#v[_,_,ns,rfl,rfl,u,Ka ns _ g,f]
def fK(l:OpenLaw)(a):l.row.toRowW.claim.post a (.bool true) a=true:=
 postW_of
  (by first | rfl | decide | simp[WShape.has,WShape.arms,WShape.armsAll])
  (w_eq_bool (w_res rfl) w_lit) rfl
end Att
namespace L2
open PySem PySem.Spec PyProof.Rows
theorem xV:∀{vs}{ns},IntsAre vs ns->bQ (ns.map V.int) vs
 | _,_,.nil=>.nil
 | _,_,.cons n t h=>.cons #v[t,rfl]<|xV h
def rb(H:Hp):Prop:=∀ b,H b=none \/ ∃ o xs,H b\(.frz o<|.lst xs)
def Gn{P}{w}{K}{mg G}{CX}{k}{fa a}{fd}{x}{sp}{c}{vs}{ns}
  (N:K.In c.heap) (p:c.heap.Ns mainGlobals mg) (g:c.heap.Ns builtinsNs G) (I:∀ x:Str,x≠"__name__"->G x=bootBuiltins x) (t:c.heap.NoLimit) (U:c.gens = #[])
  (C:c.heap.get? a=some {cls:=.type "list",data:=.seq vs.toArray}) (hi:IntsAre vs ns) (O:-ns<=sizeLine) (X:ca k callerA)
  (F:∀ base:Heap,K.In base->base.Ns mainGlobals mg->cL P w K mg base CX k fa fd [x] sp) (l:∀ s u,BindsTo s fd #v[[u],[]] [(x,u)])
  (J:∀ H:Hp,rb H->cD K H a (ns.map V.int)->sp [.ref a] H (λv _=>v=.bl true) λ_ _ _=>False)
  (L:∀ H e s',CX [] H c (λ_ _ _=>False) e s'->False):
  codeAny (model P w) callerA (.call (.ref fa) #v[[.ref a],[]]) (λr s'=>r=.ok (.ret<|.bool true)/\OldK c.heap s'.heap/\s'.os=c.os/\AllBare s'.gens) c:=by
 have Q:=xV hi;have j:∀ H:Hp,rb H->cD K H a (ns.map V.int)->c8 P w H c.heap->(∀ b,H b≠none->b=a)->(H a≠none->K.lookup a=none) ->
   codeAny (model P w) callerA (.call (.ref fa) #v[[.ref a],[]]) (λr s'=>r=.ok (.ret<|.bool true)/\OldK c.heap s'.heap/\s'.os=c.os/\AllBare s'.gens) c:=by
  intro H R Y hok S Z;have f:∀{b}{o},c.heap.get? b\o->H b=none->(j' c.heap H).get? b\o:=Fd;have M:∀{b}{o}{D}{E},c.heap.get? b\o->o.data=.dict D E->H b=none:=λ{b o D E} e d=>by
   cases q:H b with
   | none=>rfl
   | some u=>
    have n:=S b (by rw[q];simp);subst n;rw[C] at e;cases e;cases d
  have i:∀{b}{m},c.heap.Ns b m->(j' c.heap H).Ns b m:=λ{b m} ⟨o,D,E,e,d,r⟩=>#v[o,D,E,f e<|M e d,d,r];have y:=λb o e=>f (N b o e) (by
   cases q:H b with
   | none=>rfl
   | some u=>
    have n:=S b (by rw[q];simp);subst n;rw[Z<|by rw[q];simp] at e;cases e)
  have hM:Mod K mg (j' c.heap H):=#v[y,i p,#v[G,i g,I],let ⟨mc,h1,h2⟩:=t;#v[mc,i h1,h2]];have e0:eH P w K mg (j' c.heap H) callerA [] c H:=#v[rfl,hM,λb o e=>(by
    have n:=PySem.W.of_hideAll (nt c.heap H) e;refine#v[n,?_];cases q:H b with
    | none=>rfl
    | some x=>
     have hm:b∈nt c.heap H:=List.mem_filter.mpr #v[List.mem_range.mpr<|N0 n,by simp[q]];have z:(j' c.heap H).get? b=none:=PySem.W.hideAll_none (nt c.heap H) hm;rw[z] at e;cases e),Nat.le_of_eq<|(PySem.W.hideAll_size _ _),trivial,λb g=>absurd (show b∈([]:W5) from g)<|by simp,hok,.of_eq U]
  refine codeAny_mono ((F _ y<|i p).run callerA [] c H #v[[.ref a],[]] [.ref a] [.ref a] _ _ X e0 (l c<|.ref a) (.cons rfl .nil) (J H R Y)) λr s' h=>?_;cases r with
  | error e=>exact(L H e s' h).elim
  | ok fl=>
   cases fl with
   | next=>exact False.elim h
   | brk=>exact False.elim h
   | cont=>exact False.elim h
   | ret u=>
    let[v,H',os,bare,un,A,r',q]:=h;subst q;obtain rfl:u=Value.bool true:=r';refine#v[rfl,OldK.of_keep λb o e=>?_,os,bare];cases q:H b with
    | none=>exact un.keep b o e q (by intro z;exact absurd (show b∈([]:W5) from z)<|by simp) (by simp)
    | some u=>
     rcases R b with z | ⟨ob,xs,z⟩
     ·rw[q] at z;cases z
     ·have z2:=un.frzs b ob _ z;let[T,_]:=hok b _ z;let[e2,_]:=A b _ z2;rw[e] at T;cases T;exact e2
 cases hk:K.lookup a with
 | some o=>
  have e:=N a o hk;rw[C] at e;cases e;refine j (λ_=>none) (λ_=>.inl rfl) (.inr #v[_,vs.toArray,_,hk,rfl,rfl,rfl,by rw[N2,hi.length];exact O,by simpa using Q]) (λb u z=>by have B:=z;cases B) (λb z=>absurd rfl z)<|absurd rfl
 | none=>
  refine j (λb=>if b=a then some (.frz {cls:=.type "list",data:=.seq vs.toArray} (.lst<|ns.map V.int)) else none) (λb=>?_) (.inl<|.inr #v[{cls:=.type "list",data:=.seq vs.toArray},if_pos rfl]) (λb u z=>?_) (λb z=>?_) λ_=>hk
  ·by_cases g:b=a
   ·exact .inr #v[_,_,if_pos g]
   ·exact .inl<|if_neg g
  ·by_cases g:b=a
   ·have B:=(if_pos g).symm.trans z;cases B;subst g;exact#v[C,by rw[L1];exact O,vs,_,Q,C]
   ·have B:=(if_neg g).symm.trans z;cases B
  ·by_cases g:b=a
   ·exact g
   ·exact absurd (if_neg g) z
def vC(s:Stmt)(j:Nat):Stmt:=match s with
 | .ClassDef _ _ _ body _ _ _ _ _ _ _=>body.getD j<|.Pass #v[0,0,0,0]
 | _=>.Pass #v[0,0,0,0]
def Js(s:Stmt):Arguments:=match s with
 | .FunctionDef _ a _ _ _ _ _ _ _ _=>a
 | _=>{posonlyargs:=[],args:=[],vararg:=none,kwonlyargs:=[],kw_defaults:=[],kwarg:=none,defaults:=[]}
def kT(s:Stmt):List Stmt:=match s with
 | .FunctionDef _ _ b _ _ _ _ _ _ _=>b
 | _=>[]
def jP(s:Stmt):Scope:=match s with
 | .FunctionDef _ _ _ _ _ _ sc _ _ _=>sc
 | _=>{kind:=.function,names:=[],isGenerator:=false,isCoroutine:=false}
noncomputable abbrev eN:iR:=λ_ _ _ _ _ _=>False
noncomputable abbrev E0:XK:=λ_ _ _=>False
def mi:wv eN X E0:=λ_ _ _ _ _ _ _ h=>h.elim
structure g_(K:W4)(x qual:Str)(st:Stmt)(f:Addr)(fd:FuncData):Prop where
 ex:∃(oc:Value) (od:Option Addr) (kV doc pm:Value) (an:Option Addr) (cdv ct:Value) (osl:Array<|Option Value),
  fd=PySem.W.fnOf x qual (Js st) (kT st) (jP st) .none kV doc pm an cdv ct/\K.lookup f\#v[oc,od,.func fd,osl]/\PySem.W.codeIn K cdv qual=true
 kp:PySem.W.keepIn K (.ref f)=true
section
variable {P:Program}{w:World}{K:W4}{mg:W6}{base:Heap}
def g_.ok{x qual}{st}{f}{fd}{N ps}{k}{sp}(F:g_ K x qual st f fd)(S:cv N ps<|jP st)(len:∀ vs H Q E,sp vs H Q E->-vs=-ps)
  (a:∀ cdv A outer s H vs Q E,ca k (A.deeper<|envOfC qual (jP st) ↥s f cdv)->sp vs H Q E ->
   ∃ t,fW (ip eN P w K mg base N qual (jP st) f cdv A outer s H E).nox (kT st) t/\t {nx:=λ_ H'=>Q .non H',rt:=Q} (cy N vs) H):cL P w K mg base eN (k+1) f fd ps sp:=by
 let[oc,od,kV,d,j,l,cdv,ct,e,rfl,g,b]:=F.ex;refine Ga g b S len λA outer s H vs Q E i c=>?_;let[t,h,q]:=a cdv A outer s H vs Q E i c;exact#v[t,h.nox,q]
def g_.binds{x qual}{st}{f}{fd}{ps}(F:g_ K x qual st f fd)
  (h:∀ kV doc pm an cdv ct us,-us=-ps->bindArgs (PySem.W.fnOf x qual (Js st) (kT st) (jP st) .none kV doc pm an cdv ct) #v[us,[]]=pure (ps.zip us)):df K fd ps []:=by
 let[oc,od,kV,doc,pm,an,cdv,ct,a,rfl,c,b]:=F.ex;exact .all<|h kV doc pm an cdv ct
def nS{x qual}{st}{f}{oc}{od an}{d}{kV b pm a ct}(l:K.lookup f\#v[oc,od,.func<|PySem.W.fnOf x qual (Js st) (kT st) (jP st) .none kV b pm an a ct,d])
  (c:PySem.W.codeIn K a qual=true) (k:PySem.W.keepIn K (.ref f)=true):g_ K x qual st f (PySem.W.fnOf x qual (Js st) (kT st) (jP st) .none kV b pm an a ct):=#v[#v[oc,od,kV,b,pm,an,a,ct,d,rfl,l,c],k]
end
def VJ(a:ca k A):A.units+1<cLine:=X8 (Nat.add_le_add_left (by decide:1<=64) _) a.units
def Gp(h:n<=1000):n<sizeLine:=X8 h (by decide)
def iu{A B:Prop}(h:B):if false=true then A else B:=by
 exact h
def iy{A B:Prop}(h:A):if true=true then A else B:=by
 exact h
def cY(H H':Hp):Prop:=∀ b o,H b\o->H' b\o
def we(I:Nat->Shared->Prop)
  (turn:∀ n s,I n s->wpAny (model prog w) A (pyNext it) (λr s₁=>match r with
   | none=>R (.ok .next) s₁
   | some v=>wpAny (model prog w) A (letOwnedTupleGo target it v) (λ_ s₁'=>wpAny (model prog w) A (assign target env v) (λ_ s₂=>
     wpAny (model prog w) A (forIn ifs true λc r=>if r=true then do let ok <- isTrue c env (eval c env);pure (ForInStep.yield ok) else pure (ForInStep.yield r)) (λok s₃=>
      if ok=true then wpAny (model prog w) A (eval elt env) (λx s₄=>
       wpAny (model prog w) A (call (.builtin "list.append") [acc,x]) (λ_ s₅=>∃ m,m<n/\I m s₅) (λ_ _=>False) s₄) (λ_ _=>False) s₃
      else ∃ m,m<n/\I m s₃) (λ_ _=>False) s₂) (λ_ _=>False) s₁') (λ_ _=>False) s₁) (λ_ _=>False) s)
  (n:Nat) (h:I n s):
  codeAny (model prog w) A (.compLoop (.ListComp elt [#v[target,iter,ifs,0]] scope pos) 0 it acc env) R s:=by
 have up:∀{u}{t}{Q:u->Shared->Prop}{E:J0}{s},wpAny (model prog w) A t Q (λ_ _=>False) s->wpAny (model prog w) A t Q E s:=
  λh=>wpAny_mono h (λ_ _ x=>x) λ_ _ z=>z.elim
 refine codeAny_loop rfl I (λn s e=>(wpAny_noted<|L3<|wpAny_standAt<|L3<|thn (up<|turn n s e) λr s₁ b=>?_)) n h;cases r with
 | none=>exact M6 b
 | some v=>
  refine L3<|thn (up b) λ_ s₁' a=>L3<|thn (up a) λ_ s₂ f=>L3<|thn (up f) λok s₃ d=>?_;cases ok with
  | false=>exact M6 #v[rfl,d]
  | true=>
   exact L3<|L3<|thn (up d) λx s₄ g=>L3<|thn (up g) λ_ s₅ i=>M6<|M6 #v[rfl,i]
def hD(env:Env):List (Str×NameKind)->List (Str×Addr)->List (Str×Addr)
 | [],cs=>cs
 | (n,k)::r,cs=>hD env r (if k==NameKind.free then(match env.cells.lookup n with | some a=>(n,a)::cs | none=>cs) else cs)
def fh(scope:Scope)(env:Env):List (Str×Addr):=hD env scope.names []
theorem re:∀ l cs,(∀ n k,(n,k)∈l->k=NameKind.free->∃ c,env.cells.lookup n\c) ->
  (forIn (m:=Sem) l cs λx r=>match x with | (n,k)=>if k==NameKind.free then do let a <- cellOf env n;pure (ForInStep.yield<|(n,a)::r) else pure (ForInStep.yield r))=pure (hD env l cs)
 | [],cs,_=>rfl
 | (n,k)::r,cs,h=>by
  rw[List.forIn_cons];by_cases b:(k==NameKind.free)=true
  ·let[c,j]:=h n k L7 ∅;have o:cellOf env n=pure c:=by unfold cellOf;rw[j]
   have d:=re r ((n,c)::cs) λe f g i=>h e f (L6 _ g) i;simp only[b,if_true,o,pure_bind];rw[d]
   conv=>rhs;unfold hD
   simp only[b,if_true,j]
  ·have d:=re r cs λe f g i=>h e f (L6 _ g) i;simp only[b,if_false,pure_bind,Bool.false_eq_true];rw[d]
   conv=>rhs;unfold hD
   simp only[b,if_false,Bool.false_eq_true]
def Gq(h:∀ n k,(n,k)∈scope.names->k=NameKind.free->∃ c,env.cells.lookup n\c):closureFor scope env=pure (fh scope env):=by
 unfold closureFor fh;show(forIn scope.names [] λx r=>match x with | (n,k)=>if k==NameKind.free then do let a <- cellOf env n;pure (ForInStep.yield<|(n,a)::r) else pure (ForInStep.yield r)) >>= (pure)=_;rw[re scope.names [] h,pure_bind]
theorem At:∀ l cs,(x,c)∈hD env l cs->(x,c)∈cs\/env.cells.lookup x\c
 | [],_,h=>.inl h
 | (n,k)::r,cs,h=>by
  rcases At r _ h with z | z
  ·grind
  ·lia
theorem Au:∀ l cs,(x,c)∈cs->(x,c)∈hD env l cs
 | [],_,h=>h
 | (n,k)::r,cs,h=>by
  refine Au r _ ?_;split
  ·split
   ·exact L6 _ h
   ·exact h
  ·exact h
theorem Av(a:env.cells.lookup x\c):∀ l cs,(x,NameKind.free)∈l->(x,c)∈hD env l cs
 | [],_,h=>nomatch h
 | (n,k)::r,cs,h=>by
  rcases M4.mp h with e | e
  ·cases e;refine Au r _ ?_;simp only[ a];exact L7
  ·exact Av a r _ e
theorem Yl:∀{l:List (Str×s)}{c},(x,c)∈l->∃ d,l.lookup x\d
 | (n,a)::r,c,h=>by
  rw[List.lookup_cons];cases e:x==n with
  | true=>exact#v[a,rfl]
  | false=>
   rcases M4.mp h with z | z
   ·lia
   ·exact Yl z
def VF(h:(fh scope env).lookup x\c):env.cells.lookup x\c:=by
 rcases At scope.names [] (PySem.mem_of_lookup h) with z | z
 ·exact nomatch z
 ·exact z
def Aw(a:env.cells.lookup x\c)(hx:(x,NameKind.free)∈scope.names):(fh scope env).lookup x\c:=by
 let[d,e]:=Yl<|Av a scope.names [] hx;have b:(fh scope env).lookup x\d:=e;rw[b,<- VF b,a]
def J8(h:(n,k)∈(relabel scope env).names):(n,k)∈scope.names\/(k=.cell/\(n,NameKind.free)∈scope.names):=by
 obtain⟨⟨a,b⟩,c,e⟩:=M5.mp h;dsimp only at e;split at e
 ·lia
 ·lia
def qU(scope:Scope)(env:Env)(C:Addr):List (Str×Addr):=cellsFrom (C+1) scope.names<|fh scope env
theorem rh:∀{names}{n:Nat}{acc:List (Str×Addr)},(∀ x y c,acc.lookup x\c->acc.lookup y\c->x=y)->(∀ x c,acc.lookup x\c->c<n)->∀ x y c,(cellsFrom n names acc).lookup x\c->(cellsFrom n names acc).lookup y\c->x=y
 | [],n,acc,h,_=>h
 | (a,k)::r,n,acc,h,b=>by
  unfold cellsFrom;split
  ·refine rh (λx y c d e=>?_)<|λx c d=>?_
   ·grind
   ·grind
  ·exact rh h b
def Gr(h:∀ x y c,(fh scope env).lookup x\c->(fh scope env).lookup y\c->x=y)(a:∀ x c,(fh scope env).lookup x\c->c<C+1)(x y)(c)(h1:(qU scope env C).lookup x\c)(h2:(qU scope env C).lookup y\c):x=y:=rh h a x y c h1 h2
theorem uh:∀{names}{n}{acc},(∃ c,acc.lookup x\c)->∃ c,(cellsFrom n names acc).lookup x\c
 | [],_,_,h=>h
 | (a,k)::r,n,acc,h=>by
  unfold cellsFrom;split
  ·refine uh ?_;rw[List.lookup_cons];cases x==a with
   | true=>exact#v[n,rfl]
   | false=>exact h
  ·exact uh h
theorem rm:∀{names}{n}{acc},(x,NameKind.cell)∈names->∃ c,(cellsFrom n names acc).lookup x\c
 | [],_,_,h=>nomatch h
 | (a,k)::r,n,acc,h=>by
  unfold cellsFrom;rcases M4.mp h with e | e
  ·cases e;refine uh #v[n,?_];rw[List.lookup_cons,beq_self_eq_true]
  ·split
   ·exact rm e
   ·exact rm e
theorem ui:∀{names}{n}{acc},(x,NameKind.cell)∉names->(cellsFrom n names acc).lookup x=acc.lookup x
 | [],_,_,_=>rfl
 | (a,k)::r,n,acc,h=>by
  unfold cellsFrom;split
  ·rename_i b;have b:=eq_of_beq b;subst b;rw[ui λz=>h<|L6 _ z,List.lookup_cons];have:(x==a)=false:=U1.mpr λz=>h (by rw[z];exact L7);rw[this]
  ·exact ui λz=>h<|L6 _ z
theorem uW:∀ names (h:Heap) acc x c,(cellsFrom h.objs.size names acc).lookup x\c->(h.objs.size<=c/\(pushCells h names).IsCell c none)\/acc.lookup x\c
 | [],_,_,_,_,e=>.inr e
 | (a,k)::r,h,acc,x,c,e=>by
  unfold cellsFrom at e;unfold pushCells;split at e
  ·rename_i b;rw[if_pos b];rcases uW r (h.push {cls:=.type "cell",data:=.cell none}) ((a,h.objs.size)::acc) x c (by rw[Heap.size_push];exact e) with q | q
   ·rw[Heap.size_push] at q;exact .inl #v[Nat.le_of_succ_le q.1,q.2]
   ·rw[List.lookup_cons] at q;cases e1:x==a with
    | true=>
     rw[e1] at q;cases q;exact .inl #v[M8 _,#v[_,pushCells_keeps r _ _ _<|X7 _ rfl,rfl]]
    | false=>rw[e1] at q;exact .inr q
  ·rename_i b;rw[if_neg b];exact uW r h acc x c e
theorem Qr:∀ l cs,(x,c)∈hD env l cs->(x,c)∈cs\/(x,NameKind.free)∈l
 | [],_,h=>.inl h
 | (n,k)::r,cs,h=>by
  rcases Qr r _ h with z | z
  ·grind
  ·exact .inr<|L6 _ z
def zV 
  (h:Q (newEnv scope ↥s globals (cellsFrom (↥s+1) scope.names cl) qual none .none (some env) builtinsNs) { s with heap:=pushCells (s.heap.push {cls:=.type "dict",data:=.dict #[]}) scope.names }):
  wpAny M A (newFunctionEnv scope globals cl [] qual none .none<|some env) Q E s:=by
 simp only[newFunctionEnv,Option.isSome_some];refine L3<|wpAny_alloc ?_;refine L3<|wpAny_layCells _ (λnm kd a=>by cases hq:kd==NameKind.cell<;>simp[hq]) _ _ _ _ ?_;rw[Heap.size_push ..];exact L3<|M6<|M6 h
def yJ(X:Cx)(scope:Scope)(N':List Str)(C:Addr)(s₃:Shared)(H₃:Hp)(fp:W5):Cx:=
 {X with N:=N',s₀:=s₃,H₀:=H₃,env:=compEnvC scope (qU scope X.env C) C X.env,outer:=X.stack,stack:=X.stack,ex:=fp,fn:=λx=>scope.names.lookup x==some NameKind.cell,pn:=[],xe:=λ_ _=>False}
structure cr(X:Cx)(scope:Scope)(N':List Str)(ix:List<|Option Nat):Prop where
 kind:scope.kind=.function
 names:∀ y∈scope.names,y.2=.local->scope.names.lookup y.1\.local
 cells:∀ y∈scope.names,y.2=.cell->scope.names.lookup y.1\.cell
 uniq:∀ y∈scope.names,y.2=.free->scope.names.lookup y.1\.free
 outer:∀ y∈scope.names,y.2=.free->X.env.kindOf y.1=some .cell\/X.env.kindOf y.1\.free
 nd:N'.Nodup
 len:-ix=-N'
 at_:∀(i j:Nat) (x:Str),ix[i]?\(some j)->N'[i]?\x->X.N[j]?\x/\(x,NameKind.free)∈scope.names
 func:X.env.scope.kind=.function
def cr.free(B:cr X scope N' ix)  (h:(x,NameKind.free)∈scope.names):(qU scope X.env C).lookup x=(fh scope X.env).lookup x:=
 ui λz=>by
  have a:=B.cells _ z rfl;rw[B.uniq _ h rfl] at a;cases a
def kq(ix:List<|Option Nat)(s:St):St:=ix.map λo=>o.bind λj=>(s[j]?).join
abbrev BW:=Nat->Nat->St->Hp->Prop
def nT(tc:TT)(te:TE)(g:TG)(J:It)(p:Addr)(σ':St)(H1:Hp)(Q:Hp->Prop):Prop:=
 ∃ W:BW,(∃ m,W 0 m σ' H1)/\∀ i m σ2 H2,W i m σ2 H2->(J.stop i H2/\Q H2) \/
  (J.go i H2/\∀ x H3,J.yld i H2 x H3->g x σ2 H3 λσ4 H4=>tc σ4 H4 λb H5=>if b=true then
   te σ4 H5 λy H6=>∃ ys,H6 p\(.lst ys)/\ -ys<sizeLine/\∃ m',m'<m/\W (i+1) m' σ4 (bU H6 p<|.lst<|ys++[y])
   else ∃ m',m'<m/\W (i+1) m' σ4 H5)
def xZ(wi:TI)(g:TG)(tc:TT)(te:TE)(ix:List<|Option Nat):TE:=λs H Q=>wi s H λJ H1=>∀ p,H1 p=none->nT tc te g J p (kq ix s) (bU H1 p<|.lst []) λH2=>Q (.ref p) H2
def nU(X:Cx)(ifs:List Expr)(tc:TT):Prop:=(ifs=[]/\tc=λ_ H Q=>Q true H) \/ ∃ c,ifs=[c]/\PT X c tc
def Gu(B:cr X scope N' ix)(I:bP X pins W H s)(n:∀ b∈fp,e_ X pins H b)(w:∀ b∈fp,b < ↥s)
  (G:h₁.Ns ↥s (λ_=>none)) (F:∀ b o,s.heap.get? b\o->h₁.get? b\o)
  (g:∀ x c,(qU scope X.env ↥s).lookup x\c->(↥s+1<=c/\h₁.IsCell c none)\/(fh scope X.env).lookup x\c):
  bP (yJ X scope N' ↥s s H fp) [] (kq ix W) H {s with heap:=h₁,toks:=t}:=by
 have d:∀ x c,(fh scope X.env).lookup x\c->X.env.cells.lookup x\c:=λx c e=>VF e;have J:∀ x c,X.env.cells.lookup x\c->c < ↥s:=λx c e=>by
  let[v,o,A,_]:=I.cell x c e;exact N0 A
 refine#v[#v[I.ok.mod,B.kind,I.ok.glob,I.ok.blt,M8 _,Gr (λx y c C D=>I.ok.inj x y c (d x c C)<|d y c D)<|λx c e=>Nat.lt_succ_of_lt<|J x c<|d x c e,λx hx=>?_,(λx c C D=>?_),I.ok.hd,I.ok.frames,.inl rfl,λb h=>#v[N5<|w b h,λx c e=>?_],
  I.bs,N6 I.ok.bsz I.sz,λb o e h=>?_,λb h z=>?_,I.stack,I.stkFree],rfl,I.bare,Un.kept F,#v[_,G,λi x v C D P=>?_],λx c e=>?_,I.hok.fresh<|M8 _,λx c e=>?_,(λp Q=>nomatch (Q)),I.hok.kept F,?_]
 ·have K:=hx;have f:(x,NameKind.free)∈scope.names\/(x,NameKind.cell)∈scope.names:=by
   rcases K with q | q
   ·rcases J8 (PySem.mem_of_lookup q) with z | z
    ·lia
    ·lia
   ·rcases J8 (PySem.mem_of_lookup q) with z | z
    ·lia
    ·lia
  rcases f with f | f
  ·let[c,L]:=I.ok.has x<|B.outer _ f rfl;exact#v[c,by show(qU scope X.env ↥s).lookup x\c;rw[B.free f];exact Aw L f]
  ·exact rm f
 ·-- the block's own cells are new
  have hx:=C;rcases g x c D with⟨q,_⟩ | q
  ·exact Nat.le_of_succ_le q
  ·exfalso;have n:(x,NameKind.free)∈scope.names:=by 
     rcases Qr scope.names [] (PySem.mem_of_lookup q) with z | z
     ·exact nomatch z
     ·exact z
   have E:=B.uniq _ n rfl;rw[eq_of_beq hx] at E;cases E
 ·rcases g x c e with⟨q,_⟩ | q
  ·exact Nat.ne_of_gt<|U3 (w b h)<|Nat.le_of_succ_le q
  ·exact(n b h).2.2.2.2.1 x c (d x c q)
 ·rcases(n b h).2.2.2.1 with z | z
  ·exact I.ok.noex b o e z
  ·exact absurd (U3 (N0 e)<|N6 I.ok.bsz z)<|Nat.lt_irrefl _
 ·rcases M4.mp (I.stkSub b z) with q | q
  ·exact(n b h).2.1 q
  ·exact(n b h).2.2.1 q
 ·have a:=D;unfold kq at a;rw[List.getElem?_map] at a;cases e:ix[i]? with
  | none=>rw[e] at a;cases a
  | some o=>
   rw[e] at a;cases o with
   | none=>cases a
   | some j=>
    have N:(W[j]?).join\v:=X3 a;have R:W[j]?\(some v):=by grind
    let[S,f]:=B.at_ i j x e C;have M:=B.outer _ f rfl;let[m,U,T]:=I.loc;let[u,r,l]:=T j x v S R<|M.elim (λz=>.inr<|.inl z) λz=>.inr<|.inr z;refine#v[u,r,.inr ?_];rcases l with⟨k,_⟩ | ⟨_,c,L,z⟩
    ·lia
    ·refine#v[?_,c,by show(qU scope X.env ↥s).lookup x\c;rw[B.free f];exact Aw L f,?_]
     ·rcases P with y | y | y
      ·have:=PySem.mem_of_lookup y;rcases J8 this with O | O
       ·have E:=B.names _ O rfl;rw[B.uniq _ f rfl] at E;cases E
       ·lia
      ·exact .inl y
      ·exact .inr y
     ·let[o,A,hd]:=z;exact#v[o,F c o A,hd]
 ·rcases g x c e with⟨_,q⟩ | q
  ·exact#v[none,q]
  ·let[v,o,A,hd]:=I.cell x c<|d x c q;exact#v[v,o,F c o A,hd]
 ·rcases g x c e with⟨q,_⟩ | q
  ·exact I.hok.fresh<|Nat.le_of_succ_le q
  ·exact I.freeC x c<|d x c q
 ·show(kq ix W).length=-N';unfold kq;rw[L1,B.len]
def bP.other(I:bP X pins u H s)(f:e_ X pins H C)(a:Heap.SameBut C s.heap h'):bP X pins u H {s with heap:=h'}:=
 I.turned (a.extBut) f.1 f.2.1 f.2.2.2.1 f.2.2.2.2.1 f.2.2.2.2.2
def JB{X:Cx}{ifs:List Expr}{N':List Str}{ix:List (Option Nat)}{pins:List (Addr×Obj)}{s:Shared}{Q:Addr->Hp->Prop}{F:Option (Value->Sem Unit)}{QQ:J0}(B:cr X scope N' ix)(hc:X.calm=true)(hi:PI X tg iter wi)
  (hg:∀ C s H fp,PG (yJ X scope N' C s H fp) tg g) (hif:∀ C s H fp,nU (yJ X scope N' C s H fp) ifs tc) (he:∀ C s H fp,PE (yJ X scope N' C s H fp) elt te)
  (hs:∀ x,foldedSetIterable iter X.env x=pure x) (I:bP X pins σ H s)
  (h:wi σ H λJ H1=>∀ p,H1 p=none->nT tc te g J p (kq ix σ) (bU H1 p<|.lst []) (Q p))
  (hend:∀ p C s' H',Q p H'->bP X pins σ H' s'->e_ X pins H' C->(∃ m,s'.heap.Ns C m)->compPost (model X.prog X.w) X.A X.xe F QQ (.ref p) C (.ok .next) s'):
  X⁻¹ (comprehension (.ListComp elt [#v[tg,iter,ifs,0]] scope pos) scope X.env pos' (newList []) false (eval iter X.env) F) QQ X.xe s:=by
 refine wpAny_comprehension_free rfl hs (Gq λn k hm hk=>I.ok.has n<|B.outer _ hm hk) B.kind B.names<|thn (hi pins s σ H _ I h) λv s1 h1=>thn h1 λitv a h2=>?_;let[it,fp,tn,J,M,rfl,I2,T,V,f2,h2]:=h2;refine wpAny_newObj_type<|zV ?_;dsimp only;have I3:bP X pins σ (bU M ↥a (.lst [])) { a with heap:=a.heap.push {cls:=.type "list",data:=.seq ([]:List Value).toArray} }:=I2.lnew .nil<|U4 _;generalize hs3:({ a with heap:=a.heap.push {cls:=.type "list",data:=.seq ([]:List Value).toArray} }:Shared)=s3 at I3;have e3:s3.heap=a.heap.push {cls:=.type "list",data:=.seq ([]:List Value).toArray}:=by lia
 have hk3:∀ b o,a.heap.get? b\o->s3.heap.get? b\o:=λb o e=>by rw[e3];exact L8 _ e
 have Y:∀ b∈fp,b < ↥s3:=λb f=>by
  let[o,e,_]:=T.obj _ _ V b f;exact N0<|hk3 b o e
 have nep:∀ b∈fp,b≠↥a:=λb f z=>by
  let[o,e,_]:=T.obj _ _ V b f;exact absurd (N0 e) ∅
 have N:∀ b∈fp,e_ X pins (bU M ↥a (.lst [])) b:=λb f=>#v[by rw[jh<|nep b f];exact(f2 b f).1,(f2 b f).2];have hh₁:∃ O,O=pushCells (s3.heap.push {cls:=.type "dict",data:=.dict #[]}) scope.names:=#v[_,rfl];let[O,P]:=hh₁;rw[<- e3,<- P];have hk4:∀ b o,s3.heap.get? b\o->O.get? b\o:=λb o e=>by
  rw[P];exact pushCells_keeps _ _ b o<|L8 _ e
 have hns4:O.Ns ↥s3 (λ_=>none):=by
  rw[P];exact(Heap.Ns.new s3.heap<|.type "dict").keeps (pushCells_keeps _ _)
 have R:∀ x c,(qU scope X.env ↥s3).lookup x\c->(↥s3+1<=c/\O.IsCell c none)\/(fh scope X.env).lookup x\c:=λx c e=>by
  have q:=uW scope.names (s3.heap.push {cls:=.type "dict",data:=.dict #[]}) (fh scope X.env) x c (by rw[Heap.size_push];exact e);rw[Heap.size_push,<- P] at q;exact q
 have I4:bP (yJ X scope N' ↥s3 s3 (bU M ↥a (.lst [])) fp) [] (kq ix σ) (bU M ↥a (.lst [])) {s3 with heap:=O,toks:=a.toks}:=Gu B I3 N Y hns4 hk4 R;have st4:tn 0 O:=T.keep _ _ _ V λb f o e=>hk4 b o<|hk3 b o e;obtain⟨W,⟨m0,w0⟩,turn⟩:=h2 _ I2.fresh;have hg':=hg ↥s3 s3 (bU M ↥a (.lst [])) fp;have S:=hif ↥s3 s3 (bU M ↥a (.lst [])) fp;have he':=he ↥s3 s3 (bU M ↥a (.lst [])) fp;generalize j:yJ X scope N' ↥s3 s3 (bU M ↥a (.lst [])) fp=X' at I4 hg' S he';have Z:X'.prog=X.prog:=by rw[<- j];rfl
 have eW:X'.w=X.w:=by rw[<- j];rfl
 have eK:X'.K=X.K:=by rw[<- j];rfl
 have eA:X'.A=X.A:=by rw[<- j];rfl
 have eC:X'.calm=true:=by rw[<- j];exact hc
 have eE:X'.env=compEnvC scope (qU scope X.env ↥s3) ↥s3 X.env:=by rw[<- j];rfl
 have eX:X'.xe=λ_ _=>False:=by rw[<- j];rfl
 have G:∀{H':Hp},(∀ b∈fp,H' b=none)->∀ b∈fp,e_ X' [] H' b:=λhn b f=>by
  refine#v[hn b f,?_,?_,?_,?_,?_]
  ·rw[eE];exact N5<|Y b f
  ·rw[<- j];intro z;rcases M4.mp (I3.stkSub b z) with q | q
   ·exact(N b f).2.1 q
   ·exact(N b f).2.2.1 q
  ·rw[<- j];exact .inl f
  ·rw[eE];intro x c e;rcases R x c e with⟨q,_⟩ | q
   ·exact Nat.ne_of_gt<|U3 (Y b f)<|Nat.le_of_succ_le q
   ·exact(N b f).2.2.2.2.1 x c (VF q)
  ·rw[<- j];exact(λp hp=>nomatch (hp))
 have fin:∀{l:St}{H':Hp}{s':Shared},bP X' [] l H' s'->Q ↥a H'->compPost (model X.prog X.w) X.A X.xe F QQ (.ref ↥a) ↥s3 (.ok .next) s':=λ{l H' s'} J q=>by
  have hL:X'.env.locals=↥s3:=by rw[eE];rfl
  have un:Un (f_ X.stack) fp (bU M ↥a (.lst [])) H' s3.heap s'.heap:=by
   have z:=J.base;rw[<- j] at z;exact z
  have hos:s'.os=s3.os:=by
   have z:=J.os;rw[<- j] at z;exact z
  have hok:c8 X.prog X.w H' s'.heap:=by
   have z:=J.hok;rw[Z,eW] at z;exact z
  have fc:H' ↥s3=none:=by
   have z:=J.free;rw[hL] at z;exact z
  have I5:bP X pins σ H' s':=by
   let[hh,gg,dd,tt,oo]:=s';obtain rfl:oo=s3.os:=hos;exact I3.call un hok J.bare λb f=>#v[(N b f).2.2.2.1,(N b f).2.1,(N b f).2.2.2.2.1,(N b f).2.2.2.2.2]
  let[m,hn,_]:=J.loc;rw[hL] at hn;exact hend _ _ s' H' q I5 (I3.fpOk (M8 _) fc) #v[m,hn]
 have loop:∀ s',s'=({s3 with heap:=O,toks:=a.toks}:Shared)->codeAny (model X.prog X.w) X.A (.compLoop (.ListComp elt [#v[tg,iter,ifs,0]] scope pos) 0 (.ref it) (.ref ↥a) X'.env) (compPost (model X.prog X.w) X.A X.xe F QQ (.ref ↥a) ↥s3) s':=by
  rintro s' rfl;refine we (λn s'=>∃ i l H',bP X' [] l H' s'/\tn i s'.heap/\(∀ b∈fp,H' b=none)/\W i n l H') ?_ m0 #v[0,_,_,I4,st4,λb f=>(N b f).1,w0];rintro n s5 ⟨i,σ5,H5,I5,st5,fr5,w5⟩;have it5:=T.item X' Z eW eK eC i [] s5 σ5 H5 (λ_ _=>False) I5 (G fr5) st5;have dn5:=T.done X' Z eW eK eC i [] s5 σ5 H5 (λ_ _=>False) I5 (G fr5) st5;rw[eA] at it5 dn5;rcases turn i n σ5 H5 w5 with⟨stop,qn⟩ | ⟨go,step⟩
  ·refine thn (dn5 stop) λr s6 ⟨hr,I6⟩=>?_;subst hr;exact fin I6 qn
  ·refine thn (it5 go) λr s6 ⟨u,hr,h6⟩=>?_;subst hr;refine thn h6 λ_ s7 hh=>?_;let[x,H7,I7,r7,y7,st7,fr7]:=hh;have a7:=hg' _ s7 σ5 H7 x u _ (I7.pinned (G fr7)<|T.obj _ _ st7) r7<|step x H7 y7;rw[Z,eW,eA,eX] at a7;refine thn a7 λ_ s8 hh=>?_;let[L,H8,I8,q8]:=hh;have again:∀{t:Shared}{E:Hp},bP X' ([]++KP fp s7.heap) L E t->(∃ D,D<n/\W (i+1) D L E)->∃ m,m<n/\∃ i l H',bP X' [] l H' t/\tn i t.heap/\(∀ b∈fp,H' b=none)/\W i m l H':=λ{t E} I9 ⟨D,hm,w9⟩=>by
    refine#v[D,hm,i+1,L,E,I9.unpinned,T.keep _ _ _ st7 λb f o e=>(I9.pin (b,o)<|U2 _<|U2 _<|qH f e).1,λb f=>?_,w9];let[o,e,d]:=T.obj _ _ st7 b f;exact(I9.pin (b,o)<|U2 _<|U2 _<|qH f e).2.1
   have rest:∀(b:Bool) (t:Shared) (E:Hp),bP X' ([]++KP fp s7.heap) L E t->(if b=true then te L E λy H6=>∃ ys,H6 ↥a\(.lst ys)/\ -ys<sizeLine/\∃ D,D<n/\W (i+1) D L (bU H6 ↥a (.lst<|ys++[y]))
     else ∃ D,D<n/\W (i+1) D L E) ->
     if b=true then X⁻¹ (eval elt X'.env) (λx s₄=>X⁻¹ (call (.builtin "list.append") [.ref ↥a,x]) (λ_ s₅=>∃ m,m<n/\∃ i l H',bP X' [] l H' s₅/\tn i s₅.heap/\(∀ b∈fp,H' b=none)/\W i m l H') (λ_ _=>False) s₄) (λ_ _=>False) t
     else ∃ m,m<n/\∃ i l H',bP X' [] l H' t/\tn i t.heap/\(∀ b∈fp,H' b=none)/\W i m l H':=λb t E I9 q9=>by
    cases b with
    | false=>
     exact again I9 q9
    | true=>
     have a9:=he' _ t L E _ I9 q9;rw[Z,eW,eA,eX] at a9;refine thn a9 λyv s10 hh=>?_;let[y,H10,dh,r10,ys,e10,l10,q10]:=hh;have a10:=Yr _ s10 L H10 (.ref ↥a) [y] (.ref ↥a) [yv] (λ_ H'=>∃ D,D<n/\W (i+1) D L H') dh rfl (.cons r10 .nil) #v[_,ys,y,rfl,rfl,e10,l10,q10];rw[Z,eW,eA,eX] at a10;exact thn a10 λ_ s11 ⟨_,H11,I11,_,q11⟩=>again I11 q11
   rcases S with⟨e1,e2⟩ | ⟨c,e1,e2⟩
   ·subst e1;rw[e2] at q8;exact wpAny_tests_nil<|rest true s8 H8 I8 q8
   ·subst e1;have a8:=e2 _ s8 L H8 _ I8 q8;rw[Z,eW,eA,eX] at a8;exact wpAny_tests_one<|thn a8 λb t ⟨E,I9,q9⟩=>rest b t E I9 q9
 have U:codeAny (model X.prog X.w) X.A (.compStart (.ListComp elt [#v[tg,iter,ifs,0]] scope pos) 0 (.ref it) (.ref ↥a) X'.env) (compPost (model X.prog X.w) X.A X.xe F QQ (.ref ↥a) ↥s3) {s3 with heap:=O,toks:=a.toks}:=
  codeAny_compStart_list (loop _ rfl) (T.self _ 0 _ _ _ st4<|loop _ rfl)
 rw[eE] at U;subst hs3;exact U
def Ay(B:cr X scope N' ix)(c:X.calm=true)(hi:PI X tg iter wi)
  (d:∀ C s H fp,PG (yJ X scope N' C s H fp) tg g) (a:∀ C s H fp,nU (yJ X scope N' C s H fp) ifs tc) (e:∀ C s H fp,PE (yJ X scope N' C s H fp) elt te)
  (i:∀ x,foldedSetIterable iter X.env x=pure x:=by intro _;rfl):PE X (.ListComp elt [#v[tg,iter,ifs,0]] scope pos) (xZ wi g tc te ix):=by
 intro b s u H Q I h;exact JB B c hi d a e i I h λp C o j q k f ⟨m,l⟩=>#v[m,l,λr n=>#v[.ref p,j,k.other f n,rfl,q]]
def KZ(B:cr X scope N' ix)(y:X.calm=true)(hi:PI X tg iter wi)
  (A:∀ C s H fp,PG (yJ X scope N' C s H fp) tg g) (b:∀ C s H fp,nU (yJ X scope N' C s H fp) ifs tc) (E:∀ C s H fp,PE (yJ X scope N' C s H fp) elt te)
  (F:X.N.Nodup) (c:X.N[i]?\x) (hx:ga X.env.scope x)
  (hsw:swapsWith (.ListComp elt [#v[tg,iter,ifs,0]] scope pos) (some<|.Name x pos') spos.line X.env=pure true)
  (G:∀ x,foldedSetIterable iter X.env x=pure x:=by intro _;rfl)
  (J:X.fn x=true\/X.env.scope.names.lookup x\.local:=by first | exact .inl rfl | exact .inr rfl | assumption):
  PS X (.Assign [.Name x pos'] (.ListComp elt [#v[tg,iter,ifs,0]] scope pos) spos) (gc (xZ wi g tc te ix)<|Jl i):=by
 intro a s U H D I h;rw[exec_Assign_Name_used _ _ _ _ hsw];refine L3<|wpAny_standAt<|L3<|L3<|thn (JB B y hi A b E G I h λp C k l q n f ⟨m,K⟩=>?_) λ_ k L=>M6<|M6 L;let[o,M,O,P,r]:=id K;have hd:∀ v,o.data≠.cell v:=λv z=>by
  let[d,_]:=r;rw[d] at z;cases z
 have Q:bP X (a++[(C,o)]) U l k:=n.pins_of λt j=>by
  rcases N1.mp j with z | z
  ·exact n.pin t<|U2 _ z
  ·have e:t=(C,o):=by simpa using z
   subst e;exact#v[P,f.1,f.2.1,f.2.2.1,hd]
 refine wpAny_assign_Name<|Vs Q F c hx (v:=.ref p) rfl (λS u=>?_) J;have w:=u.pin (C,o)<|U2 _<|U2 _<|M7.mpr rfl;refine#v[m,#v[o,M,O,w.1,r],λT R=>#v[_,l,(u.unpinned).other #v[w.2.1,f.2] R,q]]
def S(l:List Nat):Str:=#v[l.toArray]
def K4(l):(S l).cps.toList=l:=by simp[S]
def wN(l):-(S l)=-l:=by simp[S,Str.length]
def Az(h:S a=S b):a=b:=by
 rw[<- K4 a,<- K4 b,h]
def ro(a b):(S a=S b)=(a=b):=propext #v[Az,λh=>by rw[h]]
def Gv(a b):S a++S b=S (a++b):=by
 apply PyProof.Rows.ext_toList;rw[PySem.W.KT.app_list,K4,K4,K4]
def vf{s:Type}(xs:List s)(lo hi:Option Int):List s:=(xs.drop<|HT.cQ xs.length 0 lo).take (HT.cQ xs.length xs.length hi-HT.cQ xs.length 0 lo)
def Gx(xs:List s)(k:Nat):vf xs none (some (k:Int))=xs.take k:=by
 unfold vf;rw[HT.gi,HT.g9];simp[List.take_eq_take_iff]
def AB(lo hi)(n):Builtin.Str.strSliceIndices lo hi 1 n=(List.range<|HT.cQ n n hi-HT.cQ n 0 lo).map (HT.cQ n 0 lo+·):=by
 have a:∀ o d,(match o with | none=>d | some i=>(let i:=if i<0 then i+n else i;if 1>0 then max 0 (min i n) else max (Neg.neg 1) (min i<|n-1)))=((HT.cQ n d o:Nat):Int):=by
  intro o d;cases o with
  | none=>rfl
  | some v=>
   show(if 1>0 then max 0 (min (if v<0 then v+n else v) n) else _)=(((if v<0 then(v+n).toNat else min v.toNat n):Nat):Int);by_cases b:v<0
   ·lia
   ·lia
 rw[<- sliceRange_one,<- a lo 0,<- a hi n];rfl
def Gy(l)(lo hi):Txt.slice (S l) lo hi=S (vf l lo hi):=by
 have g:HT.cQ l.length l.length hi<=-l:=HT.iS _ _ (M8 _) _;have e:(Builtin.Str.strSliceIndices lo hi 1 (-(S l))).filterMap ((S l).cps[·]?)=vf l lo hi:=by
  rw[wN,AB];by_cases b:HT.cQ l.length 0 lo<=HT.cQ l.length l.length hi
  ·have c:=(StrLaws.picks l (HT.cQ l.length l.length hi-HT.cQ l.length 0 lo)<|HT.cQ l.length 0 lo) ∅;unfold vf;rw[<- c];simp[S]
  ·have z:HT.cQ l.length l.length hi-HT.cQ l.length 0 lo=0:=by lia
   unfold vf;rw[z];simp
 unfold Txt.slice;split
 ·rename_i h;have d:(Builtin.Str.strSliceIndices lo hi 1 (-(S l))).length=-(S l):=by lia
  rw[wN,AB,L1,List.length_range] at d;unfold vf;by_cases a:-l=0
  ·have:=List.length_eq_zero_iff.mp a;subst this;simp
  ·have f:HT.cQ l.length 0 lo=0:=by lia
   rw[f,List.drop_zero,List.take_of_length_le ∅]
 ·rw[e];rfl
def AC:V->Option Int->Option Int->Hp->VK->Prop:=λx lo hi H Q=>∃ l,x=.str (S l)/\ -l<=sizeLine/\Q (.str<|S<|vf l lo hi) H
def AD(p:IsPart v o):∃ q:Option (Int×Tok),v=partValue q/\q.map (·.1)=o:=by
 cases p with
 | none=>exact#v[none,rfl,rfl]
 | int i t=>exact#v[some (i,t),rfl,rfl]
def Gz:iq X AC:=by
 intro a s u H x v n o lo hi p Q I e f pl g h;let[l,rfl,i,q]:=h;let[t,rfl]:=e;let[b,rfl,j]:=AD pl;let[c,rfl,m]:=AD g;refine#v["str",_,F.slot_str_getitem.lookup,typeIs_str _ _ _,wpAny_getItem_str_slice (st:=none) f rfl ?_];have key:∀ d k,EP X a u Q (.str (Txt.slice (S l) lo hi) d) {s with toks:=k}:=λd k=>by
  rw[Gy l lo hi];exact#v[.str<|S<|vf l lo hi,H,I.tok k,#v[d,rfl],q]
 have e2:sliceMade (S l) t b c none=(if(1==1&&(Builtin.Str.strSliceIndices lo hi 1 (-(S l))).length==-(S l))=true then Made.val (.str (S l) t) else Made.str #v[((Builtin.Str.strSliceIndices lo hi 1 (-(S l))).filterMap ((S l).cps[·]?)).toArray]):=by
  unfold sliceMade slicePicked;rw[j,m];rfl
 rw[e2];refine post_val_or_str #v[?_,key];exact N6 (Txt.slice_le (S l) lo hi) (by rw[wN];exact i)
def nV(l:List Nat):It:=#v[λi _=>i< -l,λi H x H'=>H'=H/\∃ c,l[i]?\c/\x=.str (S [c]),λi _=>-l<=i]
def GA{tg}{P}{w}{K}(a)(l)(t)(ty)(j:ty = "str_ascii_iterator" \/ ty = "str_iterator")
  (W:∀ A:Around,A.handled=none->Walks P w A a [a] [a] (S l).cps.size (SignAt<|S l) (λi h=>h.IsStrIter a ty (S l) t i)):dZ P w K tg (nV l) [a] a (λi h=>h.IsStrIter a ty (S l) t i) where
 mem:=by simp
 obj:=λi h f b m=>by
  have e:b=a:=by simpa using m
  subst e;let[o,e,c,d]:=f;exact#v[o,e,λv z=>by rw[d] at z;cases z]
 keep:=λi h p f k=>by
  let[o,e,r]:=f;exact#v[o,k a (by simp) o e,r]
 item:=by
  intro X N O Q q i g s σ H E I x f G;let[y,B,R,C,D,F]:=x a (by simp);have J:(S l).cps.size=-l:=by rfl
  refine(W X.A<|I.ok.hd q).item i s _ _ (by rw[J];exact G) f λv p T U n V=>?_;let[c,u,L,rfl]:=U;have Y:bP X g σ H {s with heap:=p,toks:=T}:=I.turned (λb o m e=>V b o ⇑m e) y B C D F;let[o,e,ct,d]:=id n;refine#v[_,rfl,ma e ct d (by rcases j with z | z<;>subst z<;>decide) #v[.str<|S [c],H,Y,#v[u,rfl],#v[rfl,c,by simpa [S] using L,rfl],n,λb m=>(x b m).1]]
 done:=by
  intro X N O Q q i g s σ H E I x f G;let[y,B,R,C,D,F]:=x a (by simp);have hx:(S l).cps[i]?=none:=by
   have:-l<=i:=G;simp[S,this]
  rcases j with z | z
  ·subst z;exact wpAny_pyNext_ascii_end (I.ok.hd q) f hx λp M=>#v[rfl,I.turned (M) y B C D F]
  ·subst z;exact wpAny_pyNext_wide_end (I.ok.hd q) f hx λp M=>#v[rfl,I.turned (M) y B C D F]
 self:=λ_ _ _ _ _ f h=>by
  rcases j with z | z
  ·subst z;exact wpAny_pyIter_striter_ascii f h
  ·subst z;exact wpAny_pyIter_striter_wide f h
def GB:dB X (binaryOp .Add) (λx y H Q=>∃ a b,x=.str (S a)/\y=.str (S b)/\ -a+-b<=sizeLine/\Q (.str<|S<|a++b) H):=by
 intro c s w H x y v u Q I d e h;let[a,b,rfl,rfl,f,q]:=h;refine FV c s w H _ _ v u Q I d e #v[_,_,rfl,rfl,by rw[wN,wN];exact f,?_];rw[Gv];exact q
def GC:dB X (binaryOp .Mult) (rI (λi j=>Builtin.Int.intBits i<=2 ^ 20/\Builtin.Int.intBits j<=2 ^ 20) λi j=>.int<|i*j):=ny λ_ _ _ _ _ _ _ a q=>mul_int q<|IntMulOk.of_bits a.1 a.2
def GD{A}{bs:List Bool}{its}(r:bQ (bs.map V.bl) its):TruthOf P w A (λi v=>its.toArray[i]?\v) (λi=>bs.getD i false):=by
 intro i v s Q E c d;have a:its[i]?\v:=by simpa using c
 have hi:=(L9.mp a).1;have e:=-r;rw[L1] at e;have f:(bs.map V.bl)[i]?\(V.bl<|bs.getD i false):=by grind
 let[u,b,g]:=r.get f;rw[a] at b;cases b;cases g;exact M6 d
def GF:∀(bs:List Bool),(List.range (-bs)).any (λi=>bs.getD i false)=bs.any (λb=>b):=by
 intro bs;rw[Bool.eq_iff_iff,List.any_eq_true,List.any_eq_true];constructor
 ·rintro⟨i,hi,h⟩;have a:=List.mem_range.mp hi;rw[List.getD_eq_getElem?_getD,X5 a] at h;exact#v[_,List.getElem_mem a,h]
 ·rintro⟨b,c,h⟩;let[i,hi,e]:=List.mem_iff_getElem.mp c;refine#v[i,List.mem_range.mpr hi,?_];rw[List.getD_eq_getElem?_getD,X5 hi,e];exact h
def GH(j:X.calm=true):JX X (.builtin "any") (λxs H Q=>∃(p:Addr) (bs:List Bool),xs=[.ref p]/\cD X.K H p (bs.map V.bl)/\Q (.bl<|bs.any λb=>b) H):=by
 intro d s z H xs v Q I r h;let[p,bs,rfl,k,q]:=h;let[u,rfl,l]:=r.one;cases l;let[a,f,pl,w]:=I.list k;have c:p < ↥s:=by
  let[o,n,e,_]:=pl;exact N0 e
 have g:=-f;rw[L1] at g;refine call_any_walk<|wpAny_pyIter_list pl.isList #v[↥s,_,_,_,_,_,λi=>bs.getD i false,rfl,Walks.list (by exact I.ok.hd j) ↥s p (N5 c) a.toArray,#v[#v[_,X7 _ rfl,rfl,rfl],?_],GD f,λx y m=>?_]
 ·let[o,e,r]:=pl.isList;exact#v[o,L8 _ e,r]
 ·rw[N2,<- g,GF];refine#v[.bl<|bs.any λb=>b,H,I.kept λb o e=>m b o ?_<|L8 _ e,rfl,q];intro t;have:b=↥s:=by simpa using t
  exact absurd (N0 e) ∅
def fL(K:W4)(H:Hp)(a:Addr)(xs:List V):Prop:=
 Rd H a (.lst xs) \/ ∃ its n,K.lookup a=some {cls:=.type "list",data:=.seq its n}/\its.size<=sizeLine/\bQ xs its.toList
def fL.sq{K}{H}{a}{xs}(h:fL K H a xs):cD K H a xs:=by
 rcases h with h | ⟨b,n,c,d,r⟩
 ·exact .inl h
 ·exact .inr #v[_,b,n,c,rfl,rfl,rfl,d,r]
def fL.of{K}{H}{a}{xs}(h:H a\(.lst xs)):fL K H a xs:=.inl<|.inl h
def bP.listX(I:bP X pins u H s)(h:fL X.K H a xs):eB λits n=>cM (bQ xs its) (s.heap.get? a=some {cls:=.type "list",data:=.seq its.toArray n}) (-xs<=sizeLine):=by
 rcases h with h | ⟨its,n,b,c,r⟩
 ·let[z,its,n,r,e]:=h.ok I.hok;exact#v[its,n,r,e,z]
 ·refine#v[its.toList,n,r,by simpa using I.kIn a _ b,?_];have e:=-r;simp only[Array.length_toList] at e
  lia
def AE(K:W4):R2:=λx y H Q=>∃ l b xs zs,x=.ref l/\y=.ref b/\fL K H l xs/\fL K H b zs/\ -xs+-zs<=sizeLine/\∀ p,H p=none->Q (.ref p) (bU H p<|.lst<|xs++zs)
def GI:dB X (binaryOp .Add) (AE X.K):=by
 intro d s U H x y v u Q I g i h;let[l,b,p,t,rfl,rfl,j,k,w,q]:=h;cases g;cases i;let[c,n,r,e,_]:=I.listX j;let[a,z,f,e2,_]:=I.listX k;have A:=-r;have m:=-f;refine PySem.P.add_list e e2 ?_ (by rw[N2,N2];lia);have o:c.toArray++a.toArray=(c++a).toArray:=by simp
 rw[o];exact#v[.ref _,_,I.lnew (r.append f)<|by rw[N3];lia,rfl,q _ I.fresh]
def gj{l:PySem.W.OpenLaw}{n k}{j}{U}{O}{d}{K:Params->PySem.W.Frag}{CX:World->iR}{sp:World->Sp} 
  (hn:l.most\n) (B:n<=sizeLine) (C:d.params.defaults=[]) (X:ca k callerA)
  (Z:∀ w h,O w h->(K w.params).In h)
  (F:∀ w mg fa h,(K w.params).In h->h.Ns mainGlobals mg->mg d.name=some (.ref fa) ->
   ∃ fd:FuncData,(∀ s u,BindsTo s fd #v[[u],[]] [(x,u)]) /\
    ∀ base:Heap,(K w.params).In base->base.Ns mainGlobals mg->cL l.prog w (K w.params) mg base (CX w) k fa fd [x] (sp w))
  (D:∀ w H a (ns:List Int),-ns<=n->(∀ x∈ns,Builtin.Int.intBits x<=2 ^ 20)->rb H->fL (K w.params) H a (ns.map V.int)->sp w [.ref a] H (λv _=>v=.bl true) λ_ _ _=>False)
  (E:∀ w H s e s',CX w [] H s (λ_ _ _=>False) e s'->False):
  PySem.W.WalkO q j U O l.row.toRowW d [] (λf vs=>PySem.call f vs):=by
 intro w s₀ s₁ mg mb G Y fa o pm cd doc dV kV ho hd hcd P I hg Q R as t y hrd J hlo;obtain rfl:dV=.none:=PySem.W.Dflts.none P C;obtain rfl:kV=.none:=PySem.W.Dflts.noKw P;let[a,vs,ns,rfl,rfl,c,p,i]:=Att.fJ hn t J;have L:=Z w _ Y;let[fd,hb,hF]:=F w mg fa _ L G.T.g I;refine PySem.W.enter_call (codeAny_mono (Gn L G.T.g G.T.b G.T.builtins G.T.nolimit hg c p (N6 i B) X hF hb (λH hO hS=>D w H a ns i ((by
   intro x hx;have e:PySem.W.ofPy (.list<|ns.map .int)=PySem.W.WData.list (ns.map PySem.W.WData.int):=by
    have e1:∀ z:List Int,PySem.W.ofPys (z.map PyData.int)=z.map PySem.W.WData.int:=by
     intro z
     induction z with
     | nil=>rfl
     | cons m z ih=>simp[PySem.W.ofPys,PySem.W.ofPy,ih]
    simp[PySem.W.ofPy,e1]
   have A:=PySem.W.lay0_ofPy (s:=.list .int) (d:=.list<|ns.map .int) rfl (by simp[Shape.has]) (by rw[e];exact((PySem.W.layW_cons y).1));have M:PyData.layable0 (.list<|ns.map .int)=true:=by
    simp[PyData.layableAll0] at A;exact A
   exact PyData.bits_item_of_ints M hx)) hO ?_) λH e s'=>E w H s₁ e s') λr s' hq=>?_)
 ·rcases hS with h | ⟨o,its,m,S,_,_,N,hz,r⟩
  ·exact .inl h
  ·have e:=L a o S;rw[c] at e;cases e;cases N;exact .inr #v[_,_,S,hz,r]
 ·let[rfl,A,M,h4]:=hq;exact#v[.inl #v[.bool true,.bool true,[],rfl,λ_=>rfl,.bool true,Att.fK l _,λ_=>#v[List.Pairwise.nil,λ_ hm=>(nomatch hm)]],A,M,h4]
def AF(sc:Scope)(N:List Str)(scope:Scope)(N':List Str)(ix:List<|Option Nat):Bool:=
 decide (scope.kind=.function)&&decide (sc.kind=.function)&&scope.names.all (λy=>!decide (y.2=.cell)||decide (scope.names.lookup y.1\.cell))&&scope.names.all (λy=>!decide (y.2=.local)||decide (scope.names.lookup y.1\.local)) &&
 scope.names.all (λy=>!decide (y.2=.free)||(decide (scope.names.lookup y.1\.free)&&(decide (sc.names.lookup y.1\.cell)||decide (sc.names.lookup y.1\.free))))&&decide N'.Nodup&&decide (-ix=-N') &&
 (List.range (-ix)).all (λi=>match ix[i]? with | some (some j)=>(match N'[i]? with | some x=>decide (N[j]?\x)&&decide ((x,NameKind.free)∈scope.names) | none=>true) | _=>true)
structure d4(K:W4)(mg:W6)(x qual:Str)(st:Stmt)(f:Addr)(fd:FuncData)(ps:List Str):Prop where
 fn:g_ K x qual st f fd
 mgf:mg x\(.ref f)
 bd:df K fd ps []
section
variable {X:Cx}{k:Nat}{f:Addr}{fd:FuncData}{ps:List Str}{sp:Sp}{x qual:Str}{st:Stmt}{p pos:Pos}{e:Expr}{es:List Expr}{t:TA}
def AG(F:d4 X.K X.mg x qual st f fd ps)(G:cL X.prog X.w X.K X.mg X.base eN k f fd ps sp)(g:ca k X.A)(i:PA X (e::es) t)(j:Gl X x:=by rfl)(b:Nd x:=by decide)
  (l:dS X e es:=by rfl) (c:eh X pos es:=by rfl):PE X (.Call (.Name x p) (e::es) [] pos) (nI sp [] E0 t):=
 (by
   intro a s u H Q I h;exact wpAny_Call_Name_kw<|zl I j F.mgf (PySem.W.callWith_K I.ok.mod.kin F.fn.kp (thn (i pos a s u H _ I h) λm s1 ⟨vs,n,d,r,q⟩=>#v[d.kIn,(qz G g F.bd .nil mi d r q)]) l c) b)
end
section
variable {X:Cx}{pins:List (Addr×Obj)}{U:St}{H:Hp}{s:Shared}{h':Heap}
def bP.turnedNew{t'}{wr:W5}{T:Addr}{xs}{its}(I:bP X pins U H s)(k:∀ b o,b∉wr->s.heap.get? b\o->h'.get? b\o)(g:∀ b∈wr,e_ X pins H b)
  (h:↥s<=T) (j:cV h' T its) (l:bQ xs its.toList) (p:-xs<=sizeLine):bP X pins U (bU H T<|.tup xs) {s with heap:=h',toks:=t'}:=by
 have i:∀ b u,H b\u->b∉wr:=λb u e z=>by rw[(g b z).1] at e;cases e
 have d:∀ b u,H b\u->b≠T:=λb u e z=>by rw[z,I.hok.fresh h] at e;cases e
 refine I.step (λb f=>?_) (λb o _ _ a e _=>k b o a e) (λb o _ _ a e _=>#v[o.slots,k b o a e]) (λb o _ e n=>?_)
  (λb o a e=>#v[o,k b o a e]) (λb t e=>by rw[jh<|d b _ e];exact e) (λb o u e=>by rw[jh<|d b _ e];exact e) (λb F e=>#v[#[],by rw[jh<|d b _ e,e];simp]) (λm w=>?_) (λb u e=>?_) I.bare
 ·let[_,x,_,y,A,B]:=g b f;exact#v[y,x,A,B]
 ·rw[jh<|λz=>absurd (N0 e)<|by rw[z];exact Nat.not_lt.mpr h];exact n
 ·let[o,C,D,E,r]:=w;refine#v[o,C,D,k _ o (λz=>(g _ z).2.1 rfl) E,r]
 ·by_cases f:b=T
  ·subst f;rw[js] at e;cases e;exact#v[p,its.toList,l,by simpa using j]
  ·rw[jh f] at e;refine(I.hok b u e).stay (λc v a q=>k c v ?_ q) (λc q=>by rw[jh<|d c _ q];exact q) λc t q=>by rw[jh<|d c _ q];exact q
   rcases a with z | z
   ·rw[z];exact i b u e
   ·exact i c _ z
def bP.turnedL{t'}{wr:W5}(I:bP X pins U H s)(k:∀ b o,b∉wr->s.heap.get? b\o->h'.get? b\o)(d:∀ b∈wr,e_ X pins H b):bP X pins U H {s with heap:=h',toks:=t'}:=by
 have f:∀ b u,H b\u->b∉wr:=λb u e z=>by rw[(d b z).1] at e;cases e
 refine I.step (λb g=>?_) (λb o _ _ a e _=>k b o a e) (λb o _ _ a e _=>#v[o.slots,k b o a e]) (λb o _ e n=>n)
  (λb o a e=>#v[o,k b o a e]) (λb y e=>e) (λb o u e=>e) (λb A e=>#v[#[],by rw[e];simp]) (λm h=>?_) (λb u e=>?_) I.bare
 ·let[_,i,_,j,l,p]:=d b g;exact#v[j,i,l,p]
 ·let[o,t,w,x,r]:=h;refine#v[o,t,w,k _ o (λz=>(d _ z).2.1 rfl) x,r]
 ·refine(I.hok b u e).stay (λc v a q=>k c v ?_ q) (λ_ q=>q) λ_ _ q=>q;rcases a with z | z
  ·rw[z];exact f b u e
  ·exact f c _ z
end
def GJ 
  (c:IsEnum s.heap e it n was) (hi:s.heap.IsListIter it l i) (I:s.heap.IsList l us) (hx:us[i]?\x) (ne:e≠it)
  (go:∀ k,IsEnumOut k e it (n+1) x ↥s->k.IsListIter it l (i+1)->k.get? ↥s=some {cls:=.type "tuple",data:=.seq #[.int n s.toks,x]} ->
   (∀ b o,b≠e->b≠it->s.heap.get? b\o->k.get? b\o)->C (some<|.ref ↥s) {s with heap:=k,toks:=s.toks+1}):wpAny (model prog w) A (pyNext<|.ref e) C E s:=by
 have ty:s.TypeIs (.ref e) "enumerate":=#v[_,c,rfl];exact L3 (wpAny_attempt (wpAny_callSpecial?_slot ty F.slot_enumerate_next
  (wpAny_call_entry F.slot_enumerate_next ty F.entry_enumerate_next ((by
    let[j,g,d,f,os]:=s;show wpAny _ _ (field (.ref e) 2 >>= _) _ _ _;refine L3<|U5 c rfl rfl<|L3<|wpAny_nextOf_list_item hi I hx λS J m=>?_;have p:=(m.2 e ne).trans c;refine L3<|U5 p rfl rfl<|L3<|U5 p rfl rfl<|L3<|wpAny_mkInt<|L3<|wpAny_setField_rec p (by simp) λT e2 q=>(L3<|wpAny_setField_rec e2 (by simp) λt e3 u=>(L3<|wpAny_newTuple ?_));have h:IsEnum (t.push {cls:=.type "tuple",data:=.seq #[.int n f,x]}) e it (n+1) was:=L8 _ e3;generalize v:t.push {cls:=.type "tuple",data:=.seq #[.int n f,x]}=k4 at h;have H:t.objs.size=j.objs.size:=by rw[u.1,q.1,m.1]
    have lt:=N0 c;have K:k4.get? j.objs.size=some {cls:=.type "tuple",data:=.seq #[.int n f,x]}:=by rw[<- v,<- H];exact X7 _ rfl
    have kp:∀ b o,b≠e->b≠it->j.get? b\o->k4.get? b\o:=λb o a y z=>by
     rw[<- v];exact L8 _<|u.extBut b o a<|q.extBut b o a<|m.extBut b o y z
    have L:k4.IsListIter it l (i+1):=by
     rw[<- v];let[o,M,r]:=(J.extBut q.extBut ne.symm).extBut u.extBut ne.symm;exact#v[o,L8 _ M,r]
    show wpAny _ _ (Builtin.SmallTypes.ownedTupleIsFree (.ref e) >>= _) _ _ #v[k4,g,d,f+1,os];rw[H];refine L3<|L3<|U5 h rfl rfl<|M6<|L3<|wpAny_rule<|L3<|U5 h rfl rfl<|L3<|wpAny_setField_rec h (by simp) λU e5 B=>(L3<|L3<|wpAny_setField_rec e5 (by simp) λV N D=>(wpAny_setField_rec N (by simp) λO e7 G=>(L3<|wpAny_letGo<|M6 #v[_,rfl,(λk c1 P Q R=>M6<|go k c1 P Q R) O e7 (((L.extBut B.extBut ne.symm).extBut D.extBut ne.symm).extBut G.extBut ne.symm) (G.extBut _ _ (Nat.ne_of_gt lt)<|D.extBut _ _ (Nat.ne_of_gt lt)<|B.extBut _ _ (Nat.ne_of_gt lt) K)<|λb o a y z=>G.extBut b o a<|D.extBut b o a<|B.extBut b o a<|kp b o a y z])))))<|F.args_enumerate_next_1 _)))
def GK(c:A.handled=none)
  (a:IsEnum s.heap e it n was) (hi:s.heap.IsListIter it l i) (d:s.heap.IsList l us) (hx:us[i]?=none)
  (go:∀ k,Heap.ExtBut it s.heap k->C none {s with heap:=k}):wpAny (model prog w) A (pyNext<|.ref e) C E s:=by
 have ty:s.TypeIs (.ref e) "enumerate":=#v[_,a,rfl];refine L3<|wpAny_attempt<|wpAny_callSpecial?_slot ty F.slot_enumerate_next<|wpAny_call_entry F.slot_enumerate_next ty F.entry_enumerate_next ?_<|F.args_enumerate_next_1 _;show wpAny _ _ (field (.ref e) 2 >>= _) _ _ _;refine L3<|U5 a rfl rfl<|L3<|wpAny_nextOf_list_end c hi d hx λk x b hx=>?_;let[o,f,g]:=hx;exact L3<|wpAny_isInstance #v[o,f,g] isSubtype_stop<|M6<|go _ b
def nX(K:W4)(l:Addr)(n:Int):It:=
 ⟨λi H=>∃ xs x,cD K H l xs/\xs[i]?\x,λi H x H'=>∃ p v,(∀ xs,cD K H l xs->xs[i]?\v)/\x=.ref p/\H p=none/\H'=bU H p (.tup [.int<|n+i,v]),λi H=>∃ xs,cD K H l xs/\ -xs<=i⟩
def AH{P}{w}{K}{elts}{m}{pos}(e a l)(n)(t:e≠a)(W:l≠e)(Y:l≠a):
  dZ P w K (.Tuple elts m pos) (nX K l n) [e,a] e (λi h=>(∃ old,IsEnum h e a (n+i) old)/\h.IsListIter a l i) where
 mem:=by simp
 obj:=λi h c b d=>by
  obtain⟨⟨old,f⟩,o,F,G,hd⟩:=c;rcases(⇑d:b=e\/b=a) with z | z
  ·subst z;exact#v[_,f,λv q=>by cases q]
  ·subst z;exact#v[o,F,λv q=>by rw[hd] at q;cases q]
 keep:=λi h h' c k=>by
  obtain⟨⟨old,f⟩,hit⟩:=c;exact#v[#v[old,k e (by simp) _ f],hit.at<|k a<|by simp]
 item:=by
  intro X J L M G i y s σ H E I C c N;subst J L M;let[U,x,D,hx]:=N;let[O,Q,p,Z]:=I.list D;let[u,hu,ru]:=Q.get hx;obtain⟨⟨old,f⟩,hit⟩:=c;refine GJ f hit p.isList ⇑hu t λh1 F A hT hk=>#v[_,rfl,wpAny_letOwnedTupleGo_enum F λV R j=>?_];have g:=N0 f;have B:=(j.2 _<|Nat.ne_of_gt g).trans hT;have kk:∀ b o,b∉[e,a]->s.heap.get? b\o->V.get? b\o:=λb o d q=>by
   have r:b≠e/\b≠a:=by simpa using d
   exact(j.2 b r.1).trans (hk b o r.1 r.2 q)
  have I1:=I.turnedNew (t':=s.toks+1) (xs:=[.int<|n+i,x]) kk C (M8 _) #v[#v[_,B,rfl,_,rfl],_,B,rfl] (.cons #v[_,rfl]<|.cons ru .nil) (by show 2<=sizeLine;decide);have S:IsEnum V e a (n+((i+1:Nat):Int)) u:=by
   have q:=R;rw[show n+((i+1:Nat):Int)=n+i+1 by lia];exact q
  refine#v[.ref ↥s,_,I1,rfl,#v[_,x,(λys hy=>by rw[I.list_inj hy D];exact hx),rfl,I.hok.fresh<|M8 _,rfl],#v[#v[_,S],A.at λo q=>(j.2 a t.symm).trans q],λb d=>?_];rw[jh]
  ·exact(C b d).1
  ·intro z;have:b < ↥s:=by
    let[oi,T,_]:=id hit;rcases(⇑d:b=e\/b=a) with q | q
    ·rw[q];exact g
    ·rw[q];exact N0 T
   exact absurd this (by rw[z];exact Nat.lt_irrefl _)
 done:=by
  intro X J L M G i y s σ H E I C c N;subst J L M;let[U,D,hx]:=N;let[O,Q,p,Z]:=I.list D;obtain⟨⟨old,f⟩,hit⟩:=c;have hl:=-Q;exact GK (I.ok.hd G) f hit p.isList (by simp;lia) λh1 eb=>#v[rfl,I.turnedL (λb o d q=>eb b o (by simp at d;exact d.2) q) C]
 self:=λ_ _ _ _ _ c h=>wpAny_pyIter_enum c.1.choose_spec h
def AI(K:W4)(tl:TA):TI:=λs H R=>tl s H λvs H1=>∃ a xs,vs=[.ref a]/\cD K H1 a xs/\R (nX K a 0) H1
section
variable {X:Cx}
def GL{elts}{n}{tpos p pos}{a}{ta}(k:Gl X "enumerate")(m:X.mg "enumerate" = none)(r:PA X [a] ta)(t:starEach [a] X.env=[(false,eval a X.env)]:=by rfl):
  PI X (.Tuple elts n tpos) (.Call (.Name "enumerate" p) [a] [] pos) (AI X.K ta):=by
 intro c s U H R I h;refine Call_<|JF I k m (show bootBuiltins "enumerate" = some (.type "enumerate") by decide +kernel)<|PyProof.Rows.callWith_type1 (thn (r pos c s U H _ I h) λG s1 ⟨vs,i,g,v,w⟩=>?_) t rfl;let[l,J,rfl,x,q]:=w;let[u,rfl,y]:=v.one;cases y;let[A,L,pl,M]:=g.list x;have d:l < ↥s1:=by
  let[o,_,e,_]:=pl;exact N0 e
 refine call_enumerate_list pl.isList λB j hit C D=>?_;have E:bP X c U i {s1 with heap:=B}:=g.kept D;refine PySem.wpAny_pyIter_enum j #v[↥s1+1,[↥s1+1,↥s1],_,_,i,rfl,E,AH _ _ l 0 (Nat.succ_ne_self _) (N5<|Nat.lt_succ_of_lt d)<|N5 d,#v[#v[_,by simpa using j],hit],λb F=>?_,q];have f:↥s1<=b:=by
  rcases(⇑F:b=↥s1+1\/b=↥s1) with z | z
  ·rw[z];exact Nat.le_succ _
  ·rw[z];exact M8 _
 exact g.fpOk f<|g.hok.fresh f
end
section
variable {X:Cx}
def GM(c:X.calm=true):JX X (.builtin "sum") (λxs H Q=>∃(p:Addr) (ns:List Int),xs=[.ref p]/\cD X.K H p (ns.map V.int)/\Q (.int ns.sum) H):=by
 intro b s w H xs k Q I r h;let[p,ns,rfl,d,q]:=h;let[u,rfl,e]:=r.one;cases e;let[f,g,pl,l]:=I.list d;have hi:=Ge g;let[a,hx]:=hi.allInts.items;refine sum_intListG (I.ok.hd c) (hx▸pl.isList) λm n o i=>?_;have j:ns=a.toList.map (·.1):=by
  rw[<- nums_intItems,<- hx];exact(hi.numsOf).symm
 have e2:preSum (numAt a) a.size=ns.sum:=by
  rw[preSum_eq,List.take_of_length_le<|by simp,j]
 rw[e2];exact#v[.int ns.sum,H,I.kept i,#v[_,rfl],q]
end
section
variable {s:Type} [DecidableEq s]
def KL(kvs:List<|s×V)(k:s):Option V:=(kvs.find? λkv=>decide<|kv.1=k).map (·.2)
def Jj(kvs:List<|s×V)(k:s)(v:V):List (s×V):=
 if(kvs.any λkv=>decide<|kv.1=k)=true then kvs.map (λkv=>if kv.1=k then(kv.1,v) else kv) else kvs++[(k,v)]
def Yy{p}{r:List (s×V)}(e:p.1=k):KL (p::r) k\p.2:=by simp[KL,List.find?_cons,e]
def Yn{p}{r:List (s×V)}(e:¬ p.1=k):KL (p::r) k=KL r k:=by simp[KL,List.find?_cons,e]
theorem AJ(k):∀ kvs:List (s×V),(kvs.any λkv=>decide<|kv.1=k)=(KL kvs k).isSome
 | []=>rfl
 | p::r=>by
  rw[List.any_cons];by_cases e:p.1=k
  ·simp only[Yy e,X0 e,Bool.true_or,Option.isSome_some]
  ·rw[Yn e,X1 e,Bool.false_or];exact AJ k r
def J9(a)(k:s)(v):-(Jj a k v)<=-a+1:=by
 unfold Jj;split
 ·rw[L1];lia
 ·rw[N3,M1,List.length_nil];lia
def cT.isSome_eq(r:cT o u):o.isSome=u.isSome:=by
 cases o with
 | none=>cases u with
  | none=>rfl
  | some _=>exact(r).elim
 | some _=>cases u with
  | none=>exact(r).elim
  | some _=>rfl
def cT.getD(r:cT o u)(rd:bR d d'):bR (o.getD d) (u.getD d'):=by
 cases o with
 | none=>cases u with
  | none=>exact rd
  | some _=>exact(r).elim
 | some _=>cases u with
  | none=>exact(r).elim
  | some _=>exact r
def KV.val(r:KV kvs vs)(k:s):cT (KL kvs k) (valueAt vs k):=by
 induction r with
 | nil=>exact True.intro
 | @cons p q i a h t f=>
  let[d,g]:=h;by_cases e:p.1=k
  ·have c:=d.symm.trans e;have b:valueAt (q::a) k\q.2:=by simp[valueAt,List.find?_cons,c]
   rw[Yy e,b];exact g
  ·have c:¬ q.1=k:=λz=>e<|d.trans z;have b:valueAt (q::a) k=valueAt a k:=by simp[valueAt,List.find?_cons,c]
   rw[Yn e,b];exact f
def KV.any(r:KV kvs vs)(k:s):(kvs.any λkv=>decide<|kv.1=k)=vs.any λkv=>decide (kv.1=k):=by
 induction r with
 | nil=>rfl
 | cons h t a=>rw[List.any_cons,List.any_cons,a,h.1]
def KV.repl(r:KV kvs vs)(k:s)  (b:bR y u):
  KV (kvs.map λkv=>if kv.1=k then(kv.1,y) else kv) (vs.map λkv=>if kv.1=k then(kv.1,u) else kv):=by
 induction r with
 | nil=>exact .nil
 | @cons p q f g h t c=>
  rw[L5,L5];refine .cons ?_ c;let[a,d]:=h;by_cases e:p.1=k
  ·rw[if_pos e,if_pos<|a.symm.trans e];exact#v[a,b]
  ·rw[if_neg e,if_neg<|λz=>e<|a.trans z];exact#v[a,d]
def KV.put(r:KV kvs vs)(k:s)  (a:bR y u):KV (Jj kvs k y) (stored vs k u):=by
 unfold Jj stored;rw[r.any k];by_cases e:(vs.any λb=>decide<|b.1=k)=true
 ·rw[if_pos e,if_pos e];exact r.repl k a
 ·rw[if_neg e,if_neg e];exact Paired.snoc r #v[rfl,a]
def KV.keys{a}{vs:List (s×Value)}(r:KV a vs):a.map (·.1)=vs.map (·.1):=by
 induction r with
 | nil=>rfl
 | cons h t b=>rw[L5,L5,b,h.1]
def KV.length(r:KV kvs vs):-kvs=-vs:=Paired.length r
end
def uB(r:bR (kV k) u):(yi P w).is k u=true:=by
 cases k with
 | inl i=>let[t,e]:=(r);subst e;exact E9 i t
 | inr x=>let[t,e]:=(r);subst e;exact E' x t
theorem xu:∀{ks}{us},bQ (ks.map kV) us->ItemsAre (yi P w) ks us
 | [],_,r=>by rw[List.map_nil] at r;cases r;exact .nil
 | k::ks,_,r=>by
  cases r with
  | cons h t=>exact .cons (uB h)<|xu t
abbrev KT(H:Hp):List (List cS×V)->List (List cS×Addr×Value)->Prop:=Paired λp q=>p.1=q.1/\H q.2.1\(.tup<|p.1.map kV)/\bR p.2 q.2.2
def KT.val(r:KT H kvs xs)(k):cT (KL kvs k) ((atKey xs k).map (·.2)):=by
 induction r with
 | nil=>exact True.intro
 | @cons p q i a h t f=>
  let[d,_,g]:=h;by_cases e:p.1=k
  ·have c:=d.symm.trans e;have b:atKey (q::a) k\q.2:=by simp[atKey,List.find?_cons,c]
   rw[Yy e,b];exact g
  ·have c:¬ q.1=k:=λz=>e<|d.trans z;have b:atKey (q::a) k=atKey a k:=by simp[atKey,List.find?_cons,c]
   rw[Yn e,b];exact f
def KT.repl(r:KT H kvs xs)(k)  (c:bR y u):
  KT H (kvs.map λkv=>if kv.1=k then(kv.1,y) else kv) (xs.map<|putAt k u):=by
 induction r with
 | nil=>exact .nil
 | @cons p q g i h t d=>
  rw[L5,L5];refine .cons ?_ d;let[a,b,f]:=h;unfold putAt;by_cases e:p.1=k
  ·rw[if_pos e,if_pos<|a.symm.trans e];exact#v[a,b,c]
  ·rw[if_neg e,if_neg<|λz=>e<|a.trans z];exact#v[a,b,f]
def KT.put(r:KT H kvs xs)(k)  (c:H b\(.tup<|k.map kV)) (a:bR y u):
  KT H (Jj kvs k y) (storedH xs k b u):=by
 have e:(kvs.any λd=>decide<|d.1=k)=(atKey xs k).isSome:=by
  rw[AJ,(r.val k).isSome_eq,Option.isSome_map]
 unfold Jj storedH;rw[e];by_cases q:(atKey xs k).isSome=true
 ·rw[if_pos q,if_pos q];exact r.repl k a
 ·rw[if_neg q,if_neg q];exact Paired.snoc r #v[rfl,c,a]
def KT.keeps(r:KT H kvs xs)(a:∀ b ys,H b\(.tup ys)->H' b\(.tup ys)):KT H' kvs xs:=
 Paired.mapP r λ_ _ z=>#v[z.1,a _ _ z.2.1,z.2.2]
def AK(ok:c8 P w H h)(e:Rd H a u):cu P w H h a u:=e.ok ok
def uq(ok:c8 P w H h)(e:Rd H a<|.dK kvs):-kvs<=sizeLine/\(a==sysModules)=false/\∃ vs,KV kvs vs/\h.DictOf (yi P w) a vs:=
 AK ok e
def rx(ok:c8 P w H h)(e:H a\(.dK kvs)):-kvs<=sizeLine/\(a==sysModules)=false/\∃ vs,KV kvs vs/\h.DictOf (yi P w) a vs:=uq ok<|.inl e
def xI(ok:c8 P w H h)(e:H a\(.tup<|ks.map kV)):(tupleKind<|yi P w).is h ks a:=by
 obtain⟨_,b,r,⟨o,c,d,n,f⟩,_⟩:=(ok a _ e);exact#v[o,b.toArray,n,c,d,f,by simpa using xu r]
def kM(ok:c8 P w H h)(e:Rd H a<|.dT kvs):-kvs<=sizeLine/\(a==sysModules)=false /\
  ∃ xs,KT H kvs xs/\h.DictOfH (tupleKind<|yi P w) a xs:=by
 let[z,y,xs,r,o,c,d,f,g,i,j,k]:=(AK ok e);refine#v[z,y,xs,r,o,c,d,f,g,i,j,λx hx=>?_,k];have all:∀{l}{m},KT H l m->∀ x∈m,(tupleKind<|yi P w).is h x.1 x.2.1:=by
  intro l m q
  induction q with
  | nil=>intro x hx;exact nomatch hx
  | @cons p q s u b t n=>
   intro x hx;rcases M4.mp hx with e | hx
   ·subst e;exact xI ok (by rw[<- b.1];exact b.2.1)
   ·exact n x hx
 exact all r x hx
def AL(ok:c8 P w H h)(e:H a\(.dT kvs)):-kvs<=sizeLine/\(a==sysModules)=false /\
  ∃ xs,KT H kvs xs/\h.DictOfH (tupleKind<|yi P w) a xs:=kM ok<|.inl e
def cG(H:Hp)(a:Addr)(y:V)(r:Option V):Prop:=
 (∃ kvs k,Rd H a (.dK kvs)/\y=kV k/\r=KL kvs k) \/ ∃ kvs k b,Rd H a (.dT kvs)/\y=.ref b/\H b\(.tup<|k.map kV)/\r=KL kvs k
def cW(H:Hp)(a:Addr)(y v:V)(H':Hp):Prop:=
 (∃ kvs k,H a\(.dK kvs)/\y=kV k/\ -kvs<sizeLine/\H'=bU H a (.dK<|Jj kvs k v)) \/
 ∃ kvs k b,H a\(.dT kvs)/\y=.ref b/\H b\(.tup<|k.map kV)/\ -kvs<sizeLine/\H'=bU H a (.dT<|Jj kvs k v)
theorem cG.k{H}{a}{b}{k}(e:H a\(.dK b)):cG H a (kV k) (KL b k):=.inl #v[b,k,.inl e,rfl,rfl]
def cG.t{c}{k}(e:H a\(.dT c))(d:H b\(.tup<|k.map kV)):cG H a (.ref b) (KL c k):=.inr #v[c,k,b,.inl e,rfl,d,rfl]
theorem cW.k{H}{a}{b}{k}{v}(e:H a\(.dK b))(c:-b<sizeLine):cW H a (kV k) v (bU H a<|.dK<|Jj b k v):=.inl #v[b,k,e,rfl,c,rfl]
def cW.t{c}{k}(e:H a\(.dT c))(d:H b\(.tup<|k.map kV))(f:-c<sizeLine):
  cW H a (.ref b) v (bU H a<|.dT<|Jj c k v):=.inr #v[c,k,b,e,rfl,d,f,rfl]
def bP.big(I:bP X pins u H s):sysModules < ↥s:=by
 have h:=(I.mod.glob.keeps I.bk).lt;exact Nat.lt_trans (by decide) h
def xR(q:A.units+1<cLine)(I:bP X pins U H s)(g:cG H a y<|some v)(o:bR y u)(h:∀ w' s',bP X pins U H s'->bR v w'->Q w' s'):
  wpAny (model X.prog X.w) A (getItem (.ref a) u) Q E s:=by
 rcases g with⟨f,k,e,i,l⟩ | ⟨f,k,b,e,i,r,l⟩
 ·subst i;let[z,hd,vs,c,j]:=uq I.hok e;let[w',m,d]:=cT.some_of (by rw[l];exact c.val k);exact wpAny_getItem_of (uB o) j.mapOf m<|h w' _ (I.tok _) d
 ·subst i;cases(o);let[z,hd,x,c,j]:=kM I.hok e;let[w',m,d]:=cT.some_of (by rw[l];exact c.val k);let[p,t,n]:=Option.map_eq_some_iff.mp m;refine wpAny_getItem_heap (tupleKind_room_in1 q) (xI I.hok r) j t ?_;rw[n];exact h w' _ (I.tok _) d
def GN(m:A.units+1<cLine)(I:bP X pins v H s)(g:cG H a y o)(j:bR y u)(h:∀ s',bP X pins v H s'->Q (.bool<|!o.isSome) s'):
  wpAny (model X.prog X.w) A (compareOp .NotIn u<|.ref a) Q E s:=by
 rcases g with⟨d,k,e,f,l⟩ | ⟨d,k,b,e,f,n,l⟩
 ·subst f;let[z,hd,vs,c,i]:=uq I.hok e;refine wpAny_notIn_of (uB j) hd i.mapOf ?_;rw[<- (c.val k).isSome_eq,<- l];exact h _<|I.tok _
 ·subst f;cases(j);let[z,hd,p,c,i]:=kM I.hok e;refine wpAny_notIn_heap (tupleKind_room_in1 m) (xI I.hok n) hd i ?_;have q:=(c.val k).isSome_eq;rw[Option.isSome_map] at q;rw[<- q,<- l];exact h _<|I.tok _
def zf(I:bP X pins u H s)(c:l7<|H a)(d:Heap.SameBut a s.heap h')(e:∃ q,h'.get? a\q)(new:cu X.prog X.w (bU H a ob) h' a ob):
  bP X pins u (bU H a ob) {s with heap:=h',toks:=t'}:=
 I.write c (.inl rfl) (λb q f z=>(d.2 b f).trans z) e new
def rA(z:-kvs<=sizeLine)(hd:(a==sysModules)=false)(b:KV kvs vs)(c:h'.DictOf (yi P w) a vs):
  cu P w H' h' a (.dK kvs):=#v[z,hd,vs,b,c]
def AM{A:Around}(G:∀ kvs,H a\(.dT kvs)->A.units+1<cLine)(I:bP X pins U H s)(g:cW H a y v H')(x:bR y u)(B:bR v r)(h:∀ s',bP X pins U H' s'->Q () s'):
  wpAny (model X.prog X.w) A.in1 (dictSet a u r) Q E s:=by
 rcases g with⟨kvs,k,e,j,l,m⟩ | ⟨kvs,k,b,e,j,C,l,m⟩
 ·subst j m;let[z,hd,vs,d,n]:=rx I.hok e;have o:-vs<=sizeLine:=by rw[<- d.length];exact z
  have p:-(Jj kvs k v)<=sizeLine:=by have:=J9 kvs k v;lia
  refine wpAny_dictSet_pairs (hsz:=o) (uB x) n λD f t=>h _ ?_;have J:∃ q,D.get? a\q:=let ⟨q,_,_,i,_⟩:=f;#v[q,i]
  exact zf I (by rw[e];exact True.intro) t J<|rA p hd (d.put k B) f
 ·subst j m;cases(x);let[z,hd,K,d,n]:=AL I.hok e;have o:-K<=sizeLine:=by rw[<- Paired.length d];exact z
  have p:-(Jj kvs k v)<=sizeLine:=by have:=J9 kvs k v;lia
  refine wpAny_dictSet_heap (hsz:=o) (tupleKind_room_in1<|G _ e) (xI I.hok C) n λD f t=>h _ ?_;let[q,L,M,i,N,O,P,_,R]:=f;refine zf I (by rw[e];exact True.intro) t ⟨q,i⟩ ⟨p,hd,_,(d.put k C B).keeps λc S F=>?_,q,L,M,i,N,O,P,R⟩;rw[jh<|(show c≠a from by intro e;subst e;rw[F] at e;exact(λz=>nomatch z) (X3 e))];exact F
def wI(c:A.units+1<cLine)(I:bP X pins x H s)(g:cW H a y v H')(f:bR y u)(i:bR v r)(h:∀ s',bP X pins x H' s'->Q () s'):
  wpAny (model X.prog X.w) A (setItem (.ref a) u r) Q E s:=by
 have b:s.TypeIs (.ref a) "dict":=by
  rcases g with⟨_,_,e,_⟩ | ⟨_,_,_,e,_⟩
  ·let[_,_,_,_,d]:=rx I.hok e;exact d.typeIs
  ·let[_,_,_,_,d]:=AL I.hok e;exact d.typeIs
 unfold setItem;refine wpAny_holding<|L3<|wpAny_sequenceKey b (by decide) ?_;refine L3<|wpAny_callSpecial?_slot (name:=Str.ofString "__setitem__") b PySem.F.slot_dict_setitem<|wpAny_call_entry PySem.F.slot_dict_setitem b PySem.F.entry_dict_setitem ?_<|PySem.F.args_dict_setitem_3 _ _ _;refine L3<|wpAny_notOrdered_dict b ?_;show wpAny _ _ (dictSet a u r >>= _) _ _ s;exact L3<|AM (λ_ _=>c) I g f i λs1 J=>M6 #v[.none,rfl,M6<|h s1 J]
def AN(i:Expr):Prop:=∀ ov iv,subscripted i false ov iv=operate [ov,iv] (getItem ov iv)
def GO{prog}{w}{A}{E}{s}{env}{value slice}{pos}{T id}{Q}
  (d:typeLookup (.type T) "__getitem__" = pure (some<|.builtin id)) (e:AN slice)
  (h:wpAny (model prog w) A (eval value env) (λo s₁=>wpAny (model prog w) A (eval slice env) (λi s₂=>s₂.TypeIs o T/\wpAny (model prog w) A (getItem o i) Q E s₂) E s₁) E s):
  wpAny (model prog w) A (eval (.Subscript value slice pos) env) Q E s:=by
 refine Subscript_<|wpAny_mono h (λo s₁ f=>wpAny_mono f (λi s₂ b=>?_) λ_ _ x=>x) λ_ _ x=>x;let[g,b]:=b;refine L3 ?_;refine L3<|wpAny_specialOf g d ?_;have a:wpAny (model prog w) A (subscripted slice false o i) (λr c=>wpAny (model prog w) A (letTemporaryGo value o r >>= λ_=>pure r) Q E c) E s₂:=by
  rw[e o i];exact wpAny_operating<|wpAny_mono b (λr c j=>L3<|wpAny_letTemporaryGo<|M6 j) λ_ _ x=>x
 first
  | exact M6 (L3 a)
  | exact L3 (M6 (L3 a))
  | exact L3 a
def AO(td ty:TE):TE:=λs H Q=>td s H λx H1=>ty s H1 λy H2=>∃ a v,x=.ref a/\cG H2 a y (some v)/\Q v H2
def uV(ty td:TE):TE:=λs H Q=>ty s H λy H1=>td s H1 λx H2=>∃ a o,x=.ref a/\cG H2 a y o/\Q (.bl<|!o.isSome) H2
def mj(td ty tv:TE):TS:=λD s H=>tv s H λv H1=>td s H1 λx H2=>ty s H2 λy H3=>∃ a H4,x=.ref a/\cW H3 a y v H4/\D.nx s H4
def kR(td ty tv:TE)(rd:V->V->Hp->VK->Prop):TS:=λD s H=>td s H λx H1=>ty s H1 λy H2=>∃ a v,x=.ref a/\cG H2 a y (some v) /\
 tv s H2 λy2 H3=>rd v y2 H3 λz H4=>∃ H5,cW H4 a y z H5/\D.nx s H5
def GP(c:X.A.units+1<cLine)(hi:PE X i ty)(d:PE X o td):PC X .NotIn i o (uV ty td):=by
 intro b s U H Q I h;refine thn (hi b s U H _ I h) λv s1 ⟨y,e,f,j,k⟩=>thn (d b s1 U e _ f k) λu w l=>?_;let[x,m,n,p,a,q,ex,g,r]:=l;subst ex;obtain rfl:u=Value.ref a:=p;exact GN c n g j λz t=>#v[.bl<|!q.isSome,m,t,rfl,r]
def uD(c:X.A.units+1<cLine)(d:PE X o td)(hi:PE X i ty)(e:PE X value tv)(f:swapsWith value (some<|.Subscript o i pos') pos.line X.env=pure false):
  PS X (.Assign [.Subscript o i pos'] value pos) (mj td ty tv):=by
 intro b s U H D I h;refine wpAny_Assign_Subscript (thn (e b s U H _ I h) λr s1 ⟨v,j,k,l,m⟩=>thn (d b s1 U j _ k m) λu n ⟨x,p,q,t,w⟩=>thn (hi b n U p _ q w) λJ K z=>?_) f;let[y,L,B,C,a,E,ex,g,F]:=z;subst ex;obtain rfl:u=Value.ref a:=t;exact wI c B g C l λM G=>#v[U,E,G,F]
def Q7(j:X.A.units+1<cLine)(l:PE X o td)(hi:PE X i ty)(m:PE X value tv)(c:qt X op rd)
  (n:∀ ov iv new,augStore i ov iv new=(do holding [new,ov,iv] (setItem ov iv new);release [new,ov,iv] [];pure .next)):PS X (.AugAssign (.Subscript o i tpos) op value pos) (kR td ty tv rd):=by
 intro b s σ H D I h;refine wpAny_AugAssign_SubscriptAny (thn (l b s σ H _ I h) λu s1 ⟨x,p,q,r,t⟩=>thn (hi b s1 σ p _ q t) λiv U d=>?_) n;let[y,w,B,k,a,v,ex,g,C]:=d;subst ex;obtain rfl:u=Value.ref a:=r;refine xR j B g k λE F G e=>thn (m b F σ w _ G C) λJ K ⟨L,M,N,f,O⟩=>thn (c b K σ M v L E J _ N e f O) λV W d=>?_;let[z,Y,P,Q,R,S,T]:=d;exact wI j P S k Q λZ I6=>#v[σ,R,I6,T]
def AQ(h:Heap)(a:sysModules<h.objs.size):cu P w H (h.push {cls:=.type "dict",data:=.dict #[]}) h.objs.size (.dK []):=
 ⟨U4 _,U1.mpr<|Ne.symm<|N5 a,[],.nil,Heap.DictOf.new h⟩
def GQ:TE:=λ_ H Q=>∀ p,H p=none->Q (.ref p) (bU H p<|.dK [])
structure M2(X:Cx)(o:Expr)(m:Str)(apos:Pos)(e f:Expr)(cpos:Pos):Prop where
 base:attributeBase o m X.env (eval o X.env)=eval o X.env
 few:((backTo cpos<|starEach [e,f] X.env).all (λx=>!x.1)&&(backToKw cpos<|keywordEach [] X.env).all (λx=>x.1.isSome)
  && decide (-([e,f]:List Expr)+-([]:List Keyword)+(if([]:List Keyword).isEmpty then 0 else 1)<30))=true
 line:(apos.endLine==cpos.line)=true
 trees:backTo cpos (starEach [e,f] X.env)=[(false,eval e X.env),(false,eval f X.env)]
def AR(H:Hp)(a:Addr):Prop:=(∃ kvs,Rd H a<|.dK kvs) \/ ∃ kvs,Rd H a<|.dT kvs
def rB(I:bP X pins u H s)(d:AR H a):
  s.TypeIs (.ref a) "dict"/\(∀ b,Value.ref a=.ref b->∃ ob,s.heap.get? b\ob/\ob.dict=none)/\(a==sysModules)=false:=by
 rcases d with⟨f,e⟩ | ⟨f,e⟩
 ·let[_,hd,vs,_,c]:=uq I.hok e;refine#v[c.typeIs,λb q=>?_,hd];cases q;let[ob,_,_,g,h,_]:=c;exact#v[ob,g,h.2.1]
 ·let[_,hd,i,_,c]:=kM I.hok e;refine#v[c.typeIs,λb q=>?_,hd];cases q;let[ob,_,_,g,h,_]:=c;exact#v[ob,g,h.2.1]
def GR(n:A.units+1<cLine)(I:bP X pins x H s)(g:cG H a y o)(m:bR y u)(rd:bR d r)(h:∀ w' s',bP X pins x H s'->bR (o.getD d) w'->Q w' s'):
  wpAny (model X.prog X.w) A (call (.builtin "dict.get") [.ref a,u,r]) Q E s:=by
 rcases g with⟨i,k,e,j,l⟩ | ⟨i,k,b,e,j,p,l⟩
 ·subst j;let[z,hd,vs,c,f]:=uq I.hok e;refine call_meetsIn PySem.F.slot_dict_get f.typeIs PySem.F.entry_dict_get (PySem.F.args_dict_get_3 _ _ _) (meets_dict_get_default (yi X.prog X.w) a (uB m) hd r) #v[_,f.mapOf,h _ _ (I.tok _) ?_];rw[l];exact(c.val k).getD rd
 ·subst j;cases(m);let[z,hd,q,c,f]:=kM I.hok e;refine call_meetsIn PySem.F.slot_dict_get f.typeIs PySem.F.entry_dict_get (PySem.F.args_dict_get_3 _ _ _) (meetsH_dict_get_default (tupleKind<|yi X.prog X.w) a b hd r) #v[tupleKind_room_in1 n,k,q,xI I.hok p,f,h _ _ (I.tok _) ?_];rw[l];exact(c.val k).getD rd
def rC(td ty tx:TE):TE:=λs H Q=>td s H λx H1=>∃ a,x=.ref a/\AR H1 a/\ty s H1 λy H2=>tx s H2 λz H3=>∃ o,cG H3 a y o/\Q (o.getD z) H3
def AS(j:X.A.units+1<cLine)(k:PE X o td)(l:PE X e ty)(n:PE X f tx)(m:M2 X o "get" apos e f cpos):PE X (.Call (.Attribute o "get" apos) [e,f] [] cpos) (rC td ty tx):=by
 intro b s U H Q I h;refine wpAny_Call_method m.base m.few m.line PySem.F.plainAttrs_dict PySem.F.slot_dict_get PySem.F.type_dict_get<|thn (k b s U H _ I h) λu s1 p=>?_;let[x,q,i,r,a,ex,d,t]:=p;subst ex;obtain rfl:u=Value.ref a:=r;let[t1,v,_]:=rB i d;refine#v[t1,v,?_];rw[m.trees];refine Calls.callWith_builtin rfl<|Calls.evalArgs_plain<|Calls.spliced_cons<|thn (l b s1 U q _ i t) λN w ⟨y,B,C,D,E⟩=>
  Calls.spliced_cons (thn (n b w U B _ C E) λO P ⟨z,G,J,K,R,g,L⟩=>Calls.spliced_nil ?_)
 exact GR j J g D K λS T M c=>#v[_,G,M,c,L]
end L2
namespace PySem
open Sem (wp)
namespace F
def cg:plainId "dict.update.loop" = true:=by decide +kernel
def cj:entryFor table "dict.update.loop" = some Builtin.«dict.update.loop»:=entryFor_of_fast (by kernel_rfl)
end F
section
variable {prog:Program}{w:World}{A:Around}{E:J0}{h:Heap}{g:Array GenState}{d:Drawn}{t:Nat}{os:OsState}{a:Addr}{o:Obj}
def YN{o:Obj}{T id}{Q}(j:Slot T "__getattribute__" id)(x:typeLookup (.type T) "__getattr__" = pure none)(k:entryFor table id=some Builtin.«object.__getattribute__»)(p:∀ u,argsOk id #v[[.ref a,.str "keys" u],[]])(me:∀ u,Meets (Builtin.«object.__getattribute__» #v[[.ref a,.str "keys" u],[]])<|λA R s=>s.heap.get? a\o/\raisesAttr (.ref a) "keys" A R s)(hx:h.get? a\o)(m:o.cls=.type T)(q:A.handled=none)
  (r:∀ h' t',(∀ b o,h.get? b\o->h'.get? b\o)->Q none #v[h',g,d,t',os]):wpAny (model prog w) A (getAttr? (.ref a) "keys") Q E #v[h,g,d,t,os]:=by
 let[c,bY,v,y]:=o;simp only at m;subst m;have n:∀ f,(#v[h,g,d,f,os]:Shared).TypeIs (.ref a) T:=λ_=>#v[_,hx,rfl];have z:=sub_AttributeError;have B:=j.lookup;have C:=j.bind<|.ref a;refine L3<|wpAny_mkText<|L3<|wpAny_attempt ?_;unfold getAttrBy
 repeat (any_goals (first | assumption | exact n _ | ((with_reducible show wpAny _ _ (call (Value.builtin id) _ _) _ _ _);refine call_meets j (n _) k (p _) (me _) #v[hx,q,λh' f e i=>?_]) | wp_step))
 let[t',D,F]:=i.there;show wpAny _ _ (getattributeRaised _ _ _ _ _ _ _) _ _ _;unfold getattributeRaised;have l:=λt=>r h' t i.keeps
 repeat (any_goals (first | assumption | exact l _ | wp_step))
def GU{its}{n}{sl}{Q}(c:A.handled=none)(hx:h.get? a=some {cls:=.type "list",data:=.seq its n,slots:=sl})
  (e:∀ h' t',(∀ b o,h.get? b\o->h'.get? b\o)->Q none #v[h',g,d,t',os]):wpAny (model prog w) A (getAttr? (.ref a) "keys") Q E #v[h,g,d,t,os]:=
 YN F.slot_list_getattribute am_list_getattr_none am_entry_list_getattribute (λ_=>F.args_list_getattribute_2 _ _) (λu=>meets_getattribute_miss_list a its n sl "keys" u (am_miss_of_fast<|by kernel_rfl) rfl) hx rfl c e
end
section
variable {prog:Program}{w:World}{K:Type} [DecidableEq K] {knd:KeyKind prog w K}{A:Around}{E:J0}{s:Shared}
def YS(hx:s.heap.get? p\o)(b:o.cls=.type "tuple")(hd:o.data=.seq #[key,x] m)(d:Q [key,x] s):wpAny (model prog w) A (Builtin.Dict.pairItems<|.ref p) Q E s:=by
 let[oc,od,a,c]:=o;subst b;subst hd
 repeat (any_goals (first | assumption | wp_step))
def rD(knd:KeyKind prog w K)(h:Heap)(v:Value)(kv:K×Value):Prop:=∃ p key m o,v=.ref p/\h.get? p\o/\o.cls=.type "tuple"/\o.data=.seq #[key,kv.2] m/\knd.is kv.1 key=true
end
end PySem
namespace L2
open PySem PySem.Spec PyProof.Rows
theorem AT(I:bP X pins U H s):∀{ys}{its}{ps},bQ ys its->-ys=-ps ->
  (∀(j:Nat) y,ys[j]?\y->∃ kv t,ps[j]?\kv/\y=.ref t/\cK X.K H t [kV kv.1,kv.2]) ->
  ∃ qs:List (cS×Value),KV ps qs/\∀(j:Nat) v,its[j]?\v->∃ kv,qs[j]?\kv/\rD (yi X.prog X.w) s.heap v kv
 | [],its,ps,b,a,c=>by
  cases b;have:=List.length_eq_zero_iff.mp a.symm;subst this;exact#v[[],.nil,λj v e=>by simp at e]
 | y::ys,its,[],b,a,c=>by simp at a
 | y::ys,its,kv::ps,b,a,c=>by
  cases b with
  | cons h i=>
   rename_i u C;let[qs,r,q]:=AT I i ⇑a λj y e=>c (j+1) y ⇑e;let[k,t,l,rfl,d]:=c 0 y rfl;cases l;cases(h);obtain⟨f,m,⟨o,e,p,n,hd⟩,_⟩:=I.tuple d;cases m with
   | cons x z=>
    cases z with
    | cons A B=>
     cases B;rename_i key val;refine#v[(kv.1,val)::qs,.cons #v[rfl,A] r,λj v g=>?_];cases j with
     | zero=>
      cases g;exact#v[_,rfl,t,key,n,o,rfl,e,p,hd,uB x]
     | succ j=>exact q j v ⇑g
theorem uQ:∀{ps}{qs}{a}{b:List (cS×Value)},KV ps qs->KV a b->KV (ps.foldl (λa kv=>Jj a kv.1 kv.2) a) (qs.foldl (λa kv=>stored a kv.1 kv.2) b)
 | [],_,_,_,.nil,h=>h
 | p::ps,q::qs,a,b,.cons c d,h=>by
  rw[U9,U9];refine uQ d ?_;have:=h.put p.1 c.2;rw[c.1] at this ⊢;exact this
def AU{ps:List (cS×V)}:∀{qs},-(ps.foldl (λa kv=>Jj a kv.1 kv.2) qs)<=-qs+-ps:=by
 induction ps with
 | nil=>intro qs;simp
 | cons p ps b=>
  intro qs;rw[U9];have c:=b (qs:=Jj qs p.1 p.2);have d:-(Jj qs p.1 p.2)<=-qs+1:=by unfold Jj;split<;>simp
  rw[M1]
  lia
def Yh{D}{o u}(b:H D=none)(e:H a\u):bU H D o a\u:=by rw[jh λz=>by rw[z,b] at e;cases e];exact e
def AV{K}{D}{o}(b:H D=none)(h:cD K H a xs):cD K (bU H D o) a xs:=Or.imp_left (Or.imp (Yh b) λ⟨q,h⟩=>#v[q,Yh b h]) h
def GV{X}{A:Around}{R}{Hs:Nat->Hp}{ys:List V}{d N D}(T:A.handled=none)(U:∀ i kvs,Hs i D\(.dT kvs)->A.units+1<cLine)
  (f:∀ i,cD X.K (Hs i) N ys/\e_ X pins (Hs i) d)
  (W:∀(j:Nat) y,ys[j]?\y->∃ t a b,y=.ref t/\cK X.K (Hs j) t [a,b]/\cW (Hs j) D a b (Hs<|j+1))
  (Y:∀ s',bP X pins σ (Hs (-ys)) s'->R (.ok<|.ret .none) s'):∀ k i s,i+k=-ys->bP X pins σ (Hs i) s->s.heap.IsListIter d N i ->
  codeAny (model X.prog X.w) A (.builtin "dict.update.loop" #v[[.ref D,.ref d,rawInt i,.none],[]]) R s:=by
 intro k
 induction k with
 | zero=>
  intro i s O I q;let[r,x,p,_]:=I.list (f i).1;let[B,C,Z,E,G,H]:=(f i).2;refine codeAny_builtin F.cj<|L3<|wpAny_pyNext_list_end (A:=A.in1) T q p.isList (by have:=-x;simp;lia) λL eb=>?_;have m:bP X pins σ (Hs i) {s with heap:=L}:=I.turned (λb o c e=>eb b o c e) B C E G H;have fin:=Y _ (by rw[<- O];exact m)
  repeat (any_goals (first | assumption | wp_step))
 | succ k ih=>
  intro i s O I q;let[r,x,p,_]:=I.list (f i).1;have hf:=(f i).2;let[B,C,Z,E,G,H]:=hf;have P:=X5 (l:=ys) (i:=i) ∅;let[t,a,b,ey,hT,g]:=W i _ P;let[u,M,Q]:=x.get P;rw[ey] at Q;cases(Q);refine codeAny_builtin F.cj<|L3<|wpAny_pyNext_list_item q p.isList ⇑M λL h sb=>?_;have m:bP X pins σ (Hs i) {s with heap:=L}:=I.turned (λb o c e=>(sb.2 b c).trans e) B C E G H;obtain⟨S,tv,⟨o,e,hc,n,hd⟩,_⟩:=m.tuple hT;let[u1,u2,rfl,r1,r2]:=tv.two;let[oi,ei,ci,di]:=id h;have I2:=m.pinned (fp:=[d]) (λb c=>by rw[M7.mp c];exact(f i).2) λb c=>#v[oi,by rw[M7.mp c];exact ei,λv z=>by rw[di] at z;cases z];refine L3<|wpAny_holding<|L3<|wpAny_tryCatch<|YS e hc hd<|wpAny_holding<|AM (U i) I2 g r1 r2 λs' J=>M6 #v[plainId_quiet F.cg _,?_];exact ih (i+1) s' ∅ J.unpinned (h.at λo e=>(J.pin (d,o)<|U2 _<|U2 _<|qH (by simp) e).1)
def GW{u s} [DecidableEq s] {f:u->s}{g:u->V}{ps:List u}:∀{qs},-(ps.foldl (λa x=>Jj a (f x)<|g x) qs)<=-qs+-ps:=by
 induction ps with
 | nil=>intro qs;simp
 | cons p ps b=>
  intro qs;have c:=b (qs:=Jj qs (f p)<|g p);have d:=J9 qs (f p)<|g p;rw[U9,M1]
  lia
def QC{X α κ} [DecidableEq κ] (M:X.calm=true) {f:α->κ}{g ky:α->V}{ob:List (κ×V)->HO}{ok:Hp->α->Prop}(T:∀ l m,ob l=.dT m->X.A.units+10<cLine)
  (hn:∀(h:Heap) H,sysModules<h.objs.size->cu X.prog X.w H (h.push {cls:=.type "dict",data:=.dict #[]}) h.objs.size (ob []))
  (U:∀ H D l x,H D=none->ok H x->-l<sizeLine->cW (bU H D<|ob l) D (ky x) (g x) (bU H D<|ob<|Jj l (f x)<|g x)):
  JX X (.type "dict") (λxs H Q=>∃(p:Addr) (ys:List V) (ps:List α),xs=[.ref p]/\cD X.K H p ys/\ -ys=-ps/\ -ps<=100000 /\
  (∀(j:Nat) y,ys[j]?\y->∃ kv t,ps[j]?\kv/\y=.ref t/\cK X.K H t [ky kv,g kv]/\ok H kv)/\∀ D,H D=none->Q (.ref D) (bU H D<|ob<|ps.foldl (λa kv=>Jj a (f kv)<|g kv) [])):=by
 intro c s σ H xs us Q I r h;let[p,ys,ps,rfl,N,W,hz,Y,q]:=h;let[u,rfl,Z]:=r.one;cases Z;have k:=I.hok.fresh<|M8 ↥s;have O:bP X c σ (bU H ↥s (ob [])) { s with heap:=s.heap.push {cls:=.type "dict",data:=.dict #[]} }:=I.laid (λb o e=>L8 _ e) (M8 _)<|hn _ _ I.big;obtain⟨its,rv,⟨o,n,e,v,B,C⟩,_⟩:=O.list<|AV k N;let[oc,od,E,osl]:=o;subst v B C;refine callType_codes (Q₁:=λobj P=>obj=.ref ↥s/\P={ s with heap:=s.heap.push {cls:=.type "dict",data:=.dict #[]} }) F.kt_called_dict (F.kt_typeCall_dict_1 _) F.entry_dict_init (kt_code_dict_new _ #v[rfl,rfl]) ?_;rintro obj P ⟨rfl,rfl⟩;have R:=Heap.DictOf.typeIs (s:={ s with heap:=s.heap.push {cls:=.type "dict",data:=.dict #[]} })<|Heap.DictOf.new (knd:=yi X.prog X.w) s.heap;refine#v[R,F.args_dict_init_2 _ _,L3<|L3<|wpAny_notOrdered_dict R<|M6<|L3<|wpAny_typeOf #v[_,e,rfl]<|L3<|GU (I.ok.hd M) e λh2 t2 d=>?_];rw[if_pos<|show(Option.isNone none)=true from rfl];refine L3<|wpAny_rule<|L3<|wpAny_pyIter_list (l:=p) #v[_,d _ _ e,rfl,n,rfl]<|M6 #v[plainId_quiet F.cg _,?_];have S:bP X c σ (bU H ↥s (ob [])) {s with heap:=h2,toks:=t2}:=O.kept d;have G:=N0<|d _ _<|X7 _ rfl;refine GV (A:=X.A.in1) (Hs:=λi=>bU H ↥s (ob<|(ps.take i).foldl (λa kv=>Jj a (f kv)<|g kv) [])) (I.ok.hd M) (λi m z=>?_) (λi=>#v[AV k N,S.fpOk (M8 _) ?_]) (λj y hy=>?_) (λs' J=>?_) ys.length 0 _ (Nat.zero_add _) (S.kept λb o e=>L8 _ e) #v[_,X7 _ rfl,rfl,rfl]
 ·rw[js] at z;have:=T _ _<|X3 z;show X.A.units+1+1<_
  lia
 ·rw[jh<|Ne.symm<|N5 G];exact I.hok.fresh ∅
 ·let[kv,t,e1,rfl,L,h4]:=Y j y hy;refine#v[t,_,_,rfl,(Or.imp_left (Or.imp (Yh k) λ⟨q,L⟩=>#v[q,Yh k L]) L),?_];rw[List.take_add_one,e1,List.foldl_append];exact U _ _ _ _ k h4 (by have:=GW (f:=f) (g:=g) (ps:=ps.take j) (qs:=[]);have:sizeLine=16777216:=rfl;simp at *;lia)
 ·rw[W,List.take_length] at J;exact#v[rfl,.ref _,_,J,rfl,q _ k]
def GX{X}(i:X.calm=true):JX X (.type "dict") (λxs H Q=>∃(p:Addr) (ys:List V) (ps:List<|cS×V),xs=[.ref p]/\cD X.K H p ys/\ -ys=-ps/\ -ps<=100000 /\
  (∀(j:Nat) y,ys[j]?\y->∃ kv t,ps[j]?\kv/\y=.ref t/\cK X.K H t [kV kv.1,kv.2])/\∀ D,H D=none->Q (.ref D) (bU H D<|.dK<|ps.foldl (λa kv=>Jj a kv.1 kv.2) [])):=
 λd s U H xs m Q I r h=>by
 let[p,ys,ps,n,q,u,w,z,A]:=h;exact QC (ok:=λ_ _=>True) (ky:=λx=>kV x.1) (f:=(·.1)) (g:=(·.2)) (ob:=.dK) i (λ_ _ e=>nomatch e) (λh H b=>AQ h b)
  (λH D l x E _ B=>by have:=cW.k (k:=x.1) (v:=x.2) (js (H:=H) (a:=D) (o:=.dK l)) B;rw[yn] at this;exact this) d s U H xs m Q I r
  ⟨p,ys,ps,n,q,u,w,λj y C=>by let[kv,t,a,b,c]:=z j y C;exact#v[kv,t,a,b,c,trivial],A⟩
def bP.layAll(I:bP X pins x H s)(k:∀ b u,s.heap.get? b\u->h'.get? b\u)(a:∀ b,H b≠none->H' b=H b)
  (new:∀ b o,H b=none->H' b\o->↥s<=b/\cu X.prog X.w H' h' b o):bP X pins x H' {s with heap:=h',toks:=t'}:=by
 refine I.un #v[λb u q _ _ _=>k b u q,λb u q _ _ _=>#v[u.slots,k b u q],λb u q n _=>?_,λb u q _=>#v[u,k b u q],λb f q=>?_,λb o u q=>?_,λb g q=>#v[#[],?_]] λb o e=>?_
 ·cases e:H' b with
  | none=>rfl
  | some o=>exact absurd (N0 q)<|Nat.not_lt.mpr (new b o n e).1
 ·rw[a b<|by rw[q];exact λz=>nomatch z];exact q
 ·rw[a b<|by rw[q];exact λz=>nomatch z];exact q
 ·rw[a b (by rw[q];exact λz=>nomatch z),q];simp
 ·by_cases n:H b=none
  ·exact(new b o n e).2
  ·have d:=e;rw[a b n] at d;exact(I.hok b o d).stay (λc u _ q=>k c u q) (λc q=>by rw[a c<|by rw[q];exact λz=>nomatch z];exact q) λc f q=>by rw[a c<|by rw[q];exact λz=>nomatch z];exact q
def AW(h:(yi P w).is k u=true):bR (kV k) u:=by
 rcases yo h with⟨i,t,rfl,rfl⟩ | ⟨x,t,rfl,rfl⟩
 ·exact#v[t,rfl]
 ·exact#v[t,rfl]
def yr(H:Hp)(as:W5)(kvs:List<|cS×V)(l:Addr):Hp:=λb=>if b=l then some (.lst<|as.map V.ref) else
 match (as.zip kvs).find? (λp=>p.1==b) with
 | some p=>some<|.tup [kV p.2.1,p.2.2]
 | none=>H b
def QR{as:W5}{a}(hn:as.Nodup){j:Nat}{p:cS×V}(h1:as[j]?\b)(h2:a[j]?\p):(as.zip a).find? (λq=>q.1==b)\(b,p):=by
 induction as generalizing a j with
 | nil=>simp at h1
 | cons c as d=>
  cases a with
  | nil=>simp at h2
  | cons q a=>
   rw[U6,List.find?_cons];cases j with
   | zero=>
    simp at h1 h2;subst h1;subst h2;simp
   | succ j=>
    simp at h1 h2;have e:c≠b:=λz=>(List.nodup_cons.mp hn).1 (z▸List.mem_of_getElem? h1);have:=U1.mpr e;simp only[this];exact d (List.nodup_cons.mp hn).2 h1 h2
def Jg{as:W5}{a:List (cS×V)}(h:b∉as):(as.zip a).find? (λq=>q.1==b)=none:=by
 rw[List.find?_eq_none];intro q c z;have:q.1=b:=by simpa using z
 exact h<|this▸(List.of_mem_zip c).1
def GY{A}{B:List (cS×Value)}{j:Nat}(h:KV A B)(e:B[j]?\(kk,x)):∃ y,A[j]?\(kk,y)/\bR y x:=by
 induction h generalizing j with
 | nil=>cases e
 | cons b _ c=>cases j with
  | zero=>
   cases e;exact#v[_,congrArg (λa=>some (a,_)) b.1,b.2]
  | succ j=>exact c e
def AX(td:TE):TE:=λs H Q=>td s H λx H1=>∃ a kvs,x=.ref a/\Rd H1 a (.dK kvs)/\∀ l as,H1 l=none->-as=-kvs->(l::as).Nodup->(∀ b∈as,H1 b=none)->Q (.ref l) (yr H1 as kvs l)
section
variable {prog:Program}{w:World}{A:Around}{E:J0}{s:Shared}
def AY{j t}{n}{a}{y}{C}(d:s.heap.IsTupleIter j t n)(e:s.heap.IsTuple t a)(f:a[n]?\y)
  (go:∀ k,k.IsTupleIter j t (n+1)->Heap.SameBut j s.heap k->C y {s with heap:=k}):wpAny (model prog w) A (Builtin.SmallTypes.nextOf<|.ref j) C E s:=by
 let[i,c,g,b]:=id d;let[ot,gt,_,mt,h]:=e;refine L3<|wpAny_callSpecial?_slot d.typeIs F.slot_tuple_iterator_next<|wpAny_call_entry F.slot_tuple_iterator_next d.typeIs F.entry_tuple_iterator_next ?_<|F.args_tuple_iterator_next_1 _;show wpAny _ _ (field (.ref j) 0 >>= _) _ _ s;refine L3<|U5 c b rfl<|L3<|U5 c b rfl<|L3<|wpAny_seqItems gt h ?_;simp only[N7,f];refine L3<|wpAny_setField c b (by simp)<|M6 #v[y,rfl,M6<|go _ #v[_,Heap.get?_update_self _ c<|Obj.isFreed_of_fields<|Obj.data_mapFields b _,(Obj.cls_mapFields ..).trans g,?_]<|Heap.SameBut.update ..];rw[Obj.data_mapFields b];simp[rawInt]
variable {z TI TO j1 j2 l t:Addr}{m:Nat}{us vs:Array Value}{u v a b:Value}
end
def GZ(l)(items)(n)(b)(a)(d)(e)(sl)(h0:¬(!items.isEmpty&&Builtin.List.listTooLong (items.size+a.size))=true)(h1:items.size<=sizeLine)(h2:items.size+a.size<=sizeLine+1):
  Meets (Builtin.«list.extend» #v[[.ref l,.ref b],[]]) (λ_ R s=>s.heap.get? l=some {cls:=.type "list",dict:=none,data:=.seq items n,slots:=#[]}/\s.heap.get? b=some {cls:=.type "list",dict:=e,data:=.seq a d,slots:=sl}/\R (.ok<|.ret Value.none) {s with heap:=s.heap.update l (Obj.mapSeq λx=>x++a)}):=
 .of_wp λprog w A R s h=>by
  rcases s with⟨g,i,j,k,os⟩;let[c,f,q]:=h;have m:(items++a).size<=sizeLine+1:=by rw[Array.size_append];exact h2
  wp_walk using(wpAny_updateSeq c rfl),wpAny_loadPart' c,wpAny_loadPart' f
  exact#v[_,rfl,q]
def G0(l)(items)(n)(b)(a)(d)(e)(sl)(h0:¬(!items.isEmpty&&Builtin.List.listTooLong (items.size+a.size))=true)(h1:items.size<=sizeLine)(h2:items.size+a.size<=sizeLine+1):
  Meets (Builtin.«list.extend» #v[[.ref l,.ref b],[]]) (λ_ R s=>s.heap.get? l=some {cls:=.type "list",dict:=none,data:=.seq items n,slots:=#[]}/\s.heap.get? b=some {cls:=.type "tuple",dict:=e,data:=.seq a d,slots:=sl}/\R (.ok<|.ret Value.none) {s with heap:=s.heap.update l (Obj.mapSeq λx=>x++a)}):=
 .of_wp λprog w A R s h=>by
  rcases s with⟨g,i,j,k,os⟩;let[c,f,q]:=h;have m:(items++a).size<=sizeLine+1:=by rw[Array.size_append];exact h2
  wp_walk using(wpAny_updateSeq c rfl),wpAny_loadPart' c,wpAny_loadPart' f
  exact#v[_,rfl,q]
def rE(K:W4):V->List V->Hp->VK->Prop:=λx vs H Q=>∃ l b xs zs,x=.ref l/\vs=[.ref b]/\H l\(.lst xs)/\(cD K H b zs\/cK K H b zs)/\ -xs+-zs<=sizeLine/\Q .non (bU H l<|.lst<|xs++zs)
def G3:Ar X "list.extend" (rE X.K):=by
 intro w s U H x vs v E Q I A B h;let[l,b,G,J,rfl,rfl,o,g,y,q]:=h;cases A;let[u,rfl,C]:=B.one;cases C;let[z,c,n,r,L,e]:=I.lstM o;rcases g with g | g
 ·let[a,i,p2,_]:=I.list g;obtain⟨⟨cls,j,data,k⟩,m,e2,p,hd,D⟩:=p2
  first | subst p | skip
  have f:c.toArray.size+a.toArray.size<=sizeLine:=by rw[N2,N2,<- r.length,<- i.length];exact y
  have d:¬ (!c.toArray.isEmpty&&Builtin.List.listTooLong (c.toArray.size+a.toArray.size))=true:=by
   rw[As f,Bool.and_false];exact M3
  have t:s.heap.get? b=some {cls:=.type "list",dict:=j,data:=.seq a.toArray m,slots:=k}:=by
   rw[e2];simp_all
  refine call_meets PySem.F.slot_list_extend #v[_,e,rfl] PySem.F.entry_list_extend (PySem.F.args_list_extend_2 _ _) (GZ l c.toArray n b a.toArray m j k d ∅ ∅) #v[e,t,#v[.non,_,I.lset o e (by simp) (r.append i) ?_,rfl,q]];rw[N3]
  lia
 ·let[a,i,p2,_]:=I.tuple g;obtain⟨⟨cls,j,data,k⟩,e2,p,m,hd⟩:=p2;subst p hd;have f:c.toArray.size+a.toArray.size<=sizeLine:=by rw[N2,N2,<- r.length,<- i.length];exact y
  have d:¬ (!c.toArray.isEmpty&&Builtin.List.listTooLong (c.toArray.size+a.toArray.size))=true:=by
   rw[As f,Bool.and_false];exact M3
  refine call_meets PySem.F.slot_list_extend #v[_,e,rfl] PySem.F.entry_list_extend (PySem.F.args_list_extend_2 _ _) (G0 l c.toArray n b a.toArray m j k d ∅ ∅) #v[e,e2,#v[.non,_,I.lset o e (by simp) (r.append i) ?_,rfl,q]];rw[N3]
  lia
section
def G4(ft:TypeCalled T nw it)
  (c1:checkTypeCall T #v[xs,kw]=pure ()) (d:checkBuiltinCall nw #v[.type T::xs,kw]=pure ()) (f:entryFor table nw\Bn) (i:entryFor table it\Bi)
  (g:Meets (Bn #v[.type T::xs,kw]) Sn) (h:Sn A.in1 (wants Q1 E) s)
  (nx:∀ obj s1,Q1 obj s1->s1.TypeIs obj T/\argsOk it #v[obj::xs,kw]/\∃ Si,MeetsIn prog w (Bi #v[obj::xs,kw]) Si/\Si A.in1 (wants (λr s2=>r=.none/\Q obj s2) E) s1):
  wpAny (model prog w) A (call (.type T) xs kw) Q E s:=by
 let[c,p,q]:=ft.mro;have t:=ft.made;have u:=ft.sub;refine wpAny_call<|codeAny_of_tree<|M6 #v[Code.quiet_builtin _<|by decide +kernel,codeAny_builtin F.entry_type_call ?_];have v:=ft.notType;have x:=ft.canCreate
 repeat (any_goals (first | assumption | wp_step))
 refine codeAny_mono (codeAny_call_builtin ft.plain f<|wpAny_of_eq d<|g prog w A.in1 _ s h) λr s1 b=>?_;cases r with
 | error e=>exact b
 | ok fl=>
  cases fl with
  | ret obj=>
   let[j,k,Si,l,m]:=nx _ _ b;have y:=ft.init.lookup;have z:=ft.init.bind obj
   repeat (any_goals (first | assumption | wp_step))
   refine codeAny_mono (codeAny_call_builtin ft.init.plain i<|ft.init.check _ _ _ _ _ _ _ _ j k<|l A.in1 _ s1 m) λn s2 a=>?_;cases n with
   | error e=>exact a
   | ok o=>
    cases o with
    | ret r=>
     let[rfl,B]:=a
     repeat (any_goals (first | assumption | wp_step))
    | _=>exact a.elim
  | _=>exact b.elim
def G5(c:typeLookup (.type T) "__init__" = pure (some<|.builtin "object.__init__"))
  (d:Bind.madeBy (.type T)=pure (some nw)) (hn:(some nw != some "object.__new__")=true):
  Meets (Builtin.«object.__init__» #v[self::x::xs,kw]) (λ_ R s=>s.TypeIs self T/\R (.ok<|.ret .none) s):=by
 refine Meets.of_wp λprog w A R s a=>?_;let[e,b]:=a
 repeat (any_goals (first | assumption | wp_step))
 exact#v[_,rfl,b]
open AutoSeq1 (wpAny_loadPart') in
def G6(l)(us)(m)(dc)(sl)(n)(t)(hn:Builtin.SmallTypes.fitsIndex n=true):
  Meets (Builtin.«enumerate.__new__» #v[[.type "enumerate",.ref l],[("start",.int n t)]]) (λ_ R s=>s.heap.get? l=some {cls:=.type "list",dict:=dc,data:=.seq us m,slots:=sl} /\
   R (.ok<|.ret<|.ref (s.heap.push {cls:=.type "list_iterator",data:=.fields #[.ref l,.int 0 0]}).objs.size)
    { s with heap:=(s.heap.push {cls:=.type "list_iterator",data:=.fields #[.ref l,.int 0 0]}).push {cls:=.type "enumerate",data:=.fields #[.none,.bool false,.ref ↥s,rawInt n,.none,.none]} }):=
 .of_wp λprog w A R s h=>by
  let[e,g,d,f,os]:=s;let[a,h]:=h;have c:=sub_enumerate;have i:Heap.IsList (Shared.heap #v[e,g,d,f,os]) l us:=#v[_,a,rfl,m,rfl]
  wp_walk using wpAny_loadPart' a
  refine wpAny_stack_any λj=>M6 ?_;generalize Builtin.SmallTypes.calledThroughType.match_1 _ _ _ _=b;cases b<;>(wp_walk using wpAny_loadPart' a,wpAny_pyIter_list i)<;>exact#v[_,rfl,h]
def G7(e:s.heap.IsList l us)(hn:Builtin.SmallTypes.fitsIndex n=true)
  (go:∀ k,IsEnum k (↥s+1) ↥s n .none->k.IsListIter ↥s l 0->(∀ b o,s.heap.get? b\o->k.get? b\o)->C (.ref<|↥s+1) {s with heap:=k}):
  wpAny (model prog w) A (call (.type "enumerate") [.ref l] [("start",.int n t)]) C E s:=by
 obtain⟨⟨c,f,j,g⟩,h,i,m,hd⟩:=e;subst i hd;refine G4 (Q1:=λobj s1=>s1.TypeIs obj "enumerate"/\C obj s1) F.called_enumerate ((by kernel_rfl)) ((by kernel_rfl)) F.entry_enumerate_new F.entry_object_init (G6 l us m f g n t hn) #v[h,?_]
  λobj _ q=>#v[q.1,(by unfold argsOk;rw[signature?_of (n:=['_','_','t','i','n','i','_','_']) (by kernel_rfl) F.owner_object];kernel_rfl),_,(G5 F.called_enumerate.init.lookup F.called_enumerate.made<|by decide).inModel _ _,q.1,rfl,q.2]
 have a:(s.heap.push {cls:=.type "list_iterator",data:=.fields #[.ref l,.int 0 0]}).objs.size=↥s+1:=Heap.size_push ..;rw[a];have d:IsEnum ((s.heap.push {cls:=.type "list_iterator",data:=.fields #[.ref l,.int 0 0]}).push {cls:=.type "enumerate",data:=.fields #[.none,.bool false,.ref ↥s,rawInt n,.none,.none]}) (↥s+1) ↥s n .none:=by
  have q:=X7 (s.heap.push {cls:=.type "list_iterator",data:=.fields #[.ref l,.int 0 0]}) (o:={cls:=.type "enumerate",data:=.fields #[.none,.bool false,.ref ↥s,rawInt n,.none,.none]}) rfl;rw[a] at q;exact q
 exact#v[#v[_,d,rfl],go _ d #v[_,L8 _<|X7 _ rfl,rfl,rfl] λb o x=>L8 _<|L8 _ x]
end
def rF(K:W4)(tl:TA)(tb:TE):TI:=λs H R=>tl s H λvs H1=>tb s H1 λv H2=>∃ a xs n,vs=[.ref a]/\v=.int n/\Builtin.SmallTypes.fitsIndex n=true/\cD K H2 a xs/\R (nX K a n) H2
def G8{X}{elts}{m}{tpos p pos f}{a b}{ta}{tb}(F:Gl X "enumerate")(G:X.mg "enumerate" = none)(J:PA X [a] ta)(k:PE X b tb)(L:starEach [a] X.env=[(false,eval a X.env)]:=by rfl):
  PI X (.Tuple elts m tpos) (.Call (.Name "enumerate" p) [a] [#v[some "start",b,f]] pos) (rF X.K ta tb):=by
 intro c s σ H R I h;refine wpAny_Call_Name_kw<|JF I F G (show bootBuiltins "enumerate" = some (.type "enumerate") by decide +kernel)<|L3<|wpAny_holding ?_;have C:=J pos c s σ H _ I h;rw[L] at C ⊢;refine wpAny_mono (evalArgs_kw (Q:=λx s1=>X⁻¹ (call (.type "enumerate") x.pos x.kw) (λv s1=>X⁻¹ (pyIter v) (l_ X c σ (.Tuple elts m tpos) R) X.xe s1) X.xe s1) rfl<|thn C λus s1 ⟨vs,M,N,O,P⟩=>?_) (λx s1 B=>L3<|wpAny_standAt ?_) λ_ _ x=>x
 ·refine wpAny_evalAll_cons<|L3<|thn (k c s1 σ M _ N P) λv d ⟨y,D,j,S,T⟩=>L3<|wpAny_standAt<|M6<|wpAny_evalAll_nil ?_;let[l,xs,n,rfl,rfl,U,V,q]:=T;let[u,rfl,W]:=O.one;cases W;let[t,rfl]:=S;let[Y,rv,pl,hz]:=j.list V;have g:l < ↥d:=by
   let[o,_,e,_]:=pl;exact N0 e
  refine G7 pl.isList U λB E hit Z=>?_;have I3:bP X c σ D {d with heap:=B}:=j.kept Z;refine PySem.wpAny_pyIter_enum E #v[↥d+1,[↥d+1,↥d],_,_,D,rfl,I3,AH _ _ l n (Nat.succ_ne_self _) (N5<|Nat.lt_succ_of_lt g)<|N5 g,#v[#v[_,by simpa using E],hit],λb k=>?_,q];have i:↥d<=b:=by
   rcases(⇑k:b=↥d+1\/b=↥d) with z | z
   ·rw[z];exact Nat.le_succ _
   ·rw[z];exact M8 _
  exact j.fpOk i<|j.hok.fresh i
 ·exact L3<|M6<|L3<|wpAny_mono B (λr d hr=>L3<|wpAny_holding<|wpAny_point<|M6 hr) λ_ _ x=>x
def G9:typeLookup (.type "list_reverseiterator") "__len__" = pure none:=by rw[typeLookup_type,builtinLookup_eq_fast];kernel_rfl
def G_:typeLookup (.type "list_reverseiterator") "__length_hint__" = pure (some<|.builtin "list_reverseiterator.__length_hint__"):=by rw[typeLookup_type,builtinLookup_eq_fast];kernel_rfl
section
variable {prog:Program}{w:World}{A:Around}{s:Shared}{R:Result->Shared->Prop}
variable {I:Addr}{fp wr:W5}{G:Array GenState->Array GenState->Prop}{n:Nat}{P:Nat->Value->Prop}{St:Nat->Shared->Prop}
def Ha(W:WalksS prog w A.in1 I fp wr G n P St)(h:∀ i s,St i s->s.TypeIs (.ref I) "list_reverseiterator")(S)(d)(c0)(a:St 0 s)(g:S∉fp)(l:I∈fp)
  (m:s.heap.get? S=some {cls:=.type "list",data:=.seq #[] c0})
  (o:∀ s' acc c,Moved (S::wr) G s s'->s'.heap.get? S=some {cls:=.type "list",dict:=none,data:=.seq acc c,slots:=#[]}->ItemsOf P acc n->R (.ok<|.ret d) s') (hn:n<=sizeLine):
  wpAny (model prog w) A.in1 (Builtin.List.listExtendWith (.ref S) (.ref I) d)
   (λfin s'=>match fin with | .done f=>R (.ok f) s' | .again c'=>c'.quiet=true/\codeAny (model prog w) A c' R s') (λe s'=>R (.error e) s') s:=by
 have j:S≠I:=λe=>g<|e▸l;refine L3<|wpAny_typeOf (h 0 _ a) ?_;have p:Builtin.List.listSameRef (.ref S) (.ref I)=false:=by simp[Builtin.List.listSameRef,j]
 rw[if_neg<|by rw[p];decide];refine L3 (W.self 0 _ _ _ a<|L3<|wpAny_holding<|L3<|wpAny_specialOf (h 0 _ a) G9<|L3<|wpAny_specialOf (h 0 _ a) G_ ?_)
 wp_delta
 refine L3<|wpAny_isInstance (b:=true) (h 0 _ a) (by rw[isSubtype_type];kernel_rfl) ?_;exact M6<|M6 #v[plainId_quiet F.plain_extend_loop _,codeAny_extend_loopS W hn _ g _ n 0 _ _ _ rfl (U4 _) a m (ItemsOf.nil P) λs' acc c q k r=>(o s' acc c q k r)]
def Hb(W:WalksS prog w A.in1 I fp wr G n P St)(l:∀ i s,St i s->s.TypeIs (.ref I) "list_reverseiterator")(S)(g:St 0 s)(a:S∉fp)(m:I∈fp)
  (j:s.heap.get? S=some {cls:=.type "list",data:=.seq #[]})
  (p:∀ s' acc c,Moved (S::wr) G s s'->s'.heap.get? S=some {cls:=.type "list",dict:=none,data:=.seq acc c,slots:=#[]}->ItemsOf P acc n->R (.ok<|.ret .none) s') (hn:n<=sizeLine):
  wpAny (model prog w) A.in1 (Builtin.«list.__init__» #v[[.ref S,.ref I],[]])
   (λfin s'=>match fin with | .done f=>R (.ok f) s' | .again c'=>c'.quiet=true/\codeAny (model prog w) A c' R s') (λe s'=>R (.error e) s') s:=by
 refine L3<|L3<|wpAny_seqItems j rfl<|M6<|L3<|wpAny_updateSeq j rfl ?_;have oth:∀ b o,b≠S->s.heap.get? b\o->(s.heap.update S<|Obj.mapSeq<|λ_=>(#[]:Array Value)).get? b\o:=λb o d e=>(Heap.get?_update_other _ _<|Ne.symm d).trans e;refine L3<|wpAny_letGo<|Ha (hn:=hn) W l S .none _ (W.frame 0 s _ s.toks g (M8 _) λb d o e=>oth b o (λh=>a<|h▸d) e) a m (Heap.get?_update_self (Obj.mapSeq<|λ_=>(#[]:Array Value)) j rfl) λs' acc c q k r=>?_;exact p s' acc c (Moved.trans W.gtrans ((Moved.refl W.grefl).then_heap (M8 _) λb o d e=>oth b o (λh=>d<|h▸L7) e) q) k r
end
section
variable {prog:Program}{w:World}{A:Around}{E:J0}{s:Shared}{l:Addr}{us:Array Value}
def Hc{C}(B:A.handled=none)(v:s.heap.IsList l us)(D:us.size<=sizeLine)
  (go:∀ k c tk,(∀ b o,s.heap.get? b\o->k.get? b\o)->k.get? (↥s+1)=some {cls:=.type "list",dict:=none,data:=.seq us.reverse c,slots:=#[]}->C (.ref<|↥s+1) {s with heap:=k,toks:=tk}):
  wpAny (model prog w) A (call (.type "list") [.ref ↥s]) C E {s with heap:=s.heap.push (revObj l<|(us.size:Int)-1)}:=by
 have a:(s.heap.push<|revObj l<|us.size-1).objs.size=↥s+1:=Heap.size_push _ _;have f:l < ↥s:=by
  let[o,e,_]:=id v;exact N0 e
 have W:=(Walks.listRev (prog:=prog) (w:=w) (A:=A.in1.in1) B ↥s l (N5 f) us).toS;refine callType_codes (Q₁:=λobj s1=>obj=.ref (s.heap.push<|revObj l<|us.size-1).objs.size/\s1={ s with heap:=(s.heap.push<|revObj l<|us.size-1).push {cls:=.type "list",data:=.seq #[]} }) F.called_list (F.typeCall_list_1 _) F.entry_list_init
  (code_list_new _ #v[rfl,rfl]) λobj s1 t=>?_
 let[rfl,rfl]:=t;have y:((s.heap.push<|revObj l<|us.size-1).push {cls:=.type "list",data:=.seq #[]}).get? (s.heap.push<|revObj l<|us.size-1).objs.size=some {cls:=.type "list",data:=.seq #[]}:=X7 _ rfl;have G:((s.heap.push<|revObj l<|us.size-1).push ({cls:=.type "list",data:=.seq #[]}:Obj)).IsRevIter ↥s l (us.size-1 - (0:Int)):=#v[_,L8 _<|X7 _ rfl,rfl,by simp[revObj]];have u:((s.heap.push<|revObj l<|us.size-1).push ({cls:=.type "list",data:=.seq #[]}:Obj)).IsList l us:=v.at λo e=>L8 _<|L8 _ e;refine#v[#v[_,y,rfl],F.args_list_init_2 _ _,Hb (hn:=D) W (λi s1 x=>x.2.1.typeIs) _ #v[U4 _,G,u] (λz=>?_) (by simp) y λH h c p m I=>?_]
 ·rw[a] at z;rcases M4.mp z with q | q
  ·exact absurd q<|Nat.succ_ne_self _
  ·have q:=M7.mp q;rw[<- q] at f;exact absurd f<|Nat.not_lt.mpr<|Nat.le_succ _
 ·refine#v[rfl,?_];have n:h=us.reverse:=by
   let[J,K]:=I;refine Array.ext (by simp[J]) λj t M=>?_;have q:=K j h[j] (by simp[t]);rw[Array.getElem_reverse];have L:us[us.size-1 - j]?\(us[us.size-1 - j]'∅):=Array.getElem?_eq_getElem ∅;exact X3<|q.symm.trans L
  subst n;rw[a] at m ⊢;let[k,g,d,tk,os]:=H;obtain rfl:g=s.gens:=p.gens;obtain rfl:d=s.drawn:=p.drawn;obtain rfl:os=s.os:=p.os;refine go k c tk (λb o e=>?_) m;have r:=N0 e;exact p.heap b o (by
   intro z;rw[a] at z;rcases M4.mp z with q | q
   ·rw[q] at r;exact absurd r<|Nat.not_lt.mpr<|Nat.le_succ _
   ·rw[M7.mp q] at r;exact absurd r<|Nat.lt_irrefl _)<|L8 _<|L8 _ e
end
def AZ(K:W4)(t:TE):TE:=λs H Q=>t s H λx H1=>∃ a ys,x=.ref a/\cD K H1 a ys/\∀ l,H1 l=none->Q (.ref l) (bU H1 l<|.lst ys.reverse)
theorem bQ.rev:∀{xs}{us},bQ xs us->bQ xs.reverse us.reverse
 | [],_,.nil=>.nil
 | x::xs,u::us,.cons h r=>by
  rw[List.reverse_cons,List.reverse_cons];exact(bQ.rev r).append (.cons h .nil)
def rG(a:Addr)(o:Obj)(kvs:List<|cS×V):It:=
 ⟨λi H=>H a\(.frz o<|.dK kvs)/\i< -kvs,λi H x H'=>H'=H/\∃ kv,kvs[i]?\kv/\x=kV kv.1,λi H=>H a\(.frz o<|.dK kvs)/\ -kvs<=i⟩
def rH(ok:c8 P w H h)(e:H a\(.frz o<|.dK kvs)):
  h.get? a\o/\(a==sysModules)=false/\∃ vs,KV kvs vs/\h.DictOf (yi P w) a vs:=by
 let[b,c]:=(ok a _ e);let[_,d,f]:=(c);exact#v[b,d,f]
def Hd{P}{w}{K}{tg}(a n)(o)(g)(es)(ep)(ho:o.data=.dict es ep):dZ P w K tg (rG a o g) [n] n (λi h=>h.IsKeyIter n a i g.length ep) where
 mem:=by simp
 obj:=λi h j b y=>by
  have e:b=n:=by simpa using y
  subst e;let[q,e,c,d]:=j;exact#v[q,e,λv z=>by rw[d] at z;cases z]
 keep:=λi h J j k=>j.at (k n<|by simp)
 item:=by
  intro X L M N hc i m s σ H E I F j O;subst L M N;let[Q,hx]:=O;let[R,g2,vs,G,S]:=rH I.hok Q;let[r,l]:=S.dictAt;have t:r=ep:=by
   let[o',T,A,_,B,_]:=id l;rw[R] at A;cases A;rw[ho] at B;cases B;rfl
  subst t;have f:=-G;obtain⟨⟨k,u⟩,hu⟩:∃ p,vs[i]?\p:=#v[vs[i]'∅,by simp[<- f,hx]];have hk:∃ v,g[i]?\(k,v):=by
   have C:(g.map (·.1))[i]?=(vs.map (·.1))[i]?:=by rw[G.keys]
   rw[List.getElem?_map,List.getElem?_map,hu] at C;cases q:g[i]? with
   | none=>rw[q] at C;cases C
   | some p=>
    rw[q] at C;let[k',v]:=p;cases C;exact#v[v,rfl]
  let[v,U]:=hk;let[V,W,f2,Y,Z,f5]:=F n (by simp);rw[f] at j;refine wpAny_pyNext_dict_item j l hu λkey J D x sb=>?_;rw[<- f] at x;have I1:bP X m σ H {s with heap:=J}:=I.turned (λb o y e=>(sb.2 b y).trans e) V W Y Z f5;let[o2,e,c,d]:=id x;exact#v[key,rfl,ma e c d (by decide) #v[kV k,H,I1,AW D,#v[rfl,(k,v),U,rfl],x,λb y=>(F b y).1]]
 done:=by
  intro X L M N hc i m s σ H E I F j O;subst L M N;let[Q,hx]:=O;let[R,g2,vs,G,S]:=rH I.hok Q;let[r,l]:=S.dictAt;have t:r=ep:=by
   let[o',T,A,_,B,_]:=id l;rw[R] at A;cases A;rw[ho] at B;cases B;rfl
  subst t;have f:=-G;let[V,W,f2,Y,Z,f5]:=F n (by simp);rw[f] at j;exact wpAny_pyNext_dict_end (I.ok.hd hc) j l (List.getElem?_eq_none ∅) λJ eb=>#v[rfl,I.turned (eb) V W Y Z f5]
 self:=λ_ _ _ _ _ j h=>wpAny_pyIter_keyiter j h
def A1(te:TE):TI:=λs H R=>te s H λx H1=>∃ a kvs,x=.ref a/\H1 a\(.dK kvs)/\∀ o,R (rG a o kvs)<|bU H1 a<|.frz o<|.dK kvs
def bP.frzD(I:bP X pins u H s)(c:H a\(.dK kvs)):
  dL λo es ep=>cM (o.data=.dict es ep) (s.heap.get? a\o) (bP X pins u (bU H a<|.frz o<|.dK kvs) s):=by
 let[z,hd,vs,e,d]:=rx I.hok c;let[o,es,ep,b,g,f,h,i,j]:=id d;refine#v[o,es,ep,f,b,?_];exact zf I (by rw[c];exact trivial) #v[rfl,λ_ _=>rfl] #v[o,b]<|#v[b,z,hd,vs,e,d]
def He{X}{tg e}{te}(p:PE X e te):PI X tg e (A1 te):=by
 intro f s U H R I h;refine thn (p f s U H _ I h) λv s1 r=>?_;let[x,t,w,y,a,c,ex,z,q]:=r;subst ex;obtain rfl:v=Value.ref a:=y;let[o,A,B,l,C,j]:=w.frzD z;have e2:bU t a (.frz o<|.dK c) a\(.frz o<|.dK c):=js;let[_,hd,vs,D,E]:=rH j.hok e2;let[d,g]:=E.dictAt;have k:d=B:=by
  let[K,F,m,_,n,_]:=id g;rw[C] at m;cases m;rw[l] at n;cases n;rfl
 subst k;refine wpAny_pyIter_dict hd g ?_;have G:∀ b u,s1.heap.get? b\u->(s1.heap.push ({cls:=.type "dict_keyiterator",data:=.fields #[.ref a,.int 0 0,.int vs.length 0,.int d 0]}:Obj)).get? b\u:=λb u q=>L8 _ q;refine#v[↥s1,[↥s1],_,_,_,rfl,j.kept G,Hd a _ o c A d l,#v[_,X7 _ rfl,rfl,by rw[D.length];rfl],λb J=>?_,q o];have i:↥s1<=b:=by
  have:b=↥s1:=by simpa using J
  rw[this];exact M8 _
 exact j.fpOk i<|j.hok.fresh i
end L2
namespace PySem
open Sem (wp)
section
variable {prog:Program}{w:World}{A:Around}{E:J0}{h:Heap}{g:Array GenState}{d:Drawn}{t:Nat}{os:OsState}{a:Addr}{o:Obj}
def Hf{its}{n}{sl}{Q}(c:A.handled=none)(hx:h.get? a=some {cls:=.type "tuple",data:=.seq its n,slots:=sl})
  (e:∀ h' t',(∀ b o,h.get? b\o->h'.get? b\o)->Q none #v[h',g,d,t',os]):wpAny (model prog w) A (getAttr? (.ref a) "keys") Q E #v[h,g,d,t,os]:=
 YN F.slot_tuple_getattribute am_tuple_getattr_none am_entry_tuple_getattribute (λ_=>F.args_tuple_getattribute_2 _ _) (λu=>meets_getattribute_miss_tuple a its n sl "keys" u (am_miss_of_fast<|by kernel_rfl) rfl) hx rfl c e
end
section
variable {prog:Program}{w:World}{K:Type} [DecidableEq K] {knd:KeyKind prog w K}{A:Around}{E:J0}{s:Shared}
def Hg{R}(hh:A.handled=none)  (q:ax≠I) (h:D≠I) (N:D≠ax) {items:Array Value}{ps:List (K×Value)}(r:items.size=-ps):∀ k i s kvs,
  items.size-i=k->i<=items.size->(s.heap.IsTupleIter I ax i/\s.heap.IsTuple ax items)->s.heap.DictOf knd D kvs ->
  (∀(j:Nat) v,items[j]?\v->∃ kv,ps[j]?\kv/\rD knd s.heap v kv/\v≠.ref I/\v≠.ref D)->-kvs+k<=100000 ->
  (∀ h' tk,h'.DictOf knd D ((ps.drop i).foldl (λa kv=>stored a kv.1 kv.2) kvs)->(∀ b o,b≠I->b≠D->s.heap.get? b\o->h'.get? b\o)->R (.ok<|.ret .none) {s with heap:=h',toks:=tk}) ->
  codeAny (model prog w) A (.builtin "dict.update.loop" #v[[.ref D,.ref I,rawInt i,.none],[]]) R s:=by
 intro k
 induction k with
 | zero=>
  intro i s kvs hk hi l hd O hz P;have Q:i=items.size:=by lia
  subst Q;have W:=Walks.tuple (prog:=prog) (w:=w) (A:=A.in1) (hh) I ax q items;refine codeAny_builtin F.cj<|L3<|W.done s _ _ l λh' tk c=>?_;have fin:=P h' tk (by rw[r,List.drop_length];exact hd.extBut (λb o d e=>c b o ⇑d e) h)<|λb o d _ e=>c b o ⇑d e
  repeat (any_goals (first | assumption | wp_step))
 | succ k ih=>
  intro i s kvs hk hi l hd O hz P;have t:i<items.size:=by lia
  have W:=Walks.tuple (prog:=prog) (w:=w) (A:=A.in1) (hh) I ax q items;refine codeAny_builtin F.cj<|L3<|W.item i s _ _ t l λv h' tk hP u c=>?_;obtain⟨kv,x,⟨p,key,m,po,rfl,S,T,U,y⟩,V,hvD⟩:=O i v hP;refine L3<|wpAny_holding<|L3<|wpAny_tryCatch<|YS (c p _ ⇑(λz=>V<|by rw[z]) S) T U ?_;have hsz:sizeLine=16777216:=by decide
  refine wpAny_holding<|wpAny_dictSet_pairs y (hd.extBut (λb o d e=>c b o ⇑d e) h) (λX B Y=>(M6 #v[plainId_quiet F.cg _,?_])) ∅;have Z:ps.drop i=kv::ps.drop (i+1):=by
   have C:i< -ps:=by lia
   rw[List.drop_eq_getElem_cons C];have:ps[i]=kv:=by
    rw[X5 C] at x;exact X3 x
   rw[this]
  refine ih (i+1) _ (stored kvs kv.1 kv.2) ∅ t (W.frame (i+1) h' X u λb d o e=>(Y.2 b ?_).trans e) B (λj v hv=>?_) ?_ λh3 tk3 hd3 hk3=>?_
  ·rcases M4.mp d with rfl | d
   ·exact λz=>h z.symm
   ·rw[M7.mp d];exact λz=>N z.symm
  ·obtain⟨kv',E,⟨p',G,m',po',rfl,H,J,L,n⟩,f,g⟩:=O j v hv;exact#v[kv',E,#v[p',G,m',po',rfl,((Y.2 p' λz=>g<|by rw[z]).trans (c p' _ ⇑(λz=>f<|by rw[z]) H)),J,L,n],f,g]
  ·have:=stored_length_le kvs kv.1 kv.2
   lia
  ·refine P h3 tk3 ?_ λb o d M e=>hk3 b o d M<|(Y.2 b M).trans (c b o ⇑d e);rw[Z,U9];exact hd3
def V3{p}{its}{n}{sl}{ps:List (K×Value)}{Q}(H:A.handled=none)(hx:s.heap.get? p=some {cls:=.type "tuple",data:=.seq its n,slots:=sl})(k:its.size=-ps)
  (M:∀(j:Nat) v,its[j]?\v->∃ kv,ps[j]?\kv/\rD knd s.heap v kv) (R:-ps<=100000)
  (h:∀ h' tk,h'.DictOf knd ↥s (ps.foldl (λa kv=>stored a kv.1 kv.2) [])->(∀ b o,s.heap.get? b\o->h'.get? b\o)->Q (.ref ↥s) {s with heap:=h',toks:=tk}):
  wpAny (model prog w) A (call (.type "dict") [.ref p]) Q E s:=by
 refine callType_codes (Q₁:=λobj I=>obj=.ref ↥s/\I={ s with heap:=s.heap.push {cls:=.type "dict",data:=.dict #[]} }) F.kt_called_dict (F.kt_typeCall_dict_1 _) F.entry_dict_init (kt_code_dict_new _ #v[rfl,rfl]) ?_;rintro obj I ⟨rfl,rfl⟩;have c:(s.heap.push {cls:=.type "dict",data:=.dict #[]}).DictOf knd ↥s []:=Heap.DictOf.new s.heap;refine#v[c.typeIs,F.args_dict_init_2 _ _,?_];have f:(s.heap.push {cls:=.type "dict",data:=.dict #[]}).get? p=some {cls:=.type "tuple",data:=.seq its n,slots:=sl}:=L8 _ hx;have J:s.heap.get? ↥s=none:=Heap.get?_none_of_le<|M8 _;refine L3<|L3<|wpAny_notOrdered_dict c.typeIs<|M6<|L3<|wpAny_typeOf #v[_,f,rfl]<|L3<|Hf H f λL S d=>?_
 ·rw[if_pos<|show(Option.isNone none)=true from rfl];refine L3<|wpAny_rule ?_;have g:=d p _ f;have t:L.IsTuple p its:=#v[_,g,rfl,n,rfl];refine L3<|wpAny_pyIter_tuple t ?_;have l:=N5<|N0<|d ↥s _ (X7 _ rfl);have u:↥s≠p:=λz=>by rw[<- z,J] at hx;cases hx
  refine M6 #v[plainId_quiet F.cg _,?_];refine Hg (A:=A.in1) (knd:=knd) (H) (N5<|N0 g) l u k its.size 0 _ [] ∅ (U4 _) #v[#v[_,X7 _ rfl,rfl,rfl],?_] ?_ (λN v O=>?_) (by simp;lia) λP x y B=>?_
  ·exact#v[_,L8 _ g,rfl,n,rfl]
  ·exact c.extBut (λb o T e=>L8 _<|d b o e) l
  ·let[kv,C,r,key,m,po,rfl,i,D,G,q]:=M N v O;have e2:=d r _<|L8 _ i;refine#v[kv,C,#v[r,key,m,po,rfl,L8 _ e2,D,G,q],λz=>?_,λz=>?_]
   ·have z:r=L.objs.size:=by injection z
    exact absurd z<|N5<|N0 e2
   ·have z:r=↥s:=by injection z
    rw[z,J] at i;cases i
  ·refine#v[rfl,h P x y λb o e=>?_];have e2:=d b o<|L8 _ e;exact B b o (N5<|N0 e2) (N5<|N0 e)<|L8 _ e2
end
end PySem
namespace L2
open PySem PySem.Spec PyProof.Rows
def nY(K:W4)(H:Hp)(p:Addr)(ys:List V):Prop:=Rd H p (.tup ys) \/ ∃ o its n,K.lookup p\o/\o.cls=.type "tuple"/\o.data=.seq its n/\its.size<=sizeLine/\bQ ys its.toList/\o.dict=none
def bP.tupN(I:bP X pins u H s)(h:nY X.K H p ys):dL λits o n=>fI (bQ ys its) (s.heap.get? p\o) (o.cls=.type "tuple") (o.data=.seq its.toArray n) (o.dict=none):=by
 rcases h with h | ⟨o,its,n,d,f,g,l,i,j⟩
 ·obtain⟨_,its,k,⟨o,e,a,n,b⟩,m,e2,c⟩:=(h.ok I.hok);rw[e] at e2;cases e2;exact#v[its,o,n,k,e,a,b,c]
 ·exact#v[its.toList,o,n,i,I.kIn p o d,f,by simpa using g,j]
def Hh{X}(B:X.calm=true):JX X (.type "dict") (λxs H Q=>∃(p:Addr) (ys:List V) (ps:List<|cS×V),xs=[.ref p]/\nY X.K H p ys/\ -ys=-ps/\ -ps<=100000 /\
  (∀(j:Nat) y,ys[j]?\y->∃ kv t,ps[j]?\kv/\y=.ref t/\cK X.K H t [kV kv.1,kv.2])/\∀ D,H D=none->Q (.ref D) (bU H D<|.dK<|ps.foldl (λa kv=>Jj a kv.1 kv.2) [])):=by
 intro w s U H xs O Q I r h;let[p,ys,ps,rfl,C,x,E,F,q]:=h;let[u,rfl,G]:=r.one;cases G;let[d,o,n,z,e,f,g,i]:=I.tupN C;let[oc,od,k,J]:=o;subst f i g;let[A,b,l]:=AT I z x F;have c:d.toArray.size=-A:=by rw[N2,<- z.length,x,b.length]
 refine V3 (I.ok.hd B) e c (λj v L=>l j v ⇑L) (by rw[<- b.length];exact E) λP R hd M=>?_;have m:=AU (ps:=ps) (qs:=[]);have N:sizeLine=16777216:=by decide
 exact#v[.ref ↥s,_,I.laid M (M8 _)<|rA (by simp at m;lia) (U1.mpr<|Ne.symm<|N5 I.big) (uQ b .nil) hd,rfl,q _<|I.hok.fresh<|M8 _]
def Ye:entryFor table "dict_itemiterator.__iter__" = some Builtin.«dict_keyiterator.__iter__» :=
 entryFor_alias (id':="dict_keyiterator.__iter__") (by kernel_rfl) rfl (by decide +kernel) (by kernel_rfl)
def zC(hit:IsItemIter s.heap it d i n ep ok ov)(h:Q (.ref it) s):wpAny (model prog w) A (pyIter<|.ref it) Q E s:=by
 have a:s.TypeIs (.ref it) "dict_itemiterator":=#v[_,hit,rfl];exact wpAny_pyIter_slot a PySem.F.slot_dict_itemiterator_iter<|wpAny_call_entry PySem.F.slot_dict_itemiterator_iter a Ye (M6 #v[_,rfl,"dict_itemiterator",_,a,PySem.F.slot_dict_itemiterator_next.lookup,h])<|PySem.F.args_dict_itemiterator_iter_1 _
end L2
namespace PySem
open PySem.W PyProof.Rows PySem.Calls
def dF{s}(lt:Nat->Nat->Bool):KasT s->s
 | .ret a=>a
 | .ask i j k=>dF lt<|k<|lt i j
def ek{s}(lt:Nat->Nat->Bool)(n:Nat):KasT s->Prop
 | .ret _=>True
 | .ask i j k=>i<n/\j<n/\ek lt n (k<|lt i j)
theorem JO:∀ t:KasT s,dF lt (t.bind f)=dF lt (f<|dF lt t)
 | .ret a=>rfl
 | .ask i j k=>JO<|k<|lt i j
theorem JW:∀ t:KasT s,ek lt n t->ek lt n (f<|dF lt t)->ek lt n (t.bind f)
 | .ret a,_,h=>h
 | .ask i j k,b,c=>#v[b.1,b.2.1,JW (k<|lt i j) b.2.2 c]
theorem A5(c:∀ i j C,i<n->j<n->C (lt i j) s->cmp i j C s):∀ t:KasT u,ek lt n t->Q (dF lt t) s->t.kasWp cmp Q s
 | .ret a,_,h=>h
 | .ask i j k,b,h=>c i j _ b.1 b.2.1<|A5 c (k<|lt i j) b.2.2 h
def Pm(n:Nat)(p:Array Nat):Prop:=p.toList.Perm<|List.range n
def Pm.lt(h:Pm n p)(hn:0<n)(i):p.getD i 0<n:=by
 by_cases hi:i<p.size
 ·have e:p.getD i 0=p[i]:=by simp[Array.getD,hi]
  rw[e];have a:p[i]∈p.toList:=by simp
  exact List.mem_range.mp<|h.mem_iff.mp a
 ·have e:p.getD i 0=0:=by simp[Array.getD,hi]
  rw[e];exact hn
def Pm.swap(h:Pm n p)(i j:Nat):Pm n (p.swapIfInBounds i j):=by
 refine List.Perm.trans ?_ h;rw[Array.swapIfInBounds_def];split
 ·split
  ·exact(Array.perm_iff_toList_perm.mp<|Array.swap_perm _ _)
  ·exact List.Perm.refl _
 ·exact List.Perm.refl _
theorem Pm.swaps(u v:Nat->Nat):∀(l:List Nat) {p},Pm n p->Pm n (l.foldl (λa k=>a.swapIfInBounds (u k)<|v k) p)
 | [],_,h=>h
 | k::l,p,h=>Pm.swaps u v l<|h.swap _ _
def Pm.rev(h:Pm n p)(i j):Pm n (kas_rev p i j):=Pm.swaps _ _ _ h
def Pm.bub(h:Pm n p)(k m):Pm n (bubble p k m):=Pm.swaps _ _ _ h
section
variable {lt:Nat->Nat->Bool}{n:Nat}
theorem rJ(hn:0<n)  (h:Pm n p):∀ f m,ek lt n<|kas_asc p f m
 | 0,_=>trivial
 | f+1,m=>by
  refine#v[h.lt hn _,h.lt hn _,?_];dsimp only;split
  ·trivial
  ·exact rJ hn h f<|m+1
theorem ze(hn:0<n):∀ f {p} m q,Pm n p->ek lt n (kas_desc f p m q)/\Pm n (dF lt<|kas_desc f p m q).1
 | 0,_,_,_,h=>#v[trivial,h]
 | f+1,p,m,q,h=>by
  have a:=h.lt hn;cases hc:lt (p.getD m 0) (p.getD (m-1) 0) with
  | true=>
   by_cases d:q>0
   ·have b:=ze hn f (p:=kas_rev p (m-(q+1)) m) (m+1) 0<|h.rev _ _;have c:=d;simp only[kas_desc,ek,dF,hc,if_true,gt_iff_lt,c,a,true_and];exact b
   ·have b:=ze hn f (m+1) 0 h;simp only[kas_desc,ek,dF,hc,if_true,gt_iff_lt,d,if_false,a,true_and];exact b
  | false=>
   cases hd:lt (p.getD (m-1) 0) (p.getD m 0) with
   | true=>
    simp only[kas_desc,ek,dF,hc,hd,if_true,Bool.false_eq_true,if_false,a,true_and];exact h
   | false=>
    simp only[kas_desc,ek,dF,hc,hd,Bool.false_eq_true,if_false,a,true_and];exact(ze hn f (m+1) (q+1) h)
def VA(hn:0<n)  (h:Pm n p) (m k):ek lt n (kas_tail3 m k p)/\Pm n (dF lt<|kas_tail3 m k p).2:=by
 unfold kas_tail3;exact#v[JW _ (rJ hn (h.rev _ _) _ _) trivial,by rw[JO];exact h.rev _ _]
def qL(hn:0<n)  (h:Pm n p) (m k):ek lt n (kas_descPart m k p)/\Pm n (dF lt<|kas_descPart m k p).2:=by
 unfold kas_descPart;have hd:=ze (lt:=lt) hn (k-(m+1)) (m+1) 0 h;refine#v[JW _ hd.1 ?_,?_]
 ·split
  ·exact(VA hn (hd.2.rev _ _) _ _).1
  ·exact(VA hn hd.2 _ _).1
 ·rw[JO];split
  ·exact(VA hn (hd.2.rev _ _) _ _).2
  ·exact(VA hn hd.2 _ _).2
def Hi(hn:0<n)  (h:Pm n p) (k):ek lt n (kas_count k p)/\Pm n (dF lt<|kas_count k p).2:=by
 unfold kas_count;refine#v[JW _ (rJ (lt:=lt) hn h (k-1) 1) ?_,?_]
 ·generalize dF lt (kas_asc p (k-1) 1)=m;split
  ·trivial
  ·split
   ·refine#v[h.lt hn _,h.lt hn _,?_];dsimp only;split
    ·trivial
    ·exact(qL hn (h.rev _ _) _ _).1
   ·exact(qL hn h _ _).1
 ·rw[JO];split
  ·exact h
  ·split
   ·dsimp only[dF];split
    ·exact h
    ·exact(qL hn (h.rev _ _) _ _).2
   ·exact(qL hn h _ _).2
theorem zU(hn:0<n)  (h:Pm n p) (k):∀ f l r,ek lt n<|kas_place p k f l r
 | 0,_,_=>trivial
 | f+1,l,r=>by
  unfold kas_place;split
  ·trivial
  ·refine#v[h.lt hn _,h.lt hn _,?_];dsimp only;split
   ·exact zU hn h k f _ _
   ·exact zU hn h k f _ _
theorem rK(hn:0<n):∀ f {p} k,Pm n p->ek lt n (kas_bin f p k)/\Pm n (dF lt<|kas_bin f p k)
 | 0,_,_,h=>#v[trivial,h]
 | f+1,p,k,h=>by
  unfold kas_bin;have a:=rK hn f (p:=bubble p k<|k-dF lt (kas_place p k k 0 k)) (k+1)<|h.bub _ _;exact#v[JW _ (zU (lt:=lt) hn h k k 0 k) a.1,by rw[JO];exact a.2]
def u5(hn:0<n):ek lt n (kas_sort n)/\Pm n (dF lt<|kas_sort n):=by
 unfold kas_sort;have b:Pm n (List.toArray<|List.range n):=List.Perm.refl _;have a:=Hi (lt:=lt) hn b n;refine#v[JW _ a.1 ?_,?_]
 ·split
  ·exact(rK hn _ _ a.2).1
  ·trivial
 ·rw[JO];split
  ·exact(rK hn _ _ a.2).2
  ·exact a.2
end
end PySem
set_option maxHeartbeats 4000000
namespace PySem
open PySem.W PyProof.Rows PySem.Calls
def KB{s:Type}(lt:Nat->Nat->Bool)(vs:List s)(d:s):List s:=if vs.length<2 then vs else(dF lt<|kas_sort (-vs)).toList.map λi=>vs.getD i d
def A6(lt)(vs)(d:s):-(KB lt vs d)=-vs:=by
 unfold KB;split
 ·rfl
 ·rename_i h;rw[L1];have:=((u5 (lt:=lt) (n:=-vs) ∅).2).length_eq;rw[this,List.length_range]
def wX(m:s.heap.get? a\(seqObj "list" vs.toArray n))(r:-vs<64)
  (F:2<=-vs->∀ s':Shared,(∀ b o,b≠a->s.heap.get? b\o->s'.heap.get? b\o)->∀{Q:SortKind->Shared->Prop},Q U s'->wpAny (model prog w) A (keyKind' vs.toArray) Q (λ_ _=>False) s')
  (t:∀ s':Shared,(∀ b o,b≠a->s.heap.get? b\o->s'.heap.get? b\o)->∀ i j,i< -vs->j< -vs->∀{C:Bool->Shared->Prop},C (lt i j) s'->wpAny (model prog w) A (keyLt' U (vs.getD i Value.none)<|vs.getD j Value.none) C (λ_ _=>False) s')
  (h:P (.done<|.ret .none) {s with heap:=sortedHeap s.heap a vs (KB lt vs Value.none).toArray}):
  wpAny (model prog w) A (Builtin.«list.sort» #v[[.ref a],[]]) P E s:=by
 rw[list_sort_plain];have z:=N0 m;refine L3<|listItems_at m rfl<|L3<|listUpdate_at m rfl ?_;obtain⟨u,g⟩:∃ u,(s.heap.update a<|Obj.mapSeq λ_=>#[]).get? a\(seqObj "list" #[] u):=#v[_,get?_update_seq m<|λ_=>#[]];refine L3<|seqEpoch_at g rfl<|L3<|wpAny_newTuple<|L3<|wpAny_newList<|wpAny_holding ?_;have d:(((s.heap.update a<|Obj.mapSeq λ_=>#[]).push (seqObj "tuple" vs.toArray 0)).push (seqObj "list" #[] 0)).get? a\(seqObj "list" #[] u):=by
  rw[Heap.get?_push_ne _ _ _<|by rw[size_push',Heap.size_update];exact N5<|Nat.lt_succ_of_lt z,Heap.get?_push_ne _ _ _<|by rw[Heap.size_update];exact N5 z];exact g
 have keep:∀ b o,b≠a->s.heap.get? b\o->(((s.heap.update a<|Obj.mapSeq λ_=>#[]).push (seqObj "tuple" vs.toArray 0)).push (seqObj "list" #[] 0)).get? b\o:=λb o H e=>
  L8 _ (L8 _<|by rw[Heap.get?_update_ne _ _ _ _ H];exact e)
 dsimp only;have v:vs.toArray.size=-vs:=by simp
 by_cases q:vs.toArray.size<2
 ·have c:KB lt vs Value.none=vs:=by unfold KB;rw[if_pos ∅]
  rw[c] at h;rw[if_pos q,if_pos q];refine L3<|M6<|L3<|M6 ?_;have I:(arrOf<|SortSt.mk' general' (vs.toArray.zip vs.toArray) #[] 7 none).map (·.2)=vs.toArray:=by
   apply Array.toList_inj.mp;simp;exact List.map_snd_zip<|M8 _
  rw[I];refine L3<|seqEpoch_at d rfl ?_;refine L3<|listUpdate_at d rfl ?_ (hsz2:=by rw[v,sizeLine_eq];lia);simp only[bne_self_eq_false,Bool.false_eq_true,if_false];exact M6 h
 ·have k:2<=-vs:=by lia
  have c:KB lt vs Value.none=(dF lt<|kas_sort (-vs)).toList.map λi=>vs.getD i Value.none:=by unfold KB;rw[if_neg ∅]
  rw[if_neg q,if_neg q];refine L3<|wpAny_mono (F k {s with heap:=((s.heap.update a<|Obj.mapSeq λ_=>#[]).push (seqObj "tuple" vs.toArray 0)).push (seqObj "list" #[] 0)} keep (Q:=λB s0=>B=U/\s0={s with heap:=((s.heap.update a<|Obj.mapSeq λ_=>#[]).push (seqObj "tuple" vs.toArray 0)).push (seqObj "list" #[] 0)}) #v[rfl,rfl]) ?_ λ_ _ x=>x.elim;rintro B s0 ⟨rfl,rfl⟩;have l:=kat_run (E:=E)
   (Q:=λf s'=>s'={s with heap:=((s.heap.update a<|Obj.mapSeq λ_=>#[]).push (seqObj "tuple" vs.toArray 0)).push (seqObj "list" #[] 0)}/\arrOf f=(dF lt<|kas_sort (-vs)).map (kas_item<|vs.toArray.zip vs.toArray)/\failedOf f=none)
   (G:=λp s'=>p=dF lt (kas_sort (-vs))/\s'={s with heap:=((s.heap.update a<|Obj.mapSeq λ_=>#[]).push (seqObj "tuple" vs.toArray 0)).push (seqObj "list" #[] 0)})
   rfl k r (λp f s' O J K D=>#v[D.2,by rw[<- D.1];exact J,K])
   (A5 (λi j C hi L M=>t {s with heap:=((s.heap.update a<|Obj.mapSeq λ_=>#[]).push (seqObj "tuple" vs.toArray 0)).push (seqObj "list" #[] 0)} keep i j hi L M) _ (u5 (lt:=lt) (n:=-vs) ∅).1 #v[rfl,rfl])
  refine L3<|wpAny_mono l ?_ λ_ _ e=>e;rintro⟨⟨⟩,f⟩ s' ⟨rfl,y,N⟩;rw[kat_snds rfl y,<- c];refine L3<|seqEpoch_at d rfl ?_;refine L3<|listUpdate_at d rfl ?_ (hsz2:=by rw[N2,A6,sizeLine_eq];lia);rw[N];simp only[bne_self_eq_false,Bool.false_eq_true,if_false];exact M6 h
def KG(t:s.heap.IsList l vs.toArray)(m:-vs<64)
  (u:2<=-vs->∀ A' s',(∀ b o,s.heap.get? b\o->s'.heap.get? b\o)->∀{Q:SortKind->Shared->Prop},Q y s'->wpAny (model prog w) A' (keyKind' vs.toArray) Q (λ_ _=>False) s')
  (a:∀ A' s',(∀ b o,s.heap.get? b\o->s'.heap.get? b\o)->∀ i j,i< -vs->j< -vs->∀{C:Bool->Shared->Prop},C (lt i j) s'->wpAny (model prog w) A' (keyLt' y (vs.getD i Value.none)<|vs.getD j Value.none) C (λ_ _=>False) s')
  (h:∀ h' c,(∀ b o,s.heap.get? b\o->h'.get? b\o)->h'.get? (↥s+1)\(seqObj "list" (KB lt vs Value.none).toArray c)->Q (.ref<|↥s+1) {s with heap:=h'}):
  wpAny (model prog w) A (call (.builtin "sorted") [.ref l]) Q E s:=by
 refine Calls.call_function_entry kind_sorted plain_sorted entry_sorted (args_sorted1 _)<|L3<|M6 ?_;refine L3<|collect_list t ?_ (by rw[sizeLine_eq];lia);refine L3<|wpAny_newList ?_ (by rw[sizeLine_eq];lia);have e:((s.heap.push<|seqObj "list" #[] 0).update ↥s (Obj.mapSeq (·++vs.toArray))).objs.size=↥s+1:=by
  rw[Heap.size_update,size_push']
 have f:(((s.heap.push<|seqObj "list" #[] 0).update ↥s (Obj.mapSeq (·++vs.toArray))).push (seqObj "list" vs.toArray 0)).get? (↥s+1)\(seqObj "list" vs.toArray 0):=by
  rw[<- e];exact X7 _ rfl
 have keep:∀ b o,s.heap.get? b\o->(((s.heap.push<|seqObj "list" #[] 0).update ↥s (Obj.mapSeq (·++vs.toArray))).push (seqObj "list" vs.toArray 0)).get? b\o:=λb o q=>by
  have a:=N0 q;rw[Heap.get?_push_ne _ _ _<|by rw[e];exact N5<|Nat.lt_succ_of_lt a,Heap.get?_update_ne _ _ _ _<|N5 a,Heap.get?_push_ne _ _ _<|N5 a];exact q
 rw[e];have d:∀{s':Shared},(∀ b o,b≠↥s+1->(((s.heap.push<|seqObj "list" #[] 0).update ↥s (Obj.mapSeq (·++vs.toArray))).push (seqObj "list" vs.toArray 0)).get? b\o->s'.heap.get? b\o)->∀ b o,s.heap.get? b\o->s'.heap.get? b\o:=λk b o q=>
  k b o (N5<|Nat.lt_succ_of_lt<|N0 q) (keep b o q)
 refine L3<|wpAny_holding<|wpAny_call_entry slot_list_sort #v[_,f,rfl] entry_list_sort ?body (args_list_sort _)
 case body=>
  refine wX f m (λv s' k=>u v _ s'<|d k) (λs' k=>a _ s'<|d k) ?_;have g:∃ c,(sortedHeap (((s.heap.push<|seqObj "list" #[] 0).update ↥s (Obj.mapSeq (·++vs.toArray))).push (seqObj "list" vs.toArray 0)) (↥s+1) vs (KB lt vs Value.none).toArray).get? (↥s+1)\(seqObj "list" (KB lt vs Value.none).toArray c):=by
   obtain⟨p,n⟩:∃ p,((((s.heap.push<|seqObj "list" #[] 0).update ↥s (Obj.mapSeq (·++vs.toArray))).push (seqObj "list" vs.toArray 0)).update (↥s+1) (Obj.mapSeq λ_=>#[])).get? (↥s+1)\(seqObj "list" #[] p):=#v[_,get?_update_seq f<|λ_=>#[]];exact#v[_,get?_update_seq (L8 _<|L8 _ n) λ_=>(KB lt vs Value.none).toArray]
  let[c,x]:=g;refine#v[_,rfl,M6 #v[_,rfl,h _ c (λb o q=>?_) x]];have r:=N5<|Nat.lt_succ_of_lt<|N0 q;show(Heap.update _ _ _).get? b\o;rw[Heap.get?_update_ne _ _ _ _ r];exact L8 _<|L8 _ (by rw[Heap.get?_update_ne _ _ _ _ r];exact keep b o q)
noncomputable abbrev iz:=Str×Str×Int
def wa(x y:iz):Bool:=if x.1=y.1 then(if x.2.1=y.2.1 then decide (x.2.2<y.2.2) else decide (x.2.1.cps.toList<y.2.1.cps.toList)) else decide (x.1.cps.toList<y.1.cps.toList)
def ml(h:Heap)(v:Value)(r:iz):Prop:=∃ a o m t1 t2 t3,v=.ref a/\h.get? a\o/\o.cls=.type "tuple"/\o.data=.seq #[.str r.1 t1,.str r.2.1 t2,.int r.2.2 t3] m
def Hj(d:ml s.heap v x)(e:ml s.heap u y)  (h:C (wa x y) s):wpAny (model prog w) A (keyLt' (tuples' true) v u) C E s:=by
 let[a,o,m,t1,k,l,rfl,f,n,g]:=d;let[b,p,q,r,t,z,rfl,i,B,j]:=e;refine kat_lt f g i j ?_;unfold wa at h;refine kat_cons<|wpAny_eqBool_str ?_;by_cases c:x.1=y.1
 ·rw[if_pos c] at h;rw[X0 c];refine kat_yes<|kat_cons<|wpAny_eqBool_str ?_;by_cases e2:x.2.1=y.2.1
  ·rw[if_pos e2] at h;rw[X0 e2];refine kat_yes<|kat_cons<|wpAny_eqBool_int ?_;by_cases e3:x.2.2=y.2.2
   ·rw[show(x.2.2==y.2.2)=true by simp[e3]];refine kat_yes<|kat_nil ?_;have:decide (x.2.2<y.2.2)=decide (3<3):=by rw[e3];simp
    rw[this] at h;exact h
   ·rw[show(x.2.2==y.2.2)=false by simp[e3]];exact kat_no<|kat_one _ _<|wpAny_lt_int h
  ·rw[if_neg e2] at h;rw[X1 e2];exact kat_no<|kat_one _ _<|lt_str h
 ·rw[if_neg c] at h;rw[X1 c];exact kat_no<|oneLt_str h
def Vf{A}{E}{s:Shared}{vs}{rs:List iz}{Q}(I:s.heap.IsList l vs.toArray)(y:-vs<64)(d:-vs=-rs)(g:∀(j:Nat) v,vs[j]?\v->∃ r,rs[j]?\r/\ml s.heap v r)
  (h:∀ h' c,(∀ b o,s.heap.get? b\o->h'.get? b\o)->h'.get? (↥s+1)\(seqObj "list" (KB (λi j=>wa (rs.getD i ("","",0))<|rs.getD j ("","",0)) vs Value.none).toArray c)->Q (.ref<|↥s+1) {s with heap:=h'}):
  wpAny (model prog w) A (call (.builtin "sorted") [.ref l]) Q E s:=by
 have up:∀(n:Shared),(∀ b o,s.heap.get? b\o->n.heap.get? b\o)->∀ j v,vs[j]?\v->∃ r,rs[j]?\r/\ml n.heap v r:=λn p j v q=>by
  let[r,e,a,o,m,t1,F,G,z,B,u,D]:=g j v q;exact#v[r,e,a,o,m,t1,F,G,z,p a o B,u,D]
 refine KG I y (λu J n p Q K=>(by
   have g:=(up n p);have key:∀ vs (rs:List iz),-vs=-rs->(∀(j:Nat) v,vs[j]?\v->∃ r,rs[j]?\r/\ml n.heap v r)->∃ fs:List Value,KatTups n.heap vs fs/\ -fs=-vs/\∀ v∈fs,∃ x t,v=Value.str x t:=by
    intro vs
    induction vs with
    | nil=>intro rs _ _;exact#v[[],KatTups.nil,rfl,λv g=>(nomatch g)]
    | cons v vs L=>
     intro rs d g;cases rs with
     | nil=>simp at d
     | cons r rs=>
      let[fs,k,l,f]:=L rs ⇑d λj v e=>g (j+1) v ⇑e;let[M,e,a,o,m,t1,F,G,rfl,B,u,D]:=g 0 v rfl;refine#v[.str M.1 t1::fs,KatTups.cons B u D rfl k,by simp[l],λv g=>?_];rcases M4.mp g with rfl | g
      ·exact#v[_,_,rfl]
      ·exact f v g
   let[fs,k,l,f]:=key vs rs d g;refine kat_kind (T:=.type "str") k ∅ (λv g=>?_) (by rfl) K;let[x,t,rfl]:=f v g;exact Looks.of_pure rfl)) (λJ n p i j hi q C H=>?_) h
 let[N,z,O]:=up n p i _<|X5 hi;let[P,e2,R]:=up n p j _<|X5 q;have S:vs.getD i Value.none=vs[i]:=by simp[hi]
 have U:vs.getD j Value.none=vs[j]:=by simp[q]
 rw[S,U];refine Hj O R ?_;have V:rs.getD i ("","",0)=N:=by rw[List.getD_eq_getElem?_getD,z];rfl
 have W:rs.getD j ("","",0)=P:=by rw[List.getD_eq_getElem?_getD,e2];rfl
 rw[V,W] at H;exact H
end PySem
namespace PySem
open Sem (wp)
section
variable {prog:Program}{w:World}{A:Around}{E:J0}{h:Heap}{g:Array GenState}{dr:Drawn}{t:Nat}{os:OsState}
def Hk{a d:Addr}{i ep:Nat}{es:Array DictEntry}{od:Obj}{en:DictEntry}{ok l:Value}{Q:Option Value->Shared->Prop}(hit:IsItemIter h a d i es.size ep ok l)(N:h.get? d\od)(u:od.data=.dict es ep)(hx:es[i]?\en)
  (O:∀ h',IsItemIterOut h' a d (i+1) es.size ep en.key en.val h.objs.size->h'.get? h.objs.size=some {cls:=.type "tuple",data:=.seq #[en.key,en.val]}->(∀ b o,b≠a->h.get? b\o->h'.get? b\o)->Q (some<|.ref h.objs.size) #v[h',g,dr,t,os]):
  wpAny (model prog w) A (pyNext<|.ref a) Q E #v[h,g,dr,t,os]:=by
 have r:Shared.TypeIs #v[h,g,dr,t,os] (.ref a) "dict_itemiterator":=#v[_,hit,rfl];let[oc,P,R,S]:=od;subst u;have T:¬ ((i:Int)<0):=by lia
 refine L3<|wpAny_attempt<|wpAny_callSpecial?_slot (name:=Str.ofString "__next__") r F.slot_dict_itemiterator_next ?_;refine wpAny_call_entry F.slot_dict_itemiterator_next r F.entry_dict_itemiterator_next ?_<|F.args_dict_itemiterator_next_1 _
 repeat (any_goals (first | assumption | wp_step))
 rw[if_neg T,N7,hx];refine L3 ?_;refine L3<|wpAny_typeNameOfWhole_itemiter r<|M6 ?n1
 case n1=>
  refine L3<|wpAny_isOneOf_itemiter r<|show wpAny _ _ (setField (.ref a) 3 (rawInt<|i+1) >>= _) _ _ _ from L3 (wpAny_setField_rec hit (by simp) λf U V=>?_);have m:Heap.SameBut a h f:=V;have n:IsItemIter f a d (i+1) es.size ep ok l:=by
   have e:((i+1:Nat):Int)=i+1:=by lia
   unfold IsItemIter;rw[e];simpa [rawInt] using U
  have p:Shared.TypeIs #v[f,g,dr,t,os] (.ref a) "dict_itemiterator":=#v[_,n,rfl];refine L3<|wpAny_holding<|L3<|wpAny_isOneOf_itemiter p<|L3<|wpAny_isOneOf_itemiter p ?_;unfold Builtin.Dict_items.pairFromOwner;refine L3<|wpAny_newTuple ?_;have M:f.objs.size=h.objs.size:=m.1;have q:IsItemIter (f.push {cls:=.type "tuple",data:=.seq #[en.key,en.val]}) a d (i+1) es.size ep ok l:=L8 _ n;have j:(f.push {cls:=.type "tuple",data:=.seq #[en.key,en.val]}).get? h.objs.size=some {cls:=.type "tuple",data:=.seq #[en.key,en.val]}:=by rw[<- M];exact X7 _ rfl
  have k:∀ b o,b≠a->h.get? b\o->(f.push {cls:=.type "tuple",data:=.seq #[en.key,en.val]}).get? b\o:=λb o c e=>L8 _<|m.extBut b o c e;have v:h.objs.size≠a:=Nat.ne_of_gt<|N0 hit;rw[M];generalize f.push ({cls:=.type "tuple",data:=.seq #[en.key,en.val]}:Obj)=k2 at q j k;refine L3 ?_;unfold Builtin.Dict_items.ownedTupleIsFree;refine L3<|U5 q rfl (x:=.none) rfl<|M6 ?_;simp only[if_true];refine L3<|U5 q rfl (x:=ok) rfl<|L3<|U5 q rfl (x:=l) rfl<|L3<|wpAny_setField_rec q (by simp) λy W X=>?_;have z:Heap.SameBut a k2 y:=X;have B:IsItemIter y a d (i+1) es.size ep en.key l:=W;refine L3<|wpAny_setField_rec B (by simp) λC Y Z=>?_;have D:Heap.SameBut a y C:=Z;have G:IsItemIter C a d (i+1) es.size ep en.key en.val:=Y;refine L3<|wpAny_setField_rec G (by simp) λH q5 b5=>?_;have I:Heap.SameBut a C H:=b5;have J:IsItemIterOut H a d (i+1) es.size ep en.key en.val h.objs.size:=q5;refine L3<|wpAny_setField_rec J (by simp) λs q6 b6=>?_;have K:Heap.SameBut a H s:=b6;have L:IsItemIterOut s a d (i+1) es.size ep en.key en.val h.objs.size:=q6;have up:∀ b o,b≠a->k2.get? b\o->s.get? b\o:=λb o c e=>K.extBut b o c<|I.extBut b o c<|D.extBut b o c<|z.extBut b o c e;exact L3<|wpAny_letGo<|M6<|M6 #v[_,rfl,M6<|O s L (up _ _ v j) λb o c e=>up b o c<|k b o c e]
def Hl{a d}{i ep}{es}{od}{ok e}{Q}(f:A.handled=none)(hit:IsItemIter h a d i es.size ep ok e)(j:h.get? d\od)(b:od.data=.dict es ep)(hx:es[i]?=none)
  (k:∀ h',Heap.ExtBut a h h'->Q none #v[h',g,dr,t,os]):wpAny (model prog w) A (pyNext<|.ref a) Q E #v[h,g,dr,t,os]:=by
 have c:Shared.TypeIs #v[h,g,dr,t,os] (.ref a) "dict_itemiterator":=#v[_,hit,rfl];let[oc,l,m,n]:=od;subst b;have o:¬ ((i:Int)<0):=by lia
 refine L3<|wpAny_attempt<|wpAny_callSpecial?_slot c F.slot_dict_itemiterator_next ?_;refine wpAny_call_entry F.slot_dict_itemiterator_next c F.entry_dict_itemiterator_next ?_<|F.args_dict_itemiterator_next_1 _
 repeat (any_goals (first | assumption | wp_step))
 rw[if_neg o,N7,hx];refine L3 ?_;refine L3<|wpAny_typeNameOfWhole_itemiter c<|M6 ?n1
 case n1=>
  refine(show wpAny _ _ (setField (.ref a) 2 .none >>= _) _ _ _ from L3 (wpAny_setField hit rfl (by simp) ?_));refine(L3 ?_);simp only[newExc,newTuple];refine L3<|wpAny_newObj_type (L3<|wpAny_of_eq (by first | rfl | (simp only[firstArgMember];rfl))<|wpAny_newObj_type ?_<|by size_fits) (by size_fits);delta raiseNew;dsimp only;refine L3<|wpAny_handled ?_;rw[f];refine L3<|M6<|wpAny_throw ?_;refine L3<|wpAny_isInstance #v[_,X7 _ rfl,rfl] isSubtype_stop<|M6<|k _ ?_;exact((Heap.SameBut.update ..).extBut.push _).push _
def uw{d}{od}{es:Array DictEntry}{ep:Nat}{Q}(a:h.get? d\od)(c:od.ExactDict)(hd:(d==sysModules)=false)
  (e:Q (.ref h.objs.size) #v[h.push {cls:=.type "dict_items",data:=.fields #[.ref d]},g,dr,t,os]):wpAny (model prog w) A (call (.builtin "dict.items") [.ref d]) Q E #v[h,g,dr,t,os]:=by
 have b:Shared.TypeIs #v[h,g,dr,t,os] (.ref d) "dict":=#v[od,a,c.1];refine wpAny_call_entry F.slot_dict_items b F.entry_dict_items (L3<|L3<|wpAny_notOrdered_dict b<|M6 ?_)<|F.args_dict_items_1 _;unfold Builtin.Dict.showsAll;rw[if_neg<|by rw[hd];exact M3];exact L3<|M6<|L3<|wpAny_newObj_type<|M6 #v[_,rfl,e]
def Hm{v d}{od}{es}{ep}{Q}(e:h.IsItemsView v d)(a:h.get? d\od)(b:od.data=.dict es ep)
  (i:Q (.ref h.objs.size) #v[h.push {cls:=.type "dict_itemiterator",data:=.fields #[.none,.bool false,.ref d,.int 0 0,.int es.size 0,.int ep 0,.none,.none]},g,dr,t,os]):wpAny (model prog w) A (pyIter<|.ref v) Q E #v[h,g,dr,t,os]:=by
 let[k,c,l,j]:=id e;have f:Shared.TypeIs #v[h,g,dr,t,os] (.ref v) "dict_items":=e.typeIs;refine wpAny_pyIter_slot f F.slot_dict_items_iter<|wpAny_call_entry F.slot_dict_items_iter f F.entry_dict_items_iter ?_<|F.args_dict_items_iter_1 _;unfold Builtin.«dict_items.__iter__»;refine L3<|M6<|L3 ?_;unfold Builtin.Dict_items.dictOf;refine L3<|U5 c j rfl<|M6<|L3 ?_;refine L3<|wpAny_dictEntries a b<|L3<|wpAny_dictEpoch a b ?_;have ow:Builtin.Dict_items.ownsTuple "dict_itemiterator" = true:=by decide
 simp only[ow,if_true];refine wpAny_newObj_type (M6 #v[_,rfl,"dict_itemiterator",_,#v[_,X7 _ rfl,rfl],F.slot_dict_itemiterator_next.lookup,?_]) (by simp only[sizeOk,Builtin.Dict_items.ownedTupleFields,N2,N3,M1,List.length_nil,sizeLine_eq];lia);simpa [rawInt,Builtin.Dict_items.ownedTupleFields] using i
end
end PySem
namespace L2
open PySem PySem.Spec PyProof.Rows
def rL(a:Addr)(o:Obj)(kvs:List<|List cS×V):It:=
 ⟨λi H=>H a\(.frz o<|.dT kvs)/\i< -kvs,λi H x H'=>∃ p kv b,kvs[i]?\kv/\x=.ref p/\H p=none/\H b\(.tup<|kv.1.map kV)/\H'=bU H p (.tup [.ref b,kv.2]),λi H=>H a\(.frz o<|.dT kvs)/\ -kvs<=i⟩
def A7{P}{w}{H}{h}{a}{o}{b}(ok:c8 P w H h)(e:H a\(.frz o<|.dT b)):
  h.get? a\o/\(a==sysModules)=false/\o.ExactDict/\∃ xs es ep,KT H b xs/\o.data=.dict es ep/\es.toList=xs.map (entryOfKey<|tupleKind<|yi P w):=by
 let[c,f]:=(ok a _ e);let[_,g,xs,r,l,es,ep,d,i,j,k,_]:=(f);rw[c] at d;cases d;exact#v[c,g,i,xs,es,ep,r,j,k]
def Hn{H}{a}{xs}(r:KT H a xs):∀{i:Nat}{q},xs[i]?\q->∃ v,cM (a[i]?\(q.1,v)) (H q.2.1\(.tup<|q.1.map kV)) (bR v q.2.2):=by
 induction r with
 | nil=>intro i q e;simp at e
 | @cons p q c d h _ b=>
  intro i x e;cases i with
  | zero=>cases e;exact#v[p.2,by rw[<- h.1];rfl,by rw[<- h.1];exact h.2.1,h.2.2]
  | succ i=>exact b ⇑e
def Ho{P}{w}{K}{elts}{m}{pos}(a g)(o)(C)(es)(ep)(A:o.data=.dict es ep):
  dZ P w K (.Tuple elts m pos) (rL a o C) [g] g (λi h=>∃ ok ov,IsItemIter h g a i es.size ep ok ov) where
 mem:=by simp
 obj:=λi h f b c=>by
  have e:b=g:=by simpa using c
  subst e;let[ok,ov,d]:=f;exact#v[_,d,λv q=>by cases q]
 keep:=λi h Y f k=>by
  let[ok,ov,d]:=f;exact#v[ok,ov,k g (by simp) _ d]
 item:=by
  intro X Z hw hK U i p s σ H E I B f D;let[F,hx]:=D;let[G,g2,gx,t,J,L,r,u,M]:=A7 I.hok F;rw[A] at u;cases u;have j:=Paired.length r;obtain⟨q,V⟩:∃ q,t[i]?\q:=#v[t[i]'∅,by simp[<- j,hx]];let[v,N,c,rv]:=Hn r V;let[ok,ov,d]:=f;have l:=N0 d;have O:es[i]?\(entryOfKey (tupleKind<|yi X.prog X.w) q):=by rw[<- Array.getElem?_toList,M,List.getElem?_map,V];rfl
  let[Q,gg,dd,W,os]:=s;refine Hk d G A O λh1 R hT hk=>#v[_,rfl,wpAny_letOwnedTupleGo_items R λh2 S T=>?_];have n:=T;have x:=(n.2 _<|Nat.ne_of_gt l).trans hT;have kk:∀ b o,b∉[g]->Q.get? b\o->h2.get? b\o:=λb o c q=>by
   have y:b≠g:=by simpa using c
   exact(n.2 b y).trans (hk b o y q)
  have I1:=I.turnedNew (t':=W) (xs:=[.ref q.2.1,v]) kk B (M8 _) #v[#v[_,x,rfl,_,rfl],_,x,rfl] (.cons rfl<|.cons rv .nil) (by show 2<=sizeLine;decide);refine#v[.ref Q.objs.size,_,I1,rfl,#v[_,(q.1,v),q.2.1,N,rfl,I.hok.fresh<|M8 _,c,rfl],#v[_,_,S],λb c=>?_];rw[jh]
  ·exact(B b c).1
  ·intro z;have e:b=g:=by simpa using c
   exact absurd l (by rw[<- e,z];exact Nat.lt_irrefl _)
 done:=by
  intro X Z hw hK U i p s σ H E I B f D;let[F,hx]:=D;let[G,g2,gx,t,J,L,r,u,M]:=A7 I.hok F;rw[A] at u;cases u;have j:=Paired.length r;have hes:es.size=-t:=by rw[<- Array.length_toList,M,L1]
  let[ok,ov,d]:=f;let[Q,gg,dd,W,os]:=s;exact Hl (I.ok.hd U) d G A (Array.getElem?_eq_none ∅) λY eb=>#v[rfl,I.turnedL (λb o c q=>eb b o ⇑c q) B]
 self:=λ_ _ _ _ _ f h=>by
  let[ok,ov,d]:=f;exact zC d h
def A8(te:TE):TI:=λs H R=>te s H λx H1=>∃ a kvs,x=.ref a/\H1 a\(.dT kvs)/\∀ o,R (rL a o kvs)<|bU H1 a<|.frz o<|.dT kvs
section
variable {X:Cx}
def bP.frzT{pins}{u:St}{H}{s}{a}{c}(I:bP X pins u H s)(e:H a\(.dT c)):
  dL λo es ep=>fI (o.data=.dict es ep) (s.heap.get? a\o) o.ExactDict ((a==sysModules)=false) (bP X pins u (bU H a<|.frz o<|.dT c) s):=by
 let[z,hd,i,r,o,es,ep,d,g,h,j,k]:=(I.hok a _ e);refine#v[o,es,ep,h,d,g,hd,?_];refine zf I (by rw[e];exact trivial) #v[rfl,λ_ _=>rfl] #v[o,d]<|#v[d,z,hd,i,KT.keeps (r)<|λb l f=>?_,o,es,ep,d,g,h,j,k];rw[jh<|λz=>by rw[z,e] at f;cases f];exact f
end
end L2
set_option maxHeartbeats 1000000
namespace PySem
end PySem
namespace L2
open PySem PySem.Spec PyProof.Rows
structure Z3(z TI TO j1 j2 j3 t l m:Addr):Prop where
 TIz:TI≠z
 TOz:TO≠z
 j1z:j1≠z
 j2z:j2≠z
 j3z:j3≠z
 TITO:TI≠TO
 TIj1:TI≠j1
 TIj2:TI≠j2
 TIj3:TI≠j3
 TOj1:TO≠j1
 TOj2:TO≠j2
 TOj3:TO≠j3
 j12:j1≠j2
 j13:j1≠j3
 j23:j2≠j3
 out:∀ x,x=t\/x=l\/x=m->x≠z/\x≠TO/\x≠j1/\x≠j2/\x≠j3
end L2
namespace PySem
end PySem
namespace L2
open PySem PySem.Spec PyProof.Rows
abbrev ua(h:Heap)(T:Addr)(xs:List Value):Prop:=h.get? T=some {cls:=.type "tuple",data:=.seq xs.toArray}
def cH(h:Heap)(j c:Addr)(n:Nat)(vs:Array Value):Bool->Prop
 | true=>h.IsListIter j c n/\h.IsList c vs
 | false=>h.IsTupleIter j c n/\h.IsTuple c vs
def cH.ext{h k}{j c a}{n}{vs}{K}(q:cH h j c n vs K)(b:Heap.SameBut a h k)(d:j≠a)(e:c≠a):cH k j c n vs K:=by
 cases K<;>exact#v[q.1.extBut b.extBut d,q.2.extBut b.extBut e]
def cH.up{h k}{j c}{n}{vs}{K}(q:cH h j c n vs K)(a:∀ o,h.get? j\o->k.get? j\o)(b:∀ o,h.get? c\o->k.get? c\o):cH k j c n vs K:=by
 cases K <;>
 ·obtain⟨⟨d,e,t1⟩,f,e2,g⟩:=q;exact#v[#v[d,a _ e,t1],f,b _ e2,g]
section
variable {prog:Program}{w:World}{A:Around}{E:J0}{s:Shared}
def Hq{j c}{n}{vs}{K}{x}{C}(q:cH s.heap j c n vs K)(a:c≠j)(e:vs[n]?\x)
  (go:∀ k,cH k j c (n+1) vs K->Heap.SameBut j s.heap k->C x {s with heap:=k}):wpAny (model prog w) A (Builtin.SmallTypes.nextOf<|.ref j) C E s:=by
 cases K with
 | true=>exact wpAny_nextOf_list_item q.1 q.2 e λk p b=>go k #v[p,q.2.extBut (Heap.SameBut.extBut b) a] b
 | false=>exact AY q.1 q.2 e λk p b=>go k #v[p,q.2.extBut (Heap.SameBut.extBut b) a] b
def Hr(a:ua s.heap T xs)(b:-xs<=1000)
  (h:∀ h',ua h' T (xs.set k x)->Heap.SameBut T s.heap h'->Q () {s with heap:=h'}):wpAny (model prog w) A (updateSeq T (·.setIfInBounds k x)) Q E s:=by
 have l:xs.toArray.size<=1000:=by simpa using b
 exact wpAny_updateSeq a rfl (h _ (by rw[ua,Heap.get?_update_self _ a rfl];simp[Obj.mapSeq])<|Heap.SameBut.update ..) (N6 l<|by decide) (by rw[Array.size_setIfInBounds];exact N6 l<|by decide)
def Ht{u:Type}{v}{f}{b}{Q:v->Shared->Prop}(St:Nat->Heap->Prop):∀(l:List u) k {s},St k s.heap ->
  (∀ i x h,l[i]?\x->St (k+i) h->wpAny (model prog w) A (f (x,k+i) b) (λr s'=>r=.yield b/\∃ h',s'={s with heap:=h'}/\St (k+i+1) h') E {s with heap:=h}) ->
  (∀ h,St (k+-l) h->Q b {s with heap:=h})->wpAny (model prog w) A (forIn (l.zipIdx k) b f) Q E s:=by
 intro l
 induction l with
 | nil=>
  intro k s a _ c;exact M6<|c _ a
 | cons x l g=>
  intro k s a d c;rw[List.zipIdx_cons,List.forIn_cons];refine L3<|wpAny_mono (d 0 x s.heap rfl a) ?_<|λ_ _ z=>z
  ·rintro r s' ⟨rfl,h',rfl,j⟩;exact g (k+1) j (λi x h e q=>by have:=d (i+1) x h ⇑e (by rw[show k+(i+1)=k+1+i by lia];exact q);rw[show k+(i+1)=k+1+i by lia] at this;exact this)<|λh q=>c h (by rw[M1,show k+(-l+1)=k+1+-l by lia];exact q)
structure Zi where
 j:Addr
 c:Addr
 vs:Array Value
 x:Value
 k:Bool
structure ZA(z TI TO:Addr)(its:List Zi):Prop where
 TIz:TI≠z
 TOz:TO≠z
 TITO:TI≠TO
 jz:∀ q∈its,q.j≠z/\q.j≠TI/\q.j≠TO
 cz:∀ q∈its,q.c≠z/\q.c≠TO/\∀ r∈its,q.c≠r.j
 nd:(its.map (·.j)).Nodup
variable {z TI TO:Addr}{its:List Zi}{n:Nat}{os:List Value}
structure Hu(s:Shared)(z TI TO:Addr)(its:List Zi)(n:Nat)(os:List Value)(i:Nat)(h:Heap):Prop where
 a:IsZip h z TI TO .ellipsis
 b:ua h TO ((its.take i).map (·.x)++os.drop i)
 c:∀(m:Nat) (q:Zi),its[m]?\q->cH h q.j q.c (if m<i then n+1 else n) q.vs q.k
 d:h.objs.size=↥s
 e:∀ a o,a≠z->a≠TO->(∀ q∈its,a≠q.j)->s.heap.get? a\o->h.get? a\o
def Hv{j c}{vs}{K}{C}(a:A.handled=none)(q:cH s.heap j c n vs K)(e:vs[n]?=none)
  (go:∀ k e,Heap.ExtBut j s.heap k->(∃ o,k.get? e\o/\o.cls=.type "StopIteration")->E (.ref e) {s with heap:=k}):wpAny (model prog w) A (Builtin.SmallTypes.nextOf<|.ref j) C E s:=by
 cases K with
 | true=>exact wpAny_nextOf_list_end a q.1 q.2 e go
 | false=>exact(by
   let[g,b,h,d]:=id q.1;let[ot,gt,_,mt,f]:=q.2;refine L3<|wpAny_callSpecial?_slot q.1.typeIs F.slot_tuple_iterator_next<|wpAny_call_entry F.slot_tuple_iterator_next q.1.typeIs F.entry_tuple_iterator_next ?_<|F.args_tuple_iterator_next_1 _;show wpAny _ _ (field (.ref j) 0 >>= _) _ _ s;refine L3<|U5 b d rfl<|L3<|U5 b d rfl<|L3<|wpAny_seqItems gt f ?_;simp only[N7,e];refine L3<|wpAny_rule<|L3<|wpAny_setField b d (by simp)<|L3<|L3<|wpAny_newObj_type ?_ (by size_fits);refine L3<|wpAny_of_eq (by first | rfl | (simp only[firstArgMember];rfl)) ?_;refine wpAny_newObj_type (L3<|wpAny_handled ?_) (by size_fits)
   first | rw[a] | rw[a]
   exact L3<|M6<|wpAny_throw<|go _ _ (((Heap.SameBut.update ..).extBut.push _).push _) #v[_,X7 _ rfl,rfl])
def Hw{C}{r}(u:A.handled=none)(D:ZA z TI TO<|r::its)(b:IsZip s.heap z TI TO .none)(qI:ua s.heap TI<|(r::its).map λq=>.ref q.j)(q:cH s.heap r.j r.c n r.vs r.k)(ex:r.vs[n]?=none)
  (go:∀ k e,(∀ a o,a≠z->a≠TO->(∀ t∈r::its,a≠t.j)->s.heap.get? a\o->k.get? a\o)->(∃ o,k.get? e\o/\o.cls=.type "StopIteration")->E (.ref e) {s with heap:=k}):
  wpAny (model prog w) A (Builtin.«zip.__next__» #v[[.ref z],[]]) C E s:=by
 have d:r∈r::its:=L7;refine(show wpAny (model prog w) A (field (.ref z) 2 >>= _) _ _ _ from L3 (U5 b rfl rfl<|L3<|U5 b rfl rfl<|L3<|wpAny_seqItems qI rfl<|L3<|L3<|U5 b rfl rfl<|M6<|L3<|wpAny_rule<|L3<|U5 b rfl rfl<|L3<|wpAny_setField_rec b (by simp) λH v g=>(L3<|L3<|L3<|wpAny_onRaise (L3<|Hv u (q.ext g (D.jz r d).1 (D.cz r d).1) ex λI e h y=>?_))));let[B,f,i]:=y;have l:=h _ _ (D.jz r d).1.symm v;have ne:e≠z:=λx=>by subst x;rw[l] at f;cases f;simp at i
 exact wpAny_setField_rec l (by simp) λF _ m=>go F e (λc o p _ G x=>m.extBut _ _ p<|h _ _ (G r d)<|g.extBut _ _ p x) #v[B,m.extBut _ _ ne f,i]
def A9{C}(D:ZA z TI TO its)(u:IsZip s.heap z TI TO .none)(qI:ua s.heap TI<|its.map λq=>.ref q.j)(X:ua s.heap TO os)(Y:its≠[])(Z:-os=-its)(hl:-its<=1000)
  (q:∀ r∈its,cH s.heap r.j r.c n r.vs r.k/\r.vs[n]?\r.x)
  (go:∀ k,IsZip k z TI TO (rawInt ↥s)->ua k TO (its.map (·.x))->(∀ r∈its,cH k r.j r.c (n+1) r.vs r.k)->ua k ↥s (its.map (·.x)) ->
   (∀ a o,a≠z->a≠TO->(∀ r∈its,a≠r.j)->s.heap.get? a\o->k.get? a\o)->C (some<|.ref ↥s) {s with heap:=k}):wpAny (model prog w) A (pyNext<|.ref z) C E s:=by
 have ty:s.TypeIs (.ref z) "zip":=#v[_,u,rfl];exact L3 (wpAny_attempt (wpAny_callSpecial?_slot ty F.slot_zip_next (wpAny_call_entry F.slot_zip_next ty F.entry_zip_next
  ((by
    refine(show wpAny (model prog w) A.in1 (field (.ref z) 2 >>= _) _ _ _ from L3 (U5 u rfl rfl<|L3<|U5 u rfl rfl<|L3<|wpAny_seqItems qI rfl ?_));have he:(its.map λq=>Value.ref q.j).toArray.isEmpty=false:=by cases its<;>simp at Y ⊢
    simp only[he];refine(L3<|L3<|U5 u rfl rfl<|M6<|L3<|wpAny_rule<|L3<|U5 u rfl rfl<|L3<|wpAny_setField_rec u (by simp) λk1 z1 H=>(L3<|Ht (Hu s z TI TO its n os) (its.map λq=>Value.ref q.j) 0 (s:={s with heap:=k1}) #v[z1,?_,λm r e=>?_,H.1,λa o g _ _ e=>H.extBut _ _ g e] (λi x h e S=>?_) λh S=>?_))
    ·rw[List.take_zero,List.drop_zero];exact H.extBut _ _ D.TOz X
    ·have f:=List.mem_of_getElem? e;exact(q r f).1.ext H (D.jz r f).1 (D.cz r f).1
    ·rw[Nat.zero_add] at S ⊢;rw[List.getElem?_map] at e;let[r,v,rfl]:=Option.map_eq_some_iff.mp e;have f:=List.mem_of_getElem? v;have hi:=(L9.mp v).1;have hit:=S.c i r v;rw[if_neg<|Nat.lt_irrefl _] at hit;refine L3<|wpAny_onRaise (L3<|Hq hit ((D.cz r f).2.2 r f) (q r f).2 λk2 p y=>M6 ?_)
     have P:=y.extBut _ _ (D.jz r f).2.2.symm S.b;refine L3<|wpAny_seqItems P rfl<|L3<|Hr P (by simp;lia) λk3 o3 B=>?_;refine L3<|wpAny_letGo<|M6 #v[rfl,k3,rfl,?_];have K:∀ m t,its[m]?\t->m≠i->t.j≠r.j:=λm t l L ej=>by
      have:=(List.getElem_inj (h₀:=by simpa using((L9.mp l).1)) (h₁:=by simpa using hi) D.nd).mp (by simp[(L9.mp l).2,(L9.mp v).2,ej]);exact L this
     refine#v[B.extBut _ _ D.TOz.symm<|y.extBut _ _ (D.jz r f).1.symm S.a,?_,λm t l=>?_,by rw[B.1,y.1];exact S.d,λa o g I J e=>B.extBut _ _ I<|y.extBut _ _ (J r f)<|S.e a o g I J e]
     ·have ee:(List.map (·.x) (its.take i)++os.drop i).set i r.x=List.map (·.x) (its.take<|i+1)++os.drop (i+1):=by
       rw[List.take_add_one,v,Option.toList,N4,List.append_assoc,List.set_append_right _ _<|by simp;lia];have M:i< -os:=by lia
       rw[List.drop_eq_getElem_cons M];have:i- -(List.map (·.x)<|its.take i)=0:=by simp;lia
       rw[this];rfl
      rw[<- ee];exact o3
     ·have N:=List.mem_of_getElem? l;by_cases e2:m=i
      ·subst e2;cases v.symm.trans l;rw[if_pos<|Nat.lt_succ_self _];exact p.ext B (D.jz r f).2.2 (D.cz r f).2.1
      ·have x1:=((S.c m t l).ext y (K m t l e2) ((D.cz t N).2.2 r f)).ext B (D.jz t N).2.2 (D.cz t N).2.1;have:(m<i+1)=(m<i):=by apply propext;lia
       simp only[this];exact x1
    ·rw[Nat.zero_add,L1] at S;have O:=S.b;rw[List.take_length,<- Z,List.drop_length,M9] at O;refine L3<|wpAny_seqItems O rfl<|L3<|wpAny_newTuple ?_;have Q:=N0 S.a;refine(L3 ?_);have z8:IsZip (h.push {cls:=.type "tuple",data:=.seq (its.map (·.x)).toArray}) z TI TO .ellipsis:=L8 _ S.a;refine L3<|wpAny_setField_rec z8 (by simp) λk9 z9 R=>(wpAny_setField_rec z9 (by simp) λT U V=>?_);have up:∀ c o,c≠z->h.get? c\o->T.get? c\o:=λc o g e=>V.extBut _ _ g<|R.extBut _ _ g<|L8 _ e;have W:=V.extBut _ _ (Nat.ne_of_gt Q)<|R.extBut _ _ (Nat.ne_of_gt Q)<|X7 _ rfl;rw[S.d] at U W;refine M6 #v[_,rfl,?_];rw[S.d];refine(λk c1 c2 c3 c4 c5=>M6<|go k c1 c2 c3 c4 c5) T U (up _ _ D.TOz O) (λr f=>?_) W λa o g I J e=>up a o g<|S.e a o g I J e;let[m,G,rfl]:=List.getElem_of_mem f;have x:=S.c m _<|X5 G;rw[if_pos G] at x;refine x.up (λo e=>up _ _ (D.jz _ f).1 e)<|λo e=>up _ _ (D.cz _ f).1 e)) (F.args_zip_next_1 _))))
def A_{C}{r}(d:A.handled=none)(D:ZA z TI TO<|r::its)(b:IsZip s.heap z TI TO .none)(qI:ua s.heap TI<|(r::its).map λq=>.ref q.j)(q:cH s.heap r.j r.c n r.vs r.k)(ex:r.vs[n]?=none)
  (go:∀ k,(∀ a o,a≠z->a≠TO->(∀ t∈r::its,a≠t.j)->s.heap.get? a\o->k.get? a\o)->C none {s with heap:=k}):wpAny (model prog w) A (pyNext<|.ref z) C E s:=by
 have ty:s.TypeIs (.ref z) "zip":=#v[_,b,rfl];refine L3<|wpAny_attempt<|wpAny_callSpecial?_slot ty F.slot_zip_next<|wpAny_call_entry F.slot_zip_next ty F.entry_zip_next (Hw d D b qI q ex λk e kp f=>?_)<|F.args_zip_next_1 _;let[o,g,h]:=f;exact L3<|wpAny_isInstance #v[o,g,h] isSubtype_stop<|M6<|go _ kp
end
section
variable {prog:Program}{w:World}{A:Around}{E:J0}{s:Shared}
def fX(h:Heap)(c:Addr)(vs:Array Value):Bool->Prop
 | true=>h.IsList c vs
 | false=>h.IsTuple c vs
def fX.push{h}{c}{vs}{K}(q:fX h c vs K)(o):fX (h.push o) c vs K:=by
 cases K <;>
 ·let[a,e,t]:=q;exact#v[a,L8 _ e,t]
def Hx{c}{vs}{K}{Q}(q:fX s.heap c vs K)
  (go:∀ o:Obj,cH (s.heap.push o) ↥s c 0 vs K->Q (.ref ↥s) {s with heap:=s.heap.push o}):wpAny (model prog w) A (pyIter<|.ref c) Q E s:=by
 cases K with
 | true=>exact wpAny_pyIter_list q<|go _ #v[#v[_,X7 _ rfl,rfl,rfl],fX.push q _]
 | false=>exact wpAny_pyIter_tuple q<|go _ #v[#v[_,X7 _ rfl,rfl,rfl],fX.push q _]
def Hy:∀(l:List<|Addr×Array Value×Bool) acc {s:Shared},(∀ p∈l,fX s.heap p.1 p.2.1 p.2.2) ->
  (∀ k:Heap,k.objs.size=↥s+-l->(∀ i p,l[i]?\p->cH k (↥s+i) p.1 0 p.2.1 p.2.2)->(∀ c o,s.heap.get? c\o->k.get? c\o) ->
   Q (acc++((List.range' ↥s (-l)).map Value.ref).toArray) {s with heap:=k}) ->
  wpAny (model prog w) A (forIn (l.map λp=>Value.ref p.1) acc λx r=>do pure (ForInStep.yield<|r.push<|<- holding r.toList (pyIter x))) Q E s:=by
 intro l
 induction l with
 | nil=>
  intro acc s _ go;exact M6 ⇑(go s.heap rfl (by simp) λ_ _ e=>e)
 | cons p l d=>
  intro acc s h go;rw[L5,List.forIn_cons];refine L3<|L3<|wpAny_holding<|Hx (h p L7) λo q=>(M6<|d _ (λr f=>(h r<|L6 _ f).push _) λk b hi a=>?_);have s1:(s.heap.push o).objs.size=↥s+1:=Heap.size_push ..;simp only[s1] at b hi ⊢;have g:=go k (by rw[b,M1];lia) (λi r e=>?_) λc j e=>a c j<|L8 _ e
  ·rw[M1,List.range'_succ,L5] at g;have e2:acc.push (.ref ↥s)++((List.range' (↥s+1) (-l)).map Value.ref).toArray=acc++(Value.ref ↥s::(List.range' (↥s+1) (-l)).map Value.ref).toArray:=by apply Array.ext';simp
   rw[e2];exact g
  ·cases i with
   | zero=>cases e;exact q.up (a _)<|a _
   | succ i=>rw[show ↥s+(i+1)=↥s+1+i by lia];exact hi i r ⇑e
def Hz{Q}{l:List (Addr×Array Value×Bool)}(h:∀ p∈l,fX s.heap p.1 p.2.1 p.2.2)
  (go:∀ k:Heap,k.objs.size=↥s+-l->(∀ i p,l[i]?\p->cH k (↥s+i) p.1 0 p.2.1 p.2.2)->(∀ c o,s.heap.get? c\o->k.get? c\o) ->
   Q ((List.range' ↥s (-l)).map Value.ref) {s with heap:=k}):wpAny (model prog w) A (Builtin.SmallTypes.iterAll<|l.map λp=>Value.ref p.1) Q E s:=by
 refine L3<|Hy l #[] h λk a b d=>M6 ?_;have:=go k a b d;simpa using this
def HA(l:List<|Addr×Array Value×Bool)(a:-l<=1000):Meets (Builtin.«zip.__new__» #v[.type "zip"::l.map λp=>.ref p.1,[]]) (λ_ R s=>(∀ p∈l,fX s.heap p.1 p.2.1 p.2.2)/\∀ k:Heap,k.objs.size=↥s+-l->(∀ i p,l[i]?\p->cH k (↥s+i) p.1 0 p.2.1 p.2.2)->(∀ c o,s.heap.get? c\o->k.get? c\o) ->
   R (.ok<|.ret<|.ref<|k.objs.size+2) { s with heap:=((k.push {cls:=.type "tuple",data:=.seq ((List.range' ↥s (-l)).map Value.ref).toArray}).push {cls:=.type "tuple",data:=.seq (l.map λ_=>Value.none).toArray}).push {cls:=.type "zip",data:=.fields #[.none,.bool false,.bool false,.ref k.objs.size,.ref<|k.objs.size+1]} }):=
 .of_wp λprog w A R s h=>by
  let[d,h]:=h;have b:=sub_zip
  wp_walk using Hz d
  intro k e e2 e3;have f:(List.map (λ_=>Value.none)<|List.map Value.ref<|List.range' ↥s (-l))=l.map λ_=>Value.none:=by
   rw[U0];apply List.ext_getElem<;>simp
  rw[f];refine L3<|wpAny_newTuple ?_ (by simp;exact N6 a<|by decide);refine L3 (wpAny_newTuple ?_<|by simp;exact N6 a<|by decide)
  wp_walk
  refine#v[_,rfl,?_];rw[Heap.size_push,Heap.size_push];exact(h k e e2 e3)
def Ba{l:List (Addr×Array Value×Bool)}{C}(j:-l<=1000)(a:checkTypeCall "zip" #v[l.map λp=>.ref p.1,[]]=pure ())(b:checkBuiltinCall "zip.__new__" #v[.type "zip"::l.map λp=>.ref p.1,[]]=pure ())(hok:∀ obj,argsOk "object.__init__" #v[obj::l.map λp=>.ref p.1,[]])
  (h1:∀ p∈l,fX s.heap p.1 p.2.1 p.2.2)
  (go:∀ k N,N=↥s+-l->IsZip k (N+2) N (N+1) .none->ua k N ((List.range' ↥s (-l)).map Value.ref)->ua k (N+1) (l.map λ_=>.none)->(∀ i p,l[i]?\p->cH k (↥s+i) p.1 0 p.2.1 p.2.2)->(∀ c o,s.heap.get? c\o->k.get? c\o)->C (.ref<|N+2) {s with heap:=k}):
  wpAny (model prog w) A (call (.type "zip")<|l.map λp=>.ref p.1) C E s:=by
 refine callType_new F.called_zip (by decide) a b hok F.entry_zip_new (HA l j) #v[h1,λk m e2 e3=>?_];have d:∀(h:Heap) o,(h.push o).objs.size=h.objs.size+1:=λh o=>Heap.size_push ..;have f:=X7 (((k.push {cls:=.type "tuple",data:=.seq ((List.range' ↥s (-l)).map Value.ref).toArray}).push {cls:=.type "tuple",data:=.seq (l.map λ_=>Value.none).toArray})) (o:={cls:=.type "zip",data:=.fields #[.none,.bool false,.bool false,.ref k.objs.size,.ref<|k.objs.size+1]}) rfl;rw[d,d] at f;have up:∀ c o,k.get? c\o->(((k.push {cls:=.type "tuple",data:=.seq ((List.range' ↥s (-l)).map Value.ref).toArray}).push {cls:=.type "tuple",data:=.seq (l.map λ_=>Value.none).toArray}).push {cls:=.type "zip",data:=.fields #[.none,.bool false,.bool false,.ref k.objs.size,.ref<|k.objs.size+1]}).get? c\o:=λc o x=>L8 _<|L8 _<|L8 _ x;have g:=X7 (k.push {cls:=.type "tuple",data:=.seq ((List.range' ↥s (-l)).map Value.ref).toArray}) (o:={cls:=.type "tuple",data:=.seq (l.map λ_=>Value.none).toArray}) rfl;rw[d] at g;exact#v[#v[_,f,rfl],go _ k.objs.size m f (L8 _<|L8 _<|X7 k rfl) (L8 _ g) (λi p e=>(e2 i p e).up (up _) (up _)) λc o x=>up c o<|e3 c o x]
end
def fM(K:W4)(H:Hp)(c:Addr):Bool->List V->Prop
 | true,q=>cD K H c q
 | false,q=>cK K H c q
def fY(h:Heap)(j c:Addr)(n:Nat):Bool->Prop
 | true=>h.IsListIter j c n
 | false=>h.IsTupleIter j c n
structure Zp where
 j:Addr
 c:Addr
 k:Bool
def rM(K:W4)(as:List<|Addr×Bool):It:=
 ⟨λi H=>∀ a∈as,∃ q x,fM K H a.1 a.2 q/\q[i]?\x,
  λi H x H'=>∃ p xs,-xs=-as/\(∀(m:Nat) a,as[m]?\a->∀ q,fM K H a.1 a.2 q->∃ u,xs[m]?\u/\q[i]?\u)/\x=.ref p/\H p=none/\H'=bU H p (.tup xs),
  λi H=>∃ a r q,as=a::r/\fM K H a.1 a.2 q/\ -q<=i⟩
def Bb(I:bP X pins u H s)(h:fM X.K H c k q)(hi:fY s.heap j c n k):∃ us:List Value,bQ q us/\cH s.heap j c n us.toArray k:=by
 cases k with
 | true=>
  let[us,a,p,_]:=I.list h;exact#v[us,a,hi,p.isList]
 | false=>
  let[us,a,p,_]:=I.tuple h;exact#v[us,a,hi,p]
def HB(I:bP X pins u H s)(h:fM X.K H c k q)(h':fM X.K H c k q'):q=q':=by
 cases k with
 | true=>exact I.list_inj h h'
 | false=>exact I.tuple_inj h h'
def HC(I:bP X pins U H s):∀ ps:List Zp,(∀ p∈ps,∃ q x,fM X.K H p.c p.k q/\q[i]?\x)->(∀ p∈ps,fY s.heap p.j p.c i p.k) ->
  eB λ(its:List Zi) (xs:List V)=>dY (its.map (λr=>(#v[r.j,r.c,r.k]:Zp))=ps) (bQ xs (its.map (·.x))) (∀ r∈its,cH s.heap r.j r.c i r.vs r.k/\r.vs[i]?\r.x) (∀(m:Nat) p,ps[m]?\p->∀ q,fM X.K H p.c p.k q->∃ u,xs[m]?\u/\q[i]?\u):=by
 intro ps
 induction ps with
 | nil=>
  intro _ _;exact#v[[],[],rfl,.nil,by simp,by simp]
 | cons p ps n=>
  intro g h;let[its,xs,e,v,a,b]:=n (λr d=>g r<|by simp[d]) λr d=>h r (by simp[d]);let[q,x,l,hx]:=g p (by simp);let[o,w,y]:=Bb I l<|h p (by simp);let[u,z,A]:=w.get hx;refine#v[#v[p.j,p.c,o.toArray,u,p.k]::its,x::xs,by rw[L5,e],.cons A v,λr d=>?_,λm t e2 B f=>?_]
  ·rcases M4.mp d with rfl | d
   ·exact#v[y,by simpa using z]
   ·exact a r d
  ·cases m with
   | zero=>cases e2;exact#v[x,rfl,by rw[HB I f l];exact hx]
   | succ m=>exact b m t ⇑e2 B f
structure ZP(z TI TO:Addr)(ps:List Zp):Prop where
 TIz:TI≠z
 TOz:TO≠z
 TITO:TI≠TO
 jz:∀ q∈ps,q.j≠z/\q.j≠TI/\q.j≠TO
 cz:∀ q∈ps,q.c≠z/\q.c≠TO/\∀ r∈ps,q.c≠r.j
 nd:(ps.map (·.j)).Nodup
def ZP.za{z TI TO}{ps}{its}(D:ZP z TI TO ps)(e:its.map (λr=>(#v[r.j,r.c,r.k]:Zp))=ps):ZA z TI TO its:=by
 subst e;refine#v[D.TIz,D.TOz,D.TITO,λq a=>D.jz _<|List.mem_map_of_mem a,λq a=>?_,by have:=D.nd;rwa [U0] at this];have:=D.cz _<|List.mem_map_of_mem a;exact#v[this.1,this.2.1,λr b=>this.2.2 _<|List.mem_map_of_mem b]
def fY.obj(q:fY h j c n k):∃ o,h.get? j\o/\∀ v,o.data≠.cell v:=by
 cases k <;>
 ·let[o,e,_,d]:=q;exact#v[o,e,λv z=>by rw[d] at z;cases z]
def fY.up(q:fY h j c n b)(a:∀ o,h.get? j\o->k.get? j\o):fY k j c n b:=by
 cases b <;>
 ·let[o,e,t]:=q;exact#v[o,a _ e,t]
def cH.itB(q:cH h j c n vs k):fY h j c n k:=by
 cases k<;>exact q.1
def HD{P}{w}{K}{elts}{n}{pos}(z TI TO)(ps)(D:ZP z TI TO ps)(hn:ps≠[])(hl:-ps<=1000):
  dZ P w K (.Tuple elts n pos) (rM K<|ps.map λp=>(p.c,p.k)) (z::TI::TO::ps.map (·.j)) z (λi h=>IsZip h z TI TO .none/\ua h TI (ps.map λp=>.ref p.j)/\(∃ os,-os=-ps/\ua h TO os)/\∀ p∈ps,fY h p.j p.c i p.k) where
 mem:=by simp
 obj:=λi h l b f=>by
  obtain⟨u,y,⟨os,_,F⟩,C⟩:=l;rcases(⇑f:b=z\/b=TI\/b=TO \/ ∃ p∈ps,p.j=b) with q | q | q | ⟨p,d,q⟩<;>subst q
  ·exact#v[_,u,λv q=>by cases q]
  ·exact#v[_,y,λv q=>by cases q]
  ·exact#v[_,F,λv q=>by cases q]
  ·exact(C p d).obj
 keep:=λi h h' l k=>by
  obtain⟨u,y,⟨os,N,F⟩,C⟩:=l;exact#v[k z (by simp) _ u,k TI (by simp) _ y,#v[os,N,k TO (by simp) _ F],λp d=>(C p d).up (k p.j<|by simp;exact .inr<|.inr<|.inr #v[p,d,rfl])]
 item:=by
  intro X R S T hc i G s σ H E I O l U;subst R S T;obtain⟨u,y,⟨os,N,F⟩,C⟩:=l;let[A,xs,e,J,hi,hx]:=HC I ps (λp d=>U (p.c,p.k)<|M5.mpr #v[p,d,rfl]) C;have el:-A=-ps:=by rw[<- e,L1]
  have ej:(A.map λq=>Value.ref q.j)=ps.map λp=>Value.ref p.j:=by rw[<- e,U0];rfl
  have mp:∀ p∈ps,∃ r∈A,r.j=p.j/\r.c=p.c/\r.k=p.k:=λp d=>by
   rw[<- e] at d;let[r,L,rfl]:=M5.mp d;exact#v[r,L,rfl,rfl,rfl]
  refine A9 (D.za e) u (by rw[ej];exact y) F (λz=>hn<|by rw[<- e,z];rfl) (by rw[N,el]) ∅ hi λhh a1 a2 a3 a4 Q=>?_;refine#v[_,rfl,wpAny_letOwnedTupleGo_zip a1 λh7 V g=>?_];have lt:∀{c o},s.heap.get? c\o->c < ↥s:=N0;have M:=(g.2 _<|Nat.ne_of_gt<|lt u).trans a4;have nj:∀{b},(∀ p∈ps,b≠p.j)->∀ r∈A,b≠r.j:=λh r L=>by
   have:=h #v[r.j,r.c,r.k] (by rw[<- e];exact List.mem_map_of_mem L);exact this
  have kk:∀ b o,b∉z::TI::TO::ps.map (·.j)->s.heap.get? b\o->h7.get? b\o:=λb o f q=>by
   have B:b≠z/\b≠TI/\b≠TO/\∀ p∈ps,b≠p.j:=by
    simp at f;exact#v[f.1,f.2.1,f.2.2.1,λp d x=>f.2.2.2 p d x.symm]
   exact(g.2 b B.1).trans (Q b o B.1 B.2.2.1 (nj B.2.2.2) q)
  have I1:=I.turnedNew (t':=s.toks) kk O (M8 _) #v[#v[_,M,rfl,_,rfl],_,M,rfl] ⇑J (by have:=-J;simp at this;exact N6 (by lia:-xs<=1000)<|by decide);refine#v[.ref ↥s,_,I1,rfl,#v[_,xs,by have:=-J;simp at this;simp;lia,λm a em q W=>?_,rfl,I.hok.fresh<|M8 _,rfl],#v[V,(g.2 TI D.TIz).trans (Q _ _ D.TIz D.TITO (nj λp d x=>(D.jz p d).2.1 x.symm) y),#v[_,by rw[L1,el],(g.2 TO D.TOz).trans a2],λp d=>?_],λb f=>?_]
  ·rw[List.getElem?_map] at em;let[p,ep,rfl]:=Option.map_eq_some_iff.mp em;exact hx m p ep q W
  ·let[r,L,rj,rc,rk]:=mp p d;rw[<- rj,<- rc,<- rk];refine(a3 r L).itB.up λo q=>(g.2 _ ?_).trans q;rw[rj];exact(D.jz p d).1
  ·rw[jh]
   ·exact(O b f).1
   ·intro q;have:b < ↥s:=by
     rcases(⇑f:b=z\/b=TI\/b=TO \/ ∃ p∈ps,p.j=b) with w | w | w | ⟨p,d,w⟩
     ·rw[w];exact lt u
     ·rw[w];exact lt y
     ·rw[w];exact lt F
     ·let[o,e,_]:=(C p d).obj;rw[<- w];exact lt e
    exact absurd this (by rw[q];exact Nat.lt_irrefl _)
 done:=by
  intro X R S T hc i G s σ H E I O l U;subst R S T;obtain⟨u,y,⟨os,N,F⟩,C⟩:=l;let[a,r,q,ea,W,hx]:=U;cases ps with
  | nil=>cases ea
  | cons p ps=>
   cases ea;let[us,J,it]:=Bb I W<|C p (by simp);have hl1:=-J;have ee:((#v[p.j,p.c,us.toArray,.none,p.k]:Zi)::ps.map λp=>#v[p.j,p.c,#[],.none,p.k]).map (λr=>(#v[r.j,r.c,r.k]:Zp))=p::ps:=by
    rw[L5,U0];exact congrArg (p::·)<|List.map_id _
   refine A_ (I.ok.hd hc) (D.za ee) u (by rw[show ua s.heap TI _=ua s.heap TI ((p::ps).map λp=>.ref p.j) by rw[L5,U0];rfl];exact y) it (by simp;lia) λhh Q=>#v[rfl,I.turnedL (λb o f q=>?_) O];simp only[M4,M5,not_or,L5] at f;refine Q b o f.1 f.2.2.1 (λt Y x=>?_) q;rcases M4.mp Y with rfl | Y
   ·exact f.2.2.2.1 x
   ·let[p',Z,rfl]:=M5.mp Y;exact f.2.2.2.2 #v[p',Z,x.symm]
 self:=λ_ _ _ _ _ l h=>wpAny_pyIter_zip l.1 h
end L2
namespace PySem
open Sem (wp)
section
variable {prog:Program}{w:World}{A:Around}{E:J0}{h:Heap}{g:Array GenState}{d:Drawn}{t:Nat}{os:OsState}{a:Addr}{o:Obj}
def HE{fs}{Q}(e:A.handled=none)(hx:h.get? a=some {cls:=.type "zip",data:=.fields fs})
  (f:∀ h' t',(∀ b o,h.get? b\o->h'.get? b\o)->Q none #v[h',g,d,t',os]):wpAny (model prog w) A (getAttr? (.ref a) "keys") Q E #v[h,g,d,t,os]:=
 YN F.slot_zip_getattribute (am_miss_of_fast<|by kernel_rfl) (entryFor_alias (id':="object.__getattribute__") (by kernel_rfl) (by first | rfl | decide +kernel) (by decide +kernel)<|by kernel_rfl) (λ_=>F.args_zip_getattribute_2 _ _) (λu=>Meets.of_wp λprog w A R s c=>by
  let[i,g,d,j,os]:=s;let[hx,c]:=c;have k:typeLookup (.type "zip") "keys" = pure none:=am_miss_of_fast (by kernel_rfl)
  repeat (any_goals (first | assumption | wp_step))
  exact wpAny_raiseAttrError c.1 c.2<|attrMsg_fits (by decide +kernel)<|by decide) hx rfl e f
end
end PySem
namespace L2
open PySem PySem.Spec PyProof.Rows
section
variable {prog:Program}{w:World}{A:Around}{E:J0}{s:Shared}{z TI TO j1 j2 l t:Addr}{m:Nat}{us vs:Array Value}{u v a b:Value}
abbrev K9(h:Heap)(z TI TO c:Addr)(f:Bool):Prop:=h.get? z=some {cls:=.type "zip",dict:=none,data:=.fields #[rawInt c,.bool f,.bool false,.ref TI,.ref TO],slots:=#[]}
def Bc{c}{f}{K}(a:K9 s.heap z TI TO c f)(h:∀ k0,K9 k0 z TI TO c true->Heap.SameBut z s.heap k0->K false {s with heap:=k0}):
  wpAny (model prog w) A (if(Value.bool f != Value.bool true)=true then do {setField (.ref z) 1 (.bool true);pure false} else pure false) K E s:=by
 cases f with
 | false=>exact L3<|wpAny_setField_rec a (by simp) λk0 b d=>M6<|h k0 b d
 | true=>exact M6<|h s.heap a #v[rfl,λ_ _=>rfl]
def HF{c}{f}{oc}{C:J0}(D:ZipApart z TI TO j1 j2 l t)(d:K9 s.heap z TI TO c f)(n:s.heap.get? c\oc)(qI:IsPair s.heap TI (.ref j1)<|.ref j2)
  (p:s.heap.IsListIter j1 l m) (q:s.heap.IsTupleIter j2 t m) (r:s.heap.IsList l us) (x:s.heap.IsTuple t vs) (y:us[m]?\u) (B:vs[m]?\v)
  (go:∀ k,K9 k z TI TO c true->k.IsListIter j1 l (m+1)->k.IsTupleIter j2 t (m+1)->IsPair k ↥s u v->k.objs.size=↥s+1 ->
   (∀ c o,c≠z->c≠j1->c≠j2->s.heap.get? c\o->k.get? c\o)->C (.ref ↥s) {s with heap:=k}):
  wpAny (model prog w) A (Builtin.«zip.__next__» #v[[.ref z],[]]) (λfin s'=>∃ v,fin=.done (.ret v)/\C v s') E s:=by
 show wpAny (model prog w) A (field (.ref z) 2 >>= _) _ _ _;refine L3<|U5 d rfl rfl<|L3<|U5 d rfl rfl<|L3<|wpAny_seqItems qI rfl<|L3<|L3<|U5 d rfl rfl<|L3<|PySem.W.kdx_alive n<|L3<|U5 d rfl rfl<|Bc d λP F a=>(L3 ?_);refine L3<|L3<|wpAny_holding<|L3<|wpAny_nextOf_list_item (p.extBut a.extBut D.i1z) (r.extBut a.extBut D.l1z) y λQ p1 g=>M6<|M6<|L3<|L3<|wpAny_holding<|L3<|AY ((q.extBut a.extBut D.i2z).extBut g.extBut D.i12.symm) ((x.extBut a.extBut D.l2z).extBut g.extBut D.l2i1) B λb p2 h=>M6<|M6<|M6 ?_;show wpAny _ _ (newTuple [u,v] >>= _) _ _ _;refine L3<|wpAny_newTuple<|M6 #v[_,rfl,?_];have G:b.objs.size=↥s:=by rw[h.1,g.1,a.1]
 have kp:∀ c o,c≠z->c≠j1->c≠j2->s.heap.get? c\o->(b.push {cls:=.type "tuple",data:=.seq #[u,v]}).get? c\o:=λc o H I J e=>L8 _<|h.extBut _ _ J<|g.extBut _ _ I<|a.extBut _ _ H e;have i:IsPair (b.push {cls:=.type "tuple",data:=.seq #[u,v]}) b.objs.size u v:=X7 _ rfl;have j:(b.push {cls:=.type "tuple",data:=.seq #[u,v]}).objs.size=b.objs.size+1:=Heap.size_push ..;rw[G] at i j ⊢;let[x1,K,L]:=(p1.extBut h.extBut D.i12);let[M,N,O]:=p2;exact go _ (L8 _<|h.extBut _ _ D.i2z.symm<|g.extBut _ _ D.i1z.symm F) #v[x1,L8 _ K,L] #v[M,L8 _ N,O] i j kp
def HG{c}{f}{oc}{C}(d:A.handled=none)(D:ZipApart z TI TO j1 j2 l t)(a:K9 s.heap z TI TO c f)(g:s.heap.get? c\oc)(qI:IsPair s.heap TI (.ref j1)<|.ref j2)
  (h:s.heap.IsListIter j1 l m) (i:s.heap.IsList l us) (j:us[m]?=none)
  (go:∀ k e,(∀ c o,c≠z->c≠j1->c≠j2->s.heap.get? c\o->k.get? c\o)->(∃ o,k.get? e\o/\o.cls=.type "StopIteration")->E (.ref e) {s with heap:=k}):
  wpAny (model prog w) A (Builtin.«zip.__next__» #v[[.ref z],[]]) C E s:=by
 show wpAny (model prog w) A (field (.ref z) 2 >>= _) _ _ _;refine L3<|U5 a rfl rfl<|L3<|U5 a rfl rfl<|L3<|wpAny_seqItems qI rfl<|L3<|L3<|U5 a rfl rfl<|L3<|PySem.W.kdx_alive g<|L3<|U5 a rfl rfl<|Bc a λv y b=>(L3 ?_);exact L3<|L3<|wpAny_holding<|L3<|wpAny_nextOf_list_end d (h.extBut b.extBut D.i1z) (i.extBut b.extBut D.l1z) j λn e p q=>(go n e (λc o r u _ x=>p _ _ u<|b.extBut _ _ r x) q)
def ZS(z TI TO j1 j2 l t:Addr)(i:Nat)(h:Heap):Prop:=IsPair h TI (.ref j1) (.ref j2)/\(∃ a b,IsPair h TO a b)/\h.IsListIter j1 l i/\h.IsTupleIter j2 t i/\(IsZip h z TI TO .none \/ ∃ c f oc,K9 h z TI TO c f/\h.get? c\oc)
def Bd{us vs u v}(D:ZipApart z TI TO j1 j2 l t):ZA z TI TO [#v[j1,l,us,u,true],#v[j2,t,vs,v,false]]:=#v[D.TIz,D.TOz,D.TITO,by simpa using#v[#v[D.i1z,D.TIi1.symm,D.TOi1.symm],D.i2z,D.TIi2.symm,D.TOi2.symm],by simpa using#v[#v[D.l1z,D.l1TO,D.l1i1,D.l1i2],D.l2z,D.l2TO,D.l2i1,D.l2i2],by simpa using D.i12]
def HH{C}(D:ZipApart z TI TO j1 j2 l t)(q:ZS z TI TO j1 j2 l t m s.heap)(r:s.heap.IsList l us)(x:s.heap.IsTuple t vs)(B:us[m]?\u)(G:vs[m]?\v)
  (go:∀ k,ZS z TI TO j1 j2 l t (m+1) k->IsPair k ↥s u v->(∀ c o,c≠z->c≠TO->c≠j1->c≠j2->s.heap.get? c\o->k.get? c\o)->C (some<|.ref ↥s) {s with heap:=k}):wpAny (model prog w) A (pyNext<|.ref z) C E s:=by
 obtain⟨qI,⟨a,b,H⟩,I,J,g⟩:=q;rcases g with g | ⟨c,f,oc,g,K⟩
 ·refine A9 (Bd D) g qI H (by simp) rfl (Nat.le_of_ble_eq_true rfl) (by simpa using#v[#v[#v[I,r],B],#v[J,x],G]) λk c1 N h i c6=>?_;have d:∀ c o,c≠z->c≠TO->c≠j1->c≠j2->s.heap.get? c\o->k.get? c\o:=λc o j O n p=>c6 c o j O (by simpa using#v[n,p]);exact go k #v[d _ _ D.TIz D.TITO D.TIi1 D.TIi2 qI,#v[_,_,N],(h _ L7).1,(h _<|L6 _ L7).1,.inr #v[_,false,_,c1,i]] i d
 ·have ty:s.TypeIs (.ref z) "zip":=#v[_,g,rfl];refine L3<|wpAny_attempt<|wpAny_callSpecial?_slot ty F.slot_zip_next<|wpAny_call_entry F.slot_zip_next ty F.entry_zip_next
   (HF D g K qI I J r x B G λk c1 h L i c6 d=>M6 ?_) (F.args_zip_next_1 _)
  have al:∃ oc,k.get? c\oc:=by
   by_cases M:c=z
   ·subst M;exact#v[_,c1]
   by_cases e2:c=j1
   ·let[_,y,_]:=h;subst e2;exact#v[_,y]
   by_cases e3:c=j2
   ·let[_,y,_]:=L;subst e3;exact#v[_,y]
   exact#v[_,d c oc M e2 e3 K]
  let[P,al]:=al;exact go k #v[d _ _ D.TIz D.TIi1 D.TIi2 qI,#v[_,_,d _ _ D.TOz D.TOi1 D.TOi2 H],h,L,.inr #v[_,true,_,c1,al]] i λc o j _ n p e=>d c o j n p e
def HI{C}(n:A.handled=none)(D:ZipApart z TI TO j1 j2 l t)(q:ZS z TI TO j1 j2 l t m s.heap)(p:s.heap.IsList l us)(u:us[m]?=none)
  (go:∀ k,(∀ c o,c≠z->c≠TO->c≠j1->c≠j2->s.heap.get? c\o->k.get? c\o)->C none {s with heap:=k}):wpAny (model prog w) A (pyNext<|.ref z) C E s:=by
 obtain⟨qI,⟨a,b,I⟩,v,J,d⟩:=q;rcases d with d | ⟨c,f,oc,d,x⟩
 ·exact A_ (its:=[#v[j2,t,us,a,false]]) (r:=#v[j1,l,us,a,true]) n (Bd D) d qI #v[v,p] u λk g=>go k λc o h y i j=>g c o h y (by simpa using#v[i,j])
 ·have ty:s.TypeIs (.ref z) "zip":=#v[_,d,rfl];refine L3<|wpAny_attempt<|wpAny_callSpecial?_slot ty F.slot_zip_next<|wpAny_call_entry F.slot_zip_next ty F.entry_zip_next (HG n D d x qI v p u λk e kp B=>?_)<|F.args_zip_next_1 _;let[o,G,H]:=B;exact L3<|wpAny_isInstance #v[o,G,H] isSubtype_stop<|M6<|go _ λc o h _ i j e=>kp c o h i j e
end
section
variable {prog:Program}{w:World}{K:Type} [DecidableEq K] {knd:KeyKind prog w K}{A:Around}{E:J0}{z TI TO j1 j2 l t:Addr}{us vs:Array Value}
def ZS.keep{i}{h h'}{X}(q:ZS z TI TO j1 j2 l t i h)(k:∀ b o,b≠X->h.get? b\o->h'.get? b\o)(g:X≠z)(m:X≠TI)(n:X≠TO)(p:X≠j1)(r:X≠j2)(nx:∀ o,h.get? X\o->∃ o',h'.get? X\o'):ZS z TI TO j1 j2 l t i h':=by
 obtain⟨qI,⟨a,b,s⟩,⟨x1,u,v⟩,⟨w,x,y⟩,d⟩:=q;refine#v[k _ _ m.symm qI,#v[a,b,k _ _ n.symm s],#v[x1,k _ _ p.symm u,v],#v[w,k _ _ r.symm x,y],?_];rcases d with d | ⟨c,f,oc,d,j⟩
 ·exact .inl<|k _ _ g.symm d
 ·by_cases e:c=X
  ·let[o',A]:=nx oc<|e▸j;exact .inr #v[c,f,o',k _ _ g.symm d,e▸A]
  ·exact .inr #v[c,f,oc,k _ _ g.symm d,k _ _ e j]
def HJ{R:Result->Shared->Prop}(hh:A.handled=none){D:Addr}(d:ZipApart z TI TO j1 j2 l t)(L:D≠z)(n2:D≠TI)(M:D≠TO)(N:D≠j1)(O:D≠j2)(n6:D≠l)(n7:D≠t){ps:List (K×Value)}(x:us.size=-ps)
  (hp:∀(j:Nat) u,us[j]?\u->∃ kv,ps[j]?\kv/\knd.is kv.1 u=true/\vs[j]?\kv.2):∀(k i:Nat) (s:Shared) (kvs:List<|K×Value),
  us.size-i=k->i<=us.size->ZS z TI TO j1 j2 l t i s.heap->s.heap.IsList l us->s.heap.IsTuple t vs->s.heap.DictOf knd D kvs->-kvs+k<=100000 ->
  (∀ h' tk,h'.DictOf knd D ((ps.drop i).foldl (λa kv=>stored a kv.1 kv.2) kvs)->(∀ b o,b≠z->b≠TO->b≠j1->b≠j2->b≠D->s.heap.get? b\o->h'.get? b\o)->R (.ok<|.ret .none) {s with heap:=h',toks:=tk}) ->
  codeAny (model prog w) A (.builtin "dict.update.loop" #v[[.ref D,.ref z,rawInt i,.none],[]]) R s:=by
 intro k
 induction k with
 | zero=>
  intro i s kvs hk hi g I P hd hz Q;have S:i=us.size:=by lia
  subst S;refine codeAny_builtin F.cj<|L3<|HI hh d g I (by simp) λh' c=>?_;have fin:=Q h' s.toks (by rw[x,List.drop_length];exact hd.at λo e=>c D o L M N O e)<|λb o m n p v _ e=>c b o m n p v e
  repeat (any_goals (first | assumption | wp_step))
 | succ k ih=>
  intro i s kvs hk hi g I P hd hz Q;have h:i<us.size:=by lia
  let[kv,y,B,C]:=hp i us[i] (by simp[h]);refine codeAny_builtin F.cj<|L3<|HH d g I P (u:=us[i]) (by simp[h]) C λh' E hT c=>(L3<|wpAny_holding<|L3<|wpAny_tryCatch<|YS hT rfl rfl ?_);have hsz:sizeLine=16777216:=by decide
  refine wpAny_holding<|wpAny_dictSet_pairs B (hd.at λo e=>c D o L M N O e) (λG f hs=>(M6 #v[plainId_quiet F.cg _,?_])) ∅;have T:ps.drop i=kv::ps.drop (i+1):=by
   have H:i< -ps:=by lia
   rw[List.drop_eq_getElem_cons H];have:ps[i]=kv:=by
    rw[X5 H] at y;exact X3 y
   rw[this]
  have U:=λb o m n p v J e=>(hs.2 b J).trans (c b o m n p v e);have V:G.IsList l us:=by
   let[o,e,r]:=I;exact#v[o,U l o d.l1z d.l1TO d.l1i1 d.l1i2 n6.symm e,r]
  have W:G.IsTuple t vs:=by
   let[o,e,r]:=P;exact#v[o,U t o d.l2z d.l2TO d.l2i1 d.l2i2 n7.symm e,r]
  refine ih (i+1) _ (stored kvs kv.1 kv.2) ∅ h (E.keep (λb o hb e=>(hs.2 b hb).trans e) L n2 M N O<|λo _=>?_) V W f ?_ λh3 X Y Z=>?_
  ·let[q,_,_,e,_]:=f;exact#v[q,e]
  ·have:=stored_length_le kvs kv.1 kv.2
   lia
  ·refine Q h3 X ?_ λb o m n p v J e=>Z b o m n p v J<|U b o m n p v J e;rw[T,U9];exact Y
end
section
variable {prog:Program}{w:World}{K:Type} [DecidableEq K] {knd:KeyKind prog w K}{A:Around}{E:J0}{s:Shared}{z TI TO j1 j2 l t:Addr}{us vs:Array Value}
def QZ{ps:List (K×Value)}{Q}(p:A.handled=none)(D:ZipApart z TI TO j1 j2 l t)(i:IsZip s.heap z TI TO .none)(qI:IsPair s.heap TI (.ref j1)<|.ref j2)(r:IsPair s.heap TO .none .none)(G:s.heap.IsListIter j1 l 0)(H:s.heap.IsTupleIter j2 t 0)(I:s.heap.IsList l us)(J:s.heap.IsTuple t vs)(d:us.size=-ps)
  (L:∀(j:Nat) u,us[j]?\u->∃ kv,ps[j]?\kv/\knd.is kv.1 u=true/\vs[j]?\kv.2) (hz:-ps<=100000)
  (h:∀ h' tk,h'.DictOf knd ↥s (ps.foldl (λa kv=>stored a kv.1 kv.2) [])->(∀ b o,b≠z->b≠TO->b≠j1->b≠j2->s.heap.get? b\o->h'.get? b\o)->Q (.ref ↥s) {s with heap:=h',toks:=tk}):
  wpAny (model prog w) A (call (.type "dict") [.ref z]) Q E s:=by
 refine callType_codes (Q₁:=λobj v=>obj=.ref ↥s/\v={ s with heap:=s.heap.push {cls:=.type "dict",data:=.dict #[]} }) F.kt_called_dict (F.kt_typeCall_dict_1 _) F.entry_dict_init (kt_code_dict_new _ #v[rfl,rfl]) ?_;rintro obj v ⟨rfl,rfl⟩;have c:(s.heap.push {cls:=.type "dict",data:=.dict #[]}).DictOf knd ↥s []:=Heap.DictOf.new s.heap;refine#v[c.typeIs,F.args_dict_init_2 _ _,?_];have f:(s.heap.push {cls:=.type "dict",data:=.dict #[]}).get? z=_:=L8 _ i;refine L3<|L3<|wpAny_notOrdered_dict c.typeIs<|M6<|L3<|wpAny_typeOf #v[_,f,rfl]<|L3<|HE p f λh2 t2 g=>?_
 ·rw[if_pos<|show(Option.isNone none)=true from rfl];refine L3<|wpAny_rule ?_;have up:=λb o e=>g b o<|L8 _ e;refine L3<|PySem.wpAny_pyIter_zip (up _ _ i) ?_;have lt:∀{b o},s.heap.get? b\o->↥s≠b:=λe q=>by have:=N0 e;rw[<- q] at this;exact Nat.lt_irrefl _ this
  let[M,x,N]:=G;let[O,y,P]:=H;let[R,B,S]:=I;let[T,C,U]:=J;refine M6 #v[plainId_quiet F.cg _,?_];refine HJ (A:=A.in1) (p) D (lt i) (lt qI) (lt r) (lt x) (lt y) (lt B) (lt C) d L us.size 0 _ [] ∅ (U4 _) #v[up _ _ qI,#v[_,_,up _ _ r],#v[M,up _ _ x,N],#v[O,up _ _ y,P],.inl<|up _ _ i] #v[R,up _ _ B,S] #v[T,up _ _ C,U] (c.at<|g _) (by simp;lia) λV k m n=>?_
  ·refine#v[rfl,h V k m λb o W X Y Z e=>n b o W X Y Z (lt e).symm (up b o e)]
end
def Be(K:W4):List V->Hp->VK->Prop:=λxs H Q=>∃(l t:Addr) (ys:List V) (ps:List<|cS×V),xs=[.ref l,.ref t]/\cD K H l (ps.map λkv=>kV kv.1)/\cK K H t ys/\(∀(j:Nat) kv,ps[j]?\kv->ys[j]?\kv.2)/\ -ps<=100000/\∀ D,H D=none->Q (.ref D) (bU H D<|.dK<|ps.foldl (λa kv=>Jj a kv.1 kv.2) [])
def HK:∀{ps}{us}{ys}{vs},bQ (ps.map λkv=>kV kv.1) us->bQ ys vs->(∀(j:Nat) kv,ps[j]?\kv->ys[j]?\kv.2) ->
  ∃(qs:List<|cS×Value),cM (KV ps qs) (-us=-qs) (∀(j:Nat) u,us[j]?\u->∃ kv,qs[j]?\kv/\(yi P w).is kv.1 u=true/\vs[j]?\kv.2):=by
 intro ps
 induction ps with
 | nil=>
  intro us ys vs a b h;cases a;exact#v[[],.nil,rfl,λj u e=>by simp at e]
 | cons kv ps d=>
  intro us ys vs a b h;cases a with
  | cons f t1=>
   rename_i u g;have c:=h 0 kv rfl;cases b with
   | nil=>cases c
   | cons i l=>
    rename_i y v m n;cases c;let[qs,r,o,q]:=d t1 l λj k e=>by simpa using h (j+1) k ⇑e
    refine#v[(kv.1,v)::qs,.cons #v[rfl,i] r,by simp[o],λj w e=>?_];cases j with
    | zero=>cases e;exact#v[_,rfl,uB f,rfl]
    | succ j=>exact q j w ⇑e
end L2
namespace PySem
end PySem
namespace L2
open PySem PySem.Spec PyProof.Rows
def rN(K:W4)(m:Nat)(tl:TA):TI:=λs H R=>tl s H λvs H1=>∃ as:List (Addr×Bool),-as=m/\vs=as.map (λa=>.ref a.1)/\(∀ a∈as,∃ q,fM K H1 a.1 a.2 q)/\R (rM K as) H1
theorem Bf(I:bP X pins u H s):∀ as:List (Addr×Bool),(∀ a∈as,∃ q,fM X.K H a.1 a.2 q)->∃ l:List (Addr×Array Value×Bool),l.map (λp=>(p.1,p.2.2))=as/\∀ p∈l,fX s.heap p.1 p.2.1 p.2.2/\p.1 < ↥s
 | [],_=>#v[[],rfl,by simp]
 | (a,k)::as,h=>by
  let[l,e,d]:=Bf I as λb f=>h b (by simp[f]);let[q,c]:=h (a,k) (by simp);have:∃ vs:Array Value,fX s.heap a vs k/\a < ↥s:=by
   cases k with
   | true=>
    let[g,i,p,_]:=I.list c;let[o,_,e,_]:=id p;exact#v[_,p.isList,N0 e]
   | false=>
    let[g,i,p,_]:=I.tuple c;let[o,e,_]:=id p;exact#v[_,p,N0 e]
  let[vs,j,m]:=this;exact#v[(a,vs,k)::l,by rw[L5,e],λp n=>(M4.mp n).elim (λz=>by rw[z];exact#v[j,m]) (d p)]
def hI(S:Nat)(l:List<|Addr×Array Value×Bool):List Zp:=(l.zipIdx S).map λq=>#v[q.2,q.1.1,q.1.2.2]
def HL(S):∀ l:List (Addr×Array Value×Bool),(hI S l).map (·.j)=List.range' S (-l):=by
 intro l
 induction l generalizing S with
 | nil=>rfl
 | cons p l a=>have:=a<|S+1;unfold hI at this ⊢;rw[List.zipIdx_cons,L5,L5,this,M1,List.range'_succ]
def HM(S):∀ l:List (Addr×Array Value×Bool),(hI S l).map (λp=>(p.c,p.k))=l.map λp=>(p.1,p.2.2):=by
 intro l
 induction l generalizing S with
 | nil=>rfl
 | cons p l a=>have:=a<|S+1;unfold hI at this ⊢;rw[List.zipIdx_cons,L5,L5,this,L5]
def zg{S}:∀{l}{q},q∈hI S l->∃ i p,l[i]?\p/\q=#v[S+i,p.1,p.2.2]:=by
 intro l q h;obtain⟨⟨p,m⟩,a,rfl⟩:=M5.mp h;have:=List.mem_zipIdx a;refine#v[m-S,p,?_,?_]
 ·rw[X5 ∅];exact congrArg some this.2.2.symm
 ·have:S+(m-S)=m:=by lia
  rw[this]
def rO(N):N≠N+2/\N+1≠N+2/\N≠N+1:=by lia
def HN{S L i N}(h:i<L)(e:N=S+L):S+i≠N+2/\S+i≠N/\S+i≠N+1:=by lia
def HP{c S L N}(h:c<S)(e:N=S+L):c≠N+2/\c≠N+1/\∀ i,c≠S+i:=#v[by lia,by lia,λi=>by lia]
def rP{S L N b}(e:N=S+L)(h:b=N+2\/b=N\/b=N+1):S<=b:=by lia
def HQ(I:bP X pins W H s)  (hn:as≠[]) (Q:-as<=1000) (d:∀ a∈as,∃ q,fM X.K H a.1 a.2 q) (q:R (rM X.K as) H)
  (f:checkTypeCall "zip" #v[as.map λp=>.ref p.1,[]]=pure ()) (g:checkBuiltinCall "zip.__new__" #v[.type "zip"::as.map λp=>.ref p.1,[]]=pure ()) (hok:∀ obj,argsOk "object.__init__" #v[obj::as.map λp=>.ref p.1,[]]):
  X⁻¹ (call (.type "zip")<|as.map λp=>.ref p.1) (λv s1=>X⁻¹ (pyIter v) (l_ X pins W (.Tuple elts n tpos) R) X.xe s1) X.xe s:=by
 let[l,e,t]:=Bf I as d;have S:-l=-as:=by rw[<- e,L1]
 have y:(as.map λp=>Value.ref p.1)=l.map λp=>Value.ref p.1:=by rw[<- e,U0];rfl
 rw[y] at f g hok ⊢;refine Ba ∅ f g hok (λp B=>(t p B).1) λC N h u E F G J=>?_;have L:bP X pins W H {s with heap:=C}:=I.kept J;refine PySem.wpAny_pyIter_zip u ?_;have k:=HL ↥s l;have x:=HM ↥s l;have D:ZP (N+2) N (N+1) (hI ↥s l):=by
  refine#v[(rO N).1,(rO N).2.1,(rO N).2.2,λq d=>?_,λq d=>?_,by rw[k];exact List.nodup_range']
  ·let[i,p,m,rfl]:=zg d;exact HN (L9.mp m).1 h
  ·let[i,p,m,rfl]:=zg d;have:=HP (t p<|List.mem_of_getElem? m).2 h;refine#v[this.1,this.2.1,λr M=>?_];let[O,U,_,rfl]:=zg M;exact this.2.2 O
 have T:=HD (P:=X.prog) (w:=X.w) (K:=X.K) (elts:=elts) (n:=n) (pos:=tpos) (N+2) N (N+1) (hI ↥s l) D (λz=>hn<|by rw[<- e,<- x,z];rfl) (by have:=congrArg List.length k;rw[L1,List.length_range'] at this;lia);rw[x,e] at T;refine#v[N+2,_,_,_,H,rfl,L,T,#v[u,?_,#v[_,?_,F],λq d=>?_],λb c=>?_,q]
 ·rw[show(hI ↥s l).map (λp=>Value.ref p.j)=((hI ↥s l).map (·.j)).map Value.ref by rw[U0];rfl,k];exact E
 ·have:=congrArg List.length k;rw[L1,List.length_range'] at this;rw[L1];lia
 ·let[i,p,m,rfl]:=zg d;exact(G i p m).itB
 ·have o:↥s<=b:=by
   rw[k] at c;rcases M4.mp c with z | c
   ·exact rP h<|.inl z
   rcases M4.mp c with z | c
   ·exact rP h<|.inr<|.inl z
   rcases M4.mp c with z | c
   ·exact rP h<|.inr<|.inr z
   exact(List.mem_range'_1.mp c).1
  exact I.fpOk o<|I.hok.fresh o
theorem wZ:∀{as:List (Addr×Bool)}{us},bQ (as.map λa=>V.ref a.1) us->us=as.map λa=>Value.ref a.1
 | [],_,h=>by cases h;rfl
 | a::as,_,h=>by
  cases h with
  | cons b c=>cases b;rw[wZ c];rfl
def HR{s:Type}{l:List s}(h:-l=3):∃ x y z,l=[x,y,z]:=by
 rcases l with _ | ⟨x,_ | ⟨y,_ | ⟨z,_ | _⟩⟩⟩<;>first | exact#v[_,_,_,rfl] | cases h
def HS(f:Gl X "zip")(g:X.mg "zip" = none)(i:PA X [a,b,c] ta)(j:starEach [a,b,c] X.env=[(false,eval a X.env),(false,eval b X.env),(false,eval c X.env)]:=by rfl)(d:starEach [b,c] X.env=[(false,eval b X.env),(false,eval c X.env)]:=by rfl):
  PI X (.Tuple elts n tpos) (.Call (.Name "zip" p) [a,b,c] [] pos) (rN X.K 3 ta):=by
 intro e s w H R I h;refine Call_<|JF I f g (show bootBuiltins "zip" = some (.type "zip") by decide +kernel)<|PyProof.Rows.callWith_type1 (thn (i pos e s w H _ I h) λt s1 ⟨vs,u,k,l,m⟩=>?_) (by rw[j,d]) (by rw[d];rfl);let[v,l2,rfl,r,q]:=m;cases wZ l;let[x,y,z,rfl]:=HR l2;exact HQ k (by simp) (by simp) r q ((by kernel_rfl)) ((by kernel_rfl)) λo=>(by unfold argsOk;kernel_rfl)
end L2
namespace QD
open PySem L2
inductive KA where
 | int (i:Int) | str (s:List Nat)
 deriving DecidableEq
inductive D where
 | non | bl (b:Bool) | int (i:Int) | str (s:List Nat)
 | tup (l:List D) | lst (o:Bool) (l:List D)
 | dK (o:Bool) (ks:List KA) (l:List D)
 | dT (o:Bool) (ks:List (List KA)) (l:List D)
 | ins (o:Bool) (c:Nat) (ns:List Str) (l:List D)
 | dead
  | tok (a:Addr)
 | kt (k:List KA)
  | exc (c:Nat) (p:Int)
def xo(C a dx:Addr):Heap->Prop:=λh=>∃ o vs,h.get? a\o/\o.cls=.ref C/\o.dict\dx/\o.data=.fields vs
mutual
def fz:D->D
 | .tup l=>.tup<|bV l
 | .lst _ l=>.lst false<|bV l
 | .dK _ ks l=>.dK false ks<|bV l
 | .dT _ ks l=>.dT false ks<|bV l
 | .ins _ c ns l=>.ins false c ns<|bV l
 | .non=>.non | .bl b=>.bl b | .int i=>.int i | .str s=>.str s | .dead=>.dead | .tok a=>.tok a | .kt k=>.kt k | .exc c p=>.exc c p
def bV:List D->List D
 | []=>[]
 | d::l=>fz d::bV l
end
mutual
def frz:D->Bool
 | .tup l=>frzs l
 | .lst o l=>!o&&frzs l
 | .dK o _ l=>!o&&frzs l
 | .dT o _ l=>!o&&frzs l
 | .ins o _ _ l=>!o&&frzs l
 | .non=>true | .bl _=>true | .int _=>true | .str _=>true | .dead=>true | .tok _=>true | .kt _=>true | .exc _ _=>true
def frzs:List D->Bool
 | []=>true
 | d::l=>frz d&&frzs l
end
mutual
theorem yb:∀ d:D,frz d=true->fz d=d
 | .tup l,h=>congrArg D.tup<|je l h
 | .lst o l,h=>by cases o with
  | true=>cases h
  | false=>exact congrArg (D.lst false)<|je l h
 | .dK o ks l,h=>by cases o with
  | true=>cases h
  | false=>exact congrArg (D.dK false ks)<|je l h
 | .dT o ks l,h=>by cases o with
  | true=>cases h
  | false=>exact congrArg (D.dT false ks)<|je l h
 | .ins o c ns l,h=>by cases o with
  | true=>cases h
  | false=>exact congrArg (D.ins false c ns)<|je l h
 | .non,_=>rfl | .bl _,_=>rfl | .int _,_=>rfl | .str _,_=>rfl | .dead,_=>rfl | .tok _,_=>rfl | .kt _,_=>rfl | .exc _ _,_=>rfl
theorem je:∀ l:List D,frzs l=true->bV l=l
 | [],_=>rfl
 | d::l,h=>by have h:=Bool.and_eq_true_iff.mp h;show fz d::bV l=_;rw[yb d h.1,je l h.2]
end
mutual
theorem HU:∀ d:D,frz (fz d)=true
 | .tup l=>JV l
 | .lst o l=>JV l
 | .dK o ks l=>JV l
 | .dT o ks l=>JV l
 | .ins o c ns l=>JV l
 | .non=>rfl | .bl _=>rfl | .int _=>rfl | .str _=>rfl | .dead=>rfl | .tok _=>rfl | .kt _=>rfl | .exc _ _=>rfl
theorem JV:∀ l:List D,frzs (bV l)=true
 | []=>rfl
 | d::l=>by show(frz (fz d)&&frzs (bV l))=true;rw[HU d,JV l];rfl
end
theorem qP:∀ l:List D,bV l=l.map fz
 | []=>rfl
 | d::l=>by show fz d::bV l=_;rw[qP l];rfl
theorem Vu:∀ l:List D,frzs l=l.all frz
 | []=>rfl
 | d::l=>by show(frz d&&frzs l)=_;rw[Vu l];rfl
structure RC where
 K:PySem.W.Frag
 cls:Nat->Addr
def bX:KA->cS
 | .int i=>.inl i
 | .str s=>.inr<|S s
noncomputable abbrev Zn:=Addr->Prop
def FT(R:RC)(Z:Zn)(H:Hp)(a:Addr)(vs:List V):Prop:=
 (Z a/\Rd H a (.tup vs)) \/ ∃ o its n,R.K.lookup a\o/\o.cls=.type "tuple"/\o.data=.seq its n/\its.size<=sizeLine/\bQ vs its.toList/\o.dict=none
def FL(R:RC)(Z:Zn)(H:Hp)(a:Addr)(vs:List V):Prop:=
 (Z a/\Rd H a (.lst vs)) \/ ∃ its n,R.K.lookup a=some {cls:=.type "list",data:=.seq its n}/\its.size<=sizeLine/\bQ vs its.toList
def rQ(o:Bool)(H:Hp)(a:Addr)(kvs:List<|cS×V):Prop:=bif o then H a\(.dK kvs) else Rd H a (.dK kvs)
inductive nZ (rs:List V->List Addr->Prop) (C:Addr->List V->List Addr->Prop) (v:V):Prop
 | mk:∀(a:Addr) (vs:List V) (O':W5),v=.ref a->rs vs O'->C a vs O'->nZ rs C v
inductive Bg (rd:V->List Addr->Prop) (rs:List V->List Addr->Prop) (vs:List V) (O:W5):Prop
 | mk:∀(v:V) (vs':List V) (O1 O2:W5),vs=v::vs'->O=O1++O2->rd v O1->rs vs' O2->Bg rd rs vs O
mutual
def bS(R:RC)(Z:Zn)(H:Hp):D->V->List Addr->Prop
 | .non,v,O=>v=.non/\O=[]
 | .bl b,v,O=>v=.bl b/\O=[]
 | .int i,v,O=>v=.int i/\O=[]
 | .str s,v,O=>v=.str (S s)/\O=[]
 | .dead,_,O=>O=[]
 | .tok a,v,O=>v=.ref a/\O=[]
 | .kt k,v,O=>∃ a,v=.ref a/\Z a/\H a\(.tup<|(k.map bX).map kV)/\O=[]
 | .exc c p,v,O=>∃ a dx,v=.ref a/\Z a/\Z dx/\H a\(.ext<|xo (R.cls c) a dx)/\H dx\(.xd [("place",.int p)])/\O=[]
 | .tup l,v,O=>∃ a vs,v=.ref a/\FT R Z H a vs/\a_ R Z H l vs O
 | .lst o l,v,O=>nZ (λvs O'=>a_ R Z H l vs O') (λa vs O'=>bif o then H a\(.lst vs)/\O=a::O' else FL R Z H a vs/\O'=[]/\O=[]) v
 | .dK o ks l,v,O=>nZ (λvs O'=>a_ R Z H l vs O') (λa vs O'=>-ks=-l/\rQ o H a ((ks.map bX).zip vs)/\bif o then O=a::O' else Z a/\O'=[]/\O=[]) v
 | .dT o ks l,v,O=>nZ (λvs O'=>a_ R Z H l vs O') (λa vs O'=>-ks=-l/\H a\(.dT<|(ks.map<|List.map bX).zip vs)/\bif o then O=a::O' else Z a/\O'=[]/\O=[]) v
 | .ins o c ns l,v,O=>∃ a dx vs O',v=.ref a/\a_ R Z H l vs O'/\ -ns=-l/\H a\(.ins (R.cls c) dx<|ns.zip vs)/\bif o then O=a::O' else Z a/\O'=[]/\O=[]
def a_(R:RC)(Z:Zn)(H:Hp):List D->List V->List Addr->Prop
 | [],vs,O=>vs=[]/\O=[]
 | d::ds,vs,O=>Bg (λv O1=>bS R Z H d v O1) (λvs' O2=>a_ R Z H ds vs' O2) vs O
end
def FT.sq(h:FT R Z H a vs):cK R.K H a vs:=by
 rcases h with⟨_,h⟩ | ⟨o,b,n,c,d,e,f,g,_⟩
 ·exact .inl h
 ·exact .inr #v[o,b,n,c,d,e,f,g]
def FL.sqx(h:FL R Z H a vs):fL R.K H a vs:=by
 rcases h with⟨_,h⟩ | h
 ·exact .inl h
 ·exact .inr h
def FL.sq(h:FL R Z H a vs):cD R.K H a vs:=h.sqx.sq
def Rd.agree(e:H' a=H a)(h:Rd H a u):Rd H' a u:=by
 unfold Rd at h ⊢;rw[e];exact h
def FT.frame(b:∀ a,Z a->Z' a)(c:∀ a,Z a->H' a=H a)(h:FT R Z H a vs):FT R Z' H' a vs:=by
 rcases h with⟨z,h⟩ | h
 ·exact .inl #v[b a z,Rd.agree (c a z) h]
 ·exact .inr h
def FL.frame(b:∀ a,Z a->Z' a)(c:∀ a,Z a->H' a=H a)(h:FL R Z H a vs):FL R Z' H' a vs:=by
 rcases h with⟨z,h⟩ | h
 ·exact .inl #v[b a z,Rd.agree (c a z) h]
 ·exact .inr h
mutual
theorem bS.frame(hz:∀ a,Z a->Z' a)(hH:∀ a,Z a->H' a=H a):∀{d:D}{v:V}{O:W5},bS R Z H d v O->(∀ a∈O,H' a=H a)->bS R Z' H' d v O
 | .non,_,_,h,_=>by symm at h;symm;exact h
 | .bl _,_,_,h,_=>by symm at h;symm;exact h
 | .int _,_,_,h,_=>by symm at h;symm;exact h
 | .str _,_,_,h,_=>by symm at h;symm;exact h
 | .dead,_,_,h,_=>by symm at h;symm;exact h
 | .tok _,_,_,h,_=>by symm at h;symm;exact h
 | .kt _,_,_,h,_=>by
  symm at h;symm
  let[a,e,z,x,o]:=h;exact#v[a,e,hz a z,(hH a z).trans x,o]
 | .exc _ _,_,_,h,_=>by
  symm at h;symm
  let[a,dx,e,z1,z2,h1,h2,h3]:=h;exact#v[a,dx,e,hz a z1,hz dx z2,(hH a z1).trans h1,(hH dx z2).trans h2,h3]
 | .tup l,_,_,h,hO=>by
  symm at h;symm
  let[a,vs,e,t,r]:=h;exact#v[a,vs,e,t.frame hz hH,a_.frame hz hH r hO]
 | .lst o l,_,_,h,hO=>by
  symm at h;symm
  let[a,vs,O',e,r,h]:=h;cases o with
  | true=>
   let[h1,rfl]:=h;exact#v[a,vs,O',e,a_.frame hz hH r λb hb=>hO b<|L6 _ hb,by rw[cond_true,hO a L7];exact#v[h1,rfl]]
  | false=>
   let[h1,rfl,rfl]:=h;exact#v[a,vs,[],e,a_.frame hz hH r (λb hb=>nomatch hb),h1.frame hz hH,rfl,rfl]
 | .dK o ks l,_,_,h,hO=>by
  symm at h;symm
  let[a,vs,O',e,r,hl,hd,h]:=h;cases o with
  | true=>
   have h:=(show _=_ from h);subst h;exact#v[a,vs,O',e,a_.frame hz hH r λb hb=>hO b<|L6 _ hb,hl,by show H' a\_;rw[hO a L7];exact hd,rfl]
  | false=>
   let[h1,rfl,rfl]:=h;exact#v[a,vs,[],e,a_.frame hz hH r (λb hb=>nomatch hb),hl,Rd.agree (hH a h1) hd,hz a h1,rfl,rfl]
 | .dT o ks l,_,_,h,hO=>by
  symm at h;symm
  let[a,vs,O',e,r,hl,hd,h]:=h;cases o with
  | true=>
   have h:=(show _=_ from h);subst h;exact#v[a,vs,O',e,a_.frame hz hH r λb hb=>hO b<|L6 _ hb,hl,by rw[hO a L7];exact hd,rfl]
  | false=>
   let[h1,rfl,rfl]:=h;exact#v[a,vs,[],e,a_.frame hz hH r (λb hb=>nomatch hb),hl,by rw[hH a h1];exact hd,hz a h1,rfl,rfl]
 | .ins o c ns l,_,_,h,hO=>by
  symm at h;symm
  let[a,dx,vs,O',e,r,hl,hd,h]:=h;cases o with
  | true=>
   have h:=(show _=_ from h);subst h;exact#v[a,dx,vs,O',e,a_.frame hz hH r λb hb=>hO b<|L6 _ hb,hl,by rw[hO a L7];exact hd,rfl]
  | false=>
   let[h1,rfl,rfl]:=h;exact#v[a,dx,vs,[],e,a_.frame hz hH r (λb hb=>nomatch hb),hl,by rw[hH a h1];exact hd,hz a h1,rfl,rfl]
theorem a_.frame(hz:∀ a,Z a->Z' a)(hH:∀ a,Z a->H' a=H a):∀{l:List D}{vs:List V}{O:W5},a_ R Z H l vs O->(∀ a∈O,H' a=H a)->a_ R Z' H' l vs O
 | [],_,_,h,_=>by symm at h;symm;exact h
 | d::l,_,_,h,hO=>by
  symm at h;symm
  let[v,vs,O1,O2,e,rfl,r1,r2]:=h;exact#v[v,vs,O1,O2,e,rfl,bS.frame hz hH r1 λa ha=>hO a<|List.mem_append_left _ ha,a_.frame hz hH r2 λa ha=>hO a<|U2 _ ha]
end
mutual
theorem bS.nil:∀{d:D}{v:V}{O:W5},bS R Z H d v O->frz d=true->O=[]
 | .non,_,_,h,_=>by symm at h;exact h.2
 | .bl _,_,_,h,_=>by symm at h;exact h.2
 | .int _,_,_,h,_=>by symm at h;exact h.2
 | .str _,_,_,h,_=>by symm at h;exact h.2
 | .dead,_,_,h,_=>by symm at h;exact h
 | .tok _,_,_,h,_=>by symm at h;exact h.2
 | .kt _,_,_,h,_=>by symm at h;let[_,_,_,_,h]:=h;exact h
 | .exc _ _,_,_,h,_=>by symm at h;let[_,_,_,_,_,_,_,h]:=h;exact h
 | .tup l,_,_,h,f=>by
  symm at h
  let[a,vs,e,t,r]:=h;exact a_.nil r f
 | .lst o l,_,_,h,f=>by
  symm at h
  let[a,vs,O',e,r,h]:=h;cases o with
  | true=>cases f
  | false=>exact h.2.2
 | .dK o ks l,_,_,h,f=>by
  symm at h
  let[a,vs,O',e,r,hl,hd,h]:=h;cases o with
  | true=>cases f
  | false=>exact h.2.2
 | .dT o ks l,_,_,h,f=>by
  symm at h
  let[a,vs,O',e,r,hl,hd,h]:=h;cases o with
  | true=>cases f
  | false=>exact h.2.2
 | .ins o c ns l,_,_,h,f=>by
  symm at h
  let[a,dx,vs,O',e,r,hl,hd,h]:=h;cases o with
  | true=>cases f
  | false=>exact h.2.2
theorem a_.nil:∀{l:List D}{vs:List V}{O:W5},a_ R Z H l vs O->frzs l=true->O=[]
 | [],_,_,h,_=>by symm at h;exact h.2
 | d::l,_,_,h,f=>by
  symm at h;replace f:=Bool.and_eq_true_iff.mp f
  let[v,vs,O1,O2,e,rfl,r1,r2]:=h;rw[bS.nil r1 f.1,a_.nil r2 f.2];rfl
end
mutual
theorem bS.freeze:∀{d:D}{v:V}{O:W5},bS R Z H d v O->(∀ a,Z a->Z' a)->(∀ a∈O,Z' a)->bS R Z' H (fz d) v []
 | .non,_,_,h,_,_=>by symm at h;symm;exact#v[h.1,rfl]
 | .bl _,_,_,h,_,_=>by symm at h;symm;exact#v[h.1,rfl]
 | .int _,_,_,h,_,_=>by symm at h;symm;exact#v[h.1,rfl]
 | .str _,_,_,h,_,_=>by symm at h;symm;exact#v[h.1,rfl]
 | .dead,_,_,h,_,_=>by symm
 | .tok _,_,_,h,_,_=>by symm at h;symm;exact#v[h.1,rfl]
 | .kt _,_,_,h,hz,_=>by
  symm at h;symm
  let[a,e,z,x,o]:=h;exact#v[a,e,hz a z,x,rfl]
 | .exc _ _,_,_,h,hz,_=>by
  symm at h;symm
  let[a,dx,e,z1,z2,h1,h2,_]:=h;exact#v[a,dx,e,hz a z1,hz dx z2,h1,h2,rfl]
 | .tup l,_,_,h,hz,hO=>by
  symm at h;symm
  let[a,vs,e,t,r]:=h;exact#v[a,vs,e,t.frame hz λ_ _=>rfl,a_.freeze r hz hO]
 | .lst o l,_,_,h,hz,hO=>by
  symm at h;symm
  let[a,vs,O',e,r,h]:=h;cases o with
  | true=>
   let[h1,rfl]:=h;exact#v[a,vs,[],e,a_.freeze r hz λb hb=>hO b<|L6 _ hb,.inl #v[hO a L7,.inl h1],rfl,rfl]
  | false=>
   let[h1,rfl,rfl]:=h;exact#v[a,vs,[],e,a_.freeze r hz (λb hb=>nomatch hb),h1.frame hz<|λ_ _=>rfl,rfl,rfl]
 | .dK o ks l,_,_,h,hz,hO=>by
  symm at h;symm
  let[a,vs,O',e,r,hl,hd,h]:=h;have hl':-ks=-(bV l):=by rw[qP,L1];exact hl
  cases o with
  | true=>
   have h:=(show _=_ from h);subst h;exact#v[a,vs,[],e,a_.freeze r hz λb hb=>hO b<|L6 _ hb,hl',.inl hd,hO a L7,rfl,rfl]
  | false=>
   let[h1,rfl,rfl]:=h;exact#v[a,vs,[],e,a_.freeze r hz (λb hb=>nomatch hb),hl',hd,hz a h1,rfl,rfl]
 | .dT o ks l,_,_,h,hz,hO=>by
  symm at h;symm
  let[a,vs,O',e,r,hl,hd,h]:=h;have hl':-ks=-(bV l):=by rw[qP,L1];exact hl
  cases o with
  | true=>
   have h:=(show _=_ from h);subst h;exact#v[a,vs,[],e,a_.freeze r hz λb hb=>hO b<|L6 _ hb,hl',hd,hO a L7,rfl,rfl]
  | false=>
   let[h1,rfl,rfl]:=h;exact#v[a,vs,[],e,a_.freeze r hz (λb hb=>nomatch hb),hl',hd,hz a h1,rfl,rfl]
 | .ins o c ns l,_,_,h,hz,hO=>by
  symm at h;symm
  let[a,dx,vs,O',e,r,hl,hd,h]:=h;have hl':-ns=-(bV l):=by rw[qP,L1];exact hl
  cases o with
  | true=>
   have h:=(show _=_ from h);subst h;exact#v[a,dx,vs,[],e,a_.freeze r hz λb hb=>hO b<|L6 _ hb,hl',hd,hO a L7,rfl,rfl]
  | false=>
   let[h1,rfl,rfl]:=h;exact#v[a,dx,vs,[],e,a_.freeze r hz (λb hb=>nomatch hb),hl',hd,hz a h1,rfl,rfl]
theorem a_.freeze:∀{l:List D}{vs:List V}{O:W5},a_ R Z H l vs O->(∀ a,Z a->Z' a)->(∀ a∈O,Z' a)->a_ R Z' H (bV l) vs []
 | [],_,_,h,_,_=>by symm at h;symm;exact#v[h.1,rfl]
 | d::l,_,_,h,hz,hO=>by
  symm at h;symm
  let[v,vs,O1,O2,e,rfl,r1,r2]:=h;exact#v[v,vs,[],[],e,rfl,bS.freeze r1 hz λa ha=>hO a<|List.mem_append_left _ ha,a_.freeze r2 hz λa ha=>hO a<|U2 _ ha]
end
theorem a_.length:∀{l}{vs}{O},a_ R Z H l vs O->-vs=-l
 | [],_,_,h=>by symm at h;rw[h.1];rfl
 | d::l,_,_,h=>by
  let[v,vs,b,c,rfl,rfl,e,a]:=h;rw[M1,M1,a_.length a]
theorem a_.append:∀{l m}{vs ws}{O P},a_ R Z H l vs O->a_ R Z H m ws P->a_ R Z H (l++m) (vs++ws) (O++P)
 | [],m,_,_,_,_,h,k=>by symm at h;let[rfl,rfl]:=h;exact k
 | d::l,m,_,_,_,_,h,k=>by
  let[v,vs,a,e,rfl,rfl,b,c]:=h;exact#v[v,_,a,_,rfl,List.append_assoc ..,b,a_.append c k]
def a_.one(h:bS R Z H d v O):a_ R Z H [d] [v] O:=by
 exact#v[v,[],O,[],rfl,(M9 O).symm,h,by symm;exact#v[rfl,rfl]]
def a_.cons(h:bS R Z H d v O)(k:a_ R Z H l vs P):a_ R Z H (d::l) (v::vs) (O++P):=by
 exact#v[v,vs,O,P,rfl,rfl,h,k]
def a_.empty:a_ R Z H [] [] []:=by symm;exact#v[rfl,rfl]
theorem a_.at:∀{l}{vs}{O}{i}{d},a_ R Z H l vs O->l[i]?=some d ->
  gP λv A P B=>dY (vs[i]?\v) (O=A++P++B) (bS R Z H d v P)<|∀{Z'}{H'}{d'}{v'}{P'},bS R Z' H' d' v' P'->(∀ a,Z a->Z' a)->(∀ a,Z a->H' a=H a)->(∀ a∈A,H' a=H a)->(∀ a∈B,H' a=H a)->a_ R Z' H' (l.set i d') (vs.set i v') (A++P'++B)
 | [],_,_,_,_,_,e=>by simp at e
 | c::l,_,_,0,d,h,e=>by
  let[v,vs,b,j,rfl,rfl,m,n]:=h;have e:c=d:=by simpa using e
  subst e;exact#v[v,[],b,j,rfl,rfl,m,λr f g o p=>#v[_,vs,_,j,rfl,rfl,r,a_.frame f g n p]]
 | c::l,_,_,i+1,d,h,e=>by
  let[v,vs,b,j,rfl,rfl,m,n]:=h;let[w,A,P,B,s,rfl,t,k]:=a_.at n ⇑e;exact#v[w,b++A,P,B,by simpa using s,by simp,t,λ{Z' H' d' v' P'} r f g o p=>#v[v,_,b,A++P'++B,rfl,by simp,bS.frame f g m λa q=>o a<|List.mem_append_left _ q,k r f g (λa q=>o a<|U2 _ q) p]]
def a_.item{l}{vs}{i:Nat}(h:a_ R Z H l vs [])(e:l[i]?\d):∃ v,vs[i]?\v/\bS R Z H d v []:=by
 let[v,A,P,B,a,e2,r,_]:=h.at e;have:P=[]:=by
  have:=congrArg List.length e2;simp at this;exact List.eq_nil_of_length_eq_zero ∅
 subst this;exact#v[v,a,r]
theorem a_.take:∀{l}{vs} n,a_ R Z H l vs []->a_ R Z H (l.take n) (vs.take n) []
 | _,_,0,_=>by simp;exact .empty
 | [],_,n+1,h=>by symm at h;rw[h.1];exact .empty
 | d::l,_,n+1,h=>by
  let[v,vs,c,f,rfl,e,a,b]:=h;let[rfl,rfl]:=List.append_eq_nil_iff.mp e.symm;exact .cons a<|a_.take n b
theorem a_.drop:∀{l}{vs} n,a_ R Z H l vs []->a_ R Z H (l.drop n) (vs.drop n) []
 | _,_,0,h=>h
 | [],_,n+1,h=>by symm at h;rw[h.1];exact .empty
 | d::l,_,n+1,h=>by
  let[v,vs,b,c,rfl,e,f,a]:=h;let[rfl,rfl]:=List.append_eq_nil_iff.mp e.symm;exact a_.drop n a
structure WF(Z:Zn)(H:Hp)(O:W5):Prop where
 nd:O.Nodup
 nz:∀ a∈O,¬ Z a
 od:∀ a∈O,H a≠none
 zd:∀ a,Z a->H a≠none
structure Go(Z:Zn)(H:Hp)(O:W5)(Z':Zn)(H':Hp)(O':W5):Prop where
 wf:WF Z' H' O'
 zz:∀ a,Z a->Z' a
 fr:∀ a,H a≠none->a∉O->H' a=H a
 zn:∀ a,Z' a->Z a\/a∈O\/H a=none
 sub:∀ a∈O',a∈O\/H a=none
 dm:∀ a,H a≠none->H' a≠none
def Go.refl(w:WF Z H O):Go Z H O Z H O:=#v[w,λ_ z=>z,λ_ _ _=>rfl,λ_ z=>.inl z,λ_ h=>.inl h,λ_ h=>h]
def Go.trans(g:Go Z H O Z' H' O')(k:Go Z' H' O' Z'' H'' O''):Go Z H O Z'' H'' O'':=by
 refine#v[k.wf,λa z=>k.zz a<|g.zz a z,λa h n=>?_,λa z=>?_,λa h=>?_,λa h=>k.dm a<|g.dm a h]
 ·rw[k.fr a (g.dm a h) λb=>(g.sub a b).elim n h,g.fr a h n]
 ·rcases k.zn a z with z | z | z
  ·exact g.zn a z
  ·rcases g.sub a z with q | q
   ·lia
   ·lia
  ·by_cases h:H a=none
   ·lia
   ·exact absurd z<|g.dm a h
 ·rcases k.sub a h with q | q
  ·exact g.sub a q
  ·by_cases h:H a=none
   ·lia
   ·exact absurd q<|g.dm a h
def Go.zH(w:WF Z H O)(g:Go Z H O Z' H' O'):∀ a,Z a->H' a=H a:=λa z=>g.fr a (w.zd a z) λh=>w.nz a h z
def WF.sub(w:WF Z H O)(h:∀ a∈O',a∈O)(n:O'.Nodup):WF Z H O':=#v[n,λa z=>w.nz a<|h a z,λa z=>w.od a<|h a z,w.zd]
def WF.mid(w:WF Z H<|A++O++B):WF Z H O:=w.sub (λa h=>by simp[h]) (by have:=w.nd;simp[U8] at this;exact this.2.1.1)
def WF.left(w:WF Z H<|A++B):WF Z H A:=w.sub (λa h=>by simp[h]) (U8.mp w.nd).1
def WF.right(w:WF Z H<|A++B):WF Z H B:=w.sub (λa h=>by simp[h]) (U8.mp w.nd).2.1
def Go.frame(w:WF Z H<|A++O++B)(g:Go Z H O Z' H' O'):Go Z H (A++O++B) Z' H' (A++O'++B):=by
 have nd:=w.nd;simp only[U8,N1] at nd;have new:∀ a∈O',a∉A/\a∉B:=λa h=>by
  rcases g.sub a h with q | q
  ·exact#v[λz=>nd.1.2.2 a z a q rfl,λz=>nd.2.2 a (.inr q) a z rfl]
  ·exact#v[λz=>w.od a (by simp[z]) q,λz=>w.od a (by simp[z]) q]
 have keep:∀ a,a∈A\/a∈B->a∉O:=λa h z=>by
  rcases h with h | h
  ·exact nd.1.2.2 a h a z rfl
  ·exact nd.2.2 a (.inr z) a h rfl
 refine#v[#v[?_,λa h z=>?_,λa h=>?_,g.wf.zd],g.zz,λa h n=>?_,λa z=>?_,λa h=>?_,g.dm]
 ·simp only[U8,N1];exact#v[#v[nd.1.1,g.wf.nd,λa h b k e=>(new b k).1 (e▸h)],nd.2.1,λa h b k e=>by
   rcases h with h | h
   ·exact nd.2.2 a (.inl h) b k e
   ·exact(new a h).2 (e▸k)]
 ·simp only[N1] at h;rcases h with(h | h) | h
  ·rcases g.zn a z with q | q | q
   ·exact w.nz a (by simp[h]) q
   ·exact keep a (.inl h) q
   ·exact w.od a (by simp[h]) q
  ·exact g.wf.nz a h z
  ·rcases g.zn a z with q | q | q
   ·exact w.nz a (by simp[h]) q
   ·exact keep a (.inr h) q
   ·exact w.od a (by simp[h]) q
 ·simp only[N1] at h;rcases h with(h | h) | h
  ·exact g.dm a<|w.od a (by simp[h])
  ·exact g.wf.od a h
  ·exact g.dm a<|w.od a (by simp[h])
 ·simp only[N1,not_or] at n;exact g.fr a h n.1.2
 ·rcases g.zn a z with q | q | q
  ·lia
  ·exact .inr<|.inl (by simp[q])
  ·lia
 ·simp only[N1] at h ⊢;rcases h with(h | h) | h
  ·lia
  ·rcases g.sub a h with q | q
   ·lia
   ·lia
  ·lia
def Go.keepA(w:WF Z H<|A++O++B)(g:Go Z H O Z' H' O'):(∀ a∈A,H' a=H a)/\∀ a∈B,H' a=H a:=by
 have nd:=w.nd;simp only[U8,N1] at nd;exact#v[λa h=>g.fr a (w.od a<|by simp[h]) λz=>nd.1.2.2 a h a z rfl,λa h=>g.fr a (w.od a<|by simp[h]) λz=>nd.2.2 a (.inr z) a h rfl]
def Go.drop(g:Go Z H O Z' H' O')(h:∀ a∈O'',a∈O')(n:O''.Nodup):Go Z H O Z' H' O'':=#v[g.wf.sub h n,g.zz,g.fr,g.zn,λa q=>g.sub a<|h a q,g.dm]
def Go.dropL(g:Go Z H O Z' H'<|A++B):Go Z H O Z' H' B:=g.drop (λa h=>by simp[h]) (U8.mp g.wf.nd).2.1
def Go.dropR(g:Go Z H O Z' H'<|A++B):Go Z H O Z' H' A:=g.drop (λa h=>by simp[h]) (U8.mp g.wf.nd).1
def Go.freeze(w:WF Z H O):Go Z H O (λa=>Z a\/a∈O) H []:=
 ⟨⟨List.nodup_nil,λa h=>(nomatch h),λa h=>(nomatch h),λa h=>h.elim (w.zd a)<|w.od a⟩,λa z=>.inl z,λ_ _ _=>rfl,λa z=>z.elim .inl λq=>.inr<|.inl q,λa h=>(nomatch h),λ_ h=>h⟩
def Go.newF(w:WF Z H O)(b:H p=none):Go Z H O (λa=>Z a\/a=p) (bU H p o) O:=by
 have ne:∀ a,H a≠none->a≠p:=λa h e=>h<|e▸b;refine#v[#v[w.nd,λa h z=>z.elim (w.nz a h)<|ne a<|w.od a h,λa h=>?_,λa z=>?_],λa z=>.inl z,λa h _=>jh<|ne a h,λa z=>z.elim .inl λe=>.inr<|.inr<|e▸b,λa h=>.inl h,λa h=>?_]
 ·rw[jh<|ne a<|w.od a h];exact w.od a h
 ·by_cases e:a=p
  ·rw[e,js];exact λh=>nomatch h
  ·rw[jh e];exact w.zd a<|z.resolve_right e
 ·rw[jh<|ne a h];exact h
def Go.newO(w:WF Z H O)(b:H p=none):Go Z H O Z (bU H p o) (p::O):=by
 have ne:∀ a,H a≠none->a≠p:=λa h e=>h<|e▸b;refine#v[#v[List.nodup_cons.mpr #v[λh=>w.od p h b,w.nd],λa h z=>?_,λa h=>?_,λa z=>?_],λa z=>z,λa h _=>jh<|ne a h,λa z=>.inl z,λa h=>?_,λa h=>?_]
 ·rcases M4.mp h with e | e
  ·exact w.zd a z<|e▸b
  ·exact w.nz a e z
 ·rcases M4.mp h with e | e
  ·rw[e,js];exact λh=>nomatch h
  ·rw[jh<|ne a<|w.od a e];exact w.od a e
 ·rw[jh<|ne a<|w.zd a z];exact w.zd a z
 ·grind
 ·rw[jh<|ne a h];exact h
def Go.put(w:WF Z H O)(c:p∈O):Go Z H O Z (bU H p o) O:=by
 have b:∀ a,bU H p o a=none->a≠p/\H a=none:=λa h=>by
  by_cases e:a=p
  ·rw[e,js] at h;cases h
  ·rw[jh e] at h;exact#v[e,h]
 exact#v[#v[w.nd,w.nz,λa h z=>w.od a h (b a z).2,λa z e=>w.zd a z (b a e).2],λa z=>z,λa h n=>jh λe=>n<|e▸c,λa z=>.inl z,λa h=>.inl h,λa h z=>h (b a z).2]
def iU:D->Option Bool
 | .bl b=>some b
 | _=>none
@[simp] def n3(b):iU (.bl b)\b:=rfl
def rR(h:iU d\b):d=.bl b:=by cases d<;>cases h<;>rfl
def kn:D->Option Int
 | .int i=>some i
 | _=>none
@[simp] def HV(i):kn (.int i)\i:=rfl
def jZ(h:kn d\n):d=.int n:=by cases d<;>cases h<;>rfl
def uF:D->Option (List D)
 | .lst true l=>some l
 | _=>none
@[simp] def Kw(l):uF (.lst true l)\l:=rfl
def Vl(h:uF d\l):d=.lst true l:=by
 cases d with
 | lst o _=>cases o<;>cases h;rfl
 | _=>cases h
def mm:D->Option (List D)
 | .tup l=>some l
 | _=>none
@[simp] def kS(l):mm (.tup l)\l:=rfl
def fZ:D->Option (List KA×List D)
 | .dK true ks l=>some (ks,l)
 | _=>none
@[simp] def n4(ks)(l):fZ (.dK true ks l)\(ks,l):=rfl
def uJ(h:fZ d\p):d=.dK true p.1 p.2:=by
 cases d with
 | dK o _ _=>cases o<;>cases h;rfl
 | _=>cases h
def rS:D->Option (List KA×List D)
 | .dK _ ks l=>some (ks,l)
 | _=>none
@[simp] def n5(o)(ks)(l):rS (.dK o ks l)\(ks,l):=rfl
def HW(h:rS d\p):∃ o,d=.dK o p.1 p.2:=by
 cases d with
 | dK o _ _=>cases h;exact#v[o,rfl]
 | _=>cases h
def kW:D->Option (List (List KA)×List D)
 | .dT true ks l=>some (ks,l)
 | _=>none
@[simp] def n8(ks)(l):kW (.dT true ks l)\(ks,l):=rfl
def uy(h:kW d\p):d=.dT true p.1 p.2:=by
 cases d with
 | dT o _ _=>cases o<;>cases h;rfl
 | _=>cases h
def xx:D->Option (Nat×List Str×List D)
 | .ins true c ns l=>some (c,ns,l)
 | _=>none
@[simp] def k6(c)(ns)(l):xx (.ins true c ns l)\(c,ns,l):=rfl
def Yv(h:xx d\(c,ns,l)):d=.ins true c ns l:=by
 cases d with
 | ins o _ _ _=>cases o<;>cases h;rfl
 | _=>cases h
def rT:D->Option (Nat×List Str×List D)
 | .ins _ c ns l=>some (c,ns,l)
 | _=>none
@[simp] def mq(o)(c)(ns)(l):rT (.ins o c ns l)\(c,ns,l):=rfl
def HX(h:rT d\(c,ns,l)):∃ o,d=.ins o c ns l:=by
 cases d with
 | ins o _ _ _=>cases h;exact#v[o,rfl]
 | _=>cases h
def gk:D->Option (List D)
 | .lst _ l=>some l
 | _=>none
@[simp] def mr(o)(l):gk (.lst o l)\l:=rfl
def Jf(h:gk d\l):∃ o,d=.lst o l:=by
 cases d with
 | lst o _=>cases h;exact#v[o,rfl]
 | _=>cases h
def QY(h:mm d\l):d=.tup l:=by cases d<;>cases h<;>rfl
def fN:List D->Option D
 | [x]=>some x
 | _=>none
def rV:D->Option (List Nat)
 | .str s=>some s
 | _=>none
def Bh{d}{n}(h:rV d\n):d=.str n:=by cases d<;>cases h<;>rfl
def kP(h:fN l\x):l=[x]:=by
 match l with
 | [_]=>cases h;rfl
@[simp] def rW(x):fN [x]\x:=rfl
def two1:List D->Option (D×D)
 | [x,y]=>some (x,y)
 | _=>none
def two1_of(h:two1 l\p):l=[p.1,p.2]:=by
 match l with
 | [_,_]=>cases h;rfl
def ob{s u:Type}{C:Prop}{o}{f:s->Option u}{b}(e:o.bind f\b)(k:∀ a,o\a->f a\b->C):C:=by
 cases o with
 | none=>cases e
 | some a=>exact k a rfl e
def oc{s:Type}{C:Prop}{c}{x}{b:s}(e:(bif c then x else none)\b)(k:c=true->x\b->C):C:=by
 cases c with
 | false=>cases e
 | true=>exact k rfl e
noncomputable abbrev Rh:=List<|Option D
def Slots(R:RC)(Z:Zn)(H:Hp):Rh->St->List Addr->Prop
 | [],u,O=>u=[]/\O=[]
 | none::w,u,O=>∃ s σ',u=s::σ'/\Slots R Z H w σ' O
 | some d::w,u,O=>∃ v σ' O1 O2,u=some v::σ'/\O=O1++O2/\bS R Z H d v O1/\Slots R Z H w σ' O2
theorem Slots.frame(c:∀ a,Z a->Z' a)(f:∀ a,Z a->H' a=H a):∀{w}{u}{O},Slots R Z H w u O->(∀ a∈O,H' a=H a)->Slots R Z' H' w u O
 | [],_,_,h,_=>h
 | none::w,_,_,h,b=>by
  let[s,g,e,r]:=h;exact#v[s,g,e,Slots.frame c f r b]
 | some d::w,_,_,h,b=>by
  let[v,g,j,k,e,rfl,l,m]:=h;exact#v[v,g,j,k,e,rfl,l.frame c f λa i=>b a<|List.mem_append_left _ i,Slots.frame c f m λa i=>b a<|U2 _ i]
theorem Slots.length:∀{ρ}{u}{O},Slots R Z H ρ u O->-u=-ρ
 | [],_,_,h=>by rw[h.1];rfl
 | none::ρ,_,_,h=>by let[s,a,rfl,r]:=h;rw[M1,M1,Slots.length r]
 | some d::ρ,_,_,h=>by let[v,a,c,e,rfl,rfl,f,b]:=h;rw[M1,M1,Slots.length b]
inductive mu (R:RC) (Z:Zn) (H:Hp) (u:Rh) (s:St) (O:W5) (i:Nat):Prop
 | mk:∀(A P B:W5),O=A++P++B->(∀ d,u[i]?\(some d)->∃ v,s[i]?\(some v)/\bS R Z H d v P) ->
  (∀{Z':Zn}{H':Hp}{d':D}{v':V}{P':W5},bS R Z' H' d' v' P'->(∀ a,Z a->Z' a)->(∀ a,Z a->H' a=H a)->(∀ a∈A,H' a=H a)->(∀ a∈B,H' a=H a)->Slots R Z' H' (u.set i<|some d') (s.set i<|some v') (A++P'++B)) ->
  Slots R Z H (u.set i none) s (A++B)->mu R Z H u s O i
theorem Slots.put:∀{ρ}{U}{O}{i},Slots R Z H ρ U O->i< -ρ->mu R Z H ρ U O i
 | [],_,_,_,_,hi=>absurd hi<|Nat.not_lt_zero _
 | none::ρ,_,_,0,h,hi=>by
  let[s,b,rfl,r]:=h;refine#v[[],[],_,rfl,λd e=>by simp at e,λq f g k j=>#v[_,b,_,_,rfl,rfl,q,Slots.frame f g r j],#v[s,b,rfl,r]]
 | some c::ρ,_,_,0,h,hi=>by
  let[v,b,l,w,rfl,rfl,m,n]:=h;refine#v[[],l,w,rfl,λd e=>?_,λq f g k j=>#v[_,b,_,_,rfl,rfl,q,Slots.frame f g n j],#v[_,b,rfl,n]]
  ·have e:c=d:=by simpa using e
   subst e;exact#v[v,rfl,m]
 | none::ρ,_,_,i+1,h,hi=>by
  let[s,b,rfl,r]:=h;let[A,P,B,rfl,o,p,t]:=Slots.put r ⇑hi;refine#v[A,P,B,rfl,λd e=>o d ⇑e,λq f g k j=>#v[s,_,rfl,p q f g k j],#v[s,b,rfl,t]]
 | some c::ρ,_,_,i+1,h,hi=>by
  let[v,b,l,w,rfl,rfl,m,n]:=h;let[A,P,B,rfl,o,p,t]:=Slots.put n ⇑hi;refine#v[l++A,P,B,by simp,λd e=>o d ⇑e,λ{y z C D x} q f g k j=>#v[v,_,l,A++x++B,rfl,by simp,m.frame f g λa u=>k a<|List.mem_append_left _ u,p q f g (λa u=>k a<|U2 _ u) j],#v[v,b,l,A++B,rfl,by simp,m,t]]
theorem vy:∀{l:List s}{i}{x},l[i]?\x->l.set i x=l
 | [],_,_,h=>by simp at h
 | y::l,0,x,h=>by simp at h;subst h;rfl
 | y::l,i+1,x,h=>by rw[List.set_cons_succ,vy ⇑h]
abbrev FE:=Rh->Option (D×Rh)
abbrev rX:=Rh->Option (Bool×Rh)
abbrev FA:=Rh->Option (List D×Rh)
def DE(R:RC)(te:TE)(f:FE):Prop:=∀{s}{u ρ'}{Z}{H}{O}{d},WF Z H O->Slots R Z H u s O->f u=some (d,ρ') ->
 ∀{Q},(∀{v}{Z'}{H'}{P O'},Go Z H O Z' H' (P++O')->bS R Z' H' d v P->Slots R Z' H' ρ' s O'->Q v H')->te s H Q
def DT(R:RC)(tt:TT)(f:rX):Prop:=∀{s}{u ρ'}{Z}{H}{O}{b},WF Z H O->Slots R Z H u s O->f u=some (b,ρ') ->
 ∀{Q:Bool->Hp->Prop},(∀{Z'}{H'}{O'},Go Z H O Z' H' O'->Slots R Z' H' ρ' s O'->Q b H')->tt s H Q
def DA(R:RC)(ta:TA)(f:FA):Prop:=∀{s}{u ρ'}{Z}{H}{O}{ds},WF Z H O->Slots R Z H u s O->f u=some (ds,ρ') ->
 ∀{Q:List V->Hp->Prop},(∀{vs}{Z'}{H'}{P O'},Go Z H O Z' H' (P++O')->a_ R Z' H' ds vs P->Slots R Z' H' ρ' s O'->Q vs H')->ta s H Q
def DC(R:RC)(r:List V->Hp->VK->Prop)(g:List D->Option D):Prop:=∀{Z}{H}{xs}{d}{vs}{O},WF Z H O->a_ R Z H xs vs O->g xs=some d ->
 ∀{Q},(∀{w}{Z'}{H'}{P},Go Z H O Z' H' P->bS R Z' H' d w P->Q w H')->r vs H Q
inductive cq where
 | nx (s:Rh) | rt (d:D) (s:Rh) | bk (s:Rh) | ct (s:Rh)
abbrev FS:=Rh->Option cq
def cq.thn:cq->FS->Option cq
 | .nx s,g=>g s
 | .rt d s,_=>some<|.rt d s
 | .bk s,_=>some<|.bk s
 | .ct s,_=>some<|.ct s
@[simp] def HY(s)(g):(cq.nx s).thn g=g s:=rfl
@[simp] def rY(d)(s)(g):(cq.rt d s).thn g\(.rt d s):=rfl
@[simp] def rZ(s)(g):(cq.bk s).thn g\(.bk s):=rfl
@[simp] def r_(s)(g):(cq.ct s).thn g\(.ct s):=rfl
def cq.val:cq->Option D
 | .rt d _=>some d
 | .nx _=>some .non
 | _=>none
@[simp] def se(d)(s):(cq.rt d s).val\d:=rfl
@[simp] def sf(s):(cq.nx s).val\.non:=rfl
def cq.loop:cq->FS->Option cq
 | .nx s,g=>g s
 | .ct s,g=>g s
 | .bk s,_=>some<|.nx s
 | .rt d s,_=>some<|.rt d s
@[simp] def qW(s)(g):(cq.nx s).loop g=g s:=rfl
@[simp] def n9(s)(g):(cq.ct s).loop g=g s:=rfl
@[simp] def n_(s)(g):(cq.bk s).loop g\(.nx s):=rfl
@[simp] def oa(d)(s)(g):(cq.rt d s).loop g\(.rt d s):=rfl
abbrev PF:=Rh->Option D
def pV(i:Nat):PF:=λρ=>match ρ[i]? with
 | some (some d)=>some d
 | _=>none
def KI(h:pV i s\d):s[i]?\(some d):=by
 unfold pV at h;split at h
 ·lia
 ·cases h
def cf(pm:List Nat)(s σ':St):Prop:=∀ i∈pm,σ'[i]?=s[i]?
def fj(R:RC)(pm:List Nat)(Z:Zn)(H:Hp)(O:W5)(s:St)(D':iN):cq->Prop
 | .nx ρ'=>∀{σ'}{Z'}{H'}{O'},Go Z H O Z' H' O'->Slots R Z' H' ρ' σ' O'->cf pm s σ'->D'.nx σ' H'
 | .bk ρ'=>∀{σ'}{Z'}{H'}{O'},Go Z H O Z' H' O'->Slots R Z' H' ρ' σ' O'->cf pm s σ'->D'.bk σ' H'
 | .ct ρ'=>∀{σ'}{Z'}{H'}{O'},Go Z H O Z' H' O'->Slots R Z' H' ρ' σ' O'->cf pm s σ'->D'.ct σ' H'
 | .rt d ρ'=>∀{v}{σ'}{Z'}{H'}{P O'},Go Z H O Z' H' (P++O')->bS R Z' H' d v P->Slots R Z' H' ρ' σ' O'->cf pm s σ'->D'.rt v H'
def DS(R:RC)(pm:List Nat)(ts:TS)(f:FS):Prop:=∀{s}{u}{Z}{H}{O}{o},WF Z H O->Slots R Z H u s O->f u\o->∀{D'},fj R pm Z H O s D' o->ts D' s H
def DG(R:RC)(pm:List Nat)(tg:TG)(f:D->Rh->Option Rh):Prop:=∀{s}{u ρ'}{Z}{H}{O P}{d}{v},WF Z H (P++O)->bS R Z H d v P->Slots R Z H u s O->f d u=some ρ' ->
 ∀{Q:St->Hp->Prop},(∀{σ'}{Z'}{H'}{O'},Go Z H (P++O) Z' H' O'->Slots R Z' H' ρ' σ' O'->cf pm s σ'->Q σ' H')->tg v s H Q
def cf.refl(pm)(s):cf pm s s:=λ_ _=>rfl
def cf.trans(h:cf pm s σ')(k:cf pm σ' σ''):cf pm s σ'':=λi hi=>(k i hi).trans (h i hi)
def cf.set(h:i∉pm):cf pm s (s.set i x):=λj a=>by
 have ne:i≠j:=λe=>h ∅;rw[List.getElem?_set,if_neg ne]
@[simp] def d9(i:Nat)(s:Rh):Option (D×Rh):=(pV i s).bind λd=>some (d,s.set i none)
def dC(d:D):FE:=λρ=>some (d,ρ)
def Bj:DE R (vw i) (d9 i):=by
 intro s u o Z H O d w h e Q k;refine ob e λc f e=>?_;have f:=KI f;let[A,P,B,rfl,l,p,m]:=h.put (L9.mp f).1;let[v,n,r]:=l c f;cases e;refine#v[v,n,k ((Go.refl w).drop (λa q=>?_) ?_) r m]
 ·simp at q ⊢;rcases q with q | q | q<;>simp[q]
 ·have nd:=w.nd;simp only[U8,N1] at nd ⊢;exact#v[nd.1.2.1,#v[nd.1.1,nd.2.1,λa g b j=>nd.2.2 a (.inl g) b j],λa g b j e=>j.elim (λq=>nd.1.2.2 b q a g e.symm) λq=>nd.2.2 a (.inr g) b q e]
@[simp] def iV(s:Rh):Option (List D×Rh):=some ([],s)
@[simp] def Jc(fa:FE)(fr:FA)(s:Rh):Option (List D×Rh):=(fa s).bind λx=>(fr x.2).bind λy=>some (x.1::y.1,y.2)
def iA(g:List D->Option D)(fa:FA):FE:=λs=>(fa s).bind λp5=>(g p5.1).bind λz=>some (z,p5.2)
def Bk(f:DC R r g)(i:DA R ta fa):DE R (gh r ta) (iA g fa):=by
 intro U W t Z H O d w h e Q k;refine ob e λp j e=>?_;let[x,u]:=p;refine ob e λz e3 e=>?_;cases e;refine i w h j λ{v l m n o} a q s1=>(f a.wf.left q e3 λ{y Z3 A B} b s=>?_);have c:WF l m ([]++n++o):=by simpa using a.wf
 refine k (a.trans<|by simpa using(b.frame c)) s<|s1.frame b.zz (b.zH a.wf.left) (Go.keepA c b).2
def iB(fa:FA):FE:=iA (λxs=>bif decide (-xs<=1000) then some (.tup xs) else none) fa
def bS.tupNew(w:WF Z H O)(b:H p=none)(r:a_ R Z H l vs O):bS R (λa=>Z a\/a=p) (bU H p<|.tup vs) (.tup l) (.ref p) O:=by
 have ne:∀ a,H a≠none->a≠p:=λa h e=>h<|e▸b;exact#v[p,vs,rfl,.inl #v[.inr rfl,.inl js],r.frame (λa z=>.inl z) (λa z=>jh<|ne a<|w.zd a z) λa h=>jh<|ne a<|w.od a h]
def bS.lstNew(w:WF Z H O)(b:H p=none)(r:a_ R Z H l vs O):bS R Z (bU H p<|.lst vs) (.lst true l) (.ref p) (p::O):=by
 have ne:∀ a,H a≠none->a≠p:=λa h e=>h<|e▸b;exact#v[p,vs,O,rfl,r.frame (λa z=>z) (λa z=>jh<|ne a<|w.zd a z) λa h=>jh<|ne a<|w.od a h,js,rfl]
def bS.bl_of(r:bS R Z H (.bl b) v O):v=.bl b/\O=[]:=by symm at r;exact r
def bS.bl_mk:bS R Z H (.bl b) (.bl b) []:=by symm;exact#v[rfl,rfl]
def fj.pre(g:Go Z H O Z1 H1 O1)(kp:cf pm s σ1)(k:fj R pm Z H O s D' o):fj R pm Z1 H1 O1 σ1 D' o:=by
 cases o with
 | nx u=>exact λa b c=>k (g.trans a) b<|kp.trans c
 | bk u=>exact λa b c=>k (g.trans a) b<|kp.trans c
 | ct u=>exact λa b c=>k (g.trans a) b<|kp.trans c
 | rt d u=>exact λa e b c=>k (g.trans a) e b<|kp.trans c
@[simp] def j9(s:Rh):Option cq:=some<|.nx s
def jg(f g:FS):FS:=λs=>match f s with
 | some (.nx ρ1)=>g ρ1
 | o=>o
@[simp] def xY:jg f g s=(f s).bind λo=>o.thn g:=by
 unfold jg;cases h:f s with
 | none=>rfl
 | some o=>cases o<;>rfl
def HZ(c:DS R pm t f)(i:DS R pm u g):DS R pm (l9 t u) (jg f g):=by
 intro v x Z H O o w h e n k;rw[xY] at e;refine ob e λj l e=>c w h l ?_;cases j with
 | nx a=>exact λ{p q r s} b s1 m=>i b.wf s1 e<|k.pre b m
 | bk a=>cases (e);exact k
 | ct a=>cases (e);exact k
 | rt d a=>cases (e);exact k
@[simp] def KF(fe:FE)(s:Rh):Option cq:=(fe s).bind λx=>some<|.nx x.2
def H9(a:DE R ta fa):DS R pm (V7 ta) (KF fa):=by
 intro s u Z H O o w h e d k;refine ob e λp b e=>?_;let[x,f]:=p;cases e;exact a w h b λc g s1=>k c.dropL s1<|cf.refl _ _
@[simp] def yM(fe:FE)(s:Rh):Option cq:=(fe s).bind λx=>some<|.rt x.1 x.2
def H_(a:DE R ta fa):DS R pm (pY ta) (yM fa):=by
 intro s u Z H O o w h e f k;refine ob e λp b e=>?_;let[x,g]:=p;cases e;exact a w h b λc d s1=>k c d s1<|cf.refl _ _
@[simp] def cp(ft:rX)(f:FS)(g:FS)(s:Rh):Option cq:=(ft s).bind λx=>bif x.1 then f x.2 else g x.2
@[simp] def jc(pm:List Nat)(i:Nat)(d:D)(ρ:Rh):Option Rh:=bif decide (i< -ρ)&&!decide (i∈pm) then some (ρ.set i<|some d) else none
def Q8:DG R pm (Jl i) (jc pm i):=by
 intro s u l Z H O P d v w r h e Q k;unfold jc at e;by_cases hi:i< -u
 ·by_cases g:i∈pm
  ·lia
  ·rw[X0 hi,X1 g] at e;cases e;let[A,m,B,rfl,n,j,o]:=h.put hi;refine k ((Go.refl w).drop (λa q=>?_) ?_) (j r (λ_ z=>z) (λ_ _=>rfl) (λ_ _=>rfl)<|λ_ _=>rfl)<|cf.set g
   ·simp at q ⊢;rcases q with q | q | q<;>simp[q]
   ·have nd:=w.nd;simp only[U8,N1] at nd ⊢;exact#v[#v[nd.2.1.1.1,nd.1,λa f b c e=>nd.2.2 b c a (.inl<|.inl f) e.symm],nd.2.1.2.1,λa f b c e=>f.elim (λq=>nd.2.1.2.2 a (.inl q) b c e) λq=>nd.2.2 a q b (.inr c) e]
 ·lia
@[simp] def jA(fe:FE)(G:D->Rh->Option Rh)(s:Rh):Option cq:=(fe s).bind λx=>(G x.1 x.2).bind λr=>some<|.nx r
def xK(b:DE R ta fa)(c:DG R pm tg g):DS R pm (gc ta tg) (jA fa g):=by
 intro s u Z H O o w h e m k;refine ob e λp d e=>?_;let[x,n]:=p;refine ob e λq e2 e=>?_;cases e;exact b w h d λa f s1=>c a.wf f s1 e2 λi j l=>k (Go.trans a i) j l
def gN:List D->Rh->Option Rh:=λds ρ=>match ds with
 | []=>some ρ
 | _=>none
def gC(g:D->Rh->Option Rh)(gs:List D->Rh->Option Rh):List D->Rh->Option Rh:=λds ρ=>match ds with
 | []=>none
 | d::r=>(g d ρ).bind λρ1=>gs r ρ1
def gT(n:Nat)(gs:List D->Rh->Option Rh):D->Rh->Option Rh:=λd ρ=>match d with
 | .tup l=>bif decide (-l=n) then gs l ρ else none
 | _=>none
abbrev d_:=Rh->Option Bool
abbrev cR:=Rh->Option (List D)
mutual
theorem bS.dom:∀{d:D}{v:V}{O:W5},bS R Z H d v O->∀ a∈O,H a≠none
 | .non,_,_,h,a,ha=>by symm at h;rw[h.2] at ha;cases ha
 | .bl _,_,_,h,a,ha=>by symm at h;rw[h.2] at ha;cases ha
 | .int _,_,_,h,a,ha=>by symm at h;rw[h.2] at ha;cases ha
 | .str _,_,_,h,a,ha=>by symm at h;rw[h.2] at ha;cases ha
 | .dead,_,_,h,a,ha=>by symm at h;rw[h] at ha;cases ha
 | .tok _,_,_,h,a,ha=>by symm at h;rw[h.2] at ha;cases ha
 | .kt _,_,_,h,a,ha=>by symm at h;let[_,_,_,_,h]:=h;rw[h] at ha;cases ha
 | .exc _ _,_,_,h,a,ha=>by symm at h;let[_,_,_,_,_,_,_,h]:=h;rw[h] at ha;cases ha
 | .tup l,_,_,h,a,ha=>by
  symm at h
  let[b,vs,e,t,r]:=h;exact a_.dom r a ha
 | .lst o l,_,_,h,a,ha=>by
  symm at h
  let[b,vs,O',e,r,h]:=h;cases o with
  | true=>
   let[h1,rfl]:=h;rcases M4.mp ha with e | e
   ·rw[e,h1];exact λz=>(nomatch z)
   ·exact a_.dom r a e
  | false=>rw[h.2.2] at ha;cases ha
 | .dK o ks l,_,_,h,a,ha=>by
  symm at h
  let[b,vs,O',e,r,hl,hd,h]:=h;cases o with
  | true=>
   have h:=(show _=_ from h);subst h;rcases M4.mp ha with e | e
   ·rw[e,hd];exact λz=>(nomatch z)
   ·exact a_.dom r a e
  | false=>rw[h.2.2] at ha;cases ha
 | .dT o ks l,_,_,h,a,ha=>by
  symm at h
  let[b,vs,O',e,r,hl,hd,h]:=h;cases o with
  | true=>
   have h:=(show _=_ from h);subst h;rcases M4.mp ha with e | e
   ·rw[e,hd];exact λz=>(nomatch z)
   ·exact a_.dom r a e
  | false=>rw[h.2.2] at ha;cases ha
 | .ins o c ns l,_,_,h,a,ha=>by
  symm at h
  let[b,dx,vs,O',e,r,hl,hd,h]:=h;cases o with
  | true=>
   have h:=(show _=_ from h);subst h;rcases M4.mp ha with e | e
   ·rw[e,hd];exact λz=>(nomatch z)
   ·exact a_.dom r a e
  | false=>rw[h.2.2] at ha;cases ha
theorem a_.dom:∀{l:List D}{vs:List V}{O:W5},a_ R Z H l vs O->∀ a∈O,H a≠none
 | [],_,_,h,a,ha=>by symm at h;rw[h.2] at ha;cases ha
 | d::l,_,_,h,a,ha=>by
  symm at h
  let[v,vs,O1,O2,e,rfl,r1,r2]:=h;rcases N1.mp ha with q | q
  ·exact bS.dom r1 a q
  ·exact a_.dom r2 a q
end
theorem Slots.dom:∀{w}{u}{O},Slots R Z H w u O->∀ a∈O,H a≠none
 | [],_,_,h,a,b=>by rw[h.2] at b;cases b
 | none::w,_,_,h,a,b=>by let[s,c,rfl,r]:=h;exact Slots.dom r a b
 | some d::w,_,_,h,a,b=>by
  let[v,c,g,i,rfl,rfl,e,f]:=h;rcases N1.mp b with q | q
  ·exact e.dom a q
  ·exact Slots.dom f a q
abbrev Zd(Z:Zn)(H:Hp):Prop:=∀ a,Z a->H a≠none
def cZ(z:Zd Z H):WF Z H []:=#v[List.nodup_nil,λa h=>(nomatch h),λa h=>(nomatch h),z]
def Go.id(z:Zd Z H):Go Z H [] Z H []:=Go.refl<|cZ z
def Go.same(g:Go Z H [] Z' H' P):∀ a,H a≠none->H' a=H a:=λa h=>g.fr a h<|λz=>(nomatch z)
def Go.rep(z:Zd Z H)(g:Go Z H [] Z' H' P)(r:bS R Z H d v O):bS R Z' H' d v O:=r.frame g.zz (λa h=>g.same a<|z a h) λa h=>g.same a<|r.dom a h
def Go.reps(z:Zd Z H)(g:Go Z H [] Z' H' P)(r:a_ R Z H l vs O):a_ R Z' H' l vs O:=r.frame g.zz (λa h=>g.same a<|z a h) λa h=>g.same a<|r.dom a h
def Go.slots(z:Zd Z H)(g:Go Z H [] Z' H' P)(r:Slots R Z H u s O):Slots R Z' H' u s O:=r.frame g.zz (λa h=>g.same a<|z a h) λa h=>g.same a<|r.dom a h
def Go.pair(g:Go Z H [] Z' H' P)(k:Go Z' H' [] Z'' H'' P2):Go Z H [] Z'' H'' (P++P2):=by
 have w:WF Z' H' (P++[]++[]):=by simpa using g.wf
 exact g.trans (by simpa using(k.frame w))
def Go.to0(g:Go Z H O Z' H' P):Go Z H O Z' H' []:=g.drop (λa h=>(nomatch h)) List.nodup_nil
def Go.widen(w:WF Z H O)(g:Go Z H [] Z' H' P):Go Z H O Z' H' (P++O):=by
 simpa using(g.frame (A:=[]) ⇑w)
def PP(R:RC)(te:TE)(p:PF):Prop:=∀{s}{ρ}{Z}{H}{O}{d},Zd Z H->Slots R Z H ρ s O->p ρ=some d ->
 ∀{Q},(∀{v}{Z'}{H'}{P},Go Z H [] Z' H' P->bS R Z' H' d v P->Q v H')->te s H Q
def PB(R:RC)(te:TE)(p:PF):Prop:=∀{s}{u}{Z}{H}{O}{d},Zd Z H->Slots R Z H u s O->p u=some d ->
 ∀{Q},(∀{v}{Z'}{H'}{P},Go Z H [] Z' H' []->bS R Z' H' d v P->Q v H')->te s H Q
def gS(R:RC)(ta:TA)(p:cR):Prop:=∀{s}{u}{Z}{H}{O}{ds},Zd Z H->Slots R Z H u s O->p u=some ds ->
 ∀{Q:List V->Hp->Prop},(∀{vs}{Z'}{H'}{P},Go Z H [] Z' H' P->a_ R Z' H' ds vs P->Q vs H')->ta s H Q
def mw(R:RC)(ta:TA)(p:cR):Prop:=∀{s}{u}{Z}{H}{O}{ds},Zd Z H->Slots R Z H u s O->p u=some ds ->
 ∀{Q:List V->Hp->Prop},(∀{vs}{Z'}{H'}{P},Go Z H [] Z' H' []->a_ R Z' H' ds vs P->Q vs H')->ta s H Q
def gU(R:RC)(tt:TT)(p:d_):Prop:=∀{s}{u}{Z}{H}{O}{b},Zd Z H->Slots R Z H u s O->p u=some b ->
 ∀{Q:Bool->Hp->Prop},(∀{Z'}{H'},Go Z H [] Z' H' []->Q b H')->tt s H Q
def PP.b(h:PP R te p):PB R te p:=λz s e _ k=>h z s e λg r=>k g.to0 r
def gS.b(h:gS R te p):mw R te p:=λz s e _ k=>h z s e λg r=>k g.to0 r
@[simp] def pF(pa:PF)(ρ:Rh):Option D:=(pa ρ).bind λd=>bif frz d then some d else none
def PB.f(h:PB R te p):PP R te (pF p):=by
 intro u ρ Z H O d z s e Q k;refine ob e λc a e=>oc e λb e=>?_;cases e;exact h z s a λg r=>by
  cases r.nil b;exact k g r
@[simp] def dP(pa:PF)(s:Rh):Option (D×Rh):=(pa s).bind λd=>some (d,s)
@[simp] def cm(q:d_)(s:Rh):Option (Bool×Rh):=(q s).bind λd=>some (d,s)
theorem PP.d(h:PP R te p):DE R te (dP p):=by
 intro u ρ b Z H O d w s e Q k;refine ob e λc a e=>?_;cases e;exact h w.zd s a λg r=>k (g.widen w) r<|g.slots w.zd s
theorem gU.d(h:gU R te p):DT R te (cm p):=by
 intro u ρ b Z H O d w s e Q k;refine ob e λc a e=>?_;cases e;exact h w.zd s a λg=>k ⇑(g.widen w) (g.slots w.zd s)
@[simp] def pC(d:D)(s:Rh):Option D:=some d
abbrev pI(i:Int):PF:=pC<|.int i
abbrev pS(l:List Nat):PF:=pC<|.str l
def Ia:PB R (vw i) (pV i):=by
 intro u w Z H O d z s e Q k;unfold pV at e;split at e
 ·rename_i c a;cases (e);let[A,P,B,rfl,b,_]:=s.put (L9.mp a).1;let[v,f,r]:=b d a;exact#v[v,f,k (Go.id z) r]
 ·cases e
def oe(a:∀ Z H,bS R Z H d v []):PP R (tC v) (pC d):=by
 intro u w Z H O b z s e Q k;cases e;exact k (Go.id z)<|a Z H
def bS.int_mk:bS R Z H (.int i) (.int i) []:=by symm;exact#v[rfl,rfl]
def bS.str_mk:bS R Z H (.str s) (.str<|S s) []:=by symm;exact#v[rfl,rfl]
def bS.non_mk:bS R Z H .non .non []:=by symm;exact#v[rfl,rfl]
def bS.int_of(r:bS R Z H (.int i) v O):v=.int i/\O=[]:=by symm at r;exact r
def bS.str_of(r:bS R Z H (.str s) v O):v=.str (S s)/\O=[]:=by symm at r;exact r
def bS.non_of(r:bS R Z H .non v O):v=.non/\O=[]:=by symm at r;exact r
def BO(R:RC)(r:R2)(g:D->D->Option D):Prop:=∀{Z}{H}{x y d}{v u}{O1 O2},Zd Z H->bS R Z H x v O1->bS R Z H y u O2->g x y=some d ->
 ∀{Q},(∀{w}{Z'}{H'}{P},Go Z H [] Z' H' P->bS R Z' H' d w P->Q w H')->r v u H Q
def Ib(R:RC)(r:R2)(g:D->D->Option D):Prop:=∀{Z}{H}{x y d}{v u}{O1 O2},Zd Z H->bS R Z H x v O1->bS R Z H y u O2->g x y=some d ->
 ∀{Q},(∀{w}{P},bS R Z H d w P->Q w H)->r v u H Q
def BU(R:RC)(r:V->Hp->VK->Prop)(g:D->Option D):Prop:=∀{Z}{H}{x d}{v}{O},Zd Z H->bS R Z H x v O->g x=some d ->
 ∀{Q},(∀{w}{Z'}{H'}{P},Go Z H [] Z' H' P->bS R Z' H' d w P->Q w H')->r v H Q
def BC(R:RC)(r:List V->Hp->VK->Prop)(g:List D->Option D):Prop:=∀{Z}{H}{xs}{d}{vs}{O},Zd Z H->a_ R Z H xs vs O->g xs=some d ->
 ∀{Q},(∀{w}{Z'}{H'}{P},Go Z H [] Z' H' P->bS R Z' H' d w P->Q w H')->r vs H Q
@[simp] def p2(G:D->D->Option D)(pa:PF)(pb:PF)(ρ:Rh):Option D:=(pa ρ).bind λx=>(pb ρ).bind λy=>G x y
@[simp] def p1(G:D->Option D)(pa:PF)(ρ:Rh):Option D:=(pa ρ).bind G
def xU(c:BO R r g)(f:PB R ta pa)(h:PB R tb pb):PP R (de r ta tb) (p2 g pa pb):=by
 intro U W Z H O d z s e Q k;exact ob e λx i e=>ob e λy e2 e=>(f z s i λ{v o p q} a j=>(h a.wf.zd (a.slots z s) e2 λ{u t w A} b l=>(c b.wf.zd (b.rep a.wf.zd j) l e λm n=>k ((a.pair b).pair m) n)))
@[simp] def pN(ρ:Rh):Option (List D):=some []
@[simp] def ja(pa:PF)(p:cR)(s:Rh):Option (List D):=(pa s).bind λx=>(p s).bind λxs=>some<|x::xs
def fk:gS R Qp pN:=by
 intro u v Z H O d z s e Q k;cases e;exact k (Go.id z) a_.empty
def Ic(c:PP R ta pa)(f:gS R tr pr):gS R (ve ta tr) (ja pa pr):=by
 intro w y Z H O d z s e Q k;refine ob e λx g e=>ob e λj e2 e=>?_;cases e;exact c z s g λ{v l m n} a h=>(f a.wf.zd (a.slots z s) e2 λ{u o p q} b i=>(k (a.pair b)<|.cons (b.rep a.wf.zd h) i))
def Bl:mw R Qp pN:=fk.b
@[simp] def bW(G:List D->Option D)(p:cR)(ρ:Rh):Option D:=(p ρ).bind G
def og(b:BC R r g)(c:mw R ta pa):PP R (gh r ta) (bW g pa):=by
 intro u w Z H O d z s e Q k;exact ob e λx f e=>(c z s f λ{v l m n} a h=>b a.wf.zd h e λi j=>k ⇑(a.pair i) j)
def cb(n:Nat):Bool:=decide<|n<=100000
def J1(h:cb n=true):n<=sizeLine:=N6 (X2 h) (by decide)
def xj(h:cb n=true):n<sizeLine:=X8 (X2 h) (by decide)
@[simp] def yk(p:cR)(ρ:Rh):Option D:=(p ρ).bind λxs=>bif cb (-xs) then some (.tup xs) else none
@[simp] def vF(p:cR)(s:Rh):Option D:=(p s).bind λxs=>bif cb (-xs) then some (.lst true xs) else none
@[simp] def ji(pa:PF)(ρ:Rh):Option Bool:=(pa ρ).bind iU
@[simp] def zI(q:d_)(q':d_)(s:Rh):Option Bool:=(q s).bind λb=>bif b then q' s else some false
@[simp] def sj(q:d_)(q':d_)(s:Rh):Option Bool:=(q s).bind λb=>bif b then some true else q' s
def Bm(a:PB R ta pa):gU R (kf ta) (ji pa):=by
 intro u w Z H O b z s e Q k;refine ob e λx c e=>?_;cases rR e;refine a z s c λ{v g h i} d f=>?_;let[rfl,rfl]:=f.bl_of;exact#v[b,rfl,k d]
@[simp] def gm(pa:PF)(pb:PF)(s:Rh):Option D:=(pa s).bind λd=>(iU d).bind λb=>bif b then pb s else some (.bl false)
@[simp] def Bo(pa:PF)(s:Rh):Option D:=(pa s).bind λd=>(iU d).bind λb=>some<|.bl<|!b
@[simp] def fq(q:d_)(pa:PF)(pb:PF)(s:Rh):Option D:=(q s).bind λb=>bif b then pa s else pb s
def k7(R:RC)(J:It)(Z:Zn)(H:Hp)(xs:List D):Prop:=∀{Z1}{H1},(∀ a,Z a->Z1 a)->(∀ a,Z a->H1 a=H a)->Zd Z1 H1->∀ i:Nat,
 (-xs<=i->J.stop i H1)/\∀ x,xs[i]?\x->J.go i H1/\∀ u H2,J.yld i H1 u H2->∃ Z2,Go Z1 H1 [] Z2 H2 []/\bS R Z2 H2 x u []
def iC(R:RC)(wi:TI)(p:cR):Prop:=∀{s}{u}{Z}{H}{O}{xs},Zd Z H->Slots R Z H u s O->p u=some xs ->
 ∀{Q:It->Hp->Prop},(∀{J}{Z'}{H'},Go Z H [] Z' H' []->k7 R J Z' H' xs->Q J H')->wi s H Q
def mx(K:W4)(tl:TE):TI:=λs H Q=>tl s H λx H1=>
 (∃ a,x=.ref a/\(∃ xs,cD K H1 a xs)/\Q (p4 K a) H1)\/(∃ a,x=.ref a/\(∃ xs,cK K H1 a xs)/\Q (p7 K a) H1) \/ ∃ l,x=.str (S l)/\Q (nV l) H1
def Bp(B:PE X l tl):PI X tg l (mx X.K tl):=by
 intro c s U H Q I h;have m:∀ v s1,EP X c U (λx f=>(∃ a,x=.ref a/\(∃ g,cD X.K f a g)/\Q (p4 X.K a) f)\/(∃ a,x=.ref a/\(∃ g,cK X.K f a g)/\Q (p7 X.K a) f) \/ ∃ l,x=.str (S l)/\Q (nV l) f) v s1->X⁻¹ (pyIter v) (l_ X c U tg Q) X.xe s1:=by
  rintro v s1 ⟨x,f,d,n,C⟩;rcases C with⟨a,rfl,⟨g,r⟩,q⟩ | ⟨a,rfl,⟨g,r⟩,q⟩ | ⟨l,rfl,q⟩
  ·cases n;let[u,D,p,E]:=d.list r;refine wpAny_pyIter_list p.isList #v[↥s1,[↥s1],_,_,f,rfl,d.kept λb o e=>L8 _ e,Fx a _,#v[_,X7 _ rfl,rfl,rfl],λb j=>?_,q];have e:b=↥s1:=by simpa using j
   subst e;exact d.fpOk (M8 _)<|d.hok.fresh<|M8 _
  ·cases n;let[u,D,p,E]:=d.tuple r;refine wpAny_pyIter_tuple (p) #v[↥s1,[↥s1],_,_,f,rfl,d.kept λb o e=>L8 _ e,Fy a _,#v[_,X7 _ rfl,rfl,rfl],λb j=>?_,q];have e:b=↥s1:=by simpa using j
   subst e;exact d.fpOk (M8 _)<|d.hok.fresh<|M8 _
  ·let[t,rfl]:=n;have k:∀ ty,(ty = "str_ascii_iterator" \/ ty = "str_iterator")->(∀ A:Around,A.handled=none->Walks X.prog X.w A ↥s1 [↥s1] [↥s1] (S l).cps.size (SignAt<|S l) (λi h=>h.IsStrIter ↥s1 ty (S l) t i)) ->
     l_ X c U tg Q (.ref ↥s1) { s1 with heap:=s1.heap.push {cls:=.type ty,data:=.fields #[.str (S l) t,.int 0 0]} }:=λty y W=>by
    refine#v[↥s1,[↥s1],_,_,f,rfl,d.kept λb o e=>L8 _ e,GA _ l t ty y W,#v[_,X7 _ rfl,rfl,rfl],λb j=>?_,q];have e:b=↥s1:=by simpa using j
    subst e;exact d.fpOk (M8 _)<|d.hok.fresh<|M8 _
   cases ha:(S l).cps.all (· < 128)
   ·exact wpAny_pyIter_wide ha<|k _ (.inr rfl) λF z=>Walks.strWide z _ (S l) t
   ·exact wpAny_pyIter_ascii ha<|k _ (.inl rfl) λF z=>Walks.strAscii z _ (S l) t
 exact thn (B c s U H _ I h) m
def zO:D->Option (List D)
 | .lst _ l=>some<|bV l
 | .tup l=>some<|bV l
 | .str s=>some<|s.map λc=>.str [c]
 | _=>none
@[simp] def fw(pa:PF)(s:Rh):Option (List D):=(pa s).bind zO
def Bq:k7 R (nV s) Z H (s.map λc=>.str [c]):=by
 intro b f g h zd i;refine#v[λhi=>by show s.length<=i;simpa using hi,λx hx=>?_];rw[List.getElem?_map] at hx;cases e:s[i]? with
 | none=>rw[e] at hx;cases hx
 | some c=>
  rw[e] at hx;cases hx;refine#v[(L9.mp e).1,λu j d=>?_];let[rfl,k,a,rfl]:=d;rw[e] at a;cases a;exact#v[b,Go.id zd,.str_mk]
def Go.fz(g:Go Z H [] Z' H' P):Go Z H [] (λa=>Z' a\/a∈P) H' []:=g.trans<|Go.freeze g.wf
def Ie(h:PP R te p):iC R (mx R.K te) (fw p):=by
 intro U W Z H O G z s e Q k;refine ob e λd D e=>(h z s D λ{v f A E} r B=>?_);have C:=B.freeze (Z':=λa=>f a\/a∈E) (λa z=>.inl z) λa z=>.inr z;cases d with
 | lst o l=>
  cases e;let[a,vs,I,rfl,g,j,rfl,_]:=C;exact .inl #v[a,rfl,#v[vs,FL.sq j],k r.fz ((by
    intro f A m n zd i;have b:=(j.frame m n).sq;refine#v[λhi=>#v[vs,b,by rw[g.length];exact hi],λx hx=>?_];let[v,q,w]:=(g.frame m n λa y=>(nomatch y)).item hx;refine#v[#v[vs,v,b,q],λu F c=>?_];let[rfl,c]:=c;have e:=c vs b;rw[q] at e;cases e;exact#v[f,Go.id zd,w]))]
 | tup l=>
  cases e;let[a,vs,rfl,j,g]:=C;exact .inr (.inl #v[a,rfl,#v[vs,FT.sq j],k r.fz ((by
    intro f A m n zd i;have b:=(j.frame m n).sq;refine#v[λhi=>#v[vs,b,by rw[g.length];exact hi],λx hx=>?_];let[v,q,w]:=(g.frame m n λa y=>(nomatch y)).item hx;refine#v[#v[vs,v,b,q],λu F c=>?_];let[rfl,c]:=c;have e:=c vs b;rw[q] at e;cases e;exact#v[f,Go.id zd,w]))])
 | str t=>
  cases e;let[rfl,rfl]:=B.str_of;exact .inr<|.inr #v[t,rfl,k r Bq]
 | _=>cases e
def Qf(lo:Int)(n:Nat):List D:=(List.range n).map λ(i:Nat)=>D.int<|lo+(i:Int)
def Ig:k7 R (p8 lo n) Z H (Qf lo n):=by
 intro a c d e zd i;refine#v[λhi=>by show n<=i;simpa [Qf] using hi,λx hx=>?_];unfold Qf at hx;rw[List.getElem?_map] at hx;by_cases hi:i<n
 ·rw[List.getElem?_range hi] at hx;cases hx;refine#v[hi,λu f b=>?_];let[rfl,rfl]:=b;exact#v[a,Go.id zd,.int_mk]
 ·rw[List.getElem?_eq_none ⇑hi] at hx;cases hx
def K1(i:Int):Bool:=Nat.ble i.natAbs 4611686018427387903
def Ke(h:K1 i=true):Neg.neg (2 ^ 62)<=i/\i<2 ^ 62:=by
 have h:=Nat.le_of_ble_eq_true h;constructor<;>lia
def Br(l:List D):Option (List D):=(fN l).bind λx=>(kn x).bind λj=>bif K1 j then some (Qf 0 j.toNat) else none
@[simp] def ud(p:cR)(s:Rh):Option (List D):=(p s).bind Br
def a_.one_of(r:a_ R Z H [d] vs O):∃ v,vs=[v]/\bS R Z H d v O:=by
 let[v,a,e,f,rfl,rfl,b,c]:=r;let[rfl,rfl]:=c;exact#v[v,rfl,by simpa using b]
def a_.two_of(r:a_ R Z H [d,e] vs O):gP λv u O1 O2=>dY (vs=[v,u]) (O=O1++O2) (bS R Z H d v O1) (bS R Z H e u O2):=by
 let[v,a,O1,O2,rfl,rfl,b,c]:=r;let[u,rfl,f]:=c.one_of;exact#v[v,u,O1,O2,rfl,rfl,b,f]
def iW(R:RC)(pm:List Nat)(tg:TG)(f:D->Rh->Option Rh):Prop:=∀{s}{u ρ'}{Z}{H}{O}{d}{v},bS R Z H d v []->Slots R Z H u s O->f d u=some ρ' ->
 ∀{Q:St->Hp->Prop},(∀{σ'}{O'},(∀ a∈O',a∈O)->(O.Nodup->O'.Nodup)->Slots R Z H ρ' σ' O'->cf pm s σ'->Q σ' H)->tg v s H Q
def sk(R:RC)(pm:List Nat)(tg:iO)(f:List D->Rh->Option Rh):Prop:=∀{s}{u ρ'}{Z}{H}{O}{ds}{vs},a_ R Z H ds vs []->Slots R Z H u s O->f ds u=some ρ' ->
 ∀{Q:St->Hp->Prop},(∀{σ'}{O'},(∀ a∈O',a∈O)->(O.Nodup->O'.Nodup)->Slots R Z H ρ' σ' O'->cf pm s σ'->Q σ' H)->tg vs s H Q
def Ih:iW R pm (Jl i) (jc pm i):=by
 intro s u f Z H O d v r h e Q k;unfold jc at e;by_cases hi:i< -u
 ·by_cases b:i∈pm
  ·lia
  ·rw[X0 hi,X1 b] at e;cases e;let[A,g,B,rfl,j,c,l]:=h.put hi;refine k (λa q=>?_) (λnd=>?_) (c r (λ_ z=>z) (λ_ _=>rfl) (λ_ _=>rfl)<|λ_ _=>rfl)<|cf.set b
   ·simp at q ⊢;rcases q with q | q<;>simp[q]
   ·grind
 ·lia
def Ii:sk R pm ka gN:=by
 intro s u c Z H O b vs r h e Q k;cases b with
 | cons _ _=>cases e
 | nil=>
  cases e;let[rfl,_]:=r;exact#v[rfl,k (λa h=>h) (λh=>h) h<|cf.refl _ _]
def Ij(f:sk R pm u gs):iW R pm (iP R.K n u) (gT n gs):=by
 intro s w i Z H O d v r h e Q k;cases d with
 | tup l=>
  unfold gT at e;dsimp only at e;by_cases b:-l=n
  ·rw[X0 b,cond_true] at e;let[a,vs,rfl,g,c]:=r;exact#v[a,vs,rfl,g.sq,by rw[c.length];exact b,f c h e k]
  ·lia
 | _=>cases e
def yC(g:D->Rh->Option Rh)(f:FS):List D->FS
 | [],ρ=>some<|.nx ρ
 | x::xs,ρ=>(g x ρ).bind λr=>(f r).bind λo=>o.loop<|yC g f xs
@[simp] def Jt(p:cR)(G:D->Rh->Option Rh)(f:FS)(s:Rh):Option cq:=(p s).bind λxs=>yC G f xs s
def VS{l:List s}{i}(h:l[i]?\x):l.drop i=x::l.drop (i+1):=by
 let[hi,rfl]:=L9.mp h;exact List.drop_eq_getElem_cons hi
inductive Bs (R:RC) (pm:List Nat) (g:D->Rh->Option Rh) (f:FS) (s:L2.St) (Z0:Zn) (H0:Hp) (O:W5) (xs:List D) (o:cq) (i m:Nat) (σ':L2.St) (H':Hp):Prop
 | mk:m=-xs-i->i<=-xs->∀(ρ':Rh) (Z':Zn) (O':W5),Go Z0 H0 O Z' H' O'->Slots R Z' H' ρ' σ' O'->cf pm s σ'->yC g f (xs.drop i) ρ'\o->Bs R pm g f s Z0 H0 O xs o i m σ' H'
def Ik(hi:iC R wi p)(P:iW R pm tg g)(Q:DS R pm tb f):DS R pm (p9 wi tg tb) (Jt p g f):=by
 intro σ ρ Z H O o w s e D' k;refine ob e λc S e=>(hi w.zd s S λ{J A D} L T=>?_);have a:Go Z H O A D O:=by simpa using L.widen w
 refine#v[Bs R pm g f σ A D O c o,
  ⟨c.length,rfl,U4 _,ρ,A,O,Go.refl a.wf,L.slots w.zd s,cf.refl _ _,e⟩,?_]
 rintro i m σ' U ⟨rfl,V,ρ',W,M,h,s1,kp,e2⟩;have t:=T h.zz (h.zH a.wf) h.wf.zd i;by_cases E:i< -c
 ·right
  have hx:c[i]?=some c[i]:=by simp
  let[go,X]:=t.2 _ hx;rw[VS hx] at e2;refine ob e2 λρ1 e3 e2=>ob e2 λY e4 e2=>#v[go,λF q=>∃ b r B,Go A D O r q B/\Slots R r q b F B/\cf pm σ F/\yC g f (c.drop<|i+1) b\o,λF q ⟨b,r,B,a1,a2,a3,a4⟩=>#v[c.length-(i+1),by lia,rfl,E,b,r,B,a1,a2,a3,a4],λu q hy=>?_];let[r,N,r2]:=X u q hy;have v:Go W U M r q M:=by simpa using N.widen h.wf
  refine P r2 (N.slots h.wf.zd s1) e3 λ{σ3 O3} sub nd s3 C=>?_;have x:=(h.trans v).drop sub (nd v.wf.nd);refine Q x.wf s3 e4 ?_;cases Y with
  | nx b=>exact λ{G y I z} j l n=>#v[b,y,z,x.trans j,l,kp.trans<|C.trans n,e2]
  | ct b=>exact λ{G y I z} j l n=>#v[b,y,z,x.trans j,l,kp.trans<|C.trans n,e2]
  | bk b=>cases e2;exact λ{G y I z} j l n=>k (a.trans<|x.trans j) l<|kp.trans<|C.trans n
  | rt d b=>cases e2;exact λ{v4 G y I P4 z} j r4 l n=>k (a.trans<|x.trans j) r4 l<|kp.trans<|C.trans n
 ·left
  have K:i=-c:=by lia
  refine#v[t.1 ∅,?_];rw[K,List.drop_length] at e2;cases e2;exact k (a.trans h) s1 kp
def jv(ix:List<|Option Nat)(ρ:Rh):Rh:=ix.map λo=>o.bind λj=>(ρ[j]?).join
def u7(s:Slots R Z H w u O):∀ ix:List (Option Nat),∃ O',Slots R Z H (jv ix w) (kq ix u) O':=by
 intro ix
 induction ix with
 | nil=>
  exact#v[[],rfl,rfl]
 | cons o ix a=>
  let[O',a]:=a;show ∃ O',Slots R Z H ((o.bind λj=>(w[j]?).join)::jv ix w) ((o.bind λj=>(u[j]?).join)::kq ix u) O';cases e:o.bind λj=>(w[j]?).join with
  | none=>exact#v[O',_,_,rfl,a]
  | some d=>
   cases o with
   | none=>cases e
   | some j=>
    have f:(w[j]?).join\d:=e;have e2:w[j]?\(some d):=by grind
    let[A,P,B,_,b,_]:=s.put (L9.mp e2).1;let[v,c,r]:=b d e2;refine#v[P++O',v,_,P,O',?_,rfl,r,a];show((u[j]?).join::kq ix u)=some v::kq ix u;rw[c];rfl
@[simp] def qT(ρ:Rh):Option Bool:=some true
def jE(g:D->Rh->Option Rh)(q:d_)(p:PF):List D->Rh->Option (List D)
 | [],_=>some []
 | x::xs,ρ=>(g x ρ).bind λρ1=>(q ρ1).bind λb=>bif b then((p ρ1).bind λy=>(jE g q p xs ρ1).bind λys=>some<|y::ys) else jE g q p xs ρ1
@[simp] def yq(pi:cR)(G:D->Rh->Option Rh)(q:d_)(pa:PF)(ix:List<|Option Nat)(ρ:Rh):Option D:=(pi ρ).bind λxs=>bif cb (-xs) then((jE G q pa xs<|jv ix ρ).bind λys=>some<|.lst true ys) else none
def dX(R:RC)(m:List D->Option D)(n:Nat):Sp:=λvs H Q _=>∃ Z ds d,Zd Z H/\ -ds=n/\a_ R Z H ds vs []/\m ds\d/\∀{v}{Z'}{H'}{P},Go Z H [] Z' H' P->bS R Z' H' d v P->Q v H'
def cI(n:Nat)(f:FS)(ds:List D):Option D:=(f<|ds.map some++List.replicate (n- -ds) none).bind cq.val
theorem YX:∀ n:Nat,Slots R Z H (List.replicate n none) (List.replicate n none) []
 | 0=>#v[rfl,rfl]
 | n+1=>#v[none,_,rfl,YX n]
theorem Y2:∀{ds}{vs}{O}{w}{u}{P},a_ R Z H ds vs O->Slots R Z H w u P->Slots R Z H (ds.map some++w) (vs.map some++u) (O++P)
 | [],_,_,_,_,_,r,s=>by symm at r;let[rfl,rfl]:=r;exact s
 | d::ds,_,_,_,_,_,r,s=>by
  let[v,a,b,f,rfl,rfl,c,e]:=r;exact#v[v,_,b,_,rfl,List.append_assoc ..,c,Y2 e s]
def Il(b:DS R [] ts f)(h:dX R (cI N.length f) n vs H Q E):ts {nx:=λ_ H'=>Q .non H',rt:=Q} (L2.cy N vs) H:=by
 let[Z,a,d,z,l,r,e,k]:=h;have s:Slots R Z H (a.map some++List.replicate (-N- -a) none) (L2.cy N vs) []:=by
  unfold L2.cy;rw[r.length];exact(Y2 r<|YX<|N.length- -a)
 refine ob e λo c e=>?_;cases o with
 | rt m i=>cases e;exact b (cZ z) s c λg j _ _=>k g.dropR j
 | nx i=>cases e;exact b (cZ z) s c λg _ _=>k g.to0 .non_mk
 | _=>cases e
mutual
def kJ:D->Bool
 | .tup l=>jW l
 | .lst o l=>o&&jW l
 | .dK o _ l=>o&&jW l
 | .dT o _ l=>o&&jW l
 | .ins o _ _ l=>o&&jW l
 | .non=>true | .bl _=>true | .int _=>true | .str _=>true | .dead=>true | .tok _=>true | .kt _=>false | .exc _ _=>false
def jW:List D->Bool
 | []=>true
 | d::l=>kJ d&&jW l
end
mutual
theorem bS.thaw(ht:∀ a vs,Z a->Rd H a (.tup vs)->Z' a):∀{d:D}{v:V}{O:W5},bS R Z H d v O->kJ d=true->bS R Z' H d v O
 | .non,_,_,h,_=>by symm at h;symm;exact h
 | .bl _,_,_,h,_=>by symm at h;symm;exact h
 | .int _,_,_,h,_=>by symm at h;symm;exact h
 | .str _,_,_,h,_=>by symm at h;symm;exact h
 | .dead,_,_,h,_=>by symm at h;symm;exact h
 | .tok _,_,_,h,_=>by symm at h;symm;exact h
 | .kt _,_,_,_,f=>by cases f
 | .exc _ _,_,_,_,f=>by cases f
 | .tup l,_,_,h,f=>by
  symm at h;symm
  let[a,vs,e,t,r]:=h;refine#v[a,vs,e,?_,a_.thaw ht r f];rcases t with⟨z,q⟩ | q
  ·exact .inl #v[ht a vs z q,q]
  ·exact .inr q
 | .lst o l,_,_,h,f=>by
  symm at h;symm;replace f:=Bool.and_eq_true_iff.mp f
  let[a,vs,O',e,r,h]:=h;cases f.1;exact#v[a,vs,O',e,a_.thaw ht r f.2,h]
 | .dK o ks l,_,_,h,f=>by
  symm at h;symm;replace f:=Bool.and_eq_true_iff.mp f
  let[a,vs,O',e,r,h]:=h;cases f.1;exact#v[a,vs,O',e,a_.thaw ht r f.2,h]
 | .dT o ks l,_,_,h,f=>by
  symm at h;symm;replace f:=Bool.and_eq_true_iff.mp f
  let[a,vs,O',e,r,h]:=h;cases f.1;exact#v[a,vs,O',e,a_.thaw ht r f.2,h]
 | .ins o c ns l,_,_,h,f=>by
  symm at h;symm;replace f:=Bool.and_eq_true_iff.mp f
  let[a,dx,vs,O',e,r,h]:=h;cases f.1;exact#v[a,dx,vs,O',e,a_.thaw ht r f.2,h]
theorem a_.thaw(ht:∀ a vs,Z a->Rd H a (.tup vs)->Z' a):∀{l:List D}{vs:List V}{O:W5},a_ R Z H l vs O->jW l=true->a_ R Z' H l vs O
 | [],_,_,h,_=>by symm at h;symm;exact h
 | d::l,_,_,h,f=>by
  symm at h;symm;replace f:=Bool.and_eq_true_iff.mp f
  let[v,vs,O1,O2,e,rfl,r1,r2]:=h;exact#v[v,vs,O1,O2,e,rfl,bS.thaw ht r1 f.1,a_.thaw ht r2 f.2]
end
mutual
theorem bS.notTup:∀{d:D}{v:V}{O:W5},bS R Z H d v O->∀ a∈O,∀ vs,¬ Rd H a (.tup vs)
 | .non,_,_,h,a,ha=>by symm at h;rw[h.2] at ha;cases ha
 | .bl _,_,_,h,a,ha=>by symm at h;rw[h.2] at ha;cases ha
 | .int _,_,_,h,a,ha=>by symm at h;rw[h.2] at ha;cases ha
 | .str _,_,_,h,a,ha=>by symm at h;rw[h.2] at ha;cases ha
 | .dead,_,_,h,a,ha=>by symm at h;rw[h] at ha;cases ha
 | .tok _,_,_,h,a,ha=>by symm at h;rw[h.2] at ha;cases ha
 | .kt _,_,_,h,a,ha=>by symm at h;let[_,_,_,_,h]:=h;rw[h] at ha;cases ha
 | .exc _ _,_,_,h,a,ha=>by symm at h;let[_,_,_,_,_,_,_,h]:=h;rw[h] at ha;cases ha
 | .tup l,_,_,h,a,ha=>by
  symm at h
  let[b,vs,e,t,r]:=h;exact a_.notTup r a ha
 | .lst o l,_,_,h,a,ha=>by
  symm at h
  let[b,vs,O',e,r,h]:=h;cases o with
  | true=>
   let[h1,rfl]:=h;rcases M4.mp ha with e | e
   ·subst e;rintro ws (q | ⟨_,q⟩)<;>rw[h1] at q<;>cases q
   ·exact a_.notTup r a e
  | false=>rw[h.2.2] at ha;cases ha
 | .dK o ks l,_,_,h,a,ha=>by
  symm at h
  let[b,vs,O',e,r,hl,hd,h]:=h;cases o with
  | true=>
   have h:=(show _=_ from h);subst h;rcases M4.mp ha with e | e
   ·subst e;rintro ws (q | ⟨_,q⟩)<;>rw[hd] at q<;>cases q
   ·exact a_.notTup r a e
  | false=>rw[h.2.2] at ha;cases ha
 | .dT o ks l,_,_,h,a,ha=>by
  symm at h
  let[b,vs,O',e,r,hl,hd,h]:=h;cases o with
  | true=>
   have h:=(show _=_ from h);subst h;rcases M4.mp ha with e | e
   ·subst e;rintro ws (q | ⟨_,q⟩)<;>rw[hd] at q<;>cases q
   ·exact a_.notTup r a e
  | false=>rw[h.2.2] at ha;cases ha
 | .ins o c ns l,_,_,h,a,ha=>by
  symm at h
  let[b,dx,vs,O',e,r,hl,hd,h]:=h;cases o with
  | true=>
   have h:=(show _=_ from h);subst h;rcases M4.mp ha with e | e
   ·subst e;rintro ws (q | ⟨_,q⟩)<;>rw[hd] at q<;>cases q
   ·exact a_.notTup r a e
  | false=>rw[h.2.2] at ha;cases ha
theorem a_.notTup:∀{l:List D}{vs:List V}{O:W5},a_ R Z H l vs O->∀ a∈O,∀ vs,¬ Rd H a (.tup vs)
 | [],_,_,h,a,ha=>by symm at h;rw[h.2] at ha;cases ha
 | d::l,_,_,h,a,ha=>by
  symm at h
  let[v,vs,O1,O2,e,rfl,r1,r2]:=h;rcases N1.mp ha with q | q
  ·exact bS.notTup r1 a q
  ·exact a_.notTup r2 a q
end
@[simp] def jC(m:List D->Option D)(p:cR)(s:Rh):Option D:=(p s).bind λds=>(m<|bV ds).bind λd=>bif frzs ds||kJ d then some d else none
def Jy(l):-(bV l)=-l:=by rw[qP,L1]
def Bt(i:Zd Z H)(e:a_ R Z H ds vs P1)(hn:-ds=n)(e2:m (bV ds)\d)(c:(frzs ds||kJ d)=true)
  (k:∀{v}{Z'}{H'}{P},Go Z H [] Z' H' P->bS R Z' H' d v P->Q v H'):dX R m n (vs++[]) H Q E:=by
 refine#v[λa=>Z a\/a∈P1,bV ds,d,λa h=>h.elim (i a)<|e.dom a,by rw[Jy];exact hn,by rw[M9];exact e.freeze (λa z=>.inl z) λa z=>.inr z,e2,λ{v Z' H' P} b f=>?_];rw[Bool.or_eq_true] at c;rcases c with c | c
 ·cases e.nil c;exact k #v[b.wf,λa z=>b.zz a<|.inl z,b.fr,λa z=>(b.zn a z).imp (λq=>q.resolve_right<|λq=>(nomatch q)) id,b.sub,b.dm] f
 ·refine k (Z':=λa=>Z' a/\(a∉P1\/Z a)) #v[#v[b.wf.nd,λa h q=>b.wf.nz a h q.1,b.wf.od,λa q=>b.wf.zd a q.1],λa z=>#v[b.zz a<|.inl z,.inr z],b.fr,λa z=>?_,b.sub,b.dm]<|f.thaw (λa j za l=>#v[za,?_]) c
  ·rcases b.zn a z.1 with(q | q) | q
   ·lia
   ·lia
   ·lia
  ·by_cases g:a∈P1
   ·exact absurd (Rd.agree (b.same a<|e.dom a g).symm l)<|e.notTup a g j
   ·lia
@[simp] def cC(i:Nat)(f:FS)(s:Rh):Option cq:=match pV i s with | some d=>f (s.set i<|some<|fz d) | none=>f s
def JP{l m:W5}(h:∀ c,l.count c<=m.count c)(n:m.Nodup):l.Nodup:=List.nodup_iff_count.mpr λc=>N6 (h c)<|List.nodup_iff_count.mp n c
def V8{l m:W5}(h:∀ c,l.count c<=m.count c):∀ c∈l,c∈m:=λc a=>List.count_pos_iff.mp<|U3 (List.count_pos_iff.mpr a)<|h c
def Go.at(g:Go Z H O Z' H' P)(hn:a∉O)(h:H a\o):H' a\o:=(g.fr a ∅ hn).trans h
def Go.at0(g:Go Z H [] Z' H' P)(h:H a\o):H' a\o:=g.at (λz=>nomatch z) h
noncomputable abbrev Ln:=D->Option (D×(D->D))
inductive Bu (R:RC) (Z:Zn) (H:Hp) (u:Rh) (s:L2.St) (O:W5) (tb:TE) (i:Nat) (x:D) (k:D->D):Prop
 | mk:∀(v:V) (A P B:W5),O=A++P++B->bS R Z H x v P->(∀{Q:VK},Q v H->tb s H Q) ->
  (∀{Z':Zn}{H':Hp}{x':D}{P':W5},bS R Z' H' x' v P'->(∀ a,Z a->Z' a)->(∀ a,Z a->H' a=H a)->(∀ a∈A,H' a=H a)->(∀ a∈B,H' a=H a)->Slots R Z' H' (u.set i<|some<|k x') s (A++P'++B))->Bu R Z H u s O tb i x k
def k_(R:RC)(tb:TE)(i:Nat)(L:Ln):Prop:=∀{s}{u}{Z}{H}{O}{d x}{k},Slots R Z H u s O->u[i]?\(some d)->L d\(x,k)->Bu R Z H u s O tb i x k
def vW:Ln:=λd=>some (d,λx=>x)
def J4:k_ R (vw i) i vW:=by
 intro u w Z H O d x k s h e;cases e;let[A,P,B,rfl,b,c,_]:=s.put (L9.mp h).1;let[v,a,r]:=b _ h;refine#v[v,A,P,B,rfl,r,λq=>#v[v,a,q],λf g j l m=>?_];have q:=c f g j l m;rw[vy a] at q;exact q
inductive Bv (R:RC) (Z:Zn) (H:Hp) (l:List D) (sh:Addr->List V->HO) (sd:Prop) (v:V) (O:W5):Prop
 | mk:∀(a dx:Addr) (vs:List V) (O':W5),v=.ref a->a_ R Z H l vs O'->sd->H a\(sh dx vs)->O=a::O'->Bv R Z H l sh sd v O
def la(R:RC)(T:D)(l:List D)(sh:Addr->List V->HO)(sd:Prop):Prop:=∀{Z}{H}{v}{O},bS R Z H T v O↔Bv R Z H l sh sd v O
def Y8:la R (.lst true l) l (λ_ vs=>.lst vs) True:=by
 intro Z H v O;exact#v[λh=>by let[a,vs,b,e,c,d,f]:=h;exact#v[a,0,vs,b,e,c,trivial,d,f],λh=>by let[a,_,vs,b,e,c,_,d,f]:=h;exact#v[a,vs,b,e,c,d,f]]
def lb:la R (.dK true ks l) l (λ_ vs=>.dK<|(ks.map bX).zip vs) (-ks=-l):=by
 intro Z H v O;exact#v[λh=>by let[a,vs,b,e,c,h,d,f]:=h;exact#v[a,0,vs,b,e,c,h,d,f],λh=>by let[a,_,vs,b,e,c,h,d,f]:=h;exact#v[a,vs,b,e,c,h,d,f]]
def oh:la R (.dT true ks l) l (λ_ vs=>.dT<|(ks.map<|List.map bX).zip vs) (-ks=-l):=by
 intro Z H v O;exact#v[λh=>by let[a,vs,b,e,c,h,d,f]:=h;exact#v[a,0,vs,b,e,c,h,d,f],λh=>by let[a,_,vs,b,e,c,h,d,f]:=h;exact#v[a,vs,b,e,c,h,d,f]]
def dI:la R (.ins true c ns l) l (λdx vs=>.ins (R.cls c) dx<|ns.zip vs) (-ns=-l):=by
 intro Z H v O;exact#v[λh=>by let[a,dx,vs,b,e,d,h,f,g]:=h;exact#v[a,dx,vs,b,e,d,h,f,g],λh=>by let[a,dx,vs,b,e,d,h,f,g]:=h;exact#v[a,dx,vs,b,e,d,h,f,g]]
def JE{R}{Z}{H}{C:Prop}{U}{W}{O P0}{i}{tb}{L}{t y}{n}{l}{o}{p}(u:k_ R tb i L)(w:WF Z H<|P0++O)(s:Slots R Z H W U O)(hi:pV i W\t)(e:L t\(y,n))(D:la R y l o p)
  (k:∀ a dx vs O',a_ R Z H l vs O'->p->H a\(o dx vs)->(∀{Q},Q (.ref a) H->tb U H Q)->(∀{O2 P1}{Z2}{H2}{x'}{l'}{vs'}{sh':Addr->List V->HO}{sd'},la R x' l' sh' sd'->sd'->Go Z H [] Z2 H2 P1->a_ R Z2 H2 l' vs' O2->(∀ q,O2.count q<=O'.count q+P0.count q+P1.count q) ->
   ∃ O3,Go Z H (P0++O) Z2 (bU H2 a<|sh' dx vs') O3/\Slots R Z2 (bU H2 a<|sh' dx vs') (W.set i<|some<|n x') U O3)->C):C:=by
 let[v,A,P,B,rfl,r,E,F]:=u s (KI hi) e;let[a,dx,vs,O',rfl,G,hd,I,rfl]:=D.mp r;refine k a dx vs O' G hd I E λ{O2 P1 Z2 H2 x' l' vs' sh' sd'} h j g J gE=>?_;have f:=g.widen w;have nd:=f.wf.nd;have ct:=List.nodup_iff_count.mp nd a;simp only[U7,List.count_cons,if_true] at ct;have pos:∀{m:W5},a∈m->0<m.count a:=List.count_pos_iff.mpr;generalize K:sh' dx vs'=ob;have d:∀ b,Z2 b->bU H2 a ob b=H2 b:=λb c=>jh λz=>f.wf.nz a (by simp)<|z▸c;have oth:∀ m:List Addr,(∀ b∈m,b∈A++(a::O')++B)->m.count a=0->∀ b∈m,bU H2 a ob b=H b:=λm M S b c=>(jh λz=>by subst z;have:=pos c;lia).trans (g.same b<|w.od b<|U2 _<|M b c);have N:=F (h.mpr #v[a,dx,vs',O2,rfl,J.frame (λ_ z=>z) d λb c=>jh λz=>by subst z;have:=pos c;have:=gE b;lia,j,by rw[K];exact js,rfl]) g.zz (λx hx=>(d x<|g.zz x hx).trans (g.same x<|w.zd x hx)) (oth A (λb c=>by simp[c]) ∅)<|oth B (λb c=>by simp[c]) ∅;have le:∀ q,(A++(a::O2)++B).count q<=(P1++(P0++(A++(a::O')++B))).count q:=λq=>by
  have:=gE q;simp only[U7,List.count_cons];lia
 exact#v[_,(f.trans<|Go.put f.wf<|by simp).drop (V8 le) (JP le nd),N]
@[simp] def qV(i:Nat)(L:Ln)(pv:PF)(ρ:Rh):Option cq:=(pv ρ).bind λd=>(pV i ρ).bind λt=>(L t).bind λy=>(uF y.1).bind λl=>bif cb (-l) then some (.nx<|ρ.set i<|some<|y.2<|.lst true<|l++[d]) else none
def Bw{R}{pm}{i}{tb te}{L}{p}(j:k_ R tb i L)(h:PP R te p):DS R pm (V7<|gR R.K "list" YT tb<|ve te Qp) (qV i L p):=by
 intro U W Z H O o w s e A k;refine ob e λd m e=>ob e λt hi e=>ob e λ⟨y,B⟩ e3 e=>ob e λl n e=>oc e λb e=>?_;cases e;cases Vl n;refine JE (P0:=[]) j w s hi e3 Y8 λa _ vs C f _ g r put=>r #v[.inl #v[rfl,vs,cD.of g],h w.zd s m λ{u D E F} c v=>?_];let[G,x,z]:=put Y8 trivial c ((c.reps w.zd f).append (.one v)) λq=>by simp
 exact#v[a,vs,u,rfl,rfl,c.at0 g,by rw[f.length];exact xj b,k x z<|cf.refl _ _]
@[simp] def Qu(i:Nat)(pa:PF)(s:Rh):Option cq:=(pa s).bind λd=>(pV i s).bind λx=>(uF x).bind λl=>bif cb (-l) then some (.nx<|s.set i<|some<|.lst true<|l++[d]) else none
def oj(h:dB X f r)(h':dB X f r'):dB X f (λx y H Q=>r x y H Q\/r' x y H Q):=by
 intro a s w H x y v u Q I b c q;rcases q with q | q
 ·exact h a s w H x y v u Q I b c q
 ·exact h' a s w H x y v u Q I b c q
def bS.lst_of(r:bS R Z H (.lst o l) v O):dL λa vs O'=>cM (v=.ref a) (fL R.K H a vs) (a_ R Z H l vs O'):=by
 let[a,vs,O',rfl,b,h]:=r;cases o with
 | true=>exact#v[a,vs,O',rfl,fL.of h.1,b]
 | false=>exact#v[a,vs,O',rfl,FL.sqx h.1,b]
def bS.tup_of(r:bS R Z H (.tup l) v O):eB λa vs=>cM (v=.ref a) (cK R.K H a vs) (a_ R Z H l vs O):=by
 let[a,vs,rfl,h,b]:=r;exact#v[a,vs,rfl,h.sq,b]
def a_.frozen(r:a_ R Z H l vs O)(f:frzs l=true):a_ R Z H l vs []:=by
 cases r.nil f;exact r
def my(i:Int):Bool:=decide<|Builtin.Int.intBits i<=2 ^ 20
def By(h:i.natAbs<2 ^ 1000):my i=true:=X0<|(N6 (PySem.intBits_le_iff.mpr h)<|by decide)
def jr(x y:D):Option D:=match x with
 | .int i=>(match y with
  | .int j=>some<|.int<|i+j
  | _=>none)
 | .str a=>(match y with
  | .str b=>bif cb (-a+-b) then some (.str<|a++b) else none
  | _=>none)
 | .lst _ a=>(match y with
  | .lst _ b=>bif cb (-a+-b)&&(frzs a&&frzs b) then some (.lst true<|a++b) else none
  | _=>none)
 | .tup a=>(match y with
  | .tup b=>bif cb (-a+-b)&&(frzs a&&frzs b)&&!a.isEmpty then some (.tup<|a++b) else none
  | _=>none)
 | _=>none
def Im:R2:=λx y H Q=>∃ a b,x=.str (S a)/\y=.str (S b)/\ -a+-b<=sizeLine/\Q (.str<|S<|a++b) H
def ol(K:W4):R2:=λx y H Q=>ff (λi j=>.int<|i+j) x y H Q\/Im x y H Q\/AE K x y H Q\/Gf K x y H Q
def Io:dB X (binaryOp .Add) (ol X.K):=oj FI (oj GB (oj GI (by
  intro e s U H x y v u Q I i j h;let[a,b,p,r,rfl,rfl,k,l,hx,f,m,n]:=h;cases i;cases j;let[o,d,p1,_]:=I.tuple k;let[g,c,p2,_]:=I.tuple l;refine HT.g8 p1 p2 (λz=>hx<|d.nil_iff.mp z) (λz=>#v[.ref a,H,I,rfl,m<|c.nil_iff.mp z]) (λz=>?_) (by rw[<- d.length,<- c.length];exact f);refine#v[.ref ↥s,_,I.laid (λb ob q=>L8 _ q) (M8 _) ?_,rfl,n (λw=>z<|c.nil_iff.mpr w) _<|I.hok.fresh<|M8 _];exact#v[by rw[N3];exact f,_,d.append c,cV.new _ _])))
def Ip:BO R (ol R.K) jr:=by
 intro Z H x y d v u D E z g l e Q k;cases x with
 | int i=>
  cases y with
  | int j=>
   cases e;let[rfl,_]:=g.int_of;let[rfl,_]:=l.int_of;exact .inl #v[i,j,rfl,rfl,k (Go.id z) .int_mk]
  | _=>cases e
 | str a=>
  cases y with
  | str b=>
   refine oc e λc e=>?_;cases e;let[rfl,_]:=g.str_of;let[rfl,_]:=l.str_of;exact .inr<|.inl #v[a,b,rfl,rfl,J1 c,k (Go.id z) .str_mk]
  | _=>cases e
 | lst o a=>
  cases y with
  | lst F b=>
   refine oc e λc e=>?_;cases e;simp only[M0] at c;let[p,vs,G,rfl,hx,f]:=g.lst_of;let[q,m,t,rfl,n,rt]:=l.lst_of;have w:=(f.frozen c.2.1).append (rt.frozen c.2.2);exact .inr<|.inr<|.inl #v[p,q,vs,m,rfl,rfl,hx,n,by rw[f.length,rt.length];exact J1 c.1,λb h=>k (Go.newO (cZ z) h)<|bS.lstNew (cZ z) h w]
  | _=>cases e
 | tup a=>
  cases y with
  | tup b=>
   refine oc e λc e=>?_;cases e;simp only[M0] at c;let[p,vs,rfl,hx,f]:=g.tup_of;let[q,m,rfl,n,rt]:=l.tup_of;have r:vs≠[]:=by
    intro A;have:=-f;rw[A] at this;have s:=List.eq_nil_of_length_eq_zero this.symm;rw[s] at c;simp at c
   refine .inr<|.inr<|.inr #v[p,q,vs,m,rfl,rfl,hx,n,r,by rw[f.length,rt.length];exact J1 c.1.1,(λs=>?_),λ_ b h=>k (Go.newF (cZ z) h)<|bS.tupNew (cZ z) h<|(f.frozen c.1.2.1).append (rt.frozen c.1.2.2)];have B:=List.eq_nil_of_length_eq_zero (by rw[<- rt.length,s];rfl);subst B;rw[M9] at k;have C:=f.nil c.1.2.1;subst C;exact k (Go.id z) g
  | _=>cases e
 | _=>cases e
def two(f:Int->Int->Option D)(x y:D):Option D:=(kn x).bind λi=>(kn y).bind λj=>f i j
def two_of(e:two f x y\d):eB λi j=>cM (x=.int i) (y=.int j) (f i j\d):=ob e λi a e=>ob e λj e2 e=>#v[i,j,jZ a,jZ e2,e]
def Ku:D->D->Option D:=two λi j=>some<|.int<|i-j
def Iq:BO R (ff λi j=>.int<|i-j) Ku:=by
 intro Z H x y d v u c f z a b e Q k;replace e:=two_of e;let[i,j,rfl,rfl,e]:=e;cases e;let[rfl,_]:=a.int_of;let[rfl,_]:=b.int_of;exact#v[i,j,rfl,rfl,k (Go.id z) .int_mk]
def yA:D->D->Option D:=two λi j=>bif my i&&my j then some (.int<|i*j) else none
def sn:R2:=rI (λi j=>Builtin.Int.intBits i<=2 ^ 20/\Builtin.Int.intBits j<=2 ^ 20) λi j=>.int<|i*j
def Ir:dB X (binaryOp .Mult) sn:=GC
def Is:BO R sn yA:=by
 intro Z H x y d v u f g z b c e Q k;replace e:=two_of e;let[i,j,rfl,rfl,e]:=e;refine oc e λa e=>?_;cases e;rw[M0] at a;let[rfl,_]:=b.int_of;let[rfl,_]:=c.int_of;exact#v[i,j,rfl,rfl,#v[X2 a.1,X2 a.2],k (Go.id z) .int_mk]
def mz(j:Int):Bool:=decide (0<j)&&decide (j<2 ^ 300)
def Iu:dB X (binaryOp .FloorDiv) (rI (λ_ j=>mz j=true) λi j=>.int<|i/j):=ny λi j t u s Q E a q=>by
 let[b,c]:=(show 0<j/\j.natAbs.log2<9000 from by 
   unfold mz at a;simp only[M0,decide_eq_true_eq] at a;refine#v[a.1,?_];have d:j.natAbs<2 ^ 300:=by lia
   have b:j.natAbs≠0:=by lia
   have:=(Nat.log2_lt b).mpr d
   lia)
 rw[(Int.fdiv_eq_ediv_of_nonneg i<|Int.le_of_lt b).symm] at q;exact PyProof.Rows.floordiv_int ∅ q (.inl<|PyProof.noPylong_of_log2 c)
def jw:D->D->Option D:=two λi j=>bif mz j then some (.int<|i/j) else none
def jk:D->D->Option D:=two λi j=>bif decide (0<j) then some (.int<|i%j) else none
def xQ:D->D->Option D:=two λi j=>bif decide (0<=j)&&decide (j<=100)&&decide (i.natAbs<2 ^ 64) then some (.int<|i ^ j.toNat) else none
def Iv:BO R (rI (λ_ j=>mz j=true) λi j=>.int<|i/j) jw:=by
 intro Z H x y d v u f g z a b e Q k;replace e:=two_of e;let[i,j,rfl,rfl,e]:=e;refine oc e λc e=>?_;cases e;let[rfl,_]:=a.int_of;let[rfl,_]:=b.int_of;exact#v[i,j,rfl,rfl,c,k (Go.id z) .int_mk]
def Iw:BO R (rI (λ_ j=>0<j) λi j=>.int<|i%j) jk:=by
 intro Z H x y d v u f g z b c e Q k;replace e:=two_of e;let[i,j,rfl,rfl,e]:=e;by_cases a:0<j
 ·rw[X0 a] at e;cases e;let[rfl,_]:=b.int_of;let[rfl,_]:=c.int_of;exact#v[i,j,rfl,rfl,a,k (Go.id z) .int_mk]
 ·lia
def Ix:BO R (rI qi λi j=>.int<|i ^ j.toNat) xQ:=by
 intro Z H x y d v u f g z b c e Q k;replace e:=two_of e;let[i,j,rfl,rfl,e]:=e;refine oc e λa e=>?_;cases e;simp only[M0,decide_eq_true_eq] at a;let[rfl,_]:=b.int_of;let[rfl,_]:=c.int_of;exact#v[i,j,rfl,rfl,#v[a.1.1,by lia,a.2],k (Go.id z) .int_mk]
def ur:D->Option D
 | .int i=>some<|.int<|Neg.neg i
 | _=>none
def Iy:BU R (rU λi=>.int<|Neg.neg i) ur:=by
 intro Z H x d v O z a e Q k;cases x with
 | int i=>
  cases e;let[rfl,_]:=a.int_of;exact#v[i,rfl,k (Go.id z) .int_mk]
 | _=>cases e
def mB(g:Int->Int->Bool):D->D->Option D:=two λi j=>some<|.bl<|g i j
def so:BO R (ff λi j=>.bl<|g i j) (mB g):=by
 intro Z H x y d v u c f z a b e Q k;replace e:=two_of e;let[i,j,rfl,rfl,e]:=e;cases e;let[rfl,_]:=a.int_of;let[rfl,_]:=b.int_of;exact#v[i,j,rfl,rfl,k (Go.id z) .bl_mk]
abbrev gV:D->D->Option D:=mB λi j=>decide<|i<j
abbrev Yz:D->D->Option D:=mB λi j=>decide<|j<i
abbrev om:D->D->Option D:=mB λi j=>decide<|j<=i
def KJ:D->Bool
 | .non=>true | .bl _=>true | .int _=>true | .str _=>true
 | _=>false
def mC:D->D->Bool
 | .non,y=>match y with | .non=>true | _=>false
 | .bl a,y=>match y with | .bl b=>a==b | _=>false
 | .int a,y=>match y with | .int b=>a==b | _=>false
 | .str a,y=>match y with | .str b=>a==b | _=>false
 | _,_=>false
def mD:D->D->Bool
 | .bl _,.int _=>false
 | .int _,.bl _=>false
 | _,_=>true
def Iz(d:bS R Z H x v O1)(c:bS R Z H y u O2)(h:(KJ x&&KJ y&&mD x y)=true):Ac v u=true/\decide (v=u)=mC x y:=by
 cases x with
 | non=>
  let[rfl,_]:=d.non_of;cases y with
  | non=>let[rfl,_]:=c.non_of;exact#v[rfl,rfl]
  | bl b=>let[rfl,_]:=c.bl_of;exact#v[rfl,rfl]
  | int b=>let[rfl,_]:=c.int_of;exact#v[rfl,rfl]
  | str b=>let[rfl,_]:=c.str_of;exact#v[rfl,rfl]
  | _=>cases h
 | bl a=>
  let[rfl,_]:=d.bl_of;cases y with
  | non=>let[rfl,_]:=c.non_of;exact#v[rfl,rfl]
  | bl b=>let[rfl,_]:=c.bl_of;exact#v[rfl,by rw[Ae];rfl]
  | str b=>let[rfl,_]:=c.str_of;exact#v[rfl,rfl]
  | _=>cases h
 | int a=>
  let[rfl,_]:=d.int_of;cases y with
  | non=>let[rfl,_]:=c.non_of;exact#v[rfl,rfl]
  | int b=>let[rfl,_]:=c.int_of;exact#v[rfl,by rw[Ad];rfl]
  | str b=>let[rfl,_]:=c.str_of;exact#v[rfl,rfl]
  | _=>cases h
 | str a=>
  let[rfl,_]:=d.str_of;cases y with
  | non=>let[rfl,_]:=c.non_of;exact#v[rfl,rfl]
  | bl b=>let[rfl,_]:=c.bl_of;exact#v[rfl,rfl]
  | int b=>let[rfl,_]:=c.int_of;exact#v[rfl,rfl]
  | str b=>
   let[rfl,_]:=c.str_of;refine#v[rfl,?_];rw[Bool.eq_iff_iff];show _↔(_==_)=true;simp[ro]
  | _=>cases h
 | _=>cases h
def hQ(x:D)(l:List D):Bool:=l.any λy=>mC y x
def hR(x:D)(l:List D):Bool:=KJ x&&l.all λy=>KJ y&&mD y x
def Vh(neg:Bool)(x y:D):Option D:=match y with
 | .lst _ l=>bif hR x l then some (.bl<|neg != hQ x l) else none
 | .tup l=>bif hR x l then some (.bl<|neg != hQ x l) else none
 | _=>none
def a_.flat(c:bS R Z H x v P)(d:KJ x=true):∀{l}{vs}{O},a_ R Z H l vs O->(l.all λy=>KJ y&&mD y x)=true->Kg v=true/\vs.all Kg=true/\nR v vs=hQ x l:=by
 intro l
 induction l with
 | nil=>
  intro _ _ h _;let[rfl,_]:=h;refine#v[?_,rfl,rfl];cases x with
  | non=>let[rfl,_]:=c.non_of;rfl
  | bl b=>let[rfl,_]:=c.bl_of;rfl
  | int b=>let[rfl,_]:=c.int_of;rfl
  | str b=>let[rfl,_]:=c.str_of;rfl
  | _=>cases d
 | cons y l g=>
  intro _ _ h f;let[u,vs,n,o,rfl,rfl,e,i]:=h;rw[List.all_cons,M0] at f;let[j,k,m]:=g i f.2;have key:Kg u=true/\gQ u v=mC y x:=by
   cases y with
   | non=>
    let[rfl,_]:=e.non_of;cases x with
    | non=>let[rfl,_]:=c.non_of;exact#v[rfl,rfl]
    | bl b=>let[rfl,_]:=c.bl_of;exact#v[rfl,rfl]
    | int b=>let[rfl,_]:=c.int_of;exact#v[rfl,rfl]
    | str b=>let[rfl,_]:=c.str_of;exact#v[rfl,rfl]
    | _=>cases d
   | bl a=>
    let[rfl,_]:=e.bl_of;cases x with
    | non=>let[rfl,_]:=c.non_of;exact#v[rfl,rfl]
    | bl b=>let[rfl,_]:=c.bl_of;exact#v[rfl,rfl]
    | str b=>let[rfl,_]:=c.str_of;exact#v[rfl,rfl]
    | int b=>cases f.1
    | _=>cases d
   | int a=>
    let[rfl,_]:=e.int_of;cases x with
    | non=>let[rfl,_]:=c.non_of;exact#v[rfl,rfl]
    | int b=>let[rfl,_]:=c.int_of;exact#v[rfl,rfl]
    | str b=>let[rfl,_]:=c.str_of;exact#v[rfl,rfl]
    | bl b=>cases f.1
    | _=>cases d
   | str a=>
    let[rfl,_]:=e.str_of;cases x with
    | non=>let[rfl,_]:=c.non_of;exact#v[rfl,rfl]
    | bl b=>let[rfl,_]:=c.bl_of;exact#v[rfl,rfl]
    | int b=>let[rfl,_]:=c.int_of;exact#v[rfl,rfl]
    | str b=>
     let[rfl,_]:=c.str_of;refine#v[rfl,?_];show(S a==S b)=(a==b);rw[Bool.eq_iff_iff];simp[ro]
    | _=>cases d
   | _=>cases f.1
  refine#v[j,by rw[List.all_cons,key.1,k];rfl,?_];show(gQ u v||nR v vs)=(mC y x||hQ x l);rw[key.2,m]
def oq(K:W4)(neg:Bool):R2:=ra K neg
def Bz(neg b):(if neg=true then !b else b)=(neg != b):=by cases neg<;>cases b<;>rfl
def BA:BO R (oq R.K neg) (Vh neg):=by
 intro Z H x y d v u m n z i j e Q k;cases y with
 | lst o l=>
  have b:=e;refine oc b λa b=>?_;cases b;unfold hR at a;rw[M0] at a;let[p,vs,q,rfl,hx,c]:=j.lst_of;let[f,g,h]:=c.flat i a.1 a.2;refine#v[p,vs,rfl,.inl hx.sq,f,g,?_];rw[h,Bz];exact k (Go.id z) .bl_mk
 | tup l=>
  have b:=e;refine oc b λa b=>?_;cases b;unfold hR at a;rw[M0] at a;let[p,vs,rfl,hx,c]:=j.tup_of;let[f,g,h]:=c.flat i a.1 a.2;refine#v[p,vs,rfl,.inr hx,f,g,?_];rw[h,Bz];exact k (Go.id z) .bl_mk
 | _=>cases e
def jd(x y:D):Option D:=match y with
 | .int i=>(match x with
  | .lst _ l=>atI l i
  | .tup l=>atI l i
  | .str s=>bif cb (-s) then(atI s i).bind λc=>some (.str [c]) else none
  | _=>none)
 | _=>none
def a_.atI(r:a_ R Z H l vs O)(e:L2.atI l i\d):∃ v P,L2.atI vs i\v/\bS R Z H d v P:=by
 unfold L2.atI at e ⊢;rw[r.length];cases h:dU l.length i with
 | none=>rw[h] at e;cases e
 | some j=>
  rw[h] at e;let[v,A,P,B,a,_,b,_]:=r.at<|e;exact#v[v,P,a,b]
def IA:Ib R (fg R.K) jd:=by
 intro Z H x y d v u n q z a j e Q k;cases y with
 | int i=>
  let[rfl,_]:=j.int_of;cases x with
  | lst o l=>
   let[p,vs,r,rfl,hx,b]:=a.lst_of;let[w,P,f,g]:=b.atI e;exact .inl #v[p,vs,i,w,rfl,rfl,hx.sq,f,k g]
  | tup l=>
   let[p,vs,rfl,hx,b]:=a.tup_of;let[w,P,f,g]:=b.atI e;exact .inr<|.inl #v[p,vs,i,w,rfl,rfl,hx,f,k g]
  | str s=>
   let[rfl,_]:=a.str_of;refine oc e λm e=>ob e λc h e=>?_;cases e;refine .inr<|.inr #v[S s,i,c,rfl,rfl,by rw[wN];exact J1 m,by rw[K4];exact h,?_];exact k .str_mk
  | _=>cases e
 | _=>cases e
abbrev OF:=Rh->Option (Option Int)
def sr(R:RC)(t:TO)(p:OF):Prop:=∀{s}{u}{Z}{H}{O}{i},Zd Z H->Slots R Z H u s O->p u=some i ->
 ∀{Q:Option Int->Hp->Prop},(∀{Z'}{H'},Go Z H [] Z' H' []->Q i H')->t s H Q
@[simp] def oN(s:Rh):Option (Option Int):=some none
@[simp] def oS(pa:PF)(s:Rh):Option (Option Int):=(pa s).bind λd=>(kn d).bind λi=>some<|some i
def ld(lo hi:Option Int):D->Option D
 | .str s=>bif cb (-s) then some (.str<|vf s lo hi) else none
 | .lst _ l=>bif frzs l then some (.lst true<|vf l lo hi) else none
 | _=>none
def ss(K:W4):V->Option Int->Option Int->Hp->VK->Prop:=λx lo hi H Q=>AC x lo hi H Q\/Ao K x lo hi H Q
def IB:iq X (ss X.K):=iq.or Gz Gi
@[simp] def eP(pa:PF)(pl:OF)(ph:OF)(s:Rh):Option D:=(pa s).bind λx=>(pl s).bind λlo=>(ph s).bind λhi=>ld lo hi x
def a_.cut(r:a_ R Z H l vs [])(lo hi):a_ R Z H (vf l lo hi) (mf vs lo hi) []:=by
 unfold vf mf;rw[r.length];exact(r.drop _).take _
def IC(q:PB R te pa)(r:sr R tl pl)(u:sr R th ph):PP R (Al (ss R.K) te tl th) (eP pa pl ph):=by
 intro U W Z H O d z s e Q k;refine ob e λx w e=>ob e λlo e2 e=>ob e λhi e3 e=>(q z s w λ{v B C D} f y=>(r f.wf.zd (f.slots z s) e2 λ{E F} g=>?_));have c:=f.pair g;refine u g.wf.zd (c.slots z s) e3 λ{Z3 G} h=>?_;have a:=c.pair h;have j:=(g.pair h).rep f.wf.zd y;cases x with
 | str t=>
  refine oc e λi e=>?_;cases e;let[rfl,_]:=j.str_of;exact .inl #v[t,rfl,J1 i,k a .str_mk]
 | lst o l=>
  refine oc e λi e=>?_;cases e;let[p,vs,I,rfl,hx,A]:=j.lst_of;have m:=h.wf.zd;exact .inr #v[p,vs,rfl,hx.sq,λb n=>k ⇑(a.pair<|Go.newO (cZ m) n) (bS.lstNew (cZ m) n<|(A.frozen i).cut lo hi)]
 | _=>cases e
def ID:D->Option D
 | .lst _ l=>some<|.int (-l)
 | .tup l=>some<|.int (-l)
 | .str s=>bif cb (-s) then some (.int (-s)) else none
 | _=>none
def kF(l:List D):Option D:=(fN l).bind ID
def IE:BC R (λxs H Q=>∃ x n,xs=[x]/\nD R.K x H n/\Q (.int n) H) kF:=by
 intro Z H xs d vs O z r e Q k;refine ob e λx f e=>?_;rw[kP f] at r;let[v,rfl,a]:=r.one_of;cases x with
 | lst o l=>
  cases e;let[p,b,h,rfl,hx,c]:=a.lst_of;exact#v[_,_,rfl,.inl #v[b,hx.sq,rfl],by rw[c.length];exact k (Go.id z) .int_mk]
 | tup l=>
  cases e;let[p,b,rfl,hx,c]:=a.tup_of;exact#v[_,_,rfl,.inr #v[b,hx,rfl],by rw[c.length];exact k (Go.id z) .int_mk]
 | str s=>
  refine oc e λg e=>?_;cases e;let[rfl,_]:=a.str_of;exact#v[_,_,rfl,#v[by rw[wN];exact J1 g,rfl],by rw[wN];exact k (Go.id z) .int_mk]
 | _=>cases e
def wu:List D->Option (List Int)
 | []=>some []
 | d::l=>match d with
  | .int i=>((wu l).bind λr=>some<|i::r)
  | _=>none
def a_.ints:∀{l}{vs}{O}{ns},a_ R Z H l vs O->wu l\ns->vs=ns.map V.int:=by
 intro l
 induction l with
 | nil=>intro vs O ns h e;symm at h;cases e;exact h.1
 | cons d l a=>
  intro vs O ns h e;let[v,vs,g,j,rfl,rfl,b,c]:=h;cases d with
  | int i=>
   refine ob e λr f e=>?_;cases e;rw[a c f,b.int_of.1];rfl
  | _=>cases e
def Y3:List D->Option (List Bool)
 | []=>some []
 | d::l=>match d with
  | .bl i=>((Y3 l).bind λr=>some<|i::r)
  | _=>none
def a_.bools:∀{l}{vs}{O}{ns},a_ R Z H l vs O->Y3 l\ns->vs=ns.map V.bl:=by
 intro l
 induction l with
 | nil=>intro vs O ns h e;symm at h;cases e;exact h.1
 | cons d l a=>
  intro vs O ns h e;let[v,vs,g,j,rfl,rfl,b,c]:=h;cases d with
  | bl i=>
   refine ob e λr f e=>?_;cases e;rw[a c f,b.bl_of.1];rfl
  | _=>cases e
def gu(l:List D):Option D:=(fN l).bind λx=>(gk x).bind λl=>(wu l).bind λns=>some<|.int ns.sum
def IF:BC R (λxs H Q=>∃(p:Addr) (ns:List Int),xs=[.ref p]/\cD R.K H p (ns.map V.int)/\Q (.int ns.sum) H) gu:=by
 intro Z H xs d vs O z r e Q k;refine ob e λx a e=>ob e λl b e=>ob e λns c e=>?_;cases e;let[o,rfl]:=Jf b;rw[kP a] at r;let[v,rfl,f]:=r.one_of;let[p,h,i,rfl,hx,g]:=f.lst_of;have:=g.ints c;subst this;exact#v[p,ns,rfl,hx.sq,k (Go.id z) .int_mk]
def ou(l:List D):Option D:=(fN l).bind λx=>(gk x).bind λl=>(Y3 l).bind λns=>some<|.bl<|ns.any λb=>b
def IG:BC R (λxs H Q=>∃(p:Addr) (bs:List Bool),xs=[.ref p]/\cD R.K H p (bs.map V.bl)/\Q (.bl<|bs.any λb=>b) H) ou:=by
 intro Z H xs d vs O z r e Q k;refine ob e λx a e=>ob e λl c e=>ob e λns f e=>?_;cases e;let[o,rfl]:=Jf c;rw[kP a] at r;let[v,rfl,g]:=r.one_of;let[p,i,j,rfl,hx,h]:=g.lst_of;have:=h.bools f;subst this;exact#v[p,ns,rfl,hx.sq,k (Go.id z) .bl_mk]
def ox(g:Int->Int->Int)(l:List D):Option D:=(two1 l).bind λp=>two (λi j=>some<|.int<|g i j) p.1 p.2
def BD:BC R (λxs H Q=>∃ i j,xs=[.int i,.int j]/\Q (.int<|g i j) H) (ox g):=by
 intro Z H xs d vs O z r e Q k;refine ob e λp a e=>?_;let[i,j,e2,e3,e]:=two_of e;cases e;rw[two1_of a,e2,e3] at r;let[v,u,f,h,rfl,_,b,c]:=r.two_of;let[rfl,_]:=b.int_of;let[rfl,_]:=c.int_of;exact#v[i,j,rfl,k (Go.id z) .int_mk]
abbrev gv:List D->Option D:=ox λi j=>if j>i then j else i
abbrev zN:List D->Option D:=ox λi j=>if j<i then j else i
def IH:D->Option D
 | .lst _ l=>bif frzs l then some (.lst true l) else none
 | .tup l=>bif frzs l then some (.lst true l) else none
 | _=>none
def Q4(l:List D):Option D:=(fN l).bind IH
def J3(l:List D):Option D:=(fN l).bind λx=>(gk x).bind λl=>bif frzs l then some (.tup l) else none
def II:BC R (λxs H Q=>∃ p ys,xs=[.ref p]/\(cD R.K H p ys\/cK R.K H p ys)/\∀ l,H l=none->Q (.ref l) (bU H l<|.lst ys)) Q4:=by
 intro Z H xs d vs O z r e Q k;refine ob e λx i e=>?_;rw[kP i] at r;let[v,rfl,h]:=r.one_of;cases x with
 | lst o l=>
  refine oc e λc e=>?_;cases e;let[p,f,j,rfl,hx,g]:=h.lst_of;exact#v[p,f,rfl,.inl hx.sq,λb a=>k (Go.newO (cZ z) a)<|bS.lstNew (cZ z) a<|g.frozen c]
 | tup l=>
  refine oc e λc e=>?_;cases e;let[p,f,rfl,hx,g]:=h.tup_of;exact#v[p,f,rfl,.inr hx,λb a=>k (Go.newO (cZ z) a)<|bS.lstNew (cZ z) a<|g.frozen c]
 | _=>cases e
def IJ:BC R (λxs H Q=>∃ p ys,xs=[.ref p]/\((cD R.K H p ys/\∀ l,H l=none->Q (.ref l) (bU H l<|.tup ys))\/(cK R.K H p ys/\Q (.ref p) H))) J3:=by
 intro Z H xs d vs O z r e Q k;refine ob e λx c e=>ob e λl f e=>oc e λg e=>?_;cases e;let[o,rfl]:=Jf f;rw[kP c] at r;let[v,rfl,h]:=r.one_of;let[p,i,m,rfl,hx,j]:=h.lst_of;exact#v[p,i,rfl,.inl #v[hx.sq,λb a=>k (Go.newF (cZ z) a)<|bS.tupNew (cZ z) a<|j.frozen g]]
def jO:Nat->List D->List D
 | _,[]=>[]
 | k,x::l=>.tup [.int k,x]::jO (k+1) l
def zT{k x l}:jO k (x::l)=.tup [.int k,x]::jO (k+1) l:=rfl
def su{k}:jO k []=[]:=rfl
theorem yt:∀ k l,-(jO k l)=-l
 | _,[]=>rfl
 | k,x::l=>by rw[zT,M1,M1,yt]
theorem kg:∀ k l i (y:D),(jO k l)[i]?\y->∃ x,l[i]?\x/\y=.tup [.int ((k+i:Nat):Int),x]
 | _,[],_,_,e=>by simp[zT,su] at e
 | k,x::l,0,y,e=>by simp[zT,su] at e;exact#v[x,rfl,e.symm]
 | k,x::l,i+1,y,e=>by
  let[z,a,e2]:=kg (k+1) l i y (by simpa [zT,su] using e);exact#v[z,by simpa using a,by rw[e2];congr 3;lia]
def VX(l:List D):Option (List D):=(fN l).bind λx=>(gk x).bind λl=>some<|jO 0<|bV l
@[simp] def Jk(p:cR)(s:Rh):Option (List D):=(p s).bind VX
def BE(k:FL R Z H a ws)(rs:a_ R Z H l ws [])(hn:-L=-l)(m:∀(i:Nat) y,L[i]?\y->∃ x,l[i]?\x/\y=.tup [.int<|n+i,x]):k7 R (nX R.K a n) Z H L:=by
 intro v z d e zd i;have b:=(k.frame d e).sq;have f:=rs.frame d e λa o=>(nomatch o);refine#v[λhi=>#v[ws,b,by rw[f.length,<- hn];exact hi],λx hx=>?_];let[y,p,rfl]:=m i x hx;let[u,g,r]:=f.item p;refine#v[#v[ws,u,b,g],λw A c=>?_];let[q,t,s,rfl,h,rfl]:=c;have j:=s ws b;rw[g] at j;cases j;exact#v[_,Go.newF (cZ zd) h,(bS.tupNew (cZ zd) h<|.cons .int_mk<|.cons r .empty)]
def BF(h:dU n i\j):j<n:=(uR h).2.1
@[simp] def sw(pm:List Nat)(i:Nat)(pi:PF)(d:D)(s:Rh):Option Rh:=(pi s).bind λk=>(kn k).bind λk=>(pV i s).bind λx=>(uF x).bind λl=>(dU l.length k).bind λj=>some<|s.set i<|some<|.lst true<|l.set j d
def BG(rs:a_ R Z H l vs O)(a:j< -l)(rd:bS R Z H d u P):∃ O2,a_ R Z H (l.set j d) (vs.set j u) O2/\∀ q,O2.count q<=O.count q+P.count q:=by
 let[b,c,e,f,g,rfl,h,put]:=rs.at (show l[j]?=some l[j] by simp[a]);exact#v[_,put rd (λ_ z=>z) (λ_ _=>rfl) (λ_ _=>rfl)<|λ_ _=>rfl,λq=>by simp only[U7];lia]
def IK(h:PB R te pi):DG R pm (zB (vw i) te nQ) (sw pm i pi):=by
 intro U W D Z H O P d v w r s e Q k;refine ob e λx f e=>ob e λn e3 e=>ob e λy g e=>ob e λl m e=>ob e λj e2 e=>?_;cases e;cases jZ e3;cases Vl m;refine JE J4 w s g rfl Y8 λa _ vs E c _ o p put=>p<|h w.zd s f λ{u F G I} b t=>?_;let[rfl,_]:=t.int_of;let[J,z,A]:=BG (b.reps w.zd c) (BF e2)<|b.rep w.zd r;let[K,B,C]:=put Y8 trivial b z λq=>by have:=A q;simp;lia
 exact#v[a,vs,n,j,rfl,rfl,b.at0 o,by rw[c.length];exact e2,k B C<|cf.refl _ _]
@[simp] def oy(i:Nat)(pi:PF)(g:Int->Int->Int)(pe:PF)(s:Rh):Option cq:=(pi s).bind λk=>(kn k).bind λk=>(pV i s).bind λx=>(uF x).bind λl=>(dU l.length k).bind λj=>(l[j]?).bind λy=>(kn y).bind λa=>(pe s).bind λz=>(kn z).bind λb=>some<|.nx<|s.set i<|some<|.lst true<|l.set j<|.int<|g a b
end QD
namespace QD
open PySem L2 PySem.Spec PyProof.Rows
section
variable (c:Nat->Addr)(pm:List Nat)(X:Cx)
structure QP(e:Expr)(te:TE)(p:PF):Prop where
 sem:PE X e te
 den:PP #v[X.K,c] te p
structure QB(e:Expr)(te:TE)(p:PF):Prop where
 sem:PE X e te
 den:PB #v[X.K,c] te p
structure fO(es:List Expr)(ta:TA)(p:cR):Prop where
 sem:PA X es ta
 den:gS #v[X.K,c] ta p
structure eD(es:List Expr)(ta:TA)(p:cR):Prop where
 sem:PA X es ta
 den:mw #v[X.K,c] ta p
 n:∀ s ds,p s\ds->-ds=-es
structure QT(e:Expr)(tt:TT)(q:d_):Prop where
 sem:PT X e tt
 den:gU #v[X.K,c] tt q
structure QW(e:Expr)(tt:TT)(q:d_):Prop where
 sem:PW X e tt
 den:gU #v[X.K,c] tt q
structure QI(tg e:Expr)(wi:TI)(p:cR):Prop where
 sem:PI X tg e wi
 den:iC #v[X.K,c] wi p
structure QG(tg:Expr)(t:TG)(g:D->Rh->Option Rh):Prop where
 sem:PG X tg t
 den:iW #v[X.K,c] pm t g
structure lh(tg:List Expr)(t:iO)(g:List D->Rh->Option Rh):Prop where
 sem:Fs X tg t
 den:sk #v[X.K,c] pm t g
structure QE(e:Expr)(te:TE)(f:FE):Prop where
 sem:PE X e te
 den:DE #v[X.K,c] te f
structure QS(st:Stmt)(ts:TS)(f:FS):Prop where
 sem:PS X st ts
 den:DS #v[X.K,c] pm ts f
structure fP(st:List Stmt)(ts:TS)(f:FS):Prop where
 sem:fW X st ts
 den:DS #v[X.K,c] pm ts f
structure QO(e:Option Expr)(t:TO)(p:OF):Prop where
 sem:PO X e t
 den:sr #v[X.K,c] t p
structure li(ifs:List Expr)(tc:TT)(q:d_):Prop where
 sem:nU X ifs tc
 den:gU #v[X.K,c] tc q
end
section
variable {cl:Nat->Addr}{pm:List Nat}{X:Cx}{a b c e o:Expr}{es:List Expr}{ta tb tc te:TE}{pa pb pc pe:PF}{tA tB:TT}{qa qb:d_}{tr:TA}{pr:cR}{pos:Pos}
def QP.bb(h:QP cl X e te pe):QB cl X e te pe:=#v[h.sem,PP.b h.den]
def QB.f(h:QB cl X e te pe):QP cl X e te (pF pe):=#v[h.sem,PB.f h.den]
def QP.d(h:QP cl X e te pe):QE cl X e te (dP pe):=#v[h.sem,PP.d h.den]
def IL(i){x}(b:X.N[i]?\x:=by rfl)(c:l8 X.env.scope x:=by first | exact Or.inl rfl | exact Or.inr (Or.inl rfl) | exact Or.inr<|Or.inr rfl)(hd:Nd x:=by decide)
  (a:(x==("__classdict__" : Str))=false:=by decide):QB cl X (.Name x pos) (vw i) (pV i):=#v[y_ b c hd a,Ia]
def IM(i){x}(b:X.N[i]?\x:=by rfl)(c:l8 X.env.scope x:=by first | exact Or.inl rfl | exact Or.inr (Or.inl rfl) | exact Or.inr<|Or.inr rfl)(hd:Nd x:=by decide)
  (a:(x==("__classdict__" : Str))=false:=by decide):QE cl X (.Name x pos) (vw i) (d9 i):=#v[y_ b c hd a,Bj]
def BH{i}{j}:QP cl X (.Constant (.int i) j pos) (tC<|.int i) (pI i):=#v[zk,oe λ_ _=>.int_mk]
def IN{i}{j}:QP cl X (.Constant (.bool i) j pos) (tC<|.bl i) (pC<|.bl i):=#v[(λ_ _ _ H _ I h=>Constant_bool #v[.bl i,H,I,rfl,h]),oe λ_ _=>.bl_mk]
def IP{j}:QP cl X (.Constant .none j pos) (tC .non) (pC .non):=#v[(λ_ _ _ H _ I h=>Constant_none #v[.non,H,I,rfl,h]),oe λ_ _=>.non_mk]
def BI(c:QB cl X a ta pa)(d:QB cl X b tb pb):QP cl X (.BinOp a .Add b pos) (de (ol X.K) ta tb) (p2 jr pa pb):=#v[ke Io c.sem d.sem,xU Ip c.den d.den]
def IQ(c:QB cl X a ta pa)(d:QB cl X b tb pb):QP cl X (.BinOp a .Sub b pos) (de (ff λi j=>.int<|i-j) ta tb) (p2 Ku pa pb):=#v[ke FJ c.sem d.sem,xU Iq c.den d.den]
def IR(c:QB cl X a ta pa)(d:QB cl X b tb pb):QP cl X (.BinOp a .Mult b pos) (de sn ta tb) (p2 yA pa pb):=#v[ke Ir c.sem d.sem,xU Is c.den d.den]
def IS(c:QB cl X a ta pa)(d:QB cl X b tb pb):QP cl X (.BinOp a .FloorDiv b pos) (de (rI (λ_ j=>mz j=true) λi j=>.int<|i/j) ta tb) (p2 jw pa pb):=#v[ke Iu c.sem d.sem,xU Iv c.den d.den]
def IT(c:QB cl X a ta pa)(d:QB cl X b tb pb):QP cl X (.BinOp a .Mod b pos) (de (rI (λ_ j=>0<j) λi j=>.int<|i%j) ta tb) (p2 jk pa pb):=#v[ke FK c.sem d.sem,xU Iw c.den d.den]
def IU(c:QB cl X a ta pa)(d:QB cl X b tb pb):QP cl X (.BinOp a .Pow b pos) (de (rI qi λi j=>.int<|i ^ j.toNat) ta tb) (p2 xQ pa pb):=#v[ke FM c.sem d.sem,xU Ix c.den d.den]
def IV(f:QB cl X a ta pa):QP cl X (.UnaryOp .USub a pos) (FH (rU λi=>.int<|Neg.neg i) ta) (p1 ur pa):=#v[(by
  intro b s u H Q I h;exact UnaryOp_<|thn (f.sem b s u H _ I h) λv s1 ⟨x,g,l,c,m⟩=>FP b s1 u g x v Q l c m),(by
    intro u w Z H O d z s e Q k;exact ob e λx n e=>(f.den z s n λ{v q g r} j c=>Iy j.wf.zd c e λo p=>k ⇑(j.pair o) p))]
def IW(i:QB cl X a ta pa):QP cl X (.UnaryOp .Not a pos) (Fm ta) (Bo pa):=#v[(by
  intro b s u H Q I h;refine UnaryOp_<|thn (i.sem b s u H _ I h) λv s1 l=>?_;let[x,j,m,f,g]:=l;let[c,rfl,g]:=g;cases f;exact not_of<|wpAny_truthy_bool #v[.bl<|!c,j,m,rfl,g]),(by
    intro u w Z H O d z s e Q k;refine ob e λx n e=>ob e λc e2 e=>?_;cases rR e2;cases e;refine i.den z s n λ{v p j q} o f=>?_;let[rfl,rfl]:=f.bl_of;exact#v[c,rfl,k o .bl_mk])]
structure dJ(cl:Nat->Addr)(X:Cx)(op:CmpOp)(b:Expr)(r:R2)(g:D->D->Option D):Prop where
 o:dB X (compareOp op) r
 g:BO #v[X.K,cl] r g
 m:behindInMarks op b=false
def IX:dJ cl X .Lt b (ff λi j=>.bl<|decide<|i<j) gV:=#v[(qc λ_ _ _ _ _ _ _ q=>lt_int q),so,nB _]
def IY:dJ cl X .Gt b (ff λi j=>.bl<|decide<|j<i) Yz:=#v[(qc λ_ _ _ _ _ _ _ q=>gt_int q),so,nB _]
def IZ:dJ cl X .GtE b (ff λi j=>.bl<|decide<|j<=i) om:=#v[(qc λ_ _ _ _ _ _ _ q=>ge_int q),so,nB _]
def I0(a:behindInMarks .In b=false):dJ cl X .In b (oq X.K false) (Vh false):=#v[Gk,BA,a]
def dG(a:behindInMarks .NotIn b=false):dJ cl X .NotIn b (oq X.K true) (Vh true):=#v[ww,BA,a]
def I'{c}{r}{g}(h:dJ cl X c b r g)(d:QB cl X a ta pa)(e:QB cl X b tb pb):QP cl X (.Compare a [c] [b] pos) (de r ta tb) (p2 g pa pb):=#v[FR h.o d.sem e.sem h.m,xU h.g d.den e.den]
def I_{c}{r}{g}(h:dJ cl X c b r g)(d:QB cl X a ta pa)(e:QB cl X b tb pb):QT cl X (.Compare a [c] [b] pos) (kf<|de r ta tb) (ji<|p2 g pa pb):=#v[FU h.o d.sem e.sem h.m,Bm<|PP.b<|xU h.g d.den e.den]
def J'(c:QB cl X a ta pa)(e:∀ whole,isTrue a X.env whole=(do let v <- whole;standAt a.pos;holding [v] (truthy v)):=by intro _;rfl):QT cl X a (L2.tB ta) (ji pa):=#v[(by
  intro b s u H Q I f;refine isTrue_plain (thn (c.sem b s u H _ I f) λv s1 ⟨x,g,h,i,j⟩=>?_)<|e _;let[d,rfl,q]:=j;cases i;exact wpAny_truthy_bool #v[g,h,q]),Bm c.den]
def J_(d:QT cl X a tA qa):QW cl X (.BoolOp .And [a] pos) tA qa:=#v[(by
  intro f b s u H Q I h;refine isTrue_and<|thn (d.sem b s u H Q I h) λc s1 e=>?_;cases c with
  | true=>exact isTrue_and_nil e
  | false=>exact e),d.den]
def K'(d:QT cl X a tA qa):QW cl X (.BoolOp .Or [a] pos) tA qa:=#v[(by
  intro f b s u H Q I h;refine isTrue_or<|thn (d.sem b s u H Q I h) λc s1 e=>?_;cases c with
  | false=>exact isTrue_or_nil e
  | true=>exact e),d.den]
def K_(i:QT cl X a tA qa)(j:QW cl X (.BoolOp .And (b::es) pos) tB qb):QW cl X (.BoolOp .And (a::b::es) pos) (Fi tA tB) (zI qa qb):=#v[(by
  intro n d s u H Q I h;refine isTrue_and<|thn (i.sem d s u H _ I h) λc s1 ⟨g,l,m⟩=>?_;cases c with
  | true=>exact j.sem n d s1 u g Q l m
  | false=>exact#v[g,l,m]),(by
    intro u w Z H O b z s e Q k;refine ob e λc o e=>(i.den z s o λ{q g} f=>?_);cases c with
    | true=>exact iy<|j.den f.wf.zd (f.slots z s) e λp=>k<|f.pair p
    | false=>cases e;exact iu<|k f)]
def La(i:QT cl X a tA qa)(j:QW cl X (.BoolOp .Or (b::es) pos) tB qb):QW cl X (.BoolOp .Or (a::b::es) pos) (Fj tA tB) (sj qa qb):=#v[(by
  intro n d s u H Q I h;refine isTrue_or<|thn (i.sem d s u H _ I h) λc s1 ⟨g,l,m⟩=>?_;cases c with
  | true=>exact#v[g,l,m]
  | false=>exact j.sem n d s1 u g Q l m),(by
    intro u w Z H O b z s e Q k;refine ob e λc o e=>(i.den z s o λ{q g} f=>?_);cases c with
    | true=>cases e;exact iy<|k f
    | false=>exact iu<|j.den f.wf.zd (f.slots z s) e λp=>k<|f.pair p)]
def QW.t(h:QW cl X a tA qa):QT cl X a tA qa:=#v[PW.pt h.sem,h.den]
def Lb{c}(h:QP cl X a ta pa):QP cl X (.BoolOp c [a] pos) ta pa:=#v[(λb s u H Q I d=>BoolOp_one<|h.sem b s u H Q I d),h.den]
def Lc(m:QB cl X a ta pa)(n:QP cl X (.BoolOp .And (b::es) pos) tb pb):QP cl X (.BoolOp .And (a::b::es) pos) (Fk ta tb) (gm pa pb):=#v[(by
  intro f s y H Q I h;refine BoolOp_and<|thn (m.sem f s y H _ I h) λv s1 p=>?_;let[x,j,o,l,g]:=p;let[c,rfl,g]:=g;cases l;refine wpAny_truthy_bool ?_;cases c with
  | true=>exact n.sem f s1 y j Q o g
  | false=>exact#v[.bl false,j,o,rfl,g]),(by
    intro y U Z H O d z s e Q k;refine ob e λx q e=>ob e λc e2 e=>?_;cases rR e2;refine m.den z s q λ{v u j w} i l=>?_;let[rfl,rfl]:=l.bl_of;refine#v[c,rfl,?_];cases c with
    | true=>exact iy<|n.den i.wf.zd (i.slots z s) e λr t=>k ⇑(i.pair r) t
    | false=>cases e;exact iu<|k i .bl_mk)]
def Ld(m:QT cl X c tA qa)(n:QP cl X a ta pa)(o:QP cl X b tb pb):QP cl X (.IfExp c a b pos) (Fo tA ta tb) (fq qa pa pb):=#v[(by
  intro f s u H Q I h;refine wpAny_IfExp<|thn (m.sem f s u H _ I h) λd s1 ⟨i,p,q⟩=>?_;cases d with
  | true=>exact n.sem f s1 u i Q p q
  | false=>exact o.sem f s1 u i Q p q),(by
    intro u w Z H O d z s e Q k;refine ob e λc r e=>(m.den z s r λ{t i} g=>?_);cases c with
    | true=>exact iy<|n.den g.wf.zd (g.slots z s) e λj l=>k ⇑(g.pair j) l
    | false=>exact iu<|o.den g.wf.zd (g.slots z s) e λj l=>k ⇑(g.pair j) l)]
def Le:fO cl X [] Qp pN:=#v[Ji,fk]
def Lf(a:QP cl X e te pe)(b:fO cl X es tr pr)(c:dS X e es:=by rfl):fO cl X (e::es) (ve te tr) (ja pe pr):=#v[yy a.sem b.sem c,Ic a.den b.den]
def Lg:eD cl X [] Qp pN:=#v[Ji,Bl,λs a e=>by cases e;rfl]
def Lh(c:QB cl X e te pe)(b:eD cl X es tr pr)(j:dS X e es:=by rfl):eD cl X (e::es) (ve te tr) (ja pe pr):=
 ⟨yy c.sem b.sem j,(by
   intro U W Z H O d z s e Q k;refine ob e λx f e=>ob e λg e2 e=>?_;cases e;exact c.den z s f λ{v o p q} a l=>(b.den a.wf.zd (a.slots z s) e2 λ{u r t w} i m=>(k (a.pair i)<|.cons (i.rep a.wf.zd l) m))),λW y h=>by
  refine ob h λx f h=>ob h λg e2 h=>?_;cases h;rw[M1,M1,b.n W g e2]⟩
def Li{x1}(h:fO cl X es tr pr):QP cl X (.Tuple es x1 pos) (gf tr) (yk pr):=#v[Y9 h.sem,(by
  intro u w Z H O d z s e Q k;refine ob e λi f e=>oc e λg e=>?_;cases e;exact h.den z s f λ{v j l m} a b=>#v[by rw[b.length];exact J1 g,λp c=>k (a.trans<|Go.newF a.wf c)<|bS.tupNew a.wf c b])]
def Lj(h:fO cl X es tr pr):QP cl X (.List es pos) (F7 tr) (vF pr):=#v[(by
  intro a s y H Q I m;refine wpAny_List_spliced<|thn (h.sem pos a s y H _ I m) λn s1 ⟨f,g,i,r,z,q⟩=>#v[by rw[<- r.length];exact z,?_];refine#v[.ref ↥s1,bU g ↥s1 (.lst f),i.laid (λb u e=>L8 _ e) (M8 _) ?_,rfl,q _<|i.hok.fresh<|M8 _];exact#v[z,n,0,r,X7 _ rfl]),(by
    intro y U Z H O d z s e Q k;refine ob e λf o e=>oc e λt e=>?_;cases e;exact h.den z s o λ{v w g x} c j=>#v[by rw[j.length];exact J1 t,λp l=>k (c.trans<|Go.newO c.wf l)<|bS.lstNew c.wf l j])]
def BJ(g:QB cl X a ta pa)(h:QB cl X b tb pb)(i:VH b:=by exact λ_ _=>rfl):QB cl X (.Subscript a b pos) (de (fg X.K) ta tb) (p2 jd pa pb):=#v[q7 q_ g.sem h.sem i,(by
  intro w U Z H O d z s e Q k;exact ob e λx j e=>ob e λy e2 e=>(g.den z s j λ{v n o p} c l=>(h.den c.wf.zd (c.slots z s) e2 λ{u q r t} f m=>(IA f.wf.zd (f.rep c.wf.zd l) m e<|k<|c.pair f))))]
def Ll:QO cl X none Gb oN:=#v[(by
  intro a s u H Q I h;exact M6 #v[none,H,I,.none,h]),(by
    intro u w Z H O i z s e Q k;cases e;exact k<|Go.id z)]
def Lm(h:QB cl X e te pe):QO cl X (some e) (Gc te) (oS pe):=#v[(by
  intro a s w H Q I d;refine thn (h.sem a s w H _ I d) λu s1 f=>?_;let[x,c,g,b,l]:=f;let[i,rfl,q]:=l;let[t,rfl]:=b;exact#v[some i,c,g,.int i t,q]),(by
    intro w y Z H O i z s e Q k;refine ob e λx m e=>ob e λj e2 e=>?_;cases e;cases jZ e2;refine h.den z s m λ{v o c p} n b=>?_;let[rfl,_]:=b.int_of;exact#v[j,rfl,k n])]
def Lo{lo hi}{tl th}{pl j}{f}(k:QB cl X a ta pa)(m:QO cl X lo tl pl)(d:QO cl X hi th j):QP cl X (.Subscript a (.Slice lo hi none f) pos) (Al (ss X.K) ta tl th) (eP pa pl j):=
 ⟨(by
   intro c s U H Q I h;refine Subscript_<|thn (k.sem c s U H _ I h) λv s1 d=>?_;let[x,o,p,r,t]:=d;refine wpAny_Slice<|thn (m.sem c s1 U o _ p t) λg w ⟨l,y,z,pl,A⟩=>thn (d.sem c w U y _ z A) λi e d=>?_;let[u,n,B,C,D]:=d;refine M6 ?_;have E:bP X c U n { e with heap:=e.heap.push {cls:=.type "slice",data:=.fields #[g,i,.none]} }:=B.kept λb ob q=>L8 _ q;let[T,id,F,G,J]:=IB c { e with heap:=e.heap.push {cls:=.type "slice",data:=.fields #[g,i,.none]} } U n x v g i l u ↥e Q E r (Heap.IsSliceOf.new ..) pl C D;exact tail_any G F J<|by with_unfolding_all rfl),IC k.den m.den d.den⟩
def lj(P:Program)(w:World)(K:W4)(mg:W6)(x:Str)(st:Stmt)(k:Nat)(ps:List Str)(sp:Sp):Prop:=∃ f fd,d4 K mg x x st f fd ps/\∀ base,cL P w K mg base eN k f fd ps sp
def BL{k n}{ps}{m}{x}{st}{p}(O:lj X.prog X.w X.K X.mg x st k ps<|dX #v[X.K,cl] m n)(l:ca k X.A)
  (a:eD cl X (e::es) tr pr) (hn:-(e::es)=n:=by rfl) (o:Gl X x:=by rfl) (b:Nd x:=by decide)
  (q:dS X e es:=by rfl) (f:eh X pos es:=by rfl):QP cl X (.Call (.Name x p) (e::es) [] pos) (nI (dX #v[X.K,cl] m n) [] E0 tr) (jC m pr):=by
 let[_,_,F,G]:=O;exact#v[AG F (G _) l a.sem o b q f,(by
   intro y U Z H O d z s e Q k;refine ob e λg i e=>ob e λc e2 e=>oc e λr e=>?_;cases e;exact a.den z s i λj t=>Bt j.wf.zd t ((λU g h=>(a.n U g h).trans hn) U g i) e2 r λu v=>k ⇑(j.pair u) v)]
def YZ{x}{p}{id}{r}{g}(d:JX X (.builtin id) r)(f:BC #v[X.K,cl] r g)(h:X.mg x=none)(i:bootBuiltins x\(.builtin id))(c:eD cl X (e::es) tr pr)(j:Gl X x:=by rfl)
  (hn:x≠"__name__":=by decide) (a:Nd x:=by decide) (k:dS X e es:=by rfl) (b:eh X pos es:=by rfl):
  QP cl X (.Call (.Name x p) (e::es) [] pos) (gh r tr) (bW g pr):=#v[Ak d j h i c.sem hn a k b,og f c.den]
def zD{x}{p}{T}{r}{g}(d:JX X (.type T) r)(f:BC #v[X.K,cl] r g)(h:X.mg x=none)(i:bootBuiltins x\(.type T))(c:eD cl X (e::es) tr pr)(j:Gl X x:=by rfl)
  (hn:x≠"__name__":=by decide) (a:Nd x:=by decide) (k:dS X e es:=by rfl) (b:eh X pos es:=by rfl):
  QP cl X (.Call (.Name x p) (e::es) [] pos) (gh r tr) (bW g pr):=#v[wT d j h i c.sem hn a k b,og f c.den]
def BN(b:X.mg "len" = none){p}(c:eD cl X [e] tr pr)(d:Gl X "len":=by rfl)(f:starEach [e] X.env=(false,eval e X.env)::starEach [] X.env:=by rfl)(a:(backTo pos<|starEach [] X.env).any (·.1)=false:=by rfl):
  QP cl X (.Call (.Name "len" p) [e] [] pos) (gh (λxs H Q=>∃ x n,xs=[x]/\nD X.K x H n/\Q (.int n) H) tr) (bW kF pr):=YZ FY IE b PySem.boot_len c d (by decide) (by decide) f a
def Lp:bootBuiltins "sum" = some (.builtin "sum"):=by decide +kernel
def Lq:bootBuiltins "any" = some (.builtin "any"):=by decide +kernel
def Lr:bootBuiltins "max" = some (.builtin "max"):=by decide +kernel
def Ls:bootBuiltins "min" = some (.builtin "min"):=by decide +kernel
def Qq:bootBuiltins "list" = some (.type "list"):=by decide +kernel
def uv:bootBuiltins "tuple" = some (.type "tuple"):=by decide +kernel
def K5:bootBuiltins "dict" = some (.type "dict"):=by decide +kernel
variable {tg iter elt:Expr}{ifs:List Expr}{wi:TI}{pi:cR}{t:TG}{g:D->Rh->Option Rh}
def Lu(h:QP cl X e te pe):QI cl X tg e (mx X.K te) (fw pe):=#v[Bp h.sem,Ie h.den]
def Lw{p}(c:X.mg "range" = none)(h:eD cl X [a] tr pr)(d:Gl X "range":=by rfl)(b:starEach [a] X.env=[(false,eval a X.env)]:=by rfl):QI cl X tg (.Call (.Name "range" p) [a] [] pos) (z_ tr) (ud pr):=#v[FC d c h.sem b,(by
  intro w y Z H O n z s e Q k;refine ob e λl f e=>ob e λx e2 e=>ob e λj e3 e=>oc e λb e=>?_;cases e;cases kP e2;cases jZ e3;refine h.den z s f λ{v o q r} g i=>?_;let[u,rfl,m]:=i.one_of;let[rfl,_]:=m.int_of;exact#v[j,rfl,(Ke b).1,(Ke b).2,k g Ig])]
def Lx{elts}{n}{tpos p}(c:X.mg "enumerate" = none)(h:fO cl X [a] tr pr)(d:Gl X "enumerate":=by rfl)(f:starEach [a] X.env=[(false,eval a X.env)]:=by rfl):QI cl X (.Tuple elts n tpos) (.Call (.Name "enumerate" p) [a] [] pos) (AI X.K tr) (Jk pr):=#v[GL d c h.sem f,(by
  intro U W Z H O w z s e Q k;refine ob e λx g e=>ob e λy e2 e=>ob e λl e3 e=>?_;cases e;let[o,rfl]:=Jf e3;cases kP e2;refine h.den z s g λ{vs i A j} m q=>?_;let[v,rfl,r]:=q.one_of;let[a,t,B,rfl,u,b,rfl,_]:=(r.freeze (Z':=λa=>i a\/a∈j) (λa z=>.inl z) λa z=>.inr z);exact#v[a,t,rfl,FL.sq b,k m.fz<|BE b u (yt _ _) ⇑(kg 0 _)])]
def Ly{i}{x}(b:X.N.Nodup)(hi:X.N[i]?\x:=by rfl)(hx:ga X.env.scope x:=by first | exact Or.inl rfl | exact Or.inr rfl)(c:X.fn x=true\/X.env.scope.names.lookup x\.local:=by first | exact .inl rfl | exact .inr rfl):
  QG cl pm X (.Name x pos) (Jl i) (jc pm i):=#v[(by
    intro a s w H v u Q I r h;exact wpAny_assign_Name<|Vs I b hi hx r (λe d=>#v[_,H,d,h]) c),Ih]
def Lz:lh cl pm X [] ka gN:=#v[(by
  intro a s u H vs b Q I r h;let[e,h]:=h;subst e;cases r;exact assignInOrder_nil #v[u,H,I,h]),Ii]
def LA{ts}{i}(h1:QG cl pm X e t g)(h2:lh cl pm X es ts i)(l:(assignEach (e::es) X.env).map (·.2)=assign e X.env::(assignEach es X.env).map (·.2):=by rfl):lh cl pm X (e::es) (zi t ts) (gC g i):=#v[(by
  intro b s U H vs E Q I r h;let[v,F,c,h]:=h;subst c;cases r with
  | cons r m=>
   rw[l];refine assignInOrder_cons<|thn (h1.sem b s U H _ _ _ I r h) λ_ s1 n=>?_;let[o,p,u,w]:=n;exact h2.sem b s1 o p _ _ Q u m w),(by
     intro U W G Z H O j vs r h e Q k;cases j with
     | nil=>cases e
     | cons d j=>
      refine ob e λJ c e=>?_;let[v,f,K,L,rfl,e3,x,y]:=r;let[rfl,rfl]:=List.append_eq_nil_iff.mp e3.symm;exact#v[v,f,rfl,h1.den x h c λs1 z h1 A=>h2.den y h1 e λB C h2 D=>k (λa q=>s1 a<|B a q) (λq=>C<|z q) h2<|A.trans D])]
def BP{ts}{g}{k n}(j:X.calm=true)(h:lh cl pm X es ts g)(hn:-(assignEach es X.env)=n:=by rfl)(d:(assignEach es X.env).findIdx? (·.1)=none:=by rfl):QG cl pm X (.Tuple es k pos) (iP X.K n ts) (gT n g):=#v[(by
  intro c s U H v u Q I r f;let[a,l,m,p,q,f]:=f;subst m;cases r;let[t,i,w,z]:=I.tuple p;refine assign_Tuple_tuple (I.ok.hd j) w (by simp[hn,<- q,i.length]) d λx hx=>?_;have y:bP X c U H {s with heap:=x}:=I.kept λb o e=>hx b o (N5<|N0 e) e;exact h.sem c _ U H l _ Q y ⇑i f),Ij h.den]
def LB:li cl X [] (λ_ H Q=>Q true H) qT:=#v[.inl #v[rfl,rfl],(by
  intro u w Z H O b z s e Q k;cases e;exact k<|Go.id z)]
def LC(h:QT cl X c tA qa):li cl X [c] tA qa:=#v[.inr #v[c,rfl,h.sem],h.den]
variable {st:Stmt}{rest:List Stmt}{ts tu:TS}{f fe:FS}{fE:FE}
def LD:fP cl pm X [] Fq j9:=#v[(λ_ _ s H _ I h=>wpAny_execs_nil #v[s,H,I,h]),(by
  intro s u Z H O o w h e a k;cases e;exact k (Go.refl w) h<|cf.refl _ _)]
def LF(h:QS cl pm X st ts f):fP cl pm X [st] ts f:=#v[zp h.sem,h.den]
def LH(h:QS cl pm X st ts f)(k:fP cl pm X rest tu fe):fP cl pm X (st::rest) (l9 ts tu) (jg f fe):=#v[zo h.sem k.sem,HZ h.den k.den]
def LI(h:QE cl X e te fE)(a:swapsWith e none pos.line X.env=pure false:=by rfl):QS cl pm X (.Expr e pos) (V7 te) (KF fE):=#v[VO h.sem a,H9 h.den]
def LJ(h:QE cl X e te fE):QS cl pm X (.Return (some e) pos) (pY te) (yM fE):=#v[Fr h.sem,H_ h.den]
def LK{x y}(b:QT cl X c tA qa)(g:fP cl pm X x ts f)(i:fP cl pm X y tu fe):QS cl pm X (.If c x y pos) (nu tA ts tu) (cp (cm qa) f fe):=#v[zv b.sem g.sem i.sem,(by
  intro s u Z H O o w h e l k;refine ob e λp j e=>?_;let[c,m]:=p;refine(gU.d b.den) w h j λ{n q r} a s1=>?_;cases c with
  | true=>exact iy<|g.den a.wf s1 e<|k.pre a<|cf.refl _ _
  | false=>exact iu<|i.den a.wf s1 e<|k.pre a<|cf.refl _ _)]
def LM{i}{x}{pos'}(a:X.N.Nodup)(h:QE cl X e te fE)(hi:X.N[i]?\x:=by rfl)(hx:ga X.env.scope x:=by first | exact Or.inl rfl | exact Or.inr rfl)(b:swapsWith e (some<|.Name x pos') pos.line X.env=pure false:=by rfl)
  (c:X.fn x=true\/X.env.scope.names.lookup x\.local:=by first | exact .inl rfl | exact .inr rfl):QS cl pm X (.Assign [.Name x pos'] e pos) (gc te<|Jl i) (jA fE<|jc pm i):=#v[zL a hi hx h.sem b c,xK h.den Q8]
def LO{tg}{g}{R}(h:iW R pm tg g):DG R pm tg (λd x=>bif frz d then g d x else none):=by
 intro u x c Z H O P d v w r s e Q k;refine oc e λa e=>?_;cases r.nil a;exact h r s e λsub nd b kp=>k ((Go.refl w).drop sub (nd w.nd)) b kp
@[simp] def sx(fe:FE)(G:D->Rh->Option Rh)(s:Rh):Option cq:=(fe s).bind λx=>(bif frz x.1 then G x.1 x.2 else none).bind λr=>some<|.nx r
def LP{a}(h:QE cl X e te fE)(b:QG cl pm X a t g)(c:swapsWithSole [a] e pos.line X.env=pure false:=by rfl)(d:swappedStores [a] e X.env=pure none:=by rfl)
  (h1:(assignEach [a] X.env).map (·.2)=[assign a X.env]:=by rfl):QS cl pm X (.Assign [a] e pos) (gc te t) (sx fE g):=#v[zF h.sem b.sem c d h1,xK h.den<|LO b.den]
def LQ{i}{x}{a c}(g:QB cl X (.Name x a) (vw i)<|pV i)(hi:QB cl X b tb pb)(h:QE cl X e te fE)
  (D:∀ v,assign (.Subscript (.Name x a) b c) X.env v=(do
   let ov <- holding [v] (eval (.Name x a) X.env)
   let iv <- holding [v,ov] (eval b X.env)
   standAt c
   holding [v,ov,iv] (setItem ov iv v)
   release [v,ov,iv] []):=by intro _;rfl)
  (j:swapsWithSole [.Subscript (.Name x a) b c] e pos.line X.env=pure false:=by rfl) (k:swappedStores [.Subscript (.Name x a) b c] e X.env=pure none:=by rfl)
  (h1:(assignEach [.Subscript (.Name x a) b c] X.env).map (·.2)=[assign (.Subscript (.Name x a) b c) X.env]:=by rfl):
  QS cl pm X (.Assign [.Subscript (.Name x a) b c] e pos) (gc te<|zB (vw i) tb nQ) (jA fE<|sw pm i pb):=#v[zF h.sem ((by
    intro d s U H v u Q I r h;refine L3<|wpAny_holding<|thn (g.sem d s U H _ I h) λov s1 f=>?_;let[x,l,m,n,o]:=f;refine L3<|wpAny_holding<|thn (hi.sem d s1 U l _ m o) λiv p f=>?_;let[y,q,t,w,z]:=f;exact L3<|wpAny_standAt<|L3<|wpAny_holding<|thn (An d p U q x y v ov iv u _ t n w r z) λ_ E ⟨A,B,C⟩=>(wpAny_release #v[U,A,B,C]))) j k h1,xK h.den<|IK hi.den]
def LR:z3 X (nJ X.K):=by
 intro a s U H o i C D Q I m n h;let[p,E,k,z,rfl,rfl,u,v,q]:=h;cases m;let[t,rfl]:=n;let[d,r,pl,F]:=I.list u;let[j,c,x,G,y,A]:=zt v;let[w,g,e]:=r.get x;have B:=-r;have J:=wV;have b:EP X a U Q w s:=#v[z,H,I,e,q];by_cases l:0<=k
 ·have f:k.toNat=j:=by
   rw[seqIndex_of l A] at c;exact X3 c
  exact wpAny_getItem_list pl.isList l ∅ (by rw[f];simpa using g) b
 ·have f:(k+d.toArray.size).toNat=j:=by
   rw[seqIndex_neg ∅ y] at c;rw[N2,<- B];exact X3 c
  exact wpAny_getItem_list_neg pl.isList ∅ (by rw[N2]<;>lia) ∅ (by rw[f];simpa using g) b
def LS{i}{x}{c f}{t}{m}(A:QB cl X (.Name x c) (vw i)<|pV i)(hi:QB cl X b tb pb)(B:j_ X t<|kb m)(h:QB cl X e te pe)
  (C:∀ ov iv new,augStore b ov iv new=(do holding [new,ov,iv] (setItem ov iv new);release [new,ov,iv] [];pure .next):=by intros;rfl):QS cl pm X (.AugAssign (.Subscript (.Name x c) b f) t e pos) (zQ (vw i) tb te (nJ X.K) (kb m) nQ) (oy i pb m pe):=
 ⟨Fu A.sem hi.sem LR h.sem B An C,(by
   intro σ ρ Z H O o w s e S k;refine ob e λc1 D e=>ob e λn E e=>ob e λv F e=>ob e λl e5 e=>ob e λj e2 e=>ob e λT hx e=>ob e λx G e=>ob e λU e3 e=>ob e λy e7 e=>?_;cases e;cases jZ E;cases Vl e5;cases jZ G;cases jZ e7;refine JE (P0:=[]) J4 w s F rfl Y8 λa _ vs V p _ z I put=>I<|hi.den w.zd s D λ{u W Y P1} g J=>?_;let[rfl,_]:=J.int_of;let[v2,P2,r,L]:=p.atI (by unfold L2.atI;rw[e2];exact hx);let[rfl,_]:=L.int_of;refine#v[a,vs,n,.int x,rfl,rfl,cD.of<|g.at0 z,r,h.den g.wf.zd (g.slots w.zd s) e3 λ{u3 Z3 H3 P3} M N=>?_];let[rfl,_]:=N.int_of;have d:=g.pair M;let[O2,P,v]:=BG (d.reps w.zd p) (BF e2)<|bS.int_mk;let[O3,Q,R]:=put Y8 trivial d P λq=>by have:=v q;simp at this ⊢;lia
   exact#v[x,y,rfl,rfl,a,vs,n,j,rfl,rfl,d.at0 z,by rw[p.length];exact e2,k Q R<|cf.refl _ _])⟩
@[simp] def sy(pm:List Nat)(i:Nat)(g:Int->Int->Int)(pa:PF)(s:Rh):Option cq:=(pV i s).bind λx=>(kn x).bind λa=>(pa s).bind λy=>(kn y).bind λb=>(jc pm i (.int<|g a b) s).bind λr=>some<|.nx r
def LU{i}{x}{pos'}{b}{a}(f:X.N.Nodup)(g:j_ X b<|kb a)(h:QB cl X e te pe)(hi:X.N[i]?\x:=by rfl)(hx:ga X.env.scope x:=by first | exact Or.inl rfl | exact Or.inr rfl)
  (j:X.fn x=true\/X.env.scope.names.lookup x\.local:=by first | exact .inl rfl | exact .inr rfl):QS cl pm X (.AugAssign (.Name x pos') b e pos) (zP i te<|kb a) (sy pm i a pe):=#v[Ft f hi hx h.sem g j,(by
    intro U W Z H O o w s e D k;refine ob e λc1 hx e=>ob e λx e3 e=>ob e λE l e=>ob e λy m e=>ob e λF e2 e=>?_;cases e;cases jZ e3;cases jZ m;have hx:=KI hx;let[A,P,B,rfl,n,_,_]:=s.put (L9.mp hx).1;let[v,p,r]:=n _ hx;let[rfl,_]:=r.int_of;refine#v[_,p,h.den w.zd s l λ{u G I J} c q=>?_];let[rfl,_]:=q.int_of;have d:=c.widen w;exact#v[x,y,rfl,rfl,Q8 d.wf (bS.int_mk) (c.slots w.zd s) e2 λt z C=>k (d.trans t) z C])]
def LV{i}{x}{a apos cpos}(j:QB cl X (.Name x a) (vw i)<|pV i)(h:QP cl X e te pe)(c:attributeBase (.Name x a) "append" X.env (eval (.Name x a) X.env)=eval (.Name x a) X.env:=by rfl)
  (f:((backTo cpos<|starEach [e] X.env).all (λx=>!x.1)&&(backToKw cpos<|keywordEach [] X.env).all (λx=>x.1.isSome)
   && decide (-[e]+-([]:List Keyword)+(if([]:List Keyword).isEmpty then 0 else 1)<30))=true:=by rfl)
  (d:(apos.endLine==cpos.line)=true:=by rfl) (g:starEach [e] X.env=(false,eval e X.env)::starEach [] X.env:=by rfl) (b:(backTo cpos<|starEach [] X.env).any (·.1)=false:=by rfl)
  (hsw:swapsWith (.Call (.Attribute (.Name x a) "append" apos) [e] [] cpos) none pos.line X.env=pure false:=by rfl):
  QS cl pm X (.Expr (.Call (.Attribute (.Name x a) "append" apos) [e] [] cpos) pos) (V7<|gR X.K "list" YT (vw i)<|ve te Qp) (Qu i pe):=
 ⟨VO (mh PySem.F.plainAttrs_list PySem.F.slot_list_append PySem.F.type_list_append Yr j.sem (yy h.sem Ji g) c f d g b) hsw,(Bw J4 h.den)⟩
def LW{body}(c:PassesOwn (model X.prog X.w) X.A X.env X.xe)(d:X.calm=true)(hi:QI cl X tg iter wi pi)(a:QG cl pm X tg t g)(b:fP cl pm X body ts f)(e:∀ x,foldedSetIterable iter X.env x=pure x:=by intro _;rfl):QS cl pm X (.For tg iter body [] pos) (p9 wi t ts) (Jt pi g f):=
 ⟨FG c d hi.sem a.sem b.sem e,Ik hi.den a.den b.den⟩
def QS.fz(i)(h:QS cl pm X st ts f):QS cl pm X st ts (cC i f):=#v[h.sem,(by
  intro u ρ Z H O o w s e m k;unfold cC at e;split at e
  ·rename_i d hd;have hd:=KI hd;let[A,P,B,rfl,c,j,_]:=s.put (L9.mp hd).1;let[v,l,r]:=c d hd;have g:=(Go.freeze w.mid).frame w;have b:=j (r.freeze (Z':=λa=>Z a\/a∈P) (λa z=>.inl z) λa z=>.inr z) (λa z=>.inl z) (λ_ _=>rfl) (λ_ _=>rfl)<|λ_ _=>rfl;rw[vy l] at b;exact h.den g.wf b e<|k.pre g<|cf.refl _ _
  ·exact h.den w s e k)]
def LX{P}{w}{K}{mg}{base}{x qual}{d7}{fa}{fd}{N ps}{k n}{fs}(F:g_ K x qual d7 fa fd)(b:cv N ps<|jP d7)(hn:-ps=n)
  (a:∀ cdv A outer s H E,ca k (A.deeper<|envOfC qual (jP d7) ↥s fa cdv) ->
   ∃ ts,fP cl [] (ip eN P w K mg base N qual (jP d7) fa cdv A outer s H E).nox (kT d7) ts fs):cL P w K mg base eN (k+1) fa fd ps (dX #v[K,cl] (cI N.length fs) n):=by
 refine F.ok b (λvs H Q E h=>by rw[(show vs.length=n from by 
   let[Z,e,d,z,hn,r,_]:=h;rw[r.length,hn]),hn]) λcdv A outer s H vs Q E c h=>?_
 let[ts,q]:=a cdv A outer s H E c;exact#v[ts,q.sem,Il q.den h]
end
mutual
def uT:D->PyData
 | .non=>.none | .bl b=>.bool b | .int i=>.int i | .str s=>.str<|S s
 | .tup l=>.tuple<|qv l
 | .lst _ l=>.list<|qv l
 | .dK _ _ _=>.none | .dT _ _ _=>.none | .ins _ _ _ _=>.none | .dead=>.none | .tok _=>.none | .kt _=>.none | .exc _ _=>.none
def qv:List D->List PyData
 | []=>[]
 | d::l=>uT d::qv l
end
mutual
def du:Nat->D->Bool
 | _,.non=>true | _,.bl _=>true | _,.int _=>true
 | _,.str s=>s.all λc=>decide<|c<1114112
 | n+1,.tup l=>YF n l
 | n+1,.lst _ l=>YF n l
 | _,_=>false
def YF:Nat->List D->Bool
 | _,[]=>true
 | n,d::l=>du n d&&YF n l
end
mutual
def fQ:D->D->Bool
 | .non,y=>match y with | .non=>true | _=>false
 | .bl a,y=>match y with | .bl b=>a==b | .int j=>(if a then 1 else 0)==j | _=>false
 | .int i,y=>match y with | .bl b=>i==(if b then 1 else 0) | .int j=>i==j | _=>false
 | .str a,y=>match y with | .str b=>a==b | _=>false
 | .tup l,y=>match y with | .tup m=>f0 l m | _=>false
 | .lst _ l,y=>match y with | .lst _ m=>f0 l m | _=>false
 | _,_=>false
def f0:List D->List D->Bool
 | [],[]=>true
 | x::l,y::m=>fQ x y&&f0 l m
 | _,_=>false
end
def LY:D->Bool
 | .non=>true | .bl _=>true | .int _=>true | .str _=>true | .tup _=>true | .lst _ _=>true | _=>false
def yx{n x}{p:Prop}(h:du n x=true)(k:LY x=false):p:=by
 cases x<;>cases k<;>cases n<;>cases h
theorem zx:∀ n l,YF n l=l.all (du n)
 | _,[]=>rfl
 | n,d::l=>by rw[YF,zx n l];rfl
mutual
theorem sA:∀(n:Nat) (x y:D),du n x=true->du n y=true->PyData.eqv (uT x) (uT y)=fQ x y
 | n,.non,y,hx,hy=>by cases y<;>first | rfl | exact yx hy rfl
 | n,.bl a,y,hx,hy=>by cases y<;>first | rfl | exact yx hy rfl
 | n,.int a,y,hx,hy=>by cases y<;>first | rfl | exact yx hy rfl
 | n,.str a,y,hx,hy=>by
  cases y with
  | str b=>
   show(S a==S b)=(a==b);rw[Bool.eq_iff_iff];simp[ro]
  | _=>first | rfl | exact yx hy rfl
 | 0,.tup l,y,hx,hy=>absurd hx M3
 | n+1,.tup l,y,hx,hy=>by
  cases y with
  | tup m=>show PyData.eqvAll (qv l) (qv m)=f0 l m;exact uc n l m hx hy
  | _=>first | rfl | exact yx hy rfl
 | 0,.lst o l,y,hx,hy=>absurd hx M3
 | n+1,.lst o l,y,hx,hy=>by
  cases y with
  | lst o' m=>show PyData.eqvAll (qv l) (qv m)=f0 l m;exact uc n l m hx hy
  | _=>first | rfl | exact yx hy rfl
 | n,.dK _ _ _,y,hx,hy=>yx hx rfl
 | n,.dT _ _ _,y,hx,hy=>yx hx rfl
 | n,.ins _ _ _ _,y,hx,hy=>yx hx rfl
 | n,.dead,y,hx,hy=>yx hx rfl
 | n,.tok _,y,hx,hy=>yx hx rfl
 | n,.kt _,y,hx,hy=>yx hx rfl
 | n,.exc _ _,y,hx,hy=>yx hx rfl
theorem uc:∀(n:Nat) (l m:List D),YF n l=true->YF n m=true->PyData.eqvAll (qv l) (qv m)=f0 l m
 | n,[],[],_,_=>rfl
 | n,[],_::_,_,_=>rfl
 | n,_::_,[],_,_=>rfl
 | n,x::l,y::m,hx,hy=>by
  rw[YF,M0] at hx hy;show(PyData.eqv (uT x) (uT y)&&PyData.eqvAll (qv l) (qv m))=(fQ x y&&f0 l m);rw[sA n x y hx.1 hy.1,uc n l m hx.2 hy.2]
end
mutual
theorem zc:∀(n:Nat) (x:D),du n x=true->(uT x).canLay0=true/\(uT x).depth<=n
 | n,.non,_=>#v[rfl,U4 _]
 | n,.bl _,_=>#v[rfl,U4 _]
 | n,.int _,_=>#v[rfl,U4 _]
 | n,.str s,h=>by
  refine#v[?_,U4 _];have h:(s.all λc=>decide<|c<1114112)=true:=by cases n<;>exact h
  show PyData.strOk (S s)=true;unfold PyData.strOk S;rw[Array.all_eq_true'];intro c hc;rw[List.all_eq_true] at h;exact h c ⇑hc
 | 0,.tup l,h=>absurd h M3
 | n+1,.tup l,h=>by
  let[h1,h2]:=Yq n l h;exact#v[h1,Nat.succ_le_succ h2]
 | 0,.lst o l,h=>absurd h M3
 | n+1,.lst o l,h=>by
  let[h1,h2]:=Yq n l h;exact#v[h1,Nat.succ_le_succ h2]
 | n,.dK _ _ _,hx=>yx hx rfl
 | n,.dT _ _ _,hx=>yx hx rfl
 | n,.ins _ _ _ _,hx=>yx hx rfl
 | n,.dead,hx=>yx hx rfl
 | n,.tok _,hx=>yx hx rfl
 | n,.kt _,hx=>yx hx rfl
 | n,.exc _ _,hx=>yx hx rfl
theorem Yq:∀(n:Nat) (l:List D),YF n l=true->PyData.canLayAll0 (qv l)=true/\PyData.depthAll (qv l)<=n
 | n,[],_=>#v[rfl,U4 _]
 | n,x::l,h=>by
  rw[YF,M0] at h;let[h1,h2]:=zc n x h.1;let[h3,h4]:=Yq n l h.2;rw[qv];refine#v[?_,?_]
  ·show((uT x).canLay0&&PyData.canLayAll0 (qv l))=true;rw[h1,h3];rfl
  ·show max (uT x).depth (PyData.depthAll<|qv l)<=n;exact Nat.max_le.mpr #v[h2,h4]
end
mutual
theorem bS.reads(I:bP X pins y H s):∀(n:Nat) {x:D}{v:V}{u:Value}{O:W5},bS #v[X.K,cl] Z H x v O->bR v u->du n x=true->∃ as,Reads s.heap u (uT x) as
 | n,.non,_,_,_,r,q,_=>by let[rfl,_]:=r.non_of;cases q;exact#v[_,.none]
 | n,.bl b,_,_,_,r,q,_=>by let[rfl,_]:=r.bl_of;cases q;exact#v[_,.bool b]
 | n,.int i,_,_,_,r,q,_=>by let[rfl,_]:=r.int_of;let[t,rfl]:=q;exact#v[_,.int i t]
 | n,.str w,_,_,_,r,q,_=>by let[rfl,_]:=r.str_of;let[t,rfl]:=q;exact#v[_,.str _ t]
 | 0,.tup l,_,_,_,r,q,h=>absurd h M3
 | n+1,.tup l,_,_,_,r,q,h=>by
  let[a,vs,rfl,hx,rs]:=r.tup_of;cases q;obtain⟨its,rv,⟨o,h1,h2,k,h3⟩,_⟩:=I.tuple hx;let[as,hr]:=a_.reads I n rs rv h;exact#v[_,reads_tuple_at h1 h2 h3 ⇑hr]
 | 0,.lst o l,_,_,_,r,q,h=>absurd h M3
 | n+1,.lst o l,_,_,_,r,q,h=>by
  let[a,vs,O',rfl,hx,rs]:=r.lst_of;cases q;obtain⟨its,rv,⟨o,k,h1,h2,_,h3⟩,_⟩:=I.list hx.sq;let[as,hr]:=a_.reads I n rs rv h;exact#v[_,reads_list_at h1 h2 h3 ⇑hr]
 | n,.dK _ _ _,_,_,_,_,_,hx=>yx hx rfl
 | n,.dT _ _ _,_,_,_,_,_,hx=>yx hx rfl
 | n,.ins _ _ _ _,_,_,_,_,_,hx=>yx hx rfl
 | n,.dead,_,_,_,_,_,hx=>yx hx rfl
 | n,.tok _,_,_,_,_,_,hx=>yx hx rfl
 | n,.kt _,_,_,_,_,_,hx=>yx hx rfl
 | n,.exc _ _,_,_,_,_,_,hx=>yx hx rfl
theorem a_.reads(I:bP X pins u H s):∀(n:Nat) {l:List D}{vs:List V}{us:List Value}{O:W5},a_ #v[X.K,cl] Z H l vs O->bQ vs us->YF n l=true->∃ as,ReadsAll s.heap us (qv l) as
 | n,[],_,_,_,r,q,_=>by symm at r;let[rfl,_]:=r;cases q;exact#v[_,.nil]
 | n,x::l,_,_,_,r,q,h=>by
  symm at r
  let[v,vs,O1,O2,rfl,rfl,r1,r2]:=r;rw[YF,M0] at h;cases q with
  | cons q1 q2=>
   let[as,h1]:=bS.reads I n r1 q1 h.1;let[bs,h2]:=a_.reads I n r2 q2 h.2;exact#v[_,.cons h1 h2]
end
def sB(R:RC)(neg:Bool):R2:=λx y H Q=>∃ Z d e O P,bS R Z H d x O/\bS R Z H e y P/\du 20 d=true/\du 20 e=true/\Q (.bl<|neg != fQ d e) H
def BQ(h:du 20 x=true):SeqAt.shaped (uT x)=true:=by
 let[a,b]:=zc 20 x h;unfold SeqAt.shaped;rw[a,Bool.true_and];exact X0<|N6 b (by decide)
def ki(x y:D):Option D:=bif KJ x&&KJ y&&mD x y then some (.bl<|mC x y) else bif du 20 x&&du 20 y then some (.bl<|fQ x y) else none
def LZ:BO R (λx y H Q=>nA x y H Q\/sB R false x y H Q) ki:=by
 intro Z H x y d v u f g z b c e Q k;unfold ki at e;cases hl:KJ x&&KJ y&&mD x y with
 | true=>
  rw[hl] at e;cases e;let[h,i]:=Iz b c hl;exact .inl #v[h,by rw[i];exact k (Go.id z) .bl_mk]
 | false=>
  rw[hl,cond_false] at e;refine oc e λa e=>?_;cases e;rw[M0] at a;exact .inr #v[Z,x,y,f,g,b,c,a.1,a.2,by simpa using k (Go.id z) .bl_mk]
def hU(g:ca k X.A):dJ cl X .Eq b (λx y H Q=>nA x y H Q\/sB #v[X.K,cl] false x y H Q) ki:=#v[oj FQ ((by
  intro f s w H x y v u Q I i j h;let[Z,d,e,O,P,l,m,a,c,q]:=h;let[p,n]:=l.reads I 20 i a;let[bs,o]:=m.reads I 20 j c;refine eq_dataH n o (BQ a) (BQ c) g.units ?_;rw[sA 20 d e a c];exact#v[.bl _,H,I,rfl,by simpa using q])),LZ,nB _]
def BM(R:RC)(T:String)(r:V->List V->Hp->VK->Prop)(g:D->List D->Option D):Prop:=∀{Z}{H}{x d}{xs}{v}{vs}{O1 O2},Zd Z H->bS R Z H x v O1->a_ R Z H xs vs O2->g x xs=some d ->
 ∀{Q},(∀{w}{Z'}{H'}{P},Go Z H [] Z' H' P->bS R Z' H' d w P->Q w H')->r v vs H Q
def sD:String->D->Bool
 | "str",.str _=>true
 | _,_=>false
@[simp] def sE(T:String)(g:D->List D->Option D)(pa:PF)(pr:cR)(s:Rh):Option D:=(pa s).bind λx=>bif sD T x then(pr s).bind λxs=>g x xs else none
end QD
namespace QD
open PySem L2
section
variable {R:RC}{Z Z':Zn}{H H':Hp}{pm:List Nat}
def cf.sub(h:∀ i∈pm,i∈pm')(k:cf pm' s σ'):cf pm s σ':=λi hi=>k i<|h i hi
def fY(R:RC)(J:It)(Z:Zn)(H:Hp)(xs:List D):Prop:=∀{Z1}{H1},(∀ a,Z a->Z1 a)->(∀ a,H a≠none->H1 a=H a)->Zd Z1 H1->∀ i:Nat,
 (-xs<=i->J.stop i H1)/\∀ x,xs[i]?\x->J.go i H1/\∀ u H2,J.yld i H1 u H2->∃ Z2,Go Z1 H1 [] Z2 H2 []/\bS R Z2 H2 x u []
def oz(R:RC)(wi:TI)(p:cR):Prop:=∀{s}{u}{Z}{H}{O}{xs},Zd Z H->Slots R Z H u s O->p u=some xs ->
 ∀{Q:It->Hp->Prop},(∀{J}{Z'}{H'},Go Z H [] Z' H' []->fY R J Z' H' xs->Q J H')->wi s H Q
def iC.b(h:iC R wi p):oz R wi p:=by
 intro u ρ Z H O j z s e Q k;refine h z s e λg c=>k g ?_;intro l m d f zd i;exact c d (λa z=>f a<|g.wf.zd a z) zd i
def itB:D->Option (List D)
 | .lst _ l=>bif frzs l then some l else none
 | .tup l=>bif frzs l then some l else none
 | .str s=>some<|s.map λc=>.str [c]
 | _=>none
@[simp] def JT(p:PF)(ρ:Rh):Option (List D):=(p ρ).bind itB
def L_(h:PB R te p):oz R (mx R.K te) (JT p):=by
 intro U W Z H O P z s e Q k;refine ob e λc C e=>?_;cases c with
 | lst o l=>
  refine oc e λD e=>?_;cases e;refine h z s C λ{v J L M} f q=>?_;let[a,vs,S,rfl,hx,r]:=q.lst_of;have E:=r.frozen D;refine .inl #v[a,rfl,#v[vs,hx.sq],k f ?_];intro B F y g zd i;have d:=fL.sq ((by
    rcases hx with hx | hx
    ·refine .inl<|Rd.agree (g a ?_) hx;rcases hx with hx | ⟨o,hx⟩<;>rw[hx]<;>exact λz=>(nomatch z)
    ·exact .inr hx))
  have j:=E.frame y (λb z=>g b<|f.wf.zd b z) λb G=>(nomatch G);refine#v[λhi=>#v[vs,d,by rw[r.length];exact hi],λx m=>?_];let[u,A,I]:=j.item m;refine#v[#v[vs,u,d,A],λw N n=>?_];let[rfl,n]:=n;have e2:=n vs d;rw[A] at e2;cases e2;exact#v[B,Go.id zd,I]
 | tup l=>
  refine oc e λD e=>?_;cases e;refine h z s C λ{v J L M} f q=>?_;let[a,vs,rfl,hx,r]:=q.tup_of;refine .inr<|.inl #v[a,rfl,#v[vs,hx],k f ?_];intro B F y g zd i;have d:cK R.K F a vs:=by 
    rcases hx with hx | hx
    ·refine .inl<|Rd.agree (g a ?_) hx;rcases hx with hx | ⟨o,hx⟩<;>rw[hx]<;>exact λz=>(nomatch z)
    ·exact .inr hx
  have j:=(r.frozen D).frame y (λb z=>g b<|f.wf.zd b z) λb G=>(nomatch G);refine#v[λhi=>#v[vs,d,by rw[r.length];exact hi],λx m=>?_];let[u,A,I]:=j.item m;refine#v[#v[vs,u,d,A],λw N n=>?_];let[rfl,n]:=n;have e2:=n vs d;rw[A] at e2;cases e2;exact#v[B,Go.id zd,I]
 | str t=>
  cases (e);refine h z s C λ{v J L M} f q=>?_;let[rfl,_]:=q.str_of;refine .inr<|.inr #v[t,rfl,k f ?_];intro B F y g zd i;exact Bq y (λb z=>g b<|f.wf.zd b z) zd i
 | _=>cases e
inductive BR (R:RC) (g:D->Rh->Option Rh) (q:d_) (p:PF) (Z0:Zn) (H0:Hp) (a:Addr) (xs all:List D) (i m:Nat) (σ2:L2.St) (H2:Hp):Prop
 | mk:m=-xs-i->i<=-xs->∀(ρ2:Rh) (Z2:Zn) (O2:W5) (ys:List D) (vs:List V) (Py:W5) (rest:List D),Go Z0 H0 [] Z2 H2 (a::Py)->H2 a\(.lst vs)->a_ R Z2 H2 ys vs Py->(∀ b∈O2,b≠a)->Slots R Z2 H2 ρ2 σ2 O2->jE g q p (xs.drop i) ρ2\rest->all=ys++rest->-ys<=i->BR R g q p Z0 H0 a xs all i m σ2 H2
def JB{tg}{tc}{te}{g}{q}{p}{ix}(hg:iW R [] tg g)(hq:gU R tc q)(he:PP R te p)
  {J:It}{j:Zn}{c:Hp}{ρ:Rh}{σ:L2.St}{O:W5}{xs all:List D}(C:Zd j c) (s:Slots R j c ρ σ O) (it:fY R J j c xs) (hl:cb (-xs)=true) (e2:jE g q p xs (jv ix ρ)\all)
  {Q:VK}(k:∀{v}{Z'}{H'}{P},Go j c [] Z' H' P->bS R Z' H' (.lst true all) v P->Q v H'):∀ a,c a=none->nT tc te tg J a (kq ix σ) (bU c a<|.lst []) λH2=>Q (.ref a) H2:=by
 intro a ha;let[Oi,si]:=u7 s ix;have gp:Go j c [] j (bU c a<|.lst []) [a]:=Go.newO (cZ C) ha;refine#v[BR R g q p j c a xs all,
  ⟨xs.length,rfl,U4 _,_,j,Oi,[],[],[],all,gp,js,a_.empty,λb d e=>si.dom b d<|e▸ha,gp.slots C si,e2,rfl,M8 _⟩,?_]
 rintro i m σ2 H2 ⟨rfl,S,ρ2,Z2,O2,ys,vs,o,rest,h,T,I,U,s2,e3,K,r⟩;have E:=it h.zz (h.same) h.wf.zd i;by_cases F:i< -xs
 ·right
  have hx:xs[i]?=some xs[i]:=by simp
  let[go,yl]:=E.2 _ hx;refine#v[go,λu H3 hy=>?_];let[Z3,w,r3]:=yl u H3 hy;rw[VS hx] at e3;refine ob e3 λρ3 e5 e3=>(hg r3 (w.slots h.wf.zd s2) e5 λ{σ4 O4} sub nd L _=>(ob e3 λb e6 e3=>(hq w.wf.zd L e6 λ{Z5 H5} G=>?_)));have l:=w.pair G;cases b with
  | true=>
   refine iy<|ob e3 λy e7 e3=>ob e3 λV e8 e3=>?_;cases e3;refine he G.wf.zd (G.slots w.wf.zd L) e7 λ{M x n A} g6 r6=>?_;have t:Go Z2 H2 [] x n A:=by simpa using l.pair g6
   have W:n a\(.lst vs):=by rw[t.same a ∅];exact T
   have X:-vs<sizeLine:=by
    rw[I.length];exact xj<|X0<|N6 r<|N6 S<|X2 hl
   have N:Go j c [] x n (a::o++A):=by
    have f:=t.frame (B:=[]) ⇑h.wf;exact h.trans ⇑f
   have Y:=N.wf;have gB:Go x n (a::o++A) x (bU n a<|.lst<|vs++[M]) (a::o++A):=Go.put Y L7;have ne:∀ b,b∈o++A->bU n a (.lst<|vs++[M]) b=n b:=λb d=>jh λz=>(List.nodup_cons.mp Y.nd).1 (z▸d);have H:∀ b,x b->bU n a (.lst<|vs++[M]) b=n b:=λb d=>jh λz=>Y.nz a L7<|z▸d;refine#v[vs,W,X,-xs-(i+1),by lia,rfl,F,ρ3,x,O4,ys++[y],vs++[M],o++A,V,N.trans gB,js,?_,λb d=>U b<|sub b d,(((G.pair g6).slots w.wf.zd L).frame (λb z=>z) H λb d=>jh<|U b<|sub b d),e8,by rw[K];simp,by rw[N3];exact Nat.add_le_add_right r 1]
   ·refine((t.reps h.wf.zd I).append (.one r6)).frame (λb z=>z) H ne
  | false=>
   refine iu ?_;have N:Go j c [] Z5 H5 (a::o):=by
    exact h.trans (by simpa using(l.frame (B:=[]) ⇑h.wf))
   exact#v[xs.length-(i+1),by lia,rfl,F,ρ3,Z5,O4,ys,vs,o,rest,N,by rw[l.same a ∅];exact T,l.reps h.wf.zd I,λb d=>U b<|sub b d,G.slots w.wf.zd L,e3,K,Nat.le_succ_of_le r]
 ·left
  have Z:i=-xs:=by lia
  refine#v[E.1 ∅,?_];rw[Z,List.drop_length] at e3;cases e3;rw[M9] at K;subst K;exact k h #v[a,vs,o,rfl,I,T,rfl]
def BS{wi}{tg}{tc}{te}{pi}{g}{q}{p}{ix}(hi:oz R wi pi)(b:iW R [] tg g)(c:gU R tc q)(f:PP R te p):
  PP R (xZ wi tg tc te ix) (yq pi g q p ix):=by
 intro u v Z H O d z s e Q k;refine ob e λn h e=>oc e λi e=>ob e λall e2 e=>?_;cases e;exact hi z s h λ{J o r} a j=>(JB b c f a.wf.zd (a.slots z s) j i e2 λl m=>k ⇑(a.pair l) m)
end
section
variable {cl:Nat->Addr}{pm:List Nat}{X:Cx}{c e elt tg iter:Expr}{te:TE}{pe:PF}{ifs:List Expr}{wi:TI}{pi:cR}{t:TG}{g:D->Rh->Option Rh}{pos:Pos}{ts:TS}{f:FS}
structure mE(cl:Nat->Addr)(X:Cx)(tg e:Expr)(wi:TI)(p:cR):Prop where
 sem:PI X tg e wi
 den:oz #v[X.K,cl] wi p
def QI.b'(h:QI cl X tg e wi pi):mE cl X tg e wi pi:=#v[h.sem,iC.b h.den]
def Ma(h:QB cl X e te pe):mE cl X tg e (mx X.K te) (JT pe):=#v[Bp h.sem,L_ h.den]
def Mb{scope}{N'}{ix}{a}{c}(B:cr X scope N' ix)(f:X.calm=true)(hi:mE cl X tg iter wi pi)
  (d:∀ C s H fp,QG cl [] (yJ X scope N' C s H fp) tg t g) (b:∀ C s H fp,li cl (yJ X scope N' C s H fp) ifs a c) (e:∀ C s H fp,QP cl (yJ X scope N' C s H fp) elt te pe)
  (h:∀ x,foldedSetIterable iter X.env x=pure x:=by intro _;rfl):QP cl X (.ListComp elt [#v[tg,iter,ifs,0]] scope pos) (xZ wi t a te ix) (yq pi g c pe ix):=
 ⟨Ay B f hi.sem (λC s H fp=>(d C s H fp).sem) (λC s H fp=>(b C s H fp).sem) (λC s H fp=>(e C s H fp).sem) h,
  BS hi.den (d 0 X.s₀ X.H₀ []).den (b 0 X.s₀ X.H₀ []).den (e 0 X.s₀ X.H₀ []).den⟩
def ux{i}{x}{pos' a}{scope}{N'}{ix}{b}{f}(B:cr X scope N' ix)(k:X.calm=true)(hi:mE cl X tg iter wi pi)
  (h:∀ C s H fp,QG cl [] (yJ X scope N' C s H fp) tg t g) (c:∀ C s H fp,li cl (yJ X scope N' C s H fp) ifs b f) (j:∀ C s H fp,QP cl (yJ X scope N' C s H fp) elt te pe)
  (l:X.N.Nodup) (e:X.N[i]?\x:=by rfl) (hx:ga X.env.scope x:=by first | exact Or.inl rfl | exact Or.inr rfl)
  (hsw:swapsWith (.ListComp elt [#v[tg,iter,ifs,0]] scope pos) (some<|.Name x pos') a.line X.env=pure true:=by with_unfolding_all rfl)
  (m:∀ x,foldedSetIterable iter X.env x=pure x:=by intro _;rfl)
  (n:X.fn x=true\/X.env.scope.names.lookup x\.local:=by first | exact .inl rfl | exact .inr rfl):
  QS cl pm X (.Assign [.Name x pos'] (.ListComp elt [#v[tg,iter,ifs,0]] scope pos) a) (gc (xZ wi t b te ix)<|Jl i) (jA (dP<|yq pi g f pe ix)<|jc pm i):=
 ⟨KZ B k hi.sem (λC s H fp=>(h C s H fp).sem) (λC s H fp=>(c C s H fp).sem) (λC s H fp=>(j C s H fp).sem) l e hx hsw m n,
  xK (PP.d<|BS hi.den (h 0 X.s₀ X.H₀ []).den (c 0 X.s₀ X.H₀ []).den (j 0 X.s₀ X.H₀ []).den) Q8⟩
end
@[simp] def Mc:pV 0 (o::s)=o:=by unfold pV;cases o<;>rfl
@[simp] def Md:pV (i+1) (o::s)=pV i s:=rfl
@[simp] def Me:gN [] s\s:=rfl
@[simp] def Mf:gC G Gs (d::r) s=(G d s).bind λρ1=>Gs r ρ1:=rfl
@[simp] def Mg:gT n Gs (.tup l) s=bif decide (-l=n) then Gs l s else none:=rfl
@[simp] def oC(o)(l):itB (.lst o l)=bif frzs l then some l else none:=rfl
@[simp] def oD(l):itB (.tup l)=bif frzs l then some l else none:=rfl
@[simp] def oE(l):itB (.str l)\(l.map λc=>D.str [c]):=rfl
@[simp] def mF(o)(l):VX [.lst o l]\(jO 0<|bV l):=rfl
def xl(h:Neg.neg (2 ^ 62)<j)(k:j<2 ^ 62):K1 j=true:=Nat.ble_eq_true_of_le ∅
def JU(h:Neg.neg (2 ^ 62)<j)(k:j<2 ^ 62):Br [.int j]\(Qf 0 j.toNat):=by
 show(bif K1 j then some (Qf 0 j.toNat) else none)=_;rw[xl h k];rfl
def jK(n)(f)(ds):cI n f ds=(f<|ds.map some++List.replicate (n- -ds) none).bind cq.val:=rfl
@[simp] def lk:yC G f [] s\(.nx s):=rfl
def j7:yC G f (x::xs) s=(G x s).bind λr=>(f r).bind λo=>o.loop (yC G f xs):=rfl
@[simp] def ll:jE G q p [] s\[]:=rfl
def jM:jE G q p (x::xs) ρ=(G x ρ).bind λr=>(q r).bind λb=>bif b then((p r).bind λy=>(jE G q p xs r).bind λys=>some<|y::ys) else jE G q p xs r:=rfl
def va(P:Nat->Rh->Prop)(step:∀ i x ρ,xs[i]?\x->P i ρ->∃ ρ1 ρ2,G x ρ=some ρ1/\(f ρ1=some (.nx ρ2)\/f ρ1\(.ct ρ2))/\P (i+1) ρ2)  (h0:P 0 ρ):
  ∃ ρ',yC G f xs ρ\(.nx ρ')/\P xs.length ρ':=by
 have key:∀ n i ρ,-xs-i=n->i<=-xs->P i ρ->∃ ρ',yC G f (xs.drop i) ρ\(.nx ρ')/\P xs.length ρ':=by
  intro n
  induction n with
  | zero=>
   intro i ρ b hi p;have:i=-xs:=by lia
   subst this;exact#v[ρ,by rw[List.drop_length];rfl,p]
  | succ n c=>
   intro i ρ b hi p;have a:i< -xs:=by lia
   have hx:xs[i]?=some xs[i]:=by simp[a]
   let[ρ1,ρ2,d,e2,p2]:=step i _ ρ hx p;let[ρ',e3,p3]:=c (i+1) ρ2 ∅ a p2;refine#v[ρ',?_,p3];rw[VS hx,j7,d];rcases e2 with e2 | e2<;>simp[e2,e3]
 exact key _ 0 ρ rfl (U4 _) h0
def jV{G}{xs}{l:List s}{en}{out}(hx:xs=l.map en)(P:Rh->Prop)(step:∀ x∈l,∀ ρ,P ρ->∃ ρ1,G (en x) ρ=some ρ1/\p ρ1\(out x)/\P ρ1){ρ}(h0:P ρ):jE G qT p xs ρ\(l.map out):=by
 subst hx
 induction l generalizing ρ with
 | nil=>rfl
 | cons x l a=>
  let[ρ1,b,e2,p1]:=step x L7 ρ h0;rw[L5,jM,b];simp[e2,a (λy c=>step y<|L6 _ c) p1]
@[simp] def mG(p) [Decidable p] (x y:s):(bif decide p then x else y)=if p then x else y:=by by_cases h:p<;>simp[h]
@[simp] def hV(i j:Int)(x y:s):(bif i==j then x else y)=if i=j then x else y:=by
 by_cases h:i=j
 ·subst h;simp
 ·rw[if_neg h,U1.mpr h];rfl
@[simp] def mH(p) [Decidable p] (x y:Option s) (f:s->Option u):(if p then x else y).bind f=if p then x.bind f else y.bind f:=by by_cases h:p<;>simp[h]
@[simp] def sF(i j):jr (.int i) (.int j)\(.int<|i+j):=rfl
@[simp] def sG(i j):Ku (.int i) (.int j)\(.int<|i-j):=rfl
def vE(h:i.natAbs<2 ^ 1000)(k:j.natAbs<2 ^ 1000):yA (.int i) (.int j)\(.int<|i*j):=by
 show(bif my i&&my j then some (D.int<|i*j) else none)=_;rw[By h,By k];rfl
def jx(h:0<j)(k:j<2 ^ 300):jw (.int i) (.int j)\(.int<|i/j):=by
 show(bif decide (0<j)&&decide (j<2 ^ 300) then some (D.int<|i/j) else none)=_;rw[X0 h,X0 k];rfl
def jo(h:0<j):jk (.int i) (.int j)\(.int<|i%j):=by
 show(bif decide (0<j) then some (D.int<|i%j) else none)=_;rw[X0 h];rfl
@[simp] def sH(g)(i j):mB g (.int i) (.int j)\(.bl<|g i j):=rfl
@[simp] def BT(i j):ki (.int i) (.int j)\(.bl<|i==j):=rfl
@[simp] def J2(g)(i j):ox g [.int i,.int j]\(.int<|g i j):=rfl
@[simp] def oF(i):frz (.int i)=true:=rfl
@[simp] def sI(i):frz (.bl i)=true:=rfl
@[simp] def oG(i):frz (.str i)=true:=rfl
@[simp] def oH:frz .non=true:=rfl
@[simp] def sJ(i):fz (.int i)=.int i:=rfl
@[simp] def BV(i):fz (.bl i)=.bl i:=rfl
@[simp] def sK(i):fz (.str i)=.str i:=rfl
@[simp] def sL:fz .non=.non:=rfl
@[simp] def sM(o)(l):fz (.lst o l)=.lst false (bV l):=rfl
@[simp] def sO(l):fz (.tup l)=.tup (bV l):=rfl
@[simp] def oI(o)(l):frz (.lst o l)=(!o&&frzs l):=rfl
@[simp] def Mh(l):frz (.tup l)=frzs l:=rfl
def oJ(o k l):fz (.dK o k l)=.dK false k (bV l):=rfl
def Mi(o k l):fz (.dT o k l)=.dT false k (bV l):=rfl
def Mj(o c n l):fz (.ins o c n l)=.ins false c n (bV l):=rfl
def Ml(o k l):kJ (.dT o k l)=(o&&jW l):=rfl
@[simp] def oK:bV []=[]:=rfl
@[simp] def JG(d)(l):bV (d::l)=fz d::bV l:=rfl
@[simp] def BX:frzs []=true:=rfl
@[simp] def kO(d)(l):frzs (d::l)=(frz d&&frzs l):=rfl
@[simp] def lq(i):kJ (.int i)=true:=rfl
@[simp] def mI(i):kJ (.bl i)=true:=rfl
@[simp] def lu(i):kJ (.str i)=true:=rfl
@[simp] def lw:kJ .non=true:=rfl
@[simp] def lx(o)(l):kJ (.lst o l)=(o&&jW l):=rfl
@[simp] def ly(l):kJ (.tup l)=jW l:=rfl
@[simp] def Mm:jW []=true:=rfl
@[simp] def Kq(d)(l):jW (d::l)=(kJ d&&jW l):=rfl
@[simp] def mJ(l:List Int):bV (l.map D.int)=l.map D.int:=by
 rw[qP,U0];rfl
@[simp] def lz(l:List Int):frzs (l.map D.int)=true:=by
 rw[Vu,List.all_map,List.all_eq_true];intro x _;rfl
theorem yw:∀ l:List D,jW l=l.all kJ
 | []=>rfl
 | d::l=>by show(kJ d&&jW l)=_;rw[yw l];rfl
@[simp] def iD(l:List Int):jW (l.map D.int)=true:=by
 rw[yw,List.all_map,List.all_eq_true];intro x _;rfl
@[simp] def iX(l):wu (l.map D.int)\l:=by
 induction l with
 | nil=>rfl
 | cons x l a=>show(wu<|l.map D.int).bind _=_;rw[a];rfl
@[simp] def hZ(l):Y3 (l.map D.bl)\l:=by
 induction l with
 | nil=>rfl
 | cons x l a=>show(Y3<|l.map D.bl).bind _=_;rw[a];rfl
@[simp] def mK(o)(l):gu [.lst o l]=(wu l).bind λns=>some (.int ns.sum):=rfl
@[simp] def mL(o)(l):kF [.lst o l]\(.int (-l)):=rfl
@[simp] def mM(l):kF [.tup l]\(.int (-l)):=rfl
@[simp] def lB(o)(l):Q4 [.lst o l]=bif frzs l then some (.lst true l) else none:=rfl
@[simp] def iE(o)(l):zO (.lst o l)\(bV l):=rfl
@[simp] def iF(l):zO (.tup l)\(bV l):=rfl
theorem wR:∀(l m:List Int),f0 (l.map D.int) (m.map D.int)=decide (l=m)
 | [],[]=>rfl
 | [],_::_=>rfl
 | _::_,[]=>rfl
 | x::l,y::m=>by
  show((x==y)&&f0 (l.map D.int) (m.map D.int))=_;rw[wR l m];by_cases h:x=y<;>simp[h]
def xf(n)(l:List Int):YF n (l.map D.int)=true:=by
 rw[zx,List.all_map,List.all_eq_true];intro x _;cases n<;>rfl
def Mn(o o')(l m:List Int):ki (.lst o<|l.map D.int) (.lst o'<|m.map D.int)\(.bl<|decide<|l=m):=by
 show(bif du 20 (.lst o<|l.map D.int)&&du 20 (.lst o'<|m.map D.int) then some (D.bl<|f0 (l.map D.int)<|m.map D.int) else none)=_;rw[wR];show(bif YF 19 (l.map D.int)&&YF 19 (m.map D.int) then _ else _)=_;rw[xf,xf];rfl
def Mo{c}{m}{ns:List Int}(h:m [.lst false<|ns.map D.int]\(.bl true))(d:fL K H a<|ns.map V.int):dX #v[K,c] m 1 [.ref a] H (λv _=>v=.bl true) E:=by
 refine#v[λb=>b=a/\H a≠none,[.lst false<|ns.map D.int],.bl true,λb e=>by rw[e.1];exact e.2,rfl,.one ?_,h,λg r=>r.bl_of.1];have f:∀(l:List Int),a_ #v[K,c] (λb=>b=a/\H a≠none) H (l.map D.int) (l.map V.int) []:=by
  intro l
  induction l with
  | nil=>exact .empty
  | cons x l i=>exact .cons .int_mk i
 refine#v[a,ns.map V.int,[],rfl,f ns,#v[?_,rfl,rfl]];rcases d with d | d
 ·refine .inl #v[#v[rfl,?_],d];rcases d with d | ⟨o,d⟩<;>rw[d]<;>exact λz=>(nomatch z)
 ·exact .inr d
end QD
namespace QD
open PySem L2 PySem.Spec PyProof.Rows
section
variable {R:RC}{Z:Zn}{H:Hp}
def mN(a b:List Nat):Int:=Txt.find (S a)<|S b
end
section
variable {cl:Nat->Addr}{X:Cx}{o e:Expr}{es:List Expr}{to:TE}{po:PF}{tr:TA}{pr:cR}{name:Str}{apos cpos:Pos}{T id:String}{r:V->List V->Hp->VK->Prop}{g:D->List D->Option D}
def Mp(pa:PlainAttrs T)(slot:Slot T name id)(i:typeOf (.builtin id)=pure (.type "method_descriptor"))(q:qO X id r)(t:BM #v[X.K,cl] T r g)(m:QB cl X o to po)(n:eD cl X (e::es) tr pr)
  (b:attributeBase o name X.env (eval o X.env)=eval o X.env:=by rfl)
  (f:((backTo cpos<|starEach (e::es) X.env).all (λx=>!x.1)&&(backToKw cpos<|keywordEach [] X.env).all (λx=>x.1.isSome)
   && decide (-(e::es)+-([]:List Keyword)+(if([]:List Keyword).isEmpty then 0 else 1)<30))=true:=by rfl)
  (c:(apos.endLine==cpos.line)=true:=by rfl) (u:dS X e es:=by rfl) (a:eh X cpos es:=by rfl):
  QP cl X (.Call (.Attribute o name apos) (e::es) [] cpos) (gR X.K T r to tr) (sE T g po pr):=
 ⟨mh pa slot i q m.sem n.sem b f c u a,(by
   intro U W Z H O d z s e Q k;exact ob e λx w e=>oc e λj e=>ob e λC e2 e=>(m.den z s w λ{v D E F} h p=>#v[(by
     unfold sD at j;split at j
     ·let[rfl,_]:=p.str_of;rfl
     ·cases j),(n.den h.wf.zd (h.slots z s) e2 λ{vs G I J} l y=>(t l.wf.zd (l.rep h.wf.zd p) y e λA B=>k ((h.pair l).pair A) B))]))⟩
end
@[simp] def oM(w):sD "str" (.str w)=true:=rfl
end QD
namespace QK
open PySem L2 QD PySem.Spec PyProof.Rows
section
variable {cl:Nat->Addr}{pm:List Nat}{X:Cx}{a b c e o:Expr}{es:List Expr}{ta tb tc te to:TE}{pa pb pc pe po:PF}{tr:TA}{pr:cR}{pos:Pos}{K:W4}
variable {tg iter elt:Expr}{ifs:List Expr}{wi:TI}{pi:cR}{t:TG}{g:D->Rh->Option Rh}
def Mq(c:X.K=K)(d:QB cl X a ta pa)(e:QB cl X b tb pb):QP cl X (.BinOp a .Add b pos) (de (ol K) ta tb) (p2 jr pa pb):=by subst c;exact BI d e
def ix(c:X.K=K)(d:QB cl X a ta pa)(e:QB cl X b tb pb)(f:VH b:=by exact λ_ _=>rfl):QB cl X (.Subscript a b pos) (de (fg K) ta tb) (p2 jd pa pb):=by subst c;exact BJ d e f
def call{k n}{ps}{m}{x}{st}{p}(c:X.K=K)(O:lj X.prog X.w X.K X.mg x st k ps<|dX #v[X.K,cl] m n)(d:ca k X.A)
  (f:eD cl X (e::es) tr pr) (hn:-(e::es)=n:=by rfl) (g:Gl X x:=by rfl) (a:Nd x:=by decide)
  (h:dS X e es:=by rfl) (b:eh X pos es:=by rfl):QP cl X (.Call (.Name x p) (e::es) [] pos) (nI (dX #v[K,cl] m n) [] E0 tr) (jC m pr):=by
 subst c;exact BL O d f hn g a h b
theorem len(b:X.K=K)(c:X.mg "len" = none){p}(d:eD cl X [e] tr pr)(f:Gl X "len":=by rfl)(g:starEach [e] X.env=(false,eval e X.env)::starEach [] X.env:=by rfl)(a:(backTo pos<|starEach [] X.env).any (·.1)=false:=by rfl):
  QP cl X (.Call (.Name "len" p) [e] [] pos) (gh (λxs H Q=>∃ x n,xs=[x]/\nD K x H n/\Q (.int n) H) tr) (bW kF pr):=by subst b;exact BN c d f g a
theorem dG(a:X.K=K)(c:behindInMarks .NotIn b=false):dJ cl X .NotIn b (oq K true) (Vh true):=by subst a;exact QD.dG c
theorem hU{k}(a:X.K=K)(c:ca k X.A):dJ cl X .Eq b (λx y H Q=>nA x y H Q\/sB #v[K,cl] false x y H Q) ki:=by subst a;exact QD.hU c
def mO{ts}{b}{k n}(c:X.K=K)(d:X.calm=true)(h:lh cl pm X es ts b)(hn:-(assignEach es X.env)=n:=by rfl)(a:(assignEach es X.env).findIdx? (·.1)=none:=by rfl):QG cl pm X (.Tuple es k pos) (iP K n ts) (gT n b):=by subst c;exact BP d h hn a
end
end QK
namespace QD
open PySem L2 PySem.Spec PyProof.Rows
@[simp] def sQ(i:Nat)(p:cR)(s:Rh):Option (D×Rh):=(pV i s).bind λd=>(p s).bind λds=>bif cb (-ds+1) then some (.tup<|d::ds,s.set i none) else none
def Mr(x:gS R ta p):DE R (gf<|ve (vw i) ta) (sQ i p):=by
 intro U W J Z H O d w h e Q k;refine ob e λc l e=>ob e λK y e=>oc e λC e=>?_;cases e;have l:=KI l;let[A,P,B,rfl,D,L,E]:=h.put (L9.mp l).1;let[v,F,r]:=D c l;refine#v[v,F,x w.zd h y λ{vs G s I} n t=>#v[by rw[M1,t.length];exact J1 C,λq o=>?_]];have u:=n.widen w;have f:=u.wf.nd;have m:Go Z H (A++P++B) G s ((P++I)++(A++B)):=u.drop (λa q=>by simp at q ⊢;rcases q with q | q | q | q<;>simp[q]) (by
  simp only[U8,N1] at f ⊢;refine#v[#v[f.2.1.1.2.1,f.1,λa j b g e=>f.2.2 b g a (.inl<|.inr j) e.symm],#v[f.2.1.1.1,f.2.1.2.1,λa j b g=>f.2.1.2.2 a (.inl j) b g],λa j b g e=>?_];rcases j with j | j
  ·rcases g with g | g
   ·exact f.2.1.1.2.2 b g a j e.symm
   ·exact f.2.1.2.2 a (.inr j) b g e
  ·rcases g with g | g
   ·exact f.2.2 a j b (.inl<|.inl g) e
   ·exact f.2.2 a j b (.inr g) e)
 have ne:∀ a,s a≠none->a≠q:=λa h e=>h<|e▸o;have s1:=n.slots w.zd E;refine k (m.trans<|Go.newF m.wf o) (bS.tupNew m.wf.left o<|a_.cons (n.rep w.zd r) t)<|s1.frame (λa z=>.inl z) (λa z=>jh<|ne a<|m.wf.zd a z) λa j=>jh<|ne a<|s1.dom a j
def Ms{x1}(i)  (a:QB cl X (.Name x xpos) (vw i)<|pV i) (h:fO cl X es tr pr) (b:starEach (.Name x xpos::es) X.env=(false,eval (.Name x xpos) X.env)::starEach es X.env:=by rfl):
  QE cl X (.Tuple (.Name x xpos::es) x1 pos) (gf<|ve (vw i) tr) (sQ i pr):=#v[Y9<|yy a.sem h.sem b,Mr h.den]
section
variable {R:RC}{Z Z':Zn}{H H':Hp}{pm:List Nat}
def kZ:D->Option KA
 | .int i=>some<|.int i
 | .str s=>some<|.str s
 | _=>none
def vb(e:kZ d\k)(r:bS R Z H d v O):v=kV (bX k)/\O=[]:=by
 cases d with
 | int i=>cases e;symm at r;exact r
 | str s=>cases e;symm at r;exact r
 | _=>cases e
def zj(h:bX a=bX b):a=b:=by
 cases a<;>cases b<;>simp only[bX] at h
 ·cases h;rfl
 ·cases h
 ·cases h
 ·have:=Az<|Sum.inr.inj h;rw[this]
def Y6:List KA->List D->KA->Option D
 | k::ks,d::l,a=>if k=a then some d else Y6 ks l a
 | _,_,_=>none
def Y7{k ks}{x:D}{l a}:Y6 (k::ks) (x::l) a=if k=a then some x else Y6 ks l a:=rfl
def sR{l a}:Y6 [] l a=none:=rfl
def sS{k ks a}:Y6 (k::ks) [] a=none:=rfl
theorem qY:∀{ks}{l}{vs}{O}{a},a_ R Z H l vs O->-ks=-l ->
  (∀ d,Y6 ks l a\d->∃ v P,KL ((ks.map bX).zip vs) (bX a)\v/\bS R Z H d v P)/\(Y6 ks l a=none->KL ((ks.map bX).zip vs) (bX a)=none)
 | [],l,vs,O,a,r,c=>#v[λd e=>(by cases l<;>cases e),λ_=>rfl]
 | k::ks,[],vs,O,a,r,c=>by simp at c
 | k::ks,x::l,vs,O,a,r,c=>by
  let[v,b,f,m,rfl,rfl,g,i]:=r;by_cases e:k=a
  ·subst e;refine#v[λd h=>?_,λh=>?_]
   ·simp only[Y7,sR,sS,if_true] at h;cases h;exact#v[v,f,Yy rfl,g]
   ·simp[Y7,sR,sS] at h
  ·have j:=λz=>e<|zj z;have q:KL (((k::ks).map bX).zip (v::b)) (bX a)=KL ((ks.map bX).zip b) (bX a):=Yn j;rw[q];simp only[Y7,sR,sS,if_neg e];exact(qY (a:=a) i ⇑c)
def rQ.rd(h:rQ o H a kvs):Rd H a (.dK kvs):=by
 cases o with
 | true=>exact .inl h
 | false=>exact h
def cG.r(e:Rd H a<|.dK kvs):cG H a (kV k) (KL kvs k):=.inl #v[kvs,k,e,rfl,rfl]
def bS.dK_of(r:bS R Z H (.dK o ks l) v O):dL λa vs O'=>dY (v=.ref a) (Rd H a<|.dK<|(ks.map bX).zip vs) (a_ R Z H l vs O') (-ks=-l):=by
 let[a,vs,O',rfl,b,c,d,_]:=r;exact#v[a,vs,O',rfl,d.rd,b,c]
def jX:D->D->Option D
 | .dK _ ks l,y=>(kZ y).bind λk=>Y6 ks l k
 | _,_=>none
def Mt(f:PB R td pa)(g:PB R ty pb):PB R (AO td ty) (p2 jX pa pb):=by
 intro U W Z H O d z s e Q k;refine ob e λx h e=>ob e λy e2 e=>(f z s h λ{v A B C} b i=>(g b.wf.zd (b.slots z s) e2 λ{u D E F} c j=>?_));cases x with
 | dK o G l=>
  refine ob e λa e3 e=>?_;let[p,vs,I,rfl,m,n,q]:=(c.rep b.wf.zd i).dK_of;let[rfl,_]:=vb e3 j;let[w,P,t,rw]:=(qY n q).1 d e;exact#v[p,w,rfl,t▸cG.r m,k (b.pair c) rw]
 | _=>cases e
def xy(x y z:D):Option D:=match x with
 | .dK _ ks l=>(kZ y).bind λk=>some<|(Y6 ks l k).getD z
 | _=>none
@[simp] def p3(g:D->D->D->Option D)(pa:PF)(pb:PF)(pc:PF)(s:Rh):Option D:=(pa s).bind λx=>(pb s).bind λy=>(pc s).bind λz=>g x y z
def Ko(neg:Bool)(y x:D):Option D:=match x with
 | .dK _ ks l=>(kZ y).bind λk=>some<|.bl<|neg != (Y6 ks l k).isSome
 | _=>none
def Mu{td ty}{pa pb}{neg}(i:PB R ty pa)(j:PB R td pb){U}{W}{Z}{H}{O}{d}(z:Zd Z H)(s:Slots R Z H W U O)(e:p2 (Ko neg) pa pb W\d)
  {Q:VK}(k:∀{v}{Z'}{H'}{P},Go Z H [] Z' H' P->bS R Z' H' d v P->Q v H'):ty U H λy H1=>td U H1 λx H2=>∃ a o,x=.ref a/\cG H2 a y o/\Q (.bl<|neg != o.isSome) H2:=by
 refine ob e λy m e=>ob e λx e2 e=>(i z s m λ{v C H1 D} b n=>(j b.wf.zd (b.slots z s) e2 λ{u E H2 F} c q=>?_));cases x with
 | dK o t l=>
  refine ob e λa e3 e=>?_;cases e;let[p,vs,G,rfl,f,g,h]:=q.dK_of;let[rfl,_]:=vb e3 n;cases ev:Y6 t l a with
  | none=>
   refine#v[p,none,rfl,(qY g h).2 ev▸cG.r f,k (b.pair c) ?_];rw[ev];exact .bl_mk
  | some d=>
   let[w,P,A,B]:=(qY g h).1 d ev;refine#v[p,some w,rfl,A▸cG.r f,k (b.pair c) ?_];rw[ev];exact .bl_mk
 | _=>cases e
def h5:List KA->List D->KA->D->List D
 | k::ks,x::l,a,d=>(if k=a then d else x)::h5 ks l a d
 | _,_,_,_=>[]
def Qo{k ks}{x:D}{l a d}:h5 (k::ks) (x::l) a d=(if k=a then d else x)::h5 ks l a d:=rfl
theorem BY:∀{ks}{l} a d,-ks=-l->-(h5 ks l a d)=-l
 | [],[],_,_,_=>rfl
 | [],_::_,_,_,h=>by simp at h
 | _::_,[],_,_,h=>by simp at h
 | k::ks,x::l,a,d,h=>by rw[Qo,M1,M1,BY a d ⇑h]
theorem BZ(rd:bS R Z H d v [])(a):∀{ks}{l}{vs}{O},a_ R Z H l vs O->-ks=-l ->
  eB λvs2 O2=>cM (a_ R Z H (h5 ks l a d) vs2 O2) ((ks.map bX).zip vs2=((ks.map bX).zip vs).map (λkv=>if kv.1=bX a then(kv.1,v) else kv))<|O2.Sublist O
 | [],[],vs,O,r,b=>by
  let[rfl,rfl]:=r;exact#v[[],[],.empty,rfl,.slnil]
 | [],_::_,_,_,_,h=>by simp at h
 | _::_,[],_,_,_,h=>by simp at h
 | k::ks,x::l,vs,O,r,b=>by
  let[w,j,m,O2,rfl,rfl,n,o]:=r;let[c,f,g,e3,i]:=BZ rd a o ⇑b;by_cases e:k=a
  ·subst e;refine#v[v::c,[]++f,?_,?_,(i.trans<|List.sublist_append_right _ _)]
   ·rw[Qo,if_pos rfl];exact a_.cons rd g
   ·simp only[L5,U6,if_true,e3]
  ·have p:=λz=>e<|zj z;refine#v[w::c,m++f,?_,?_,(List.Sublist.append (List.Sublist.refl _) i)]
   ·rw[Qo,if_neg e];exact a_.cons n g
   ·simp only[L5,U6,if_neg p,e3]
theorem uG(a):∀{ks:List KA}{vs:List V},-ks=-vs->(((ks.map bX).zip vs).any λkv=>decide<|kv.1=bX a)=decide (a∈ks)
 | [],vs,_=>by simp
 | k::ks,[],h=>by simp at h
 | k::ks,v::vs,h=>by
  rw[L5,U6,List.any_cons,uG a ⇑h];by_cases e:k=a
  ·subst e;simp
  ·have b:¬ (bX k=bX a):=λz=>e<|zj z;have e2:¬ (a=k):=λz=>e z.symm;simp[b,e2]
def qp(ks:List KA)(l:List D)(a:KA)(d:D):List KA×List D:=if a∈ks then(ks,h5 ks l a d) else(ks++[a],l++[d])
def Vz(rd:bS R Z H d v [])(a)  (r:a_ R Z H l vs O) (b:-ks=-l):
  eB λvs2 O2=>dY (a_ R Z H (qp ks l a d).2 vs2 O2) ((((qp ks l a d).1).map bX).zip vs2=Jj ((ks.map bX).zip vs) (bX a) v) (O2.Sublist O) ((qp ks l a d).1.length=(qp ks l a d).2.length):=by
 have c:-ks=-vs:=by rw[r.length];exact b
 unfold qp Jj;rw[uG a c];by_cases e:a∈ks
 ·rw[if_pos e,X0 e,if_pos rfl];let[f,P,g,e2,h]:=BZ rd a r b;exact#v[f,P,g,e2,h,by rw[BY a d b];exact b]
 ·rw[if_neg e,X1 e,if_neg<|λz=>(nomatch z)];refine#v[vs++[v],O++[],r.append<|a_.one rd,?_,by simp,by simp[b]];rw[N4,List.zip_append ⇑c];rfl
@[simp] def sT(i:Nat)(pk:PF)(pv:PF)(s:Rh):Option cq:=(pv s).bind λd=>(pV i s).bind λx=>(fZ x).bind λp=>(pk s).bind λy=>(kZ y).bind λa=>bif frz d&&cb (-p.1) then some (.nx<|s.set i<|some<|.dK true (qp p.1 p.2 a d).1 (qp p.1 p.2 a d).2) else none
def Kk{ks:List s}{vs:List V}{f:s->u}(h:cb (-ks)=true):-((ks.map f).zip vs)<sizeLine:=by rw[List.length_zip,L1];exact X8 (Nat.min_le_left _ _)<|xj h
end
def Mv:QP cl X (.Dict [] [] pos) GQ (pC<|.dK true [] []):=#v[(λa s u H Q I h=>
  wpAny_Dict_empty #v[.ref ↥s,_,I.laid (λ_ _ q=>L8 _ q) (M8 _)<|AQ s.heap I.big,rfl,h _<|I.hok.fresh<|M8 _]),(by
    intro u w Z H O d z s e Q k;cases e;intro p b;exact k (Go.newO (cZ z) b) #v[p,[],[],rfl,.empty,rfl,js,rfl])]
def Mw(n:ca k X.A)(l:QB cl X a ta pa)(m:QB cl X b tb pb)(o:AN b:=by exact λ_ _=>rfl):QB cl X (.Subscript a b pos) (AO ta tb) (p2 jX pa pb):=#v[(by
  intro c s U H Q I h;refine GO PySem.F.slot_dict_getitem.lookup o<|thn (l.sem c s U H _ I h) λu s1 ⟨x,p,q,r,t⟩=>thn (m.sem c s1 U p _ q t) λE G w=>?_;let[y,z,d,B,a,v,ex,g,C]:=w;subst ex;obtain rfl:u=Value.ref a:=r;exact#v[(by
    rcases g with⟨f,k,e,_,_⟩ | ⟨f,k,b,e,_,_,_⟩
    ·let[_,_,vs,_,i]:=uq d.hok e;exact i.typeIs
    ·let[_,_,J,_,i]:=kM d.hok e;exact i.typeIs),xR (VJ n) d g B λK L D j=>#v[v,z,D,j,C]]),Mt l.den m.den]
def Mx(F:ca k X.A)(B:QB cl X o to po)(C:QB cl X e te pe)(D:QB cl X f tf pf)(m:M2 X o "get" apos e f cpos:=by exact#v[rfl,rfl,rfl,rfl]):
  QB cl X (.Call (.Attribute o "get" apos) [e,f] [] cpos) (rC to te tf) (p3 xy po pe pf):=#v[AS (VJ F) B.sem C.sem D.sem m,(by
    intro σ ρ Z H O d z s e Q k;refine ob e λx G e=>ob e λy e2 e=>ob e λc I e=>?_;cases x with
    | dK o J l=>
     refine ob e λa e3 e=>?_;cases e;refine B.den z s G λ{v U V W} j E=>?_;let[p,vs,Y,rfl,K,rs,hl]:=E.dK_of;refine#v[p,rfl,.inl #v[_,K],(C.den j.wf.zd (j.slots z s) e2 λ{u Z2 H2 P2} n L=>?_)];have b:=j.pair n;refine D.den n.wf.zd (b.slots z s) I λ{t Z3 H3 P3} q M=>?_;let[p',N,R,S,g,h,i,_]:=((n.pair q).rep j.wf.zd E);cases S;let[rfl,_]:=vb e3 L;cases ev:Y6 J l a with
     | none=>exact#v[none,(qY g h).2 ev▸cG.r i.rd,k (b.pair q)<|by rw[ev];exact M]
     | some d=>
      let[w,P,T,rw]:=(qY g h).1 d ev;exact#v[some w,T▸cG.r i.rd,k (b.pair q)<|by rw[ev];exact rw]
    | _=>cases e)]
def My(z:ca k X.A)(B:QB cl X (.Name x xpos) (vw i)<|pV i)(p:QB cl X b tb pb)(q:QB cl X e te pe)(C:swapsWith e (some<|.Subscript (.Name x xpos) b pos') pos.line X.env=pure false:=by rfl):
  QS cl pm X (.Assign [.Subscript (.Name x xpos) b pos'] e pos) (mj (vw i) tb te) (sT i pb pe):=#v[uD (VJ z) B.sem p.sem q.sem C,(by
    intro σ ρ Z H O o w s e Q k;refine ob e λd D e=>ob e λx E e=>ob e λ⟨R,l⟩ h e=>ob e λy e2 e=>ob e λc e3 e=>oc e λj e=>?_;cases e;cases uJ h;rw[M0] at j;refine q.den w.zd s D λ{u S T U} f r=>?_;cases r.nil j.1;have s1:=f.slots w.zd s;have v:=f.widen w;refine JE J4 v.wf s1 E rfl lb λa _ vs V F m G I put=>I<|p.den f.wf.zd s1 e2 λ{t W Y P2} g J=>?_;let[rfl,_]:=vb e3 J;let[K,O2,L,h,M,n]:=Vz (g.rep f.wf.zd r) c (g.reps f.wf.zd F) m;let[O3,N,P]:=put lb n g L ⇑M.count_le;refine#v[a,_,rfl,cW.k (g.at0 G)<|Kk j.2,?_];rw[<- h];exact k (v.trans N) P<|cf.refl _ _)]
@[simp] def lC(i):kZ (.int i)\(.int i):=rfl
@[simp] def Mz(s):kZ (.str s)\(.str s):=rfl
@[simp] def oO(o)(ks)(l)(y):jX (.dK o ks l) y=(kZ y).bind λk=>Y6 ks l k:=rfl
@[simp] def MA(o)(ks)(l)(y z):xy (.dK o ks l) y z=(kZ y).bind λk=>some ((Y6 ks l k).getD z):=rfl
@[simp] def oP(neg o)(ks)(l)(y):Ko neg y (.dK o ks l)=(kZ y).bind λk=>some (.bl<|neg != (Y6 ks l k).isSome):=rfl
def Yp:List D->Option (List<|KA×D)
 | []=>some []
 | x::l=>(mm x).bind λt=>(two1 t).bind λp=>(kZ p.1).bind λa=>(Yp l).bind λr=>some<|(a,p.2)::r
def Jz(ps:List<|KA×D):List KA×List D:=ps.foldl (λacc kv=>qp acc.1 acc.2 kv.1 kv.2) ([],[])
def vB(l:List D):Option D:=(fN l).bind λx=>(gk x).bind λl=>(Yp l).bind λps=>bif frzs (ps.map (·.2))&&cb (-ps) then some (.dK true (Jz ps).1 (Jz ps).2) else none
def Qs:∀{l}{ps}{ys}{O},Yp l\ps->a_ R Z H l ys O->frzs (ps.map (·.2))=true ->
  ∃(ws:List V),cM (a_ R Z H (ps.map (·.2)) ws []) (-ys=-ps) (∀(j:Nat) y,ys[j]?\y->∃ kv t,((ps.map λp=>bX p.1).zip ws)[j]?\kv/\y=.ref t/\cK R.K H t [kV kv.1,kv.2]):=by
 intro l
 induction l with
 | nil=>
  intro ps ys O e r b;cases e;let[rfl,rfl]:=r;exact#v[[],.empty,rfl,λj y c=>by simp at c]
 | cons d l h=>
  intro ps ys O e r b;refine ob e λt i m=>ob m λq n o=>?_;let[k,v]:=q;cases QY i;cases two1_of n
  ·refine ob o λa s x=>ob x λz e2 A=>?_;cases A;let[L,B,M,N,rfl,rfl,C,D]:=r;rw[L5,kO,M0] at b;let[ws,f,E,q]:=h e2 D b.2;let[t,vs,rfl,F,G]:=C;obtain⟨u,w,P,Q,rfl,-,I,g⟩:=G.two_of;let[rfl,_]:=vb s I;have J:=g.nil b.1;subst J;refine#v[w::ws,a_.cons g f,by simp[E],λj y c=>?_];cases j with
   | zero=>
    cases c;exact#v[(bX a,w),t,rfl,rfl,F.sq]
   | succ j=>exact q j y ⇑c
def V4:∀{ps:List (KA×D)}{ws}{ks}{l}{us},a_ R Z H (ps.map (·.2)) ws []->a_ R Z H l us []->-ks=-l ->
  ∃ us',cM (a_ R Z H (ps.foldl (λacc kv=>qp acc.1 acc.2 kv.1 kv.2) (ks,l)).2 us' []) ((((ps.foldl (λacc kv=>qp acc.1 acc.2 kv.1 kv.2) (ks,l)).1).map bX).zip us'=(((ps.map λp=>bX p.1).zip ws).foldl (λa kv=>Jj a kv.1 kv.2) ((ks.map bX).zip us))) ((ps.foldl (λacc kv=>qp acc.1 acc.2 kv.1 kv.2) (ks,l)).1.length=(ps.foldl (λacc kv=>qp acc.1 acc.2 kv.1 kv.2) (ks,l)).2.length):=by
 intro ps
 induction ps with
 | nil=>
  intro ws ks l us b r c;exact#v[us,r,by simp,c]
 | cons p ps g=>
  intro ws ks l us b r c;let[w,h,s,t,rfl,e,i,j]:=b;let[rfl,rfl]:=List.append_eq_nil_iff.mp e.symm;let[k,u,m,e3,n,d]:=Vz i p.1 r c;have:=List.sublist_nil.mp n;subst this;let[us',o,q,f]:=g j m d;refine#v[us',o,?_,f];rw[L5,U6,U9,U9,q,e3]
def MB:BC R (λxs H Q=>∃(p:Addr) (ys:List V) (ps:List<|cS×V),xs=[.ref p]/\cD R.K H p ys/\ -ys=-ps/\ -ps<=100000 /\
  (∀(j:Nat) y,ys[j]?\y->∃ kv t,ps[j]?\kv/\y=.ref t/\cK R.K H t [kV kv.1,kv.2])/\∀ D,H D=none->Q (.ref D) (bU H D<|.dK<|ps.foldl (λa kv=>Jj a kv.1 kv.2) [])) vB:=by
 intro Z H xs d vs O z r e Q k;refine ob e λx s u=>ob u λl w A=>?_;let[o,rfl]:=Jf w;rw[kP s] at r
 ·refine ob A λps B C=>oc C λf E=>?_;cases E;rw[M0] at f;let[v,rfl,F]:=r.one_of;let[p,ys,M,rfl,hx,G]:=F.lst_of;let[m,b,I,q]:=Qs B G f.1;let[g,J,L,i]:=V4 (ks:=[]) b .empty rfl;have c:-m=-ps:=by rw[b.length];simp
  refine#v[p,ys,(ps.map λp=>bX p.1).zip m,rfl,hx.sq,by simp[I,c],by simp[c];exact X2 f.2,q,λD n=>?_];refine k (Go.newO (cZ z) n) ?_;have ne:∀ a,H a≠none->a≠D:=λa h e=>h<|e▸n;exact#v[D,g,[],rfl,J.frame (λa z=>z) (λa h=>jh<|ne a<|z a h)<|λa h=>(nomatch h),i,by show bU H D _ D\_;rw[js];exact congrArg (λx=>some<|HO.dK x) L.symm,rfl]
@[simp] def MC(o)(l):vB [.lst o l]=(Yp l).bind λps=>bif frzs (ps.map (·.2))&&cb (-ps) then some (.dK true (Jz ps).1 (Jz ps).2) else none:=rfl
def sU(h:dU l.length j\i)(k:l[i]?\x):L2.atI l j\x:=by
 unfold L2.atI;rw[h];exact k
def Go.frz1(w:WF Z H<|a::O):Go Z H (a::O) (λb=>Z b\/b=a) H O:=by
 have nd:=List.nodup_cons.mp w.nd;refine#v[#v[nd.2,λb c z=>?_,λb c=>w.od b<|L6 _ c,λb z=>?_],λb z=>.inl z,λ_ _ _=>rfl,λb z=>?_,λb c=>.inl<|L6 _ c,λ_ h=>h]
 ·rcases z with z | rfl
  ·exact w.nz b (L6 _ c) z
  ·exact nd.1 c
 ·rcases z with z | rfl
  ·exact w.zd b z
  ·exact w.od b L7
 ·rcases z with z | rfl
  ·exact .inl z
  ·exact .inr<|.inl L7
structure lD(cl:Nat->Addr)(X:Cx)(es:List Expr)(ta:TA)(f:FA):Prop where
 sem:PA X es ta
 den:DA #v[X.K,cl] ta f
def MD:lD cl X [] Qp iV:=#v[Ji,(by
  intro s u a Z H O d w h e Q k;cases e;exact k (Go.refl w) a_.empty h)]
def ME(h1:QE cl X e te fE)(h2:lD cl X es tr fr)(m:dS X e es:=by rfl):lD cl X (e::es) (ve te tr) (Jc fE fr):=#v[yy h1.sem h2.sem m,(by
  intro U W B Z H O d w h e Q k;refine ob e λp n e=>?_;let[x,C]:=p;refine ob e λp e2 e=>?_;let[D,E]:=p;cases e;refine h1.den w h n λ{v f g i o} b q s1=>(h2.den b.wf.right s1 e2 λ{F l j r s} c t u=>?_);let[y,zz,z,A]:=(show Go Z H O l j (i++(r++s))/\(∀ a,f a->l a)/\(∀ a,f a->j a=g a)/\∀ a∈i,j a=g a from by 
    have w:WF f g (i++o++[]):=by simpa using b.wf
    refine#v[b.trans<|by simpa using(c.frame w),c.zz,(c.zH b.wf.right),(Go.keepA w c).1])
  exact k ⇑y (.cons (q.frame zz z A) t) u)]
def MF{x1}(h:lD cl X es tr fr):QE cl X (.Tuple es x1 pos) (gf tr) (iB fr):=#v[Y9 h.sem,(by
  refine Bk ?_ h.den;intro Z H c d vs O w r e Q k;dsimp only at e;by_cases a:-c<=1000
  ·rw[X0 a,cond_true] at e;cases e;exact#v[by rw[r.length];exact(Nat.le_of_lt<|Gp a),λp b=>k (Go.newF w b)<|bS.tupNew w b r]
  ·lia)]
@[simp] def sV:iB fa s=(fa s).bind λx=>bif decide (-x.1<=1000) then some (.tup x.1,x.2) else none:=by
 unfold iB iA;cases fa s with
 | none=>rfl
 | some x=>
  let[d,r]:=x;dsimp only[Option.bind];cases decide (-d<=1000)<;>rfl
section
variable {R:RC}{Z Z':Zn}{H H':Hp}{pm:List Nat}
@[simp] def B5(i:Nat)(pk:PF)(g:Int->Int->Int)(pv:PF)(s:Rh):Option cq:=(pk s).bind λy=>(kZ y).bind λc=>(pV i s).bind λx=>(fZ x).bind λkl=>(Y6 kl.1 kl.2 c).bind λm=>(kn m).bind λm=>(pv s).bind λn=>(kn n).bind λn=>
  bif cb (-kl.1) then some (.nx<|s.set i<|some<|.dK true (qp kl.1 kl.2 c<|.int<|g m n).1 (qp kl.1 kl.2 c<|.int<|g m n).2) else none
def ku(i:Nat)(L:Ln)(pk:PF)(g:Int->Int->Int)(pv:PF)(s:Rh):Option cq:=(pk s).bind λy=>(kZ y).bind λc=>(pV i s).bind λt=>(L t).bind λy=>(fZ y.1).bind λkl=>(Y6 kl.1 kl.2 c).bind λm=>(kn m).bind λm=>(pv s).bind λn=>(kn n).bind λn=>
  bif cb (-kl.1) then some (.nx<|s.set i<|some<|y.2<|.dK true (qp kl.1 kl.2 c<|.int<|g m n).1 (qp kl.1 kl.2 c<|.int<|g m n).2) else none
def zZ{i}{L}{tb ty tv}{pk pv}{g}{rd}(j:∀{m n}{H}{Q},Q (.int<|g m n) H->rd (.int m) (.int n) H Q)(C:k_ R tb i L)(D:PB R ty pk)(E:PB R tv pv):DS R pm (kR tb ty tv rd) (ku i L pk g pv):=by
 intro σ ρ Z H O o w s e Y k;refine ob e λq F e=>ob e λc e5 e=>ob e λt hi e=>ob e λ⟨y,k0⟩ e3 e=>ob e λ⟨ks,l⟩ G e=>ob e λx I e=>ob e λm J e=>ob e λx' K e=>ob e λn e2 e=>oc e λd e=>?_;cases e;cases uJ G;cases jZ J;cases jZ e2;refine JE (P0:=[]) C w s hi e3 lb λa _ vs O' A f B M put=>M<|D w.zd s F λ{z Z1 H1 P1} h N=>?_;let[rfl,_]:=vb e5 N;let[mv,P3,p,r]:=(qY A f).1 _ I;let[rfl,_]:=r.int_of;refine#v[a,.int m,rfl,by rw[<- p];exact cG.k<|h.at0 B,E h.wf.zd (h.slots w.zd s) K λ{u Z2 H2 P4} P S=>?_];let[rfl,_]:=S.int_of;have b:=h.trans P;let[T,O2,U,e7,V,v]:=Vz (bS.int_mk) c (b.reps w.zd A) f;let[O3,W,X]:=put lb v b U ⇑V.count_le;refine j #v[_,cW.k (b.at0 B)<|Kk d,?_];rw[<- e7];exact k W X<|cf.refl _ _
def eQ:KA->D
 | .int i=>.int i
 | .str s=>.str s
@[simp] def vp(pd:PF)(s:Rh):Option D:=(pd s).bind λd=>(rS d).bind λk=>bif frzs k.2 then some (.lst true<|(k.1.zip k.2).map λp=>.tup [eQ p.1,p.2]) else none
def zw(a):bS R Z H (eQ a) (kV<|bX a) []:=by
 cases a with
 | int i=>exact .int_mk
 | str s=>exact .str_mk
def MG(h:PB R td pd):PP R (AX td) (vp pd):=by
 intro σ ρ Z H O d z s e Q k;refine ob e λx e1 e=>ob e λ⟨y,l⟩ e2 e=>oc e λhf e=>?_;cases e;let[o,rfl]:=HW e2;refine h z s e1 λ{v F A P} g r=>?_;let[a,vs,O',rfl,rs,G,ea,f]:=r;refine#v[a,_,rfl,(by cases o with | true=>exact .inl ea | false=>exact ea),λt m N D S has=>?_];have n:=List.nodup_cons.mp S;have M:∀ b,A b≠none->yr A m ((y.map bX).zip vs) t b=A b:=λb f=>by
  unfold yr;rw[if_neg λq=>f<|by rw[q];exact N,Jg λq=>f<|has b q]
 have zd:=g.wf.zd;have I:∀ b∈m,yr A m ((y.map bX).zip vs) t b≠none:=λb f=>by
  let[j,hj]:=List.mem_iff_getElem?.mp f;have T:j< -((y.map bX).zip vs):=by rw[<- D];exact(L9.mp hj).1
  unfold yr;rw[if_neg<|show ¬ b=t from λq=>n.1<|q▸f,QR n.2 hj<|X5 T];exact λz=>nomatch z
 have J:yr A m ((y.map bX).zip vs) t t\(.lst<|m.map V.ref):=by unfold yr;rw[if_pos rfl]
 have g2:Go F A [] (λb=>F b\/b∈m) (yr A m ((y.map bX).zip vs) t) [t]:=by
  refine#v[#v[by simp,λb f q=>?_,λb f=>?_,λb q=>?_],λb q=>.inl q,λb f _=>M b f,λb q=>?_,λb f=>?_,λb f=>?_]
  ·rw[M7.mp f] at q;rcases q with q | q
   ·exact zd _ q N
   ·exact n.1 q
  ·rw[M7.mp f,J];exact λz=>nomatch z
  ·rcases q with q | q
   ·rw[M b<|zd b q];exact zd b q
   ·exact I b q
  ·rcases q with q | q
   ·exact .inl q
   ·exact .inr<|.inr<|has b q
  ·rw[M7.mp f];exact .inr N
  ·rw[M b f];exact f
 refine k (g.trans g2) #v[t,m.map V.ref,[],rfl,?_,J,rfl];have U:a_ R (λb=>F b\/b∈m) (yr A m ((y.map bX).zip vs) t) l vs []:=(rs.frozen hf).frame (λb q=>.inl q) (λb q=>M b<|zd b q) (λb f=>nomatch f);have key:∀(w:W5) (i:List KA) E B,a_ R (λb=>F b\/b∈m) (yr A m ((y.map bX).zip vs) t) E B []->-i=-E->-w=-i ->
   (∀(j:Nat) b c u,w[j]?\b->i[j]?\c->B[j]?\u->b∈m/\yr A m ((y.map bX).zip vs) t b\(.tup [kV<|bX c,u])) ->
   a_ R (λb=>F b\/b∈m) (yr A m ((y.map bX).zip vs) t) ((i.zip E).map λp=>.tup [eQ p.1,p.2]) (w.map V.ref) []:=by
  intro w
  induction w with
  | nil=>
   intro i E B _ W C _;have:=List.length_eq_zero_iff.mp C.symm;subst this;exact .empty
  | cons b w ih=>
   intro i E B rr W C hp;cases i with
   | nil=>simp at C
   | cons c i=>
    cases E with
    | nil=>simp at W
    | cons d E=>
     let[u,K,O1,O2,rfl,eO,r1,r2]:=rr;let[rfl,rfl]:=List.append_eq_nil_iff.mp eO.symm;let[f,eb]:=hp 0 b c u rfl rfl rfl;exact a_.cons (O:=[]) #v[b,[kV<|bX c,u],rfl,.inl #v[.inr f,.inl eb],a_.cons (zw c)<|.one r1]<|ih i E K r2 ⇑W ⇑C λj b' c' u' L X Y=>hp (j+1) b' c' u' ⇑L ⇑X ⇑Y
 refine key m y l vs U G (by rw[D,List.length_zip,L1,rs.length,G];simp) λj b c u L X Y=>#v[List.mem_of_getElem? L,?_];have hz:((y.map bX).zip vs)[j]?\(bX c,u):=by
  rw[List.getElem?_zip_eq_some];exact#v[by rw[List.getElem?_map,X];rfl,Y]
 unfold yr;rw[if_neg<|show ¬ b=t from λq=>n.1<|q▸List.mem_of_getElem? L,QR n.2 L hz]
end
section
variable {cl:Nat->Addr}{pm:List Nat}{X:Cx}{a b e o tg iter:Expr}{body:List Stmt}{ta tb te to:TE}{pa pb pe po:PF}{pos:Pos}{k:Nat}{t:TG}{g:D->Rh->Option Rh}{fE:FE}{ts:TS}{f:FS}
def MH{i}{x}{a tpos}(f:ca k X.A)(g:QB cl X (.Name x a) (vw i)<|pV i)(c:QB cl X b tb pb)(d:QB cl X e te pe)
  (h:∀ ov iv new,augStore b ov iv new=(do holding [new,ov,iv] (setItem ov iv new);release [new,ov,iv] [];pure .next):=by intros;rfl):
  QS cl pm X (.AugAssign (.Subscript (.Name x a) b tpos) .Sub e pos) (kR (vw i) tb te md) (B5 i pb (λm n=>m-n) pe):=#v[Q7 (VJ f) g.sem c.sem d.sem nH h,(zZ (λq=>#v[_,_,rfl,rfl,q]) J4 c.den d.den)]
def MI(V:X.calm=true)(Y:X.mg "list" = none)(N:QB cl X o to po)(Z:Gl X "list":=by rfl)
  (m:attributeBase o "items" X.env (eval o X.env)=eval o X.env:=by rfl) (n:(apos.endLine==cpos.line)=true:=by rfl)
  (he:starEach [.Call (.Attribute o "items" apos) [] [] cpos] X.env=(false,eval (.Call (.Attribute o "items" apos) [] [] cpos) X.env)::starEach [] X.env:=by rfl)
  (G:(backTo pos<|starEach [] X.env).any (·.1)=false:=by rfl)
  (hbt:backTo pos (starEach [.Call (.Attribute o "items" apos) [] [] cpos] X.env)=[(false,eval (.Call (.Attribute o "items" apos) [] [] cpos) X.env)]:=by rfl):
  QP cl X (.Call (.Name "list" p) [.Call (.Attribute o "items" apos) [] [] cpos] [] pos) (AX to) (vp po):=#v[(by
    intro C s σ H Q I h;refine wpAny_Call_Name_kw<|JF I Z Y Qq (PyProof.Rows.callWith_type1 (Calls.spliced_cons<|wpAny_Call_method0_late m n<|thn (N.sem C s σ H _ I h) λv s1 hh=>?_) he G) (by decide) (by decide);let[x,H1,i,J,a,r,ex,O,P]:=hh;subst ex;obtain rfl:v=Value.ref a:=J;let[R,hd,vs,K,L]:=uq i.hok O;let[t1,t2,_]:=rB i<|.inl #v[r,O];refine#v["dict","dict.items",PySem.F.plainAttrs_dict,PySem.F.slot_dict_items,PySem.F.type_dict_items,t1,t2,Calls.callWith_builtin rfl<|PySem.evalArgs_none<|call_meetsIn PySem.F.slot_dict_items L.typeIs PySem.F.entry_dict_items (PySem.F.args_dict_items_1 _) (meets_dict_items (yi X.prog X.w) a hd) #v[#v[vs,L],(Calls.spliced_nil ?_)]];let[ob,es,ep,d1,d2]:=L;have M:(s1.heap.push {cls:=.type "dict_items",data:=.fields #[.ref a]}).DictAt (yi X.prog X.w) a vs ep:=#v[ob,es,L8 _ d1,d2];refine PySem.W.kdx_call (i.ok.hd V) #v[_,X7 _ rfl,rfl,rfl] M (by rw[<- K.length];exact R) λh' tk acc c k hk S T D l=>?_;have f:(s1.heap.push ({cls:=.type "dict_items",data:=.fields #[.ref a]}:Obj)).objs.size=↥s1+1:=Heap.size_push _ _;have nd:=D.rise.imp N5;have t:-k=-r:=by rw[T,K.length]
    have g:∀ b∈k,↥s1<=b:=λb d=>by have q:=D.above b d;rw[f] at q;lia
    have E:=λb d=>Nat.ne_of_gt<|D.above b d;refine#v[.ref _,yr H1 k r (s1.heap.push ({cls:=.type "dict_items",data:=.fields #[.ref a]}:Obj)).objs.size,i.layAll (λb u e=>hk b u<|L8 _ e) (λb d=>?_)<|λb u d e=>?_,rfl,P _ k (i.hok.fresh<|by rw[f];lia) t (List.nodup_cons.mpr #v[λz=>E _ z rfl,nd]) λb d=>i.hok.fresh<|g b d]
    ·unfold yr;rw[if_neg<|λz=>d<|by rw[z];exact i.hok.fresh<|by rw[f];lia,Jg λz=>d<|i.hok.fresh<|g b z]
    ·unfold yr at e;by_cases A:b=(s1.heap.push ({cls:=.type "dict_items",data:=.fields #[.ref a]}:Obj)).objs.size
     ·rw[if_pos A] at e;cases e;subst A;refine#v[by rw[f];lia,by rw[L1,t];exact R,k.map Value.ref,c,?_,?_]
      ·clear S l D T nd t g E P
       induction k with
       | nil=>exact .nil
       | cons x k ih=>exact .cons rfl ih
      ·rw[S,<- l]
     ·rw[if_neg A] at e;by_cases B:b∈k
      ·let[j,U]:=List.mem_iff_getElem?.mp B;let[key,kk,x,e1,e2,e3]:=D.pairs j b U;let[y,ey,J]:=GY K e1;rw[QR nd U ey] at e;cases e;exact#v[g b B,show 2<=sizeLine by decide,[key,x],.cons (AW e2)<|.cons J .nil,#v[_,e3,rfl,0,rfl],_,e3,rfl]
      ·rw[Jg B] at e;exact absurd e<|by rw[d];exact λz=>nomatch z),MG N.den]
end
def gw(R:RC)(m:List D->Option (D×D))(n j:Nat):Sp:=λvs H Q _=>∃ Z ds d c O u,WF Z H O/\ -ds=n/\a_ R Z H ds vs O/\vs[j]?\u/\m ds=some (d,c) /\
 ∀{v}{Z'}{H'}{P O'},Go Z H O Z' H' (P++O')->bS R Z' H' d v P->bS R Z' H' c u O'->Q v H'
def Y4(j:Nat):cq->Option (D×D)
 | .rt d ρ=>(pV j ρ).bind λc=>some (d,c)
 | .nx ρ=>(pV j ρ).bind λc=>some (.non,c)
 | _=>none
def f1(n j:Nat)(f:FS):List D->Option (D×D):=λds=>(f<|ds.map some++List.replicate (n- -ds) none).bind (Y4 j)
def qw:f1 n j f ds=(f<|ds.map some++List.replicate (n- -ds) none).bind (Y4 j):=rfl
def Go.pick(g:Go Z H O Z' H'<|P++(A++Q++B)):Go Z H O Z' H' (P++Q):=g.drop (λa h=>by simp at h ⊢;rcases h with h | h<;>simp[h]) (by
 have nd:=g.wf.nd;simp only[U8,N1] at nd ⊢;exact#v[nd.1,nd.2.1.1.2.1,λa c b d=>nd.2.2 a c b<|.inl<|.inr d])
def MJ(y:DS R [j] ts f)(h:gw R (f1 N.length j f) n j vs H Q E):ts {nx:=λ_ H'=>Q .non H',rt:=Q} (L2.cy N vs) H:=by
 let[Z,m,d,c,O,u,w,K,r,z,e,k]:=h;have s:Slots R Z H (m.map some++List.replicate (-N- -m) none) (L2.cy N vs) O:=by
  have q:=Y2 r<|YX<|N.length- -m;unfold L2.cy;rw[r.length];rw[M9] at q;exact q
 have p:(L2.cy N vs)[j]?\(some u):=by
  unfold L2.cy;rw[List.getElem?_append_left<|by simpa using((L9.mp z).1),List.getElem?_map,z];rfl
 have key:∀{a}{i}{l}{H'}{P t}{v},a[j]?\(some c)->Go Z H O l H' (P++t)->bS R l H' d v P->Slots R l H' a i t->cf [j] (L2.cy N vs) i->Q v H':=by
  intro a i l H' P t v b g D x kp;let[A,L,B,rfl,F,_,_]:=x.put (L9.mp b).1;let[M,G,I]:=F c b;have:i[j]?\(some u):=by rw[kp j<|by simp,p]
  rw[G] at this;cases this;exact k g.pick D I
 refine ob e λo C e=>?_;cases o with
 | rt S a=>exact ob e λJ b e=>by cases e;exact y w s C<|key<|KI b
 | nx a=>exact ob e λJ b e=>by cases e;exact y w s C λg x kp=>key (KI b) ⇑g .non_mk x kp
 | bk a=>cases e
 | ct a=>cases e
def Go.turn(g:Go Z H O Z' H'<|A++(P++Q)++B):Go Z H O Z' H' (P++(A++Q++B)):=g.drop (λa h=>by simp at h ⊢;rcases h with h | h | h | h<;>simp[h]) (by
 have nd:=g.wf.nd;simp only[U8,N1] at nd ⊢;obtain⟨⟨j,⟨k,l,m⟩,f⟩,n,i⟩:=nd;refine#v[k,#v[#v[j,l,λa d b c=>f a d b<|.inr c],n,λa d b c=>i a (d.elim .inl λq=>.inr<|.inr q) b c],λa d b c e=>?_];rcases c with(c | c) | c
 ·exact f b c a (.inl d) e.symm
 ·exact m a d b c e
 ·exact i a (.inr<|.inl d) b c e)
def MK{cl}{P}{w}{K}{mg}{base}{x qual}{d7}{fa}{fd}{N ps}{k n j}{fs}(F:g_ K x qual d7 fa fd)(b:cv N ps<|jP d7)(hn:-ps=n)
  (a:∀ cdv A outer s H E,ca k (A.deeper<|envOfC qual (jP d7) ↥s fa cdv) ->
   ∃ ts,fP cl [j] (ip eN P w K mg base N qual (jP d7) fa cdv A outer s H E).nox (kT d7) ts fs):cL P w K mg base eN (k+1) fa fd ps (gw #v[K,cl] (f1 N.length j fs) n j):=by
 refine F.ok b (λvs H Q E h=>by rw[(show vs.length=n from by 
   let[Z,f,d,c,O,u,w,hn,r,_]:=h;rw[r.length,hn]),hn]) λcdv A outer s H vs Q E e h=>?_
 let[ts,q]:=a cdv A outer s H E e;exact#v[ts,q.sem,MJ q.den h]
def BC.o(h:BC R r g):DC R r g:=λw a e _ k=>h w.zd a e λb c=>k (b.widen w).dropR c
def ML(R:RC)(wi:TI)(fi:FA):Prop:=∀{s}{u ρ'}{Z}{H}{O}{xs},WF Z H O->Slots R Z H u s O->fi u=some (xs,ρ') ->
 ∀{Q:It->Hp->Prop},(∀{J}{Z'}{H'}{O'},Go Z H O Z' H' O'->Slots R Z' H' ρ' s O'->k7 R J Z' H' xs->Q J H')->wi s H Q
def MN{cl}{X}{e}{es}{tr}{fr}{pos}{K:W4}{x}{p}{id}{r}{c}(f:JX X (.builtin id) r)(g:BC #v[X.K,cl] r c)(h:X.mg x=none)(i:bootBuiltins x\(.builtin id))(d:lD cl X (e::es) tr fr)(j:Gl X x:=by rfl)
  (hn:x≠"__name__":=by decide) (a:Nd x:=by decide) (k:dS X e es:=by rfl) (b:eh X pos es:=by rfl):
  QE cl X (.Call (.Name x p) (e::es) [] pos) (gh r tr) (iA c fr):=#v[Ak f j h i d.sem hn a k b,Bk (BC.o g) d.den]
structure B6(cl:Nat->Addr)(X:Cx)(tg e:Expr)(wi:TI)(p:FA):Prop where
 sem:PI X tg e wi
 den:ML #v[X.K,cl] wi p
def MO:∀ s ds,pN s\ds->-ds=0:=λs ds h=>by cases h;rfl
def MP(h:∀ s ds,pr s\ds->-ds=n):∀ s ds,ja p pr s\ds->-ds=n+1:=λs ds e=>by
 refine ob e λd a e=>ob e λl e2 e=>?_;cases e;rw[M1,h s l e2]
def B7:D->Option (List D)
 | .lst _ m=>bif frzs m then some m else none
 | .tup m=>bif frzs m then some m else none
 | _=>none
def iG(i:Nat)(p:PF)(s:Rh):Option cq:=(p s).bind λe=>(B7 e).bind λm=>(pV i s).bind λx=>(uF x).bind λl=>bif cb (-l+-m) then some (.nx<|s.set i<|some<|.lst true<|l++m) else none
def MQ(h:PB R te p):DS R pm (V7<|gR R.K "list" (rE R.K) (vw i)<|ve te Qp) (iG i p):=by
 intro U W Z H O o w s e M k;refine ob e λd A e=>ob e λm e2 e=>ob e λx B e=>ob e λl e3 e=>oc e λf e=>?_;cases e;cases Vl e3;unfold V7 gR;refine JE (P0:=[]) J4 w s B rfl Y8 λa _ vs N t _ v C put=>C #v[.inl #v[rfl,vs,cD.of v],h w.zd s A λ{u D g P} j y=>?_];have E:∃ b c,u=.ref b/\(cD R.K g b c\/cK R.K g b c)/\a_ R D g m c []:=by
  cases d with
  | lst Q F=>
   refine oc e2 λn e2=>?_;cases e2;let[b,c,G,rfl,hx,r]:=y.lst_of;exact#v[b,c,rfl,.inl hx.sq,r.frozen n]
  | tup F=>
   refine oc e2 λn e2=>?_;cases e2;let[b,c,rfl,hx,r]:=y.tup_of;exact#v[b,c,rfl,.inr hx,r.frozen n]
  | _=>cases e2
 let[b,c,rfl,I,z]:=E;let[S,J,L]:=put Y8 trivial j ((j.reps w.zd t).append z) λq=>by simp
 exact#v[a,b,vs,c,rfl,rfl,j.at0 v,I,by rw[t.length,z.length];exact J1 f,k J L<|cf.refl _ _]
def MR(g:QB cl X (.Name x xpos) (vw i)<|pV i)(h:QB cl X e te pe)(b:attributeBase (.Name x xpos) "extend" X.env (eval (.Name x xpos) X.env)=eval (.Name x xpos) X.env:=by rfl)
  (d:((backTo cpos<|starEach [e] X.env).all (λx=>!x.1)&&(backToKw cpos<|keywordEach [] X.env).all (λx=>x.1.isSome)
   && decide (-[e]+-([]:List Keyword)+(if([]:List Keyword).isEmpty then 0 else 1)<30))=true:=by rfl)
  (c:(apos.endLine==cpos.line)=true:=by rfl) (f:starEach [e] X.env=(false,eval e X.env)::starEach [] X.env:=by rfl) (a:(backTo cpos<|starEach [] X.env).any (·.1)=false:=by rfl)
  (hsw:swapsWith (.Call (.Attribute (.Name x xpos) "extend" apos) [e] [] cpos) none pos.line X.env=pure false:=by rfl):
  QS cl pm X (.Expr (.Call (.Attribute (.Name x xpos) "extend" apos) [e] [] cpos) pos) (V7<|gR X.K "list" (rE X.K) (vw i)<|ve te Qp) (iG i pe):=
 ⟨VO (mh PySem.F.plainAttrs_list PySem.F.slot_list_extend PySem.F.type_list_extend G3 g.sem (yy h.sem Ji f) b d c f a) hsw,MQ h.den⟩
end QD
namespace QD
open PySem L2
def jb(h:n<=100000):cb n=true:=X0 h
def sW(h0:0<=i)(h:i< -l):atI l i=l[i.toNat]?:=by
 unfold atI dU;rw[if_pos ∅,if_pos ∅];rfl
def Vv(h:(Qf lo n)[i]?\x):x=.int (lo+i)/\i<n:=by
 unfold Qf at h;rw[List.getElem?_map] at h;by_cases hi:i<n
 ·rw[List.getElem?_range hi] at h;cases h;exact#v[rfl,hi]
 ·rw[List.getElem?_eq_none ⇑hi] at h;cases h
def qQ(lo)(n):-(Qf lo n)=n:=by simp[Qf]
@[simp] def B8(a b):ki (.str a) (.str b)\(.bl<|a==b):=rfl
@[simp] def B9(i):ur (.int i)\(.int<|Neg.neg i):=rfl
def xP(h:-a+-b<=100000):jr (.str a) (.str b)\(.str<|a++b):=by
 show(bif cb (-a+-b) then some (D.str<|a++b) else none)=_;rw[jb h];rfl
def B'(a:-s<=100000)(h0:0<=i)(h:i< -s):jd (.str s) (.int i)\(.str [s.getD i.toNat 0]):=by
 show(bif cb (-s) then((atI s i).bind λc=>some<|D.str [c]) else none)=_;rw[jb a,sW h0 h];have:i.toNat< -s:=by lia
 simp[this]
def MS(xs:List s)  (h:0<=k):vf xs none (some k)=xs.take k.toNat:=by
 obtain⟨n,rfl⟩:∃ n:Nat,k=n:=#v[k.toNat,by lia];rw[Gx];simp
def mP(a:-s<=100000):ld lo hi (.str s)\(.str<|vf s lo hi):=by
 show(bif cb (-s) then some (D.str<|vf s lo hi) else none)=_;rw[jb a];rfl
@[simp] def iH(s):zO (.str s)\(s.map λc=>D.str [c]):=rfl
@[simp] def iY(o)(l):J3 [.lst o l]=bif frzs l then some (.tup l) else none:=rfl
def VL(w)(l:W1):hR (.str w) (l.map D.str)=true:=by
 unfold hR;rw[M0];refine#v[rfl,List.all_eq_true.mpr λy a=>?_];let[z,_,rfl]:=M5.mp a;rfl
def zY(w)(l:W1):hQ (.str w) (l.map D.str)=decide (w∈l):=by
 unfold hQ;rw[Bool.eq_iff_iff,List.any_eq_true,decide_eq_true_eq];constructor
 ·rintro⟨y,a,e⟩;let[z,b,rfl]:=M5.mp a;have:z=w:=by
   exact eq_of_beq e
  exact this▸b
 ·intro h;exact#v[.str w,M5.mpr #v[w,h,rfl],by show(w==w)=true;simp]
def MT(neg o)(w)(l:W1):Vh neg (.str w) (.lst o<|l.map D.str)\(.bl<|neg != decide (w∈l)):=by
 show(bif hR (.str w) (l.map D.str) then some (D.bl<|neg != hQ (.str w) (l.map D.str)) else none)=_;rw[VL,zY];rfl
mutual
theorem B_:∀(n:Nat) (d:D),du n d=true->fQ d d=true
 | n,.non,_=>rfl
 | n,.bl _,_=>by show(_==_)=true;simp
 | n,.int _,_=>by show(_==_)=true;simp
 | n,.str _,_=>by show(_==_)=true;simp
 | n+1,.tup l,h=>V2 n l h
 | n+1,.lst _ l,h=>V2 n l h
 | 0,.tup l,h=>by cases h
 | 0,.lst _ l,h=>by cases h
 | n,.dK _ _ _,h=>by cases n<;>cases h
 | n,.dT _ _ _,h=>by cases n<;>cases h
 | n,.ins _ _ _ _,h=>by cases n<;>cases h
 | n,.dead,h=>by cases n<;>cases h
 | n,.tok _,h=>by cases n<;>cases h
 | n,.kt _,h=>by cases n<;>cases h
 | n,.exc _ _,h=>by cases n<;>cases h
theorem V2:∀(n:Nat) (l:List D),YF n l=true->f0 l l=true
 | n,[],_=>rfl
 | n,d::l,h=>by
  rw[YF,M0] at h;show(fQ d d&&f0 l l)=true;rw[B_ n d h.1,V2 n l h.2];rfl
end
def uj(h:∀ d∈l,du n d=true):YF n l=true:=by rw[zx];exact List.all_eq_true.mpr h
theorem yd:∀{l},(∀ d∈l,frz d=true)->frzs l=true
 | [],_=>rfl
 | d::l,h=>by rw[kO,h d<|by simp,yd λx hx=>h x<|by simp[hx]];rfl
theorem kr:∀{l},(∀ d∈l,fz d=d)->bV l=l
 | [],_=>rfl
 | d::l,h=>by rw[JG,h d<|by simp,kr λx hx=>h x<|by simp[hx]]
def Ca{f:s->D}(h:∀ x,frz (f x)=true)(l:List s):frzs (l.map f)=true:=yd λd hd=>by let[p,_,rfl]:=M5.mp hd;exact h p
def oR{f:s->D}(h:∀ x,fz (f x)=f x)(l:List s):bV (l.map f)=l.map f:=kr λd hd=>by let[p,_,rfl]:=M5.mp hd;exact h p
@[simp] def oT(n)(i):du n (.int i)=true:=by cases n<;>rfl
theorem Cb{G}{Good:D->Prop}{P:Rh->Prop}:∀{xs}(_:∀ x∈xs,∀ s,P s->∃ ρ1 y,G x s=some ρ1/\p ρ1\y/\Good y/\P ρ1) {s}(_:P s),∃ ys,cM (jE G qT p xs s\ys) (-ys=-xs)<|∀ y∈ys,Good y
 | [],_,s,_=>#v[[],rfl,rfl,by simp]
 | x::xs,step,s,b=>by
  let[ρ1,y,c,e2,d,p1]:=step x (by simp) s b;let[ys,e3,e,f]:=Cb (xs:=xs) (λz a=>step z<|by simp[a]) p1;refine#v[y::ys,?_,by simp[e],?_]
  ·rw[jM,c];simp[e2,e3]
  ·intro z a;rcases M4.mp a with rfl | a
   ·exact d
   ·exact f z a
theorem YA{f:s->D}{Q:s->Prop}:∀{ys},(∀ y∈ys,∃ a,y=f a/\Q a)->∃ l:List s,ys=l.map f/\∀ a∈l,Q a
 | [],_=>#v[[],rfl,by simp]
 | y::ys,h=>by
  let[a,e,q]:=h y (by simp);let[l,e2,c]:=YA (ys:=ys) λz d=>h z (by simp[d]);exact#v[a::l,by rw[e,e2];rfl,λb g=>(M4.mp g).elim (λz=>z▸q) (c b)]
def Cc(a:frzs l=true):ld lo hi (.lst o l)\(.lst true<|vf l lo hi):=by
 show(bif frzs l then some (D.lst true<|vf l lo hi) else none)=_;rw[a];rfl
def lF(h0:0<=i)(h:i< -l):jd (.lst o l) (.int i)=l[i.toNat]?:=sW h0 h
def xp(h0:0<=i)(h:i< -l):jd (.tup l) (.int i)=l[i.toNat]?:=sW h0 h
def Wd(w:List Nat):Prop:=-w<=30/\∀ c∈w,c<1114112
@[simp] def yg(l:W1):bV (l.map D.str)=l.map D.str:=by
 rw[qP,U0];rfl
@[simp] def jn(l:W1):frzs (l.map D.str)=true:=by
 rw[Vu,List.all_map,List.all_eq_true];intro x _;rfl
@[simp] def iI(l:W1):jW (l.map D.str)=true:=by
 rw[yw,List.all_map,List.all_eq_true];intro x _;rfl
def vn{l:W1}{i:Int}(h0:0<=i)(h:i< -l):jd (.lst o<|l.map D.str) (.int i)\(.str<|l.getD i.toNat []):=by
 rw[lF h0<|by rw[L1];exact h,List.getElem?_map,List.getD_eq_getElem?_getD,X5 ∅];rfl
def vh{l:List s}{i}(h:i< -l):l.getD i d∈l:=by
 rw[List.getD_eq_getElem?_getD,X5 h];exact List.getElem_mem h
def Cd(f:s->u)(l)(lo hi):vf (l.map f) lo hi=(vf l lo hi).map f:=by
 unfold vf;rw[L1,List.map_take,List.map_drop]
def ub(o)(l)(lo hi):ld lo hi (.lst o<|l.map D.str)\(.lst true<|(vf l lo hi).map D.str):=by
 rw[Cc<|jn l,Cd]
theorem VQ:∀ l:List (List Nat×D),Yp (l.map λp=>.tup [.str p.1,p.2])\(l.map λp=>(KA.str p.1,p.2))
 | []=>rfl
 | p::l=>by
  rw[L5,Yp,VQ l];rfl
theorem J7:∀(ps:List<|KA×D) ks vs,(ks++ps.map (·.1)).Nodup->ps.foldl (λacc kv=>qp acc.1 acc.2 kv.1 kv.2) (ks,vs)=(ks++ps.map (·.1),vs++ps.map (·.2))
 | [],ks,vs,_=>by simp
 | p::ps,ks,vs,h=>by
  have a:p.1∉ks:=by
   intro z;exact(U8.mp h).2.2 p.1 z p.1 (by simp) rfl
  have b:qp ks vs p.1 p.2=(ks++[p.1],vs++[p.2]):=by unfold qp;rw[if_neg a]
  show ps.foldl _ (qp ks vs p.1 p.2)=_;rw[b,J7 ps (ks++[p.1]) (vs++[p.2]) ⇑h];simp
def YL{l:List (List Nat×D)}(hn:(l.map (·.1)).Nodup)(f:∀ p∈l,frz p.2=true)(g:-l<=100000):vB [.lst o<|l.map λp=>.tup [.str p.1,p.2]]\(.dK true (l.map λp=>KA.str p.1) (l.map (·.2))):=by
 have i:((l.map λp=>(KA.str p.1,p.2)).map (·.1)).Nodup:=by
  rw[U0];have:((λx:KA×D=>x.1) ∘ λp:List Nat×D=>(KA.str p.1,p.2))=KA.str ∘ (·.1):=rfl;rw[this,<- U0];exact List.Pairwise.map _ (λa b h z=>h<|by cases z;rfl) hn
 show((Yp<|l.map λp=>.tup [.str p.1,p.2]).bind λc=>bif frzs (c.map (·.2))&&cb (-c) then some (D.dK true (Jz c).1 (Jz c).2) else none)=_;rw[VQ,L4];have e:((l.map λp=>(KA.str p.1,p.2)).map (·.2))=l.map (·.2):=by rw[U0];rfl
 rw[e,yd (by intro d hd;let[p,j,rfl]:=M5.mp hd;exact f p j),L1,jb g];unfold Jz;rw[J7 (l.map λp=>(KA.str p.1,p.2)) [] [] ⇑i,e];simp[U0]
def fR{s:Type}(w:List Nat):List (List Nat×s)->Option s
 | []=>none
 | p::l=>if p.1=w then some p.2 else fR w l
def YV{s:Type}{w}{p:List Nat×s}{l}:fR w (p::l)=if p.1=w then some p.2 else fR w l:=rfl
theorem xq(w):∀ l:List (List Nat×D),Y6 (l.map λp=>KA.str p.1) (l.map (·.2)) (.str w)=fR w l
 | []=>rfl
 | p::l=>by
  rw[L5,L5,Y7,YV,xq w l];by_cases h:p.1=w
  ·rw[if_pos h,if_pos<|by rw[h]]
  ·rw[if_neg h,if_neg<|λz=>h<|by cases z;rfl]
theorem Ce(f:s->u)(w):∀ l:List (List Nat×s),fR w (l.map λp=>(p.1,f p.2))=(fR w l).map f
 | []=>rfl
 | p::l=>by
  rw[L5,YV,YV,Ce f w l];by_cases h:p.1=w
  ·rw[if_pos h,if_pos h];rfl
  ·rw[if_neg h,if_neg h]
theorem Cf:∀{l:List (List Nat×s)},w∈l.map (·.1)->∃ a,fR w l\a/\(w,a)∈l
 | [],h=>by cases h
 | p::l,h=>by
  rw[YV];by_cases e:p.1=w
  ·rw[if_pos e];exact#v[p.2,rfl,by rw[<- e];simp]
  ·rw[if_neg e];let[a,b,c]:=Cf<|(M4.mp h).resolve_left λz=>e z.symm;exact#v[a,b,by simp[c]]
def bY(o:Bool)(N:W1)(f:List Nat->Int):D:=.dK o (N.map KA.str)<|N.map λn=>D.int<|f n
theorem YC(f:List Nat->Int):∀{N:W1},c∈N->Y6 (N.map KA.str) (N.map λn=>D.int<|f n) (.str c)\(.int<|f c)
 | [],h=>by cases h
 | n::N,h=>by
  rw[L5,L5,Y7];by_cases e:n=c
  ·rw[if_pos<|by rw[e],e]
  ·rw[if_neg λz=>e<|by cases z;rfl];exact YC f<|(M4.mp h).resolve_left λz=>e z.symm
def yE(h:c∈N):jX (bY o N f) (.str c)\(.int<|f c):=YC f h
theorem Cg(f:List Nat->Int)(c)(v):∀ N:List (List Nat),h5 (N.map KA.str) (N.map λn=>D.int<|f n) (.str c) (.int v)=N.map λn=>D.int (if n=c then v else f n)
 | []=>rfl
 | n::N=>by
  rw[L5,L5,Qo,Cg f c v N,L5];by_cases e:n=c
  ·rw[if_pos<|by rw[e],if_pos e]
  ·rw[if_neg λz=>e (by cases z;rfl),if_neg e]
def zy{N:W1}{f:List Nat->Int}{c}{v}(h:c∈N):qp (N.map KA.str) (N.map λn=>D.int<|f n) (.str c) (.int v)=(N.map KA.str,N.map λn=>D.int<|if n=c then v else f n):=by
 unfold qp;rw[if_pos<|M5.mpr #v[c,h,rfl],Cg]
theorem wK:∀{l:List (List Nat×s)},(l.map (·.1)).Nodup->∀ p∈l,fR p.1 l\p.2
 | [],_,_,h=>by cases h
 | q::l,a,p,h=>by
  rw[L5,List.nodup_cons] at a;rw[YV];rcases M4.mp h with rfl | h
  ·rw[if_pos rfl]
  ·rw[if_neg λz=>a.1<|by rw[z];exact M5.mpr #v[p,h,rfl]];exact wK a.2 p h
def fnOf(S:List<|List Nat×Int)(n:List Nat):Int:=(fR n S).getD 0
def qJ{S}(hn:(S.map (·.1)).Nodup){p}(h:p∈S):fnOf S p.1=p.2:=by
 unfold fnOf;rw[wK hn p h];rfl
def Ch(N:W1)(g:List Nat->Int)  (h:n∈N):fnOf (N.map λn=>(n,g n)) n=g n:=by
 unfold fnOf
 induction N with
 | nil=>cases h
 | cons m N a=>
  rw[L5,YV];by_cases e:m=n
  ·rw[if_pos e,<- e];rfl
  ·rw[if_neg e];exact a<|(M4.mp h).resolve_left λz=>e z.symm
def yV{S}(hn:(S.map (·.1)).Nodup)(b:S.length<=100000):vB [.lst o<|S.map λp=>.tup [.str p.1,.int p.2]]\(bY true (S.map (·.1))<|fnOf S):=by
 have e:=YL (o:=o) (l:=S.map λq=>(q.1,D.int q.2)) (by rw[U0];exact hn) (by intro q c;let[a,_,rfl]:=M5.mp c;rfl) (by rw[L1];exact b);rw[U0,U0,U0] at e;refine e.trans ?_;unfold bY;rw[U0,U0];congr 2;refine List.map_congr_left λp d=>?_;show D.int p.2=D.int (fnOf S p.1);rw[qJ hn d]
def Vp(N:W1)(f:List Nat->Int):frzs (N.map λn=>D.int<|f n)=true:=yd λd hd=>by
 let[n,_,rfl]:=M5.mp hd;rfl
def wL(N:W1)(f:List Nat->Int):(((N.map KA.str).zip (N.map λn=>D.int<|f n)).map λp=>D.tup [eQ p.1,p.2])=N.map λn=>D.tup [.str n,.int<|f n]:=by
 induction N with
 | nil=>rfl
 | cons n N a=>
  rw[L5,L5,U6,L5,L5,a];rfl
@[simp] def mQ(N)(f):fZ (bY true N f)\(N.map KA.str,N.map λn=>D.int<|f n):=rfl
variable {ρ:Rh}{fa fb fe:FE}{ft fu:rX}{fr:FA}{p:cR}{pi:cR}{g:D->D->Option D}{gl:List D->Option D}{G:D->Rh->Option Rh}{f:FS}{m:List D->Option (D×D)}{mp:List D->Option D}{i j:Nat}
@[simp] def sX:iA gl fr s=(fr s).bind λr=>(gl r.1).bind λz=>some (z,r.2):=rfl
end QD
namespace QD
open PySem L2 PySem.Spec PyProof.Rows
def Vg:Int->List D->List D
 | _,[]=>[]
 | n,x::l=>.tup [.int n,x]::Vg (n+1) l
theorem w8:∀ n l,-(Vg n l)=-l
 | _,[]=>rfl
 | n,x::l=>by rw[Vg,M1,M1,w8]
theorem wY:∀ n l (i:Nat) y,(Vg n l)[i]?\y->∃ x,l[i]?\x/\y=.tup [.int<|n+i,x]
 | _,[],_,_,e=>by simp[Vg] at e
 | n,x::l,0,y,e=>by simp[Vg] at e;exact#v[x,rfl,by rw[<- e];simp]
 | n,x::l,i+1,y,e=>by
  let[z,a,e2]:=wY (n+1) l i y (by simpa [Vg] using e);exact#v[z,by simpa using a,by rw[e2];congr 3;lia]
def mR(p:cR)(q:PF)(ρ:Rh):Option (List D):=(p ρ).bind λx=>(fN x).bind λx=>(gk x).bind λl=>(q ρ).bind λy=>(kn y).bind λn=>bif K1 n then some (Vg n<|bV l) else none
def MU(h:gS R ta p)(f:PB R tb q):iC R (rF R.K ta tb) (mR p q):=by
 intro U W Z H O G z s e Q k;refine ob e λx g e=>ob e λy e3 e=>ob e λl i e=>ob e λI e2 e=>ob e λn e5 e=>oc e λj e=>?_;cases e;cases jZ e5;let[o,rfl]:=Jf i;cases kP e3;refine h z s g λ{vs m J r} t w=>?_;let[v,rfl,A]:=w.one_of;let[a,B,L,rfl,C,D,rfl,_]:=(A.freeze (Z':=λa=>m a\/a∈r) (λa z=>.inl z) λa z=>.inr z);have b:=t.fz;refine f b.wf.zd (b.slots z s) e2 λ{u M N P} c E=>?_;let[rfl,_]:=E.int_of;have d:=D.frame c.zz<|λa z=>c.same a<|b.wf.zd a z;have S:=Ke j;refine#v[a,B,n,rfl,rfl,by unfold Builtin.SmallTypes.fitsIndex;simp;lia,FL.sq d,k (b.pair c) ?_];exact BE d (C.frame c.zz (λa z=>c.same a<|b.wf.zd a z)<|λa F=>(nomatch F)) (w8 _ _)<|wY _ _
def um:List (List KA)->List D->List KA->Option D
 | k::ks,d::l,a=>if k=a then some d else um ks l a
 | _,_,_=>none
def oU{k ks}{x:D}{l a}:um (k::ks) (x::l) a=if k=a then some x else um ks l a:=rfl
def sY{l a}:um [] l a=none:=rfl
def sZ{k ks a}:um (k::ks) [] a=none:=rfl
def QF{a b:List KA}(h:a.map bX=b.map bX):a=b:=by
 induction a generalizing b with
 | nil=>cases b with
  | nil=>rfl
  | cons y b=>simp at h
 | cons x a c=>cases b with
  | nil=>simp at h
  | cons y b=>
   simp only[L5,List.cons.injEq] at h;rw[zj h.1,c h.2]
theorem Vx:∀{ks}{l}{vs}{O}{a},a_ R Z H l vs O->-ks=-l ->
  (∀ d,um ks l a\d->∃ v P,KL ((ks.map<|List.map bX).zip vs) (a.map bX)\v/\bS R Z H d v P)/\(um ks l a=none->KL ((ks.map<|List.map bX).zip vs) (a.map bX)=none)
 | [],l,vs,O,a,r,c=>#v[λd e=>(by cases l<;>cases e),λ_=>rfl]
 | k::ks,[],vs,O,a,r,c=>by simp at c
 | k::ks,x::l,vs,O,a,r,c=>by
  let[v,b,f,m,rfl,rfl,g,i]:=r;by_cases e:k=a
  ·subst e;refine#v[λd h=>?_,λh=>?_]
   ·simp only[oU,sY,sZ,if_true] at h;cases h;exact#v[v,f,Yy rfl,g]
   ·simp[oU,sY,sZ] at h
  ·have j:=λz=>e<|QF z;have q:KL (((k::ks).map (List.map bX)).zip (v::b)) (a.map bX)=KL ((ks.map<|List.map bX).zip b) (a.map bX):=Yn j;rw[q];simp only[oU,sY,sZ,if_neg e];exact(Vx (a:=a) i ⇑c)
abbrev mS(ta tb:TE):TE:=gf<|ve ta<|ve tb Qp
def lH(pa pb:PF)(s:Rh):Option (List KA):=(pa s).bind λx=>(pb s).bind λy=>(kZ x).bind λa=>(kZ y).bind λb=>some [a,b]
def VD (f : PB R ta pa) (g : PB R tb pb)  (z : Zd Z H) (s : Slots R Z H W U O) (e : lH pa pb W = some k)
     (go:∀{p}{Z'}{H'},Go Z H [] Z' H' []->Z' p->H' p\(.tup<|(k.map bX).map kV)->Q (.ref p) H'):mS ta tb U H Q:=by
 refine ob e λx h e=>ob e λy e2 e=>ob e λa e3 e=>ob e λb i e=>?_;cases e;refine f z s h λ{v n o q} c j=>(g c.wf.zd (c.slots z s) e2 λ{u r t w} d l=>?_);let[rfl,_]:=vb e3 j;let[rfl,_]:=vb i l;refine#v[by show 2<=sizeLine;decide,λp m=>?_];exact go ((c.pair d).trans (Go.newF d.wf m)) (.inr rfl) js
def bS.dT_of(r:bS R Z H (.dT o ks l) v O):dL λa vs O'=>dY (v=.ref a) (H a\(.dT<|(ks.map<|List.map bX).zip vs)) (a_ R Z H l vs O') (-ks=-l):=by
 let[a,vs,O',rfl,b,c,d,_]:=r;exact#v[a,vs,O',rfl,d,b,c]
def xA(x:D)(k:List KA)(z:D):Option D:=match x with
 | .dT _ ks l=>some<|(um ks l k).getD z
 | _=>none
@[simp] def mT(o)(ks)(l)(k)(z):xA (.dT o ks l) k z\((um ks l k).getD z):=rfl
@[simp] def oV(pd:PF)(pa:PF)(pb:PF)(pc:PF)(s:Rh):Option D:=(pd s).bind λx=>(lH pa pb s).bind λk=>(pc s).bind λz=>xA x k z
@[simp] def s9:lH pa pb s=(pa s).bind λx=>(pb s).bind λy=>(kZ x).bind λa=>(kZ y).bind λb=>some [a,b]:=rfl
def iZ:List (List KA)->List D->List KA->D->List D
 | k::ks,x::l,a,d=>(if k=a then d else x)::iZ ks l a d
 | _,_,_,_=>[]
def oW{k ks}{x:D}{l a d}:iZ (k::ks) (x::l) a d=(if k=a then d else x)::iZ ks l a d:=rfl
theorem Ci:∀{ks}{l} a d,-ks=-l->-(iZ ks l a d)=-l
 | [],[],_,_,_=>rfl
 | [],_::_,_,_,h=>by simp at h
 | _::_,[],_,_,h=>by simp at h
 | k::ks,x::l,a,d,h=>by rw[oW,M1,M1,Ci a d ⇑h]
theorem Cj(rd:bS R Z H d v [])(a):∀{ks}{l}{vs}{O},a_ R Z H l vs O->-ks=-l ->
  eB λvs2 O2=>cM (a_ R Z H (iZ ks l a d) vs2 O2) ((ks.map<|List.map bX).zip vs2=((ks.map<|List.map bX).zip vs).map (λkv=>if kv.1=a.map bX then(kv.1,v) else kv))<|O2.Sublist O
 | [],[],vs,O,r,b=>by
  let[rfl,rfl]:=r;exact#v[[],[],.empty,rfl,.slnil]
 | [],_::_,_,_,_,h=>by simp at h
 | _::_,[],_,_,_,h=>by simp at h
 | k::ks,x::l,vs,O,r,b=>by
  let[w,j,m,O2,rfl,rfl,n,o]:=r;let[c,f,g,e3,i]:=Cj rd a o ⇑b;by_cases e:k=a
  ·subst e;refine#v[v::c,[]++f,?_,?_,(i.trans<|List.sublist_append_right _ _)]
   ·rw[oW,if_pos rfl];exact a_.cons rd g
   ·simp only[L5,U6,if_true,e3]
  ·have p:=λz=>e<|QF z;refine#v[w::c,m++f,?_,?_,(List.Sublist.append (List.Sublist.refl _) i)]
   ·rw[oW,if_neg e];exact a_.cons n g
   ·simp only[L5,U6,if_neg p,e3]
theorem Ck(a):∀{ks:List (List KA)}{vs:List V},-ks=-vs->(((ks.map<|List.map bX).zip vs).any λkv=>decide<|kv.1=a.map bX)=decide (a∈ks)
 | [],vs,_=>by simp
 | k::ks,[],h=>by simp at h
 | k::ks,v::vs,h=>by
  rw[L5,U6,List.any_cons,Ck a ⇑h];by_cases e:k=a
  ·subst e;simp
  ·have b:¬ (k.map bX=a.map bX):=λz=>e<|QF z;have e2:¬ (a=k):=λz=>e z.symm;simp[b,e2]
def Q5(ks:List<|List KA)(l:List D)(a:List KA)(d:D):List (List KA)×List D:=if a∈ks then(ks,iZ ks l a d) else(ks++[a],l++[d])
def Q0(rd:bS R Z H d v [])(a)  (r:a_ R Z H l vs O) (b:-ks=-l):
  eB λvs2 O2=>dY (a_ R Z H (Q5 ks l a d).2 vs2 O2) ((((Q5 ks l a d).1).map (List.map bX)).zip vs2=Jj ((ks.map<|List.map bX).zip vs) (a.map bX) v) (O2.Sublist O) ((Q5 ks l a d).1.length=(Q5 ks l a d).2.length):=by
 have c:-ks=-vs:=by rw[r.length];exact b
 unfold Q5 Jj;rw[Ck a c];by_cases e:a∈ks
 ·rw[if_pos e,X0 e,if_pos rfl];let[f,P,g,e2,h]:=Cj rd a r b;exact#v[f,P,g,e2,h,by rw[Ci a d b];exact b]
 ·rw[if_neg e,X1 e,if_neg<|λz=>(nomatch z)];refine#v[vs++[v],O++[],r.append<|a_.one rd,?_,by simp,by simp[b]];rw[N4,List.zip_append ⇑c];rfl
@[simp] def Cm(i:Nat)(pa:PF)(pb:PF)(pv:PF)(s:Rh):Option cq:=(pv s).bind λd=>(pV i s).bind λx=>(kW x).bind λp=>(lH pa pb s).bind λa=>bif frz d&&cb (-p.1) then some (.nx<|s.set i<|some<|.dT true (Q5 p.1 p.2 a d).1 (Q5 p.1 p.2 a d).2) else none
def MW(d:X.mg "enumerate" = none)(h:fO cl X [a] tr pr)(c:QB cl X b tb pb)(e:Gl X "enumerate":=by rfl)(f:starEach [a] X.env=[(false,eval a X.env)]:=by rfl):
  QI cl X (.Tuple elts n tpos) (.Call (.Name "enumerate" p) [a] [#v[some "start",b,kpos]] pos) (rF X.K tr tb) (mR pr pb):=#v[G8 e d h.sem c.sem f,MU h.den c.den]
def MX{x1}(G:ca k X.A)(u:QB cl X o to po)(B:QB cl X a ta pa)(C:QB cl X b tb pb)(D:QB cl X c tc pc)(m:M2 X o "get" apos (.Tuple [a,b] x1 tpos) c cpos:=by exact#v[rfl,rfl,rfl,rfl])
  (h1:starEach [a,b] X.env=(false,eval a X.env)::starEach [b] X.env:=by rfl) (h2:starEach [b] X.env=(false,eval b X.env)::starEach [] X.env:=by rfl):
  QB cl X (.Call (.Attribute o "get" apos) [.Tuple [a,b] x1 tpos,c] [] cpos) (rC to (mS ta tb) tc) (oV po pa pb pc):=
 ⟨AS (VJ G) u.sem (Y9<|yy B.sem (yy C.sem Ji h2) h1) D.sem m,(by
   intro σ ρ Z H O d z s e Q k;refine ob e λx I e=>ob e λy e2 e=>ob e λc J e=>?_;cases x with
   | dT o K l=>
    cases e;refine u.den z s I λ{v V W Y} n E=>?_;let[p,vs,O',rfl,L,rs,hl]:=E.dT_of;refine#v[p,rfl,.inr #v[_,.inl L],(VD B.den C.den n.wf.zd (n.slots z s) e2 λ{b Z2 H2} r zb F=>?_)];have f:=n.pair r;refine D.den r.wf.zd (f.slots z s) J λ{t Z3 M P3} q N=>?_;let[p',R,S,T,g,h,i,_]:=((r.pair q).rep n.wf.zd E);cases T;have j:M b\(.tup<|(y.map bX).map kV):=by rw[q.same b<|by rw[F];exact λz=>(nomatch z)];exact F
    cases ev:um K l y with
    | none=>exact#v[none,(Vx g h).2 ev▸cG.t i j,k (f.pair q)<|by rw[ev];exact N]
    | some d=>
     let[w,P,U,rw]:=(Vx g h).1 d ev;exact#v[some w,U▸cG.t i j,k (f.pair q)<|by rw[ev];exact rw]
   | _=>cases e)⟩
def MY{x1}(y:ca k X.A)(z:QB cl X (.Name x xpos) (vw i)<|pV i)(n:QB cl X a ta pa)(p:QB cl X b tb pb)(q:QB cl X e te pe)
  (B:swapsWith e (some<|.Subscript (.Name x xpos) (.Tuple [a,b] x1 tpos) pos') pos.line X.env=pure false:=by rfl)
  (h1:starEach [a,b] X.env=(false,eval a X.env)::starEach [b] X.env:=by rfl) (h2:starEach [b] X.env=(false,eval b X.env)::starEach [] X.env:=by rfl):
  QS cl pm X (.Assign [.Subscript (.Name x xpos) (.Tuple [a,b] x1 tpos) pos'] e pos) (mj (vw i) (mS ta tb) te) (Cm i pa pb pe):=
 ⟨uD (VJ y) z.sem (Y9<|yy n.sem (yy p.sem Ji h2) h1) q.sem B,(by
   intro σ ρ Z H O o w s e R k;refine ob e λd C e=>ob e λx D e=>ob e λ⟨S,l⟩ E e=>ob e λc e2 e=>oc e λh e=>?_;cases e;cases uy E;rw[M0] at h;refine q.den w.zd s C λ{u T U V} f r=>?_;cases r.nil h.1;have v:=f.widen w;have s1:=f.slots w.zd s;refine JE J4 v.wf s1 D rfl oh λa _ vs W F j G I put=>I<|VD n.den p.den f.wf.zd s1 e2 λ{b Y H2} g zb J=>?_;let[K,O2,L,M,N,m]:=Q0 (g.rep f.wf.zd r) c (g.reps f.wf.zd F) j;let[O3,P,Q]:=put oh m g L ⇑N.count_le;refine#v[a,_,rfl,cW.t (g.at0 G) J<|Kk h.2,?_];rw[<- M];exact k (v.trans P) Q<|cf.refl _ _)⟩
def i3(p:PF):PF:=λs=>match p s with
 | some (.lst _ l)=>bif frzs l then some (.lst true l.reverse) else none
 | _=>none
theorem a_.revR:∀{l}{vs},a_ R Z H l vs []->a_ R Z H l.reverse vs.reverse []
 | [],_,h=>by symm at h;rw[h.1];exact .empty
 | d::l,_,h=>by
  let[v,vs,c,f,rfl,e,a,b]:=h;let[rfl,rfl]:=List.append_eq_nil_iff.mp e.symm;rw[List.reverse_cons,List.reverse_cons];exact a_.append (a_.revR b)<|.one a
def MZ(h:PB R te p):PP R (AZ R.K te) (i3 p):=by
 intro x y Z H O d z s e Q k;unfold i3 at e;split at e
 ·rename_i o l m;refine oc e λn e=>?_;cases e;refine h z s m λ{v j i P} g r=>?_;let[a,vs,w,rfl,hx,q]:=r.lst_of;refine#v[a,vs,rfl,hx.sq,λf c=>?_];have ne:∀ b,i b≠none->b≠f:=λb h e=>h<|e▸c;have t:Go j i [] j (bU i f<|.lst vs.reverse) [f]:=Go.newO (cZ g.wf.zd) c;exact k (g.trans t) #v[f,vs.reverse,[],rfl,(a_.revR<|q.frozen n).frame (λb z=>z) (λb z=>jh<|ne b<|g.wf.zd b z) (λb u=>(nomatch u)),js,rfl]
 ·cases e
def Qz:D->List D->Option D
 | .str a,[.str b]=>bif decide (0<=mN a b) then some (.int<|mN a b) else none
 | _,_=>none
def M':BM R "str" (λx vs H Q=>∃ a b,x=.str a/\vs=[.str b]/\0<=Txt.find a b/\Q (.int<|Txt.find a b) H) Qz:=by
 intro Z H x d h v vs i j z c f e Q k;unfold Qz at e;split at e
 ·rename_i a b;refine oc e λhd e=>?_;cases e;let[rfl,_]:=c.str_of;let[u,rfl,g]:=f.one_of;let[rfl,_]:=g.str_of;exact#v[_,_,rfl,rfl,X2 hd,k (Go.id z) .int_mk]
 ·cases e
def M_{o}{ks:List KA}{vs}(e:-ks=-vs)(za:Z a)(f:H a\(.frz o<|.dK<|(ks.map bX).zip vs)):k7 R (rG a o<|(ks.map bX).zip vs) Z H (ks.map eQ):=by
 intro g h l j zd i;have d:h a\(.frz o<|.dK<|(ks.map bX).zip vs):=by rw[j a za];exact f
 have b:-((ks.map bX).zip vs)=-ks:=by rw[List.length_zip,L1,e,Nat.min_self]
 refine#v[λhi=>#v[d,by rw[b];rw[L1] at hi;exact hi],λx hx=>?_];rw[List.getElem?_map] at hx;cases hk:ks[i]? with
 | none=>rw[hk] at hx;cases hx
 | some c=>
  rw[hk] at hx;cases hx;have hi:=(L9.mp hk).1;refine#v[#v[d,by rw[b];exact hi],λu m k=>?_];let[rfl,n,e2,rfl]:=k;have e3:((ks.map bX).zip vs)[i]?\(bX c,vs[i]'∅):=by
   rw[List.getElem?_zip_eq_some];exact#v[by rw[List.getElem?_map,hk];rfl,by simp]
  rw[e3] at e2;cases e2;exact#v[g,Go.id zd,zw c]
def Na(w:WF Z H<|a::O):Go Z H (a::O) (λb=>Z b\/b=a) (bU H a u) O:=
 (Go.put w L7).trans (Go.frz1 (Go.put w L7).wf)
def wJ(i:Nat):FA:=λs=>match s[i]? with
 | some (some (.dK true ks l))=>bif frzs l then some (ks.map eQ,s.set i<|some<|.dK false ks l) else none
 | _=>none
def s_(fi:FA)(g:D->Rh->Option Rh)(q:d_)(p:PF)(ix:List<|Option Nat):FE:=λs=>(fi s).bind λr=>bif cb (-r.1) then((jE g q p r.1<|jv ix r.2).bind λys=>some (.lst true ys,r.2)) else none
@[simp] def mU:s_ fi g q p ix s=(fi s).bind λr=>bif cb (-r.1) then((jE g q p r.1<|jv ix r.2).bind λys=>some (.lst true ys,r.2)) else none:=rfl
def Nb{cl}{X}{a}{ta}{pa}{pos p p2 b}(y:X.calm=true)(z:X.mg "list" = none)(j:X.mg "reversed" = none)(r:QB cl X a ta pa)(A:Gl X "list":=by rfl)(m:Gl X "reversed":=by rfl)
  (B:starEach [.Call (.Name "reversed" p2) [a] [] b] X.env=(false,eval (.Call (.Name "reversed" p2) [a] [] b) X.env)::starEach [] X.env:=by rfl)
  (n:(backTo pos<|starEach [] X.env).any (·.1)=false:=by rfl)
  (C:backTo pos (starEach [.Call (.Name "reversed" p2) [a] [] b] X.env)=[(false,eval (.Call (.Name "reversed" p2) [a] [] b) X.env)]:=by rfl)
  (o:starEach [a] X.env=(false,eval a X.env)::starEach [] X.env:=by rfl) (d:(backTo b<|starEach [] X.env).any (·.1)=false:=by rfl)
  (e:backTo b (starEach [a] X.env)=[(false,eval a X.env)]:=by rfl):
  QP cl X (.Call (.Name "list" p) [.Call (.Name "reversed" p2) [a] [] b] [] pos) (AZ X.K ta) (i3 pa):=#v[(by
    intro f s U H Q I h;refine wpAny_Call_Name_kw<|JF I A z (show bootBuiltins "list" = some (.type "list") by decide +kernel) (PyProof.Rows.callWith_type1 (Calls.spliced_cons<|wpAny_Call_Name_kw<|JF I m j (show bootBuiltins "reversed" = some (.type "reversed") by decide +kernel) (PyProof.Rows.callWith_type1 ?_ o d) (by decide)<|by decide) B n) (by decide) (by decide);rw[e];refine Calls.spliced_cons<|thn (r.sem f s U H _ I h) λv s1 ⟨x,N,i,D,l,E,ex,F,G⟩=>Calls.spliced_nil ?_;subst ex;obtain rfl:v=Value.ref l:=D;let[q,t,pl,J]:=i.list F;have u:=-t;refine call_reversed_list pl.isList<|Calls.spliced_nil ?_;refine Hc (i.ok.hd y) pl.isList (by simp only[N2]<;>lia) λk c O L M=>?_;have g:↥s1<=↥s1+1:=Nat.le_succ _;refine#v[.ref<|↥s1+1,_,i.laid L g<|show cu X.prog X.w _ k _ (.lst E.reverse) from#v[by rw[List.length_reverse];exact J,q.reverse,c,bQ.rev t,by simpa using M],rfl,G _<|i.hok.fresh g]),MZ r.den]
def Nc(h:QB cl X (.Name x p) (vw i)<|pV i):B6 cl X tg (.Name x p) (A1<|vw i) (wJ i):=#v[He h.sem,(by
  intro U W G Z H O I w s e Q k;unfold wJ at e;split at e
  ·rename_i d l j;refine oc e λy e=>?_;cases e;let[A,P,B,rfl,C,D,_]:=s.put (L9.mp j).1;let[v,m,r]:=C _ j;let[a,vs,J,rfl,f,c,E,rfl]:=r;cases f.nil y;refine#v[.ref a,m,a,_,rfl,E,λo=>?_];have n:Go Z H [a] (λb=>Z b\/b=a) (bU H a<|.frz o<|.dK<|(d.map bX).zip vs) []:=Na w.mid;have q:∀ b,Z b->bU H a (.frz o<|.dK<|(d.map bX).zip vs) b=H b:=λb g=>jh λz=>w.nz a (by simp)<|z▸g;have t:=Go.keepA w n;have F:bS #v[X.K,cl] (λb=>Z b\/b=a) (bU H a<|.frz o<|.dK<|(d.map bX).zip vs) (.dK false d l) (.ref a) []:=by
    exact#v[a,vs,[],rfl,f.frame (λb z=>.inl z) q<|λb g=>(nomatch g),c,.inr #v[o,js],.inr rfl,rfl,rfl]
   have u:=D F (λb z=>.inl z) q t.1 t.2;rw[vy m] at u;exact k (n.frame w) u<|M_ (by rw[f.length];exact c) (.inr rfl) js
  ·cases e)]
@[simp] def mV:wJ i s=(pV i s).bind λd=>(fZ d).bind λk=>bif frzs k.2 then some (k.1.map eQ,s.set i<|some<|.dK false k.1 k.2) else none:=by
 unfold wJ pV;cases s[i]? with
 | none=>rfl
 | some x=>cases x with
  | none=>rfl
  | some d=>cases d with
   | dK o a l=>cases o<;>rfl
   | _=>rfl
@[simp] def tm:i3 p s=(p s).bind λd=>match d with | .lst _ l=>bif frzs l then some (.lst true l.reverse) else none | _=>none:=by
 unfold i3;cases p s with
 | none=>rfl
 | some d=>cases d<;>rfl
@[simp] def Nf(a b):Qz (.str a) [.str b]=bif decide (0<=mN a b) then some (.int<|mN a b) else none:=rfl
end QD
namespace L2
open PySem PySem.Spec PyProof.Rows
def Ng:qO X "str.index" (λx vs H Q=>∃ a b,x=.str a/\vs=[.str b]/\0<=Txt.find a b/\Q (.int<|Txt.find a b) H):=by
 intro d s w H x vs v k Q I f g h;let[a,b,rfl,rfl,c,q]:=h;let[t,rfl]:=f;let[u,rfl,j]:=g.one;let[l,rfl]:=j;cases ho:PySem.Builtin.Str.occurrences a b 0 a.length 1 with
 | nil=>
  unfold Txt.find at c;rw[ho] at c;exact absurd c (by decide)
 | cons i rest=>
  have e:Txt.find a b=i:=by unfold Txt.find;rw[ho]
  rw[e] at q;exact SC.index ho #v[.int _,H,I.tok _,#v[_,rfl],q]
end L2
namespace QD
open PySem L2 PySem.Spec PyProof.Rows
def Go.from(g:Go Z H O Z' H' E)(h:∀ a∈O,a∈O'):Go Z H O' Z' H' E:=
 ⟨g.wf,g.zz,λa q n=>g.fr a q λz=>n<|h a z,λa z=>(g.zn a z).elim .inl λq=>q.elim (λq=>.inr<|.inl<|h a q) λq=>.inr<|.inr q,λa q=>(g.sub a q).elim (λq=>.inl<|h a q) .inr,g.dm⟩
def YJ(i j:Nat)(p:PF):FS:=λs=>match p s with
 | none=>none
 | some d=>match s[i]? with
  | some (some (.lst true l))=>match l[j]? with
   | some (.lst true l')=>bif cb (-l') then some (.nx<|s.set i<|some<|.lst true<|l.set j<|.lst true<|l'++[d]) else none
   | _=>none
  | _=>none
def Nh{pm}{i j:Nat}(h:PP R te p):DS R pm (V7<|gR R.K "list" YT (de (fg R.K) (vw i)<|tC<|.int (j:Int))<|ve te Qp) (YJ i j p):=by
 intro σ ρ Z H O o w s e D' k;unfold YJ at e;cases e1:p ρ with
 | none=>rw[e1] at e;cases e
 | some d=>
  rw[e1] at e;dsimp only at e;split at e
  ·rename_i l hl;split at e
   ·rename_i S hj;cases hlim:cb S.length with
    | false=>rw[hlim] at e;cases e
    | true=>
     rw[hlim] at e;cases e;let[A,P,B,rfl,k1,k2,_]:=s.put (L9.mp hl).1;let[v,ev,r]:=k1 _ hl;let[a,vs,O0,rfl,rs,ea,rfl]:=r;let[u,E,P',F,T,rfl,ru,I]:=rs.at hj;let[b,g,n,rfl,J,U,rfl]:=ru;have hjl:=(L9.mp T).1;have V:L2.atI vs j\(.ref b):=sU (by unfold dU;rw[if_pos ∅,if_pos ∅];simp) T;refine#v[.ref a,ev,.inl #v[a,vs,j,.ref b,rfl,rfl,cD.of ea,V,.inl #v[rfl,g,cD.of U],(h w.zd s e1 λ{x W t D} y r1=>?_)]];have X:t b\(.lst g):=by rw[y.same b<|by rw[U];exact λz=>(nomatch z)];exact U
     refine#v[b,g,x,rfl,rfl,X,by rw[J.length];exact xj hlim,?_];have Q:=y.widen w;have gC:=Q.trans<|Go.put (o:=.lst<|g++[x]) Q.wf (show b∈D++(A++(a::(E++(b::n)++F))++B) by simp);have nd:=Q.wf.nd;have G:∀ c,c∈D\/c∈A\/c=a\/c∈E\/c∈n\/c∈F\/c∈B->c≠b:=λc f e=>by
      have q:=List.nodup_iff_count.mp nd b;simp only[U7,List.count_cons,beq_self_eq_true,if_true] at q;have pos:∀{m:W5},c∈m->0<m.count c:=List.count_pos_iff.mpr;rcases f with f | f | f | f | f | f | f
      ·have:=pos f;lia
      ·have:=pos f;lia
      ·subst f;simp at q;lia
      ·have:=pos f;lia
      ·have:=pos f;lia
      ·have:=pos f;lia
      ·have:=pos f;lia
     have L:∀ c,W c->bU t b (.lst<|g++[x]) c=t c:=λc f=>jh λz=>Q.wf.nz b (by simp)<|z▸f;have M:∀ c,Z c->bU t b (.lst<|g++[x]) c=H c:=λc f=>by rw[L c<|y.zz c f];exact y.same c<|w.zd c f
     have oth:∀ c,c∈A++(a::(E++(b::n)++F))++B->c≠b->bU t b (.lst<|g++[x]) c=H c:=λc f hn=>by
      rw[jh hn];exact y.same c<|w.od c f
     have N:bS R W (bU t b<|.lst<|g++[x]) (.lst true<|S++[d]) (.ref b) (b::(n++D)):=by
      refine#v[b,g++[x],n++D,rfl,((y.reps w.zd J).append (.one r1)).frame (λ_ z=>z) L (λc f=>jh<|G c ?_),js,rfl];rcases N1.mp f with q | q
      ·exact .inr<|.inr<|.inr<|.inr<|.inl q
      ·exact .inl q
     have C:=I N y.zz M (λc f=>oth c (by simp[f])<|G c<|.inr<|.inr<|.inr<|.inl f)<|λc f=>oth c (by simp[f])<|G c<|.inr<|.inr<|.inr<|.inr<|.inr<|.inl f;rw[vy T] at C;have Y:bU t b (.lst<|g++[x]) a\(.lst vs):=by rw[oth a (by simp)<|G a<|.inr<|.inr<|.inl rfl];exact ea
     have rt:bS R W (bU t b<|.lst<|g++[x]) (.lst true<|l.set j<|.lst true<|S++[d]) (.ref a) (a::(E++(b::(n++D))++F)):=by
      exact#v[a,vs,_,rfl,C,Y,rfl]
     have sl:=k2 rt y.zz M (λc f=>oth c (by simp[f])<|G c<|.inr<|.inl f)<|λc f=>oth c (by simp[f])<|G c<|.inr<|.inr<|.inr<|.inr<|.inr<|.inr f;rw[vy ev] at sl;have le:∀ c,(A++(a::(E++(b::(n++D))++F))++B).count c<=(D++(A++(a::(E++(b::n)++F))++B)).count c:=λc=>by
      simp only[U7,List.count_cons];lia
     exact k (gC.drop (V8 le)<|JP le nd) sl<|cf.refl _ _
   ·cases e
  ·cases e
def gW(i x:Nat)(pm:List Nat)(q:d_)(fA fB:FS):FS:=λs=>match s[i]? with
 | some (some (.lst true l))=>match l[l.length-1]? with
  | none=>none
  | some it=>bif decide (x< -s)&&(!decide (x∈pm)&&!decide (x=i)) then(match q (s.set x<|some .dead) with
   | none=>none
   | some true=>fA<|s.set x<|some .dead
   | some false=>match fB ((s.set i none).set x (some it)) with
    | some (.nx ρ2)=>(match ρ2[x]? with
     | some (some d)=>bif decide (i< -ρ2) then some (.nx<|(ρ2.set x<|some .dead).set i (some<|.lst true<|l.set (-l-1) d)) else none
     | _=>none)
    | _=>none) else none
 | _=>none
def Ni{R:RC}{pm:List Nat}{i x:Nat}{tj:TE}{pj:PF}{tt:TT}{q:d_}{tA tB:TS}{fA fB:FS}(hj:PB R tj pj)(ej:∀ ρ,pj ρ\(.int<|Neg.neg 1))(hq:gU R tt q)(hA:DS R pm tA fA)(hB:DS R (i::x::pm) tB fB):
  DS R pm (l9 (gc (de (fg R.K) (vw i) tj)<|Jl x)<|nu tt tA tB) (gW i x pm q fA fB):=by
 intro σ ρ Z H O o w s e D' k;unfold gW at e;split at e
 ·rename_i l hl;cases hit:l[l.length-1]? with
  | none=>rw[hit] at e;cases e
  | some it=>
   rw[hit] at e;dsimp only at e;cases hg:decide (x< -ρ)&&(!decide (x∈pm)&&!decide (x=i)) with
   | false=>rw[hg] at e;cases e
   | true=>
    rw[hg,cond_true] at e;simp only[M0,decide_eq_true_eq,Bool.not_eq_true',decide_eq_false_iff_not] at hg;let[hx,hxp,f]:=hg;have hi:i< -ρ:=(L9.mp hl).1;have hln:-l-1< -l:=(L9.mp hit).1;let[Ai,Pi,Bi,eOi,ki1,_,_]:=s.put hi;let[v0,ev,r]:=ki1 _ hl;let[a,vs,Ol0,rfl,rs0,ea,_]:=r;have hvl:=-rs0;have han:H a≠none:=by rw[ea];exact λz=>(nomatch z)
    obtain⟨v,hv⟩:∃ v,vs[l.length-1]?\v:=#v[vs[l.length-1]'∅,by simp];have hat:L2.atI vs (Neg.neg 1)\v:=sU (i:=-l-1) (by
     unfold dU;rw[if_neg<|by decide,if_pos ∅];congr 1
     lia) hv
    refine#v[.ref a,ev,hj w.zd s (ej ρ) λ{u0 Z1 H1 P0} g1 r0=>?_];let[rfl,_]:=r0.int_of;have n:H1 a\(.lst vs):=by rw[g1.same a han];exact ea
    refine .inl #v[a,vs,Neg.neg 1,v,rfl,rfl,cD.of n,hat,?_];have p:=g1.widen w;let[Ax,Px,Bx,eO,kx1,kx2,_]:=(g1.slots w.zd s).put hx;rw[eO] at p;have t:bS R Z1 H1 .dead v []:=by symm
    have s2:=kx2 t (λ_ z=>z) (λ_ _=>rfl) (λ_ _=>rfl)<|λ_ _=>rfl;have E:∀ c,(Ax++[]++Bx).count c<=(Ax++Px++Bx).count c:=λc=>by simp only[U7,List.count_nil];lia
    have F:=p.drop (V8 E)<|JP E p.wf.nd;rw[<- eO] at F;have G:cf pm σ (σ.set x<|some v):=cf.set hxp;cases eq:q (ρ.set x<|some .dead) with
    | none=>rw[eq] at e;cases e
    | some c=>
     rw[eq] at e;refine hq F.wf.zd s2 eq λ{Z3 H3} g3=>?_;have s3:=g3.slots F.wf.zd s2;have g:=F.trans<|g3.widen F.wf;cases c with
     | true=>
      exact iy<|hA g.wf s3 e<|k.pre g G
     | false=>
      refine iu ?_;have I:H3 a\(.lst vs):=by rw[g3.same a<|by rw[n];exact λz=>(nomatch z)];exact n
      have hi2:i< -(ρ.set x<|some D.dead):=by rw[List.length_set];exact hi
      have hl2:(ρ.set x<|some D.dead)[i]?\(some<|.lst true l):=by rw[List.getElem?_set,if_neg f];exact hl
      let[A,P,B,J,k1,_,k3]:=s3.put hi2;let[v3,L,r3]:=k1 _ hl2;have M:(σ.set x<|some v)[i]?\(some<|.ref a):=by rw[List.getElem?_set,if_neg f];exact ev
      rw[M] at L;cases L;let[a',vs',Ol,ea',rs3,N,rfl]:=r3;cases ea';rw[I] at N;cases N;let[v',h,Q,j,S,rfl,ri,T]:=rs3.at hit;rw[hv] at S;cases S;have hx4:x< -((ρ.set x<|some D.dead).set i none):=by rw[List.length_set,List.length_set];exact hx
      let[A2,P2,B2,eO4,kk1,kk2,_]:=k3.put hx4;have hd4:((ρ.set x<|some D.dead).set i none)[x]?\(some .dead):=by
       rw[List.getElem?_set,if_neg<|λz=>f z.symm,List.getElem?_set,if_pos rfl,if_pos hx]
      let[v4,_,r4]:=kk1 _ hd4;have eP2:P2=[]:=by symm at r4;exact r4
      subst eP2;have s4:=kk2 ri (λ_ z=>z) (λ_ _=>rfl) (λ_ _=>rfl)<|λ_ _=>rfl;have eσ:(σ.set x<|some v).set x (some v)=σ.set x (some v):=by rw[List.set_set]
      rw[eσ] at s4;have eρ:((ρ.set x<|some D.dead).set i none).set x (some it)=(ρ.set i none).set x (some it):=by
       rw[List.set_comm _ _<|f,List.set_set]
      rw[eρ] at s4;cases e4:fB ((ρ.set i none).set x (some it)) with
      | none=>rw[e4] at e;cases e
      | some o4=>
       rw[e4] at e;cases o4 with
       | nx C=>
        dsimp only at e;have wO:=g.wf;rw[J] at wO;have U:∀ c,A.count c+B.count c=A2.count c+B2.count c:=λc=>by
         have:=congrArg (List.count c) eO4;simpa [U7] using this
        have u:∀ c,(a::(h++j)++(A2++Q++B2)++[]).count c<=(A++(a::(h++Q++j))++B).count c:=λc=>by
         have:=U c;simp only[U7,List.count_cons,List.count_nil];lia
        have leA:∀ c,(A++(a::(h++Q++j))++B).count c<=(a::(h++j)++(A2++Q++B2)++[]).count c:=λc=>by
         have:=U c;simp only[U7,List.count_cons,List.count_nil];lia
        have wF:WF Z3 H3 (a::(h++j)++(A2++Q++B2)++[]):=wO.sub (V8 u)<|JP u wO.nd;refine hB wF.mid s4 e4 ?_;intro σ5 Z5 H5 O5 g5 s5 y;have V:=g5.frame wF;have keep:=(Go.keepA wF g5).1;split at e
        ·rename_i d W;cases hi5:decide (i< -C) with
         | false=>rw[hi5] at e;cases e
         | true=>
          rw[hi5] at e;cases e;have hx5:x< -C:=(L9.mp W).1;let[A3,P3,B3,eO5,m1,m2,_]:=s5.put hx5;let[v5,X,r5]:=m1 _ W;have Y:σ5[x]?\(some v):=by
           rw[y x<|by simp,List.getElem?_set,if_pos rfl,if_pos<|by rw[<- s.length] at hx;exact hx]
          rw[Y] at X;cases X;have rd5:bS R Z5 H5 .dead v []:=by symm
          have s6:=m2 rd5 (λ_ z=>z) (λ_ _=>rfl) (λ_ _=>rfl)<|λ_ _=>rfl;rw[vy Y] at s6;have m:=T r5 g5.zz (g5.zH wF.mid) (λb hb=>keep b<|by simp[hb])<|λb hb=>keep b (by simp[hb]);rw[vy hv] at m;have ea5:H5 a\(.lst vs):=by rw[keep a<|by simp];exact I
          have rl:bS R Z5 H5 (.lst true<|l.set (-l-1) d) (.ref a) (a::(h++P3++j)):=by
           symm
           exact#v[a,vs,_,rfl,m,ea5,rfl]
          have hi6:i< -(C.set x<|some D.dead):=by rw[List.length_set];exact(X2 hi5)
          let[A4,P4,B4,eO6,_,n2,_]:=s6.put hi6;have s7:=n2 rl (λ_ z=>z) (λ_ _=>rfl) (λ_ _=>rfl)<|λ_ _=>rfl;have evi:σ5[i]?\(some<|.ref a):=by rw[y i<|by simp];exact M
          rw[vy evi] at s7;have le7:∀ c,(A4++(a::(h++P3++j))++B4).count c<=(a::(h++j)++O5++[]).count c:=λc=>by
           have q1:=congrArg (List.count c) eO5;have q2:=congrArg (List.count c) eO6;simp only[U7,List.count_nil] at q1 q2;simp only[U7,List.count_cons,List.count_nil];lia
          have g7:=(V.drop (V8 le7)<|JP le7 V.wf.nd).from (V8 u);rw[<- J] at g7;exact k (g.trans g7) s7<|G.trans (y.sub λb hb=>by simp[hb])
        ·cases e
       | bk C=>cases e
       | ct C=>cases e
       | rt d C=>cases e
 ·cases e
def Nj{cl}{pm}{X}{pos}{i j:Nat}{a apos cpos b c}{j2}(n:QB cl X (.Name x a) (vw i)<|pV i)(h:QP cl X e te pe)
  (l:VH (.Constant (.int (j:Int)) j2 b):=by exact λ_ _=>rfl)
  (f:attributeBase (.Subscript (.Name x a) (.Constant (.int (j:Int)) j2 b) c) "append" X.env (eval (.Subscript (.Name x a) (.Constant (.int (j:Int)) j2 b) c) X.env)=eval (.Subscript (.Name x a) (.Constant (.int (j:Int)) j2 b) c) X.env:=by rfl)
  (k:((backTo cpos<|starEach [e] X.env).all (λx=>!x.1)&&(backToKw cpos<|keywordEach [] X.env).all (λx=>x.1.isSome)
   && decide (-[e]+-([]:List Keyword)+(if([]:List Keyword).isEmpty then 0 else 1)<30))=true:=by rfl)
  (g:(apos.endLine==cpos.line)=true:=by rfl) (m:starEach [e] X.env=(false,eval e X.env)::starEach [] X.env:=by rfl) (d:(backTo cpos<|starEach [] X.env).any (·.1)=false:=by rfl)
  (hsw:swapsWith (.Call (.Attribute (.Subscript (.Name x a) (.Constant (.int (j:Int)) j2 b) c) "append" apos) [e] [] cpos) none pos.line X.env=pure false:=by rfl):
  QS cl pm X (.Expr (.Call (.Attribute (.Subscript (.Name x a) (.Constant (.int (j:Int)) j2 b) c) "append" apos) [e] [] cpos) pos) (V7<|gR X.K "list" YT (de (fg X.K) (vw i)<|tC<|.int (j:Int))<|ve te Qp) (YJ i j pe):=
 ⟨VO (mh PySem.F.plainAttrs_list PySem.F.slot_list_append PySem.F.type_list_append Yr (q7 q_ n.sem zk l) (yy h.sem Ji m) f k g m d) hsw,Nh h.den⟩
def Nk(h:X.N.Nodup)(k:QB cl X (.Name rn rpos) (vw i)<|pV i)(b:QB cl X j tj pj)(l:∀ s,pj s\(.int<|Neg.neg 1))(d:QT cl X c tt q)(e:fP cl pm X A ts f)(g:fP cl (i::x::pm) X B tu fe)
  (hi:X.N[x]?\xn:=by rfl) (hx:ga X.env.scope xn:=by first | exact Or.inl rfl | exact Or.inr rfl) (a:VH j:=by exact λ_ _=>rfl)
  (m:swapsWith (.Subscript (.Name rn rpos) j spos) (some<|.Name xn xpos) apos.line X.env=pure false:=by rfl)
  (n:X.fn xn=true\/X.env.scope.names.lookup xn\.local:=by first | exact .inl rfl | exact .inr rfl):
  fP cl pm X [.Assign [.Name xn xpos] (.Subscript (.Name rn rpos) j spos) apos,.If c A B ipos] (l9 (gc (de (fg X.K) (vw i) tj)<|Jl x)<|nu tt ts tu) (gW i x pm q f fe):=
 ⟨zo (zL h hi hx (q7 q_ k.sem b.sem a) m n)<|zp<|zv d.sem e.sem g.sem,Ni b.den l d.den e.den g.den⟩
def FT.tupN(h:FT R Z H a vs):nY R.K H a vs:=by
 rcases h with⟨_,h⟩ | h
 ·exact .inl h
 ·exact .inr h
def xC:List D->Option D
 | [.tup l]=>(Yp l).bind λps=>bif frzs (ps.map (·.2))&&cb (-ps) then some (.dK true (Jz ps).1 (Jz ps).2) else none
 | _=>none
@[simp] def Nl(l):xC [.tup l]=(Yp l).bind λps=>bif frzs (ps.map (·.2))&&cb (-ps) then some (.dK true (Jz ps).1 (Jz ps).2) else none:=rfl
def Nn:BC R (λxs H Q=>∃(p:Addr) (ys:List V) (ps:List<|cS×V),xs=[.ref p]/\nY R.K H p ys/\ -ys=-ps/\ -ps<=100000 /\
  (∀(j:Nat) y,ys[j]?\y->∃ kv t,ps[j]?\kv/\y=.ref t/\cK R.K H t [kV kv.1,kv.2])/\∀ D,H D=none->Q (.ref D) (bU H D<|.dK<|ps.foldl (λa kv=>Jj a kv.1 kv.2) [])) xC:=by
 intro Z H xs d vs O z r e Q k
 match xs,e,r with
 | [.tup l],e,r=>
  refine ob e λps o e=>oc e λf e=>?_;cases e;rw[M0] at f;let[v,rfl,s]:=r.one_of;let[p,ys,rfl,hx,u]:=s;let[m,b,w,q]:=Qs o u f.1;let[g,A,B,i]:=V4 (ks:=[]) b .empty rfl;have c:-m=-ps:=by rw[b.length];simp
  refine#v[p,ys,(ps.map λp=>bX p.1).zip m,rfl,hx.tupN,by simp[w,c],by simp[c];exact X2 f.2,q,λD n=>?_];refine k (Go.newO (cZ z) n) ?_;have ne:∀ a,H a≠none->a≠D:=λa h e=>h<|e▸n;exact#v[D,g,[],rfl,A.frame (λa z=>z) (λa h=>jh<|ne a<|z a h)<|λa h=>(nomatch h),i,by show bU H D _ D\_;rw[js];exact congrArg (λx=>some<|HO.dK x) B.symm,rfl]
def i4(p:PF):PF:=λs=>(p s).bind λd=>some<|fz d
@[simp] def Cn:i4 p s=(p s).bind λd=>some (fz d):=rfl
def QP.fzb(h:QP cl X e te pe):QB cl X e te (i4 pe):=#v[h.sem,(by
  intro u w Z H O d z s e Q k;refine ob e λx b e=>?_;cases e;exact h.den z s b λ{v c f P} g r=>(k g.fz<|r.freeze (λa z=>.inl z) λa z=>.inr z))]
def uk(B:cr X scope N' ix)(m:X.calm=true)(hi:B6 cl X tg iter wi fi)
  (h:∀ C s H fp,QG cl [] (yJ X scope N' C s H fp) tg t g) (b:∀ C s H fp,li cl (yJ X scope N' C s H fp) ifs tcc qq) (j:∀ C s H fp,QP cl (yJ X scope N' C s H fp) elt te pe)
  (n:X.N.Nodup) (f:X.N[i]?\x:=by rfl) (hx:ga X.env.scope x:=by first | exact Or.inl rfl | exact Or.inr rfl)
  (hsw:swapsWith (.ListComp elt [#v[tg,iter,ifs,0]] scope pos) (some<|.Name x pos') spos.line X.env=pure true:=by with_unfolding_all rfl)
  (o:∀ x,foldedSetIterable iter X.env x=pure x:=by intro _;rfl)
  (p:X.fn x=true\/X.env.scope.names.lookup x\.local:=by first | exact .inl rfl | exact .inr rfl):
  QS cl pm X (.Assign [.Name x pos'] (.ListComp elt [#v[tg,iter,ifs,0]] scope pos) spos) (gc (xZ wi t tcc te ix)<|Jl i) (jA (s_ fi g qq pe ix)<|jc pm i):=
 ⟨KZ B m hi.sem (λC s H fp=>(h C s H fp).sem) (λC s H fp=>(b C s H fp).sem) (λC s H fp=>(j C s H fp).sem) n f hx hsw o p,
  xK ((by
      intro W Y F Z H O d w s e Q k;refine ob e λr q e=>?_;let[G,I]:=r;refine oc e λu e=>ob e λall e2 e=>?_;cases e;exact hi.den w s q λ{J K L M} c s0 y=>(JB (h 0 X.s₀ X.H₀ []).den (b 0 X.s₀ X.H₀ []).den (j 0 X.s₀ X.H₀ []).den c.wf.zd s0 (λ{R S} A D zd i=>y A (λa z=>D a<|c.wf.zd a z) zd i) u e2 λ{v T U P} l E=>(k (c.trans<|l.widen c.wf) E<|l.slots c.wf.zd s0)))) Q8⟩
def Jh:List Str->List D->Str->Option D
 | n::ns,d::l,f=>if f=n then some d else Jh ns l f
 | _,_,_=>none
def oX{n x l f ns}:Jh (n::ns) (x::l) f=if f=n then some x else Jh ns l f:=rfl
theorem tp:∀{ns}{l}{vs}{O},a_ R Z H l vs O->-ns=-l->Jh ns l f\d->∃ v P,(ns.zip vs).lookup f\v/\bS R Z H d v P
 | [],l,vs,O,_,_,h=>by cases l<;>cases h
 | n::ns,[],vs,O,_,a,_=>by simp at a
 | n::ns,x::l,vs,O,r,a,h=>by
  let[v,b,c,k,rfl,rfl,g,i]:=r;rw[oX] at h;by_cases e:f=n
  ·rw[if_pos e] at h;cases h;exact#v[v,c,by rw[U6,List.lookup_cons,e];simp,g]
  ·rw[if_neg e] at h;let[w,P,j,e2]:=tp i ⇑a h;refine#v[w,P,?_,e2];rw[U6,List.lookup_cons];have:(f==n)=false:=by simp[e]
   rw[this];exact j
def Jq(c:Nat)(f:Str):D->Option D
 | .ins _ c' ns l=>bif c'==c then Jh ns l f else none
 | _=>none
@[simp] def lI:Jq c f (.ins o c' ns l)=bif c'==c then Jh ns l f else none:=rfl
@[simp] def v9(c:Nat)(f:Str)(po:PF)(s:Rh):Option D:=(po s).bind (Jq c f)
def qF:List Str->List D->Str->D->List Str×List D
 | n::ns,x::l,f,d=>if n=f then(n::ns,d::l) else(n::(qF ns l f d).1,x::(qF ns l f d).2)
 | _,_,f,d=>([f],[d])
def Co{n ns x l f d}:qF (n::ns) (x::l) f d=if n=f then(n::ns,d::l) else(n::(qF ns l f d).1,x::(qF ns l f d).2):=rfl
theorem Kf(rd:bS R Z H d v P):∀{ns}{l}{vs}{O},a_ R Z H l vs O->-ns=-l ->
  eB λvs2 O2=>dY (a_ R Z H (qF ns l f d).2 vs2 O2) ((qF ns l f d).1.zip vs2=K6 f v (ns.zip vs)) ((qF ns l f d).1.length=(qF ns l f d).2.length)<|∀ c,O2.count c<=O.count c+P.count c
 | [],[],vs,O,r,_=>by
  let[rfl,rfl]:=r;exact#v[[v],P,.one rd,rfl,rfl,λc=>by simp]
 | [],_::_,_,_,_,a=>by simp at a
 | _::_,[],_,_,_,a=>by simp at a
 | n::ns,x::l,vs,O,r,a=>by
  let[u,b,h,O2,rfl,rfl,i,g]:=r;rw[Co];by_cases e:n=f
  ·rw[if_pos e];refine#v[v::b,P++O2,a_.cons rd g,?_,a,λc=>by simp only[U7];lia];rw[U6,U6,K6,if_pos e]
  ·rw[if_neg e];let[vs2,j,k,e3,m,o]:=Kf rd g ⇑a;refine#v[u::vs2,h++j,a_.cons i k,?_,by simp[m],λc=>by have:=o c;simp only[U7];lia];rw[U6,U6,K6,if_neg e,e3]
@[simp] def kD(i:Nat)(c:Nat)(f:Str)(pv:PF)(s:Rh):Option cq:=(pv s).bind λd=>(pV i s).bind λt=>(xx t).bind λy=>bif y.1==c&&decide (-y.2.1<=900) then some (.nx<|s.set i<|some<|.ins true c (qF y.2.1 y.2.2 f d).1 (qF y.2.1 y.2.2 f d).2) else none
def Cp{l:List s}{m:List u}(h:decide (-l<=900)=true):-(l.zip m)<1000:=by
 rw[List.length_zip];exact X8 (Nat.min_le_left _ _) ∅
def Cq(h:dM X.K<|cl c)(i:bT X.K (cl c) f)(g:QB cl X o to po)(j:attributeBase o f X.env (eval o X.env)=eval o X.env:=by rfl):QB cl X (.Attribute o f pos) (io X.K to f) (v9 c f po):=#v[nF g.sem j,(by
  intro U W Z H O d z s e Q k;refine ob e λx m e=>?_;cases x with
  | ins o n ns l=>
   refine oc e λp q=>?_;obtain rfl:n=c:=by simpa using p
   refine g.den z s m λ{v D E F} r t=>?_;let[a,u,vs,G,rfl,y,A,B,_]:=t;let[w,P,C,b]:=tp y A q;exact#v[a,_,u,_,w,rfl,B,h,i,C,k r b]
  | _=>cases e)]
def No(E:dM X.K<|cl c)(F:bT X.K (cl c) f)(G:QB cl X (.Name x xpos) (vw i)<|pV i)(r:QP cl X e te pe)(J:swapsWith e (some<|.Attribute (.Name x xpos) f pos') pos.line X.env=pure false:=by rfl):
  QS cl pm X (.Assign [.Attribute (.Name x xpos) f pos'] e pos) (F4 X.K (vw i) te f) (kD i c f pe):=#v[(by
    intro b s σ H D I h;refine plainObj_wpAny_Assign_Attribute (thn (r.sem b s σ H _ I h) λu s1 ⟨y,v,L,M,q⟩=>thn (G.sem b s1 σ v _ L q) λN s2 P=>?_) J;let[x,H2,Q,R,a,C,z,fs,ex,g,c,n,l,S]:=P;subst ex;obtain rfl:N=Value.ref a:=R;exact KW Q g c n l M λA T=>#v[σ,_,T,S]),(by
      intro σ ρ Z H O o w s e D' k;refine ob e λd U e=>ob e λt V e=>ob e λ⟨W,ns,l⟩ e2 e=>oc e λj e=>?_;cases e;cases Yv e2;rw[M0] at j;obtain rfl:W=c:=by simpa using j.1
      refine r.den w.zd s U λ{u Z1 v P1} B Y=>?_;have m:=B.widen w;refine JE J4 m.wf (B.slots w.zd s) V rfl dI λa z vs O' rs p g ht put=>ht ?_;let[vs2,O2,r3,e3,l3,c3]:=Kf Y rs p;let[O3,g3,A]:=put dI l3 (Go.id m.wf.zd) r3 λq=>by have:=c3 q;simp;lia
      refine#v[a,_,z,_,rfl,g,E,F,Cp j.2,?_];rw[<- e3];exact k (m.trans g3) A<|cf.refl _ _)]
def mW:List Str->Str->Option Nat
 | [],_=>none
 | n::ns,f=>if f=n then some 0 else(mW ns f).map (·+1)
theorem Cr:∀{ns}{f}{vs}{j}{v:V},mW ns f\j->-ns=-vs->vs[j]?\v->(ns.zip vs).lookup f\v
 | [],_,_,_,_,h,_,_=>by cases h
 | n::ns,f,[],_,_,_,a,_=>by simp at a
 | n::ns,f,u::vs,j,v,h,a,b=>by
  rw[mW] at h;by_cases e:f=n
  ·rw[if_pos e] at h;cases h;cases b;rw[U6,List.lookup_cons,e];simp
  ·rw[if_neg e] at h;cases hp:mW ns f with
   | none=>rw[hp] at h;cases h
   | some i=>
    rw[hp] at h;cases h;rw[U6,List.lookup_cons,show(f==n)=false by simp[e]];exact Cr hp ⇑a ⇑b
theorem QX:∀{ns}{l}{vs:List V},-ns=-l->-vs=-l->Jh ns l f=none->(ns.zip vs).lookup f=none
 | [],_,_,_,_,_=>rfl
 | n::ns,[],_,a,_,_=>by simp at a
 | n::ns,x::l,[],_,b,_=>by simp at b
 | n::ns,x::l,v::vs,a,b,h=>by
  rw[oX] at h;by_cases e:f=n
  ·rw[if_pos e] at h;cases h
  ·rw[if_neg e] at h;rw[U6,List.lookup_cons,show(f==n)=false by simp[e]];exact QX ⇑a ⇑b h
@[simp] def y6(m:List D->Option (D×D))(i c:Nat)(mn:Str)(p:cR)(ρ:Rh):Option (D×Rh):=(p ρ).bind λds=>(pV i ρ).bind λt=>(xx t).bind λy=>bif y.1==c&&(frzs ds&&(Jh y.2.1 y.2.2 mn).isNone) then(m<|t::ds).bind λr=>some (r.1,ρ.set i<|some r.2) else none
def Ct:D×D->Option D
 | (.non,t)=>some t
 | _=>none
@[simp] def lJ(t):Ct (.non,t)\t:=rfl
@[simp] def Vk(m:List D->Option (D×D))(c:Nat)(p:cR)(ρ:Rh):Option D:=(p ρ).bind λds=>bif frzs ds then(m<|.ins true c [] []::ds).bind Ct else none
def Np(h:gS R ta p)(hn:∀ W ds,p W\ds->-ds+1=n):PP R (qy (R.cls c) (gw R m n 0) [] E0 ta) (Vk m c p):=by
 intro U W Z H O d z s e Q k;refine ob e λds r e=>oc e λA e=>ob e λ⟨x,t⟩ e2 e=>?_;cases x with
 | non=>
  cases (e);refine h z s r λ{F B u G} f w=>?_;cases w.nil A;intro x b hx g i;have y:=Go.newF (o:=.own x) (cZ f.wf.zd) g;have j:bU u b (.own x) x=none:=by rw[jh<|λe=>i e.symm];exact hx
  have l:=y.trans<|Go.newO (o:=.ins (R.cls c) b []) y.wf j;have C:bS R (λa=>B a\/a=b) (bU (bU u b<|.own x) x<|.ins (R.cls c) b []) (.ins true c [] []) (.ref x) [x]:=by
   exact#v[x,b,[],[],rfl,.empty,rfl,js,rfl]
  refine#v[_,.ins true c [] []::ds,.non,d,[x],.ref x,l.wf,by have:=hn W ds r;simpa using this,by rw[M9];have:=a_.cons C<|l.reps f.wf.zd w;simpa using this,rfl,e2,λ{v Z3 I J K} D E q=>?_];let[rfl,rfl]:=E;exact#v[rfl,k (by simpa using(f.trans l).trans D) q]
 | _=>cases e
section
variable {cl:Nat->Addr}{pm:List Nat}{X:Cx}{e:Expr}{es:List Expr}{tr:TA}{pr:cR}{pos p apos:Pos}
structure eS(K:W4)(C:Addr)(x qual:Str)(st:Stmt)(f:Addr)(fd:FuncData)(ps:List Str):Prop where
 fn:g_ K x qual st f fd
 mt:iQ K C x f
 bd:df K fd ps []
def iJ(P:Program)(w:World)(K:W4)(mg:W6)(C:Addr)(x qual:Str)(st:Stmt)(k:Nat)(ps:List Str)(sp:Sp):Prop:=∃ f fd,eS K C x qual st f fd ps/\∀ base,cL P w K mg base eN k f fd ps sp
def Nq{k n i c}{ps}{m}{x mn qual}{st}{pl}(W:dM X.K<|cl c)(O:iJ X.prog X.w X.K X.mg (cl c) mn qual st k ps<|gw #v[X.K,cl] m n 0)(Y:ca k X.A)(hv:QB cl X (.Name x p) (vw i)<|pV i)(L:fO cl X (e::es) tr pr)(hn:∀ ρ ds,pr ρ\ds->-ds+1=n)
  (o:dS X e es:=by rfl) (q:eh X pos es:=by rfl)
  (ht:eval (.Call (.Attribute (.Name x p) mn apos) (e::es) [] pos) X.env=(do
   let ov <- eval (.Name x p) X.env
   standAt apos.atName
   let (f,first) <- holding [ov] (getMethod ov mn pl)
   callWith pos f first (backTo pos<|starEach (e::es) X.env) (backToKw pos<|keywordEach [] X.env)):=by rfl):
  QE cl X (.Call (.Attribute (.Name x p) mn apos) (e::es) [] pos) (kA (cl c) mn (gw #v[X.K,cl] m n 0) [] E0 (vw i) tr) (y6 m i c mn pr):=by
 let[_,_,F,G]:=O;exact#v[Ah hv.sem W F.mt (G _) Y F.bd .nil mi L.sem o q ht,(by
   intro σ ρ ρ' Z H O d w s e Q k;refine ob e λds M e=>ob e λy b e=>ob e λ⟨r,ns,l⟩ e3 e=>oc e λN e=>ob e λ⟨d',cc⟩ e2 e=>?_;cases e;cases Yv e3;have b:=KI b;rw[M0,M0] at N;let[t,z,C]:=N;obtain rfl:r=c:=by simpa using t
   have hi:=(L9.mp b).1;let[A0,P0,B0,_,k0,_,_]:=s.put hi;let[u,D,r0]:=k0 _ b;let[a,dx,vs,O',rfl,rs,E,ea,_]:=r0;refine#v[.ref a,D,a,dx,_,rfl,ea,QX E (-rs)<|Option.isNone_iff_eq_none.mp C,(L.den w.zd s M λ{v1 I R P1} S T=>?_)];cases T.nil z;have g:Go Z H O I R O:=by simpa using S.widen w
   let[A,P,B,rfl,k1,k2,_]:=(S.slots w.zd s).put hi;let[u',h,rc]:=k1 _ b;rw[D] at h;cases h;have rr:a_ #v[X.K,cl] I R (.ins true r ns l::ds) (.ref a::v1) P:=by
    have:=a_.cons rc T;simpa using this
   refine#v[I,.ins true r ns l::ds,d',cc,P,.ref a,g.wf.mid,by have:=hn ρ ds M;simpa using this,by rw[M9];exact rr,rfl,e2,λ{v Z2 H2 P2 O2} j r2 J=>?_];have U:=Go.keepA g.wf j;have V:=k2 J j.zz (j.zH g.wf.mid) U.1 U.2;rw[vy D] at V;exact k (g.trans<|j.frame g.wf).turn r2 V)]
def Nr{k n c}{ps}{m}{x qual}{st}(f:PySem.W.makesIn X.K (cl c)=true)(g:PySem.W.keepIn X.K (.ref<|cl c)=true)(O:iJ X.prog X.w X.K X.mg (cl c) "__init__" qual st k ps<|gw #v[X.K,cl] m n 0)(h:ca (k+1) X.A)(i:X.mg x\(.ref<|cl c))(d:fO cl X (e::es) tr pr)(hn:∀ s ds,pr s\ds->-ds+1=n)(j:Gl X x:=by rfl)
  (a:Nd x:=by decide) (l:dS X e es:=by rfl) (b:eh X pos es:=by rfl):
  QP cl X (.Call (.Name x p) (e::es) [] pos) (qy (cl c) (gw #v[X.K,cl] m n 0) [] E0 tr) (Vk m c pr):=by
 let[_,_,F,G]:=O;exact#v[F9 #v[f,F.mt.at_,F.mt.fn,g] (G _) h j i F.bd .nil mi d.sem a l b,Np d.den hn]
end
@[simp] def yf(m:List D->Option D)(c:Nat)(mn:Str)(po:PF)(p:cR)(ρ:Rh):Option D:=(po ρ).bind λs=>(rT s).bind λy=>bif y.1==c&&(Jh y.2.1 y.2.2 mn).isNone then(p ρ).bind λds=>(m<|bV<|s::ds).bind λd=>bif frzs (s::ds)||kJ d then some d else none else none
def Cu(r:PB R to po)(t:mw R ta p)(hn:∀ W ds,p W\ds->-ds+1=n):PP R (kA (R.cls c) mn (dX R m n) [] E0 to ta) (yf m c mn po p):=by
 intro U W Z H O d z s e Q k;refine ob e λF u e=>ob e λ⟨v,ns,l⟩ e3 e=>oc e λf e=>ob e λds j e=>ob e λc0 e2 e=>oc e λw e=>?_;cases e;let[o,rfl]:=HX e3;rw[M0] at f;obtain rfl:v=c:=by simpa using f.1
 refine r z s u λ{G I J K} b q=>?_;have g:=q;let[a,x,y,L,rfl,A,h,B,_]:=g;exact#v[a,x,_,rfl,B,QX h (-A)<|Option.isNone_iff_eq_none.mp f.2,t b.wf.zd (b.slots z s) j λi C=>Bt i.wf.zd (a_.cons (i.rep b.wf.zd q) C) (hn W ds j) e2 w λD E=>k (by simpa using(b.pair i).pair D) E]
def k8(c:Nat)(f:Str)(L:Ln)(d:D):Option (D×(D->D)):=(L d).bind λy=>(xx y.1).bind λq=>bif q.1==c then(mW q.2.1 f).bind λj=>(q.2.2[j]?).bind λx=>some (x,λx'=>y.2<|.ins true q.1 q.2.1<|q.2.2.set j x') else none
structure QL(cl:Nat->Addr)(X:Cx)(e:Expr)(tb:TE)(i:Nat)(L:Ln):Prop where
 sem:PE X e tb
 den:k_ #v[X.K,cl] tb i L
section
variable {cl:Nat->Addr}{pm:List Nat}{X:Cx}{o e j:Expr}{es:List Expr}{to te tb tj:TE}{po pe pj:PF}{tr:TA}{pr:cR}{pos p apos:Pos}{L L':Ln}{i:Nat}
def Cv{k n c}{ps}{m}{mn qual}{st}{pl}(i:dM X.K<|cl c)(O:iJ X.prog X.w X.K X.mg (cl c) mn qual st k ps<|dX #v[X.K,cl] m n)(j:ca k X.A)(g:QB cl X o to po)(a:eD cl X (e::es) tr pr)(hn:-(e::es)+1=n:=by rfl)
  (b:dS X e es:=by rfl) (d:eh X pos es:=by rfl)
  (l:eval (.Call (.Attribute o mn apos) (e::es) [] pos) X.env=(do
   let ov <- eval o X.env
   standAt apos.atName
   let (f,first) <- holding [ov] (getMethod ov mn pl)
   callWith pos f first (backTo pos<|starEach (e::es) X.env) (backToKw pos<|keywordEach [] X.env)):=by rfl):
  QP cl X (.Call (.Attribute o mn apos) (e::es) [] pos) (kA (cl c) mn (dX #v[X.K,cl] m n) [] E0 to tr) (yf m c mn po pr):=by
 let[_,_,F,G]:=O;exact#v[Ah g.sem i F.mt (G _) j F.bd .nil mi a.sem b d l,Cu g.den a.den λs p h=>by rw[a.n s p h];exact hn]
def Nt{x}(a:QB cl X (.Name x p) (vw i)<|pV i):QL cl X (.Name x p) (vw i) i vW:=#v[a.sem,J4]
def Nu{c}{f}(I:dM X.K<|cl c)(J:bT X.K (cl c) f)(h:QL cl X o tb i L)(g:attributeBase o f X.env (eval o X.env)=eval o X.env:=by rfl):QL cl X (.Attribute o f pos) (io X.K tb f) i (k8 c f L):=
 ⟨nF h.sem g,(by
   intro σ ρ Z H O d x k s hd e;refine ob e λ⟨y,k0⟩ M e=>ob e λ⟨N,ns,l⟩ e3 e=>oc e λQ e=>ob e λj R e=>ob e λx0 e2 e=>?_;cases e;cases Yv e3;obtain rfl:N=c:=by simpa using Q
   let[v,A,P,B,rfl,r,S,T]:=h.den s hd M;let[a,w,vs,O',rfl,z,n,C,rfl]:=r;let[u,U,V,W,D,rfl,Y,p]:=z.at e2;refine#v[u,A++(a::U),V,W++B,by simp,Y,λq=>S #v[a,_,w,_,u,rfl,C,I,J,Cr R (by rw[z.length];exact n) D,q],λ{Z' H' x' P''} r' E F t G=>?_];have m:=p r' E F (λb g=>t b<|by simp[g])<|λb g=>G b (by simp[g]);rw[vy D] at m;have s2:=T (dI.mpr #v[a,w,vs,_,rfl,m,by rw[List.length_set];exact n,(t a<|by simp).trans C,rfl]) E F (λb g=>t b<|by simp[g])<|λb g=>G b (by simp[g]);simpa using s2)⟩
def Nv{cpos}(f:QL cl X o tb i L)(h:QP cl X e te pe)(b:attributeBase o "append" X.env (eval o X.env)=eval o X.env:=by rfl)
  (d:((backTo cpos<|starEach [e] X.env).all (λx=>!x.1)&&(backToKw cpos<|keywordEach [] X.env).all (λx=>x.1.isSome)
   && decide (-[e]+-([]:List Keyword)+(if([]:List Keyword).isEmpty then 0 else 1)<30))=true:=by rfl)
  (c:(apos.endLine==cpos.line)=true:=by rfl) (g:starEach [e] X.env=(false,eval e X.env)::starEach [] X.env:=by rfl) (a:(backTo cpos<|starEach [] X.env).any (·.1)=false:=by rfl)
  (hsw:swapsWith (.Call (.Attribute o "append" apos) [e] [] cpos) none pos.line X.env=pure false:=by rfl):
  QS cl pm X (.Expr (.Call (.Attribute o "append" apos) [e] [] cpos) pos) (V7<|gR X.K "list" YT tb<|ve te Qp) (qV i L pe):=
 ⟨VO (mh PySem.F.plainAttrs_list PySem.F.slot_list_append PySem.F.type_list_append Yr f.sem (yy h.sem Ji g) b d c g a) hsw,Bw f.den h.den⟩
end
def Cw(R:RC)(neg:Bool):R2:=λx y H Q=>∃ Z d o l O P,bS R Z H d x O/\bS R Z H (.lst o l) y P/\du 19 d=true/\YF 19 l=true/\Q (.bl<|neg != l.any λe=>fQ e d) H
theorem Cy{d}(h:du 19 d=true):∀ l,YF 19 l=true->(qv l).any (λy=>PyData.eqv y<|uT d)=l.any λe=>fQ e d
 | [],_=>rfl
 | e::l,k=>by
  have k:=Bool.and_eq_true_iff.mp k;show(PyData.eqv (uT e) (uT d)||(qv l).any _)=(fQ e d||l.any _);rw[sA 19 e d k.1 h,Cy h l k.2]
section
variable {cl:Nat->Addr}{X:Cx}{b:Expr}{k:Nat}
def Nw(p:X.A.units+64<cLine):dB X (compareOp .NotIn) (Cw #v[X.K,cl] true):=by
 intro f s w H x y v u Q I g i h;let[Z,d,o,l,O,P,j,k,b,e,q]:=h;let[r,m]:=j.reads I 19 g b;let[bs,n]:=k.reads I 20 i e;have a:=zc 19 d b;have c:=Yq 19 l e;refine SeqAt.notIn_list_reads (xs:=qv l) n m c.1 a.1 ?_ ?_
 ·have:=Nat.min_le_right (PyData.depthAll<|qv l) (uT d).depth
  lia
 ·rw[Cy b l e];exact#v[.bl _,H,I,rfl,by simpa using q]
def tq(neg:Bool)(x y:D):Option D:=(gk y).bind λl=>bif du 19 x&&YF 19 l then some (.bl<|neg != l.any λe=>fQ e x) else none
def Nx(c:ca k X.A)(a:behindInMarks .NotIn b=false):dJ cl X .NotIn b (Cw #v[X.K,cl] true) (tq true):=#v[Nw c.units,(by
  intro Z H x y d v u f g z h i e Q k;refine ob e λl j m=>oc m λa n=>?_;cases n;let[o,rfl]:=Jf j;have a:=Bool.and_eq_true_iff.mp a;exact#v[Z,x,o,l,f,g,h,i,a.1,a.2,k (Go.id z) .bl_mk]),a]
end
section
variable {R:RC}{Z Z' Z2:Zn}{H H' H2:Hp}{pm:List Nat}
def Ny(rd:bS R Z H d v P)(a)  (r:a_ R Z H l vs O) (b:-ks=-l) (hn:a∉ks):
  a_ R Z H (qp ks l a d).2 (vs++[v]) (O++P)/\(((qp ks l a d).1).map bX).zip (vs++[v])=Jj ((ks.map bX).zip vs) (bX a) v/\(qp ks l a d).1.length=(qp ks l a d).2.length:=by
 have c:-ks=-vs:=by rw[r.length];exact b
 unfold qp Jj;rw[uG a c,if_neg hn,X1 hn,if_neg<|λz=>(nomatch z)];refine#v[r.append<|a_.one rd,?_,by simp[b]];rw[N4,List.zip_append ⇑c];rfl
def v7(i:Nat)(L:Ln)(pk pv:PF)(s:Rh):Option cq:=(pv s).bind λd=>(pV i s).bind λt=>(L t).bind λy=>(fZ y.1).bind λkl=>(pk s).bind λq=>(kZ q).bind λa=>bif cb (-kl.1)&&(frz d||!decide (a∈kl.1)) then some (.nx<|s.set i<|some<|y.2<|.dK true (qp kl.1 kl.2 a d).1 (qp kl.1 kl.2 a d).2) else none
def Nz{i}{L}{tb ty tv}{pk pv}(D:k_ R tb i L)(E:PB R ty pk)(F:PP R tv pv):DS R pm (mj tb ty tv) (v7 i L pk pv):=by
 intro σ ρ Z H O o w s e D' k;refine ob e λd G e=>ob e λt hi e=>ob e λ⟨y,k0⟩ e3 e=>ob e λ⟨g,l⟩ e7 e=>ob e λq I e=>ob e λc e5 e=>oc e λA e=>?_;cases e;cases uJ e7;rw[M0] at A;refine F w.zd s G λ{u Z1 H1 J} h B=>?_;have s1:=h.slots w.zd s;have C:=h.widen w;refine JE D C.wf s1 hi e3 lb λa _ vs K M j N P put=>P<|E h.wf.zd s1 I λ{z Q S P2} x T=>?_;let[rfl,_]:=vb e5 T;have m:=x.rep h.wf.zd B;have n:=x.reps h.wf.zd M;have key:∃ b p,a_ R Q S (qp g l c d).2 b p/\(((qp g l c d).1).map bX).zip b=Jj ((g.map bX).zip vs) (bX c) u/\(∀ q,p.count q<=K.count q+J.count q)/\(qp g l c d).1.length=(qp g l c d).2.length:=by
  cases hf:frz d with
  | true=>
   cases B.nil hf;let[b,p,r,v,U,f]:=Vz m c n j;exact#v[b,p,r,v,⇑U.count_le,f]
  | false=>
   have V:c∉g:=by
    have:=A.2;rw[hf] at this;simpa using this
   let[r,v,f]:=Ny m c n j V;exact#v[_,_,r,v,λq=>by rw[U7];exact M8 _,f]
 let[b,p,r,v,W,f]:=key;let[O3,X,Y]:=put lb f x r ⇑W;refine#v[a,_,rfl,cW.k (x.at0 N)<|Kk A.1,?_];rw[<- v];exact k (C.trans X) Y<|cf.refl _ _
def V1(i:Nat)(L:Ln)(c:Nat)(f:Str)(g:Int->Int->Int)(pv:PF)(s:Rh):Option cq:=(pV i s).bind λt=>(L t).bind λy=>(xx y.1).bind λq=>(Jh q.2.1 q.2.2 f).bind λm=>(kn m).bind λm=>(pv s).bind λn=>(kn n).bind λn=>
 bif q.1==c&&decide (-q.2.1<=900) then some (.nx<|s.set i<|some<|y.2<|.ins true c (qF q.2.1 q.2.2 f<|.int<|g m n).1 (qF q.2.1 q.2.2 f<|.int<|g m n).2) else none
end
section
variable {cl:Nat->Addr}{pm:List Nat}{X:Cx}{o b e:Expr}{to tb te:TE}{po pb pe:PF}{pos p fp tpos:Pos}{k i:Nat}{L:Ln}
def NA(f:ca k X.A)(a:QL cl X o to i L)(c:QB cl X b tb pb)(d:QP cl X e te pe)(g:swapsWith e (some<|.Subscript o b pos') pos.line X.env=pure false:=by rfl):
  QS cl pm X (.Assign [.Subscript o b pos'] e pos) (mj to tb te) (v7 i L pb pe):=#v[uD (VJ f) a.sem c.sem d.sem g,Nz a.den c.den d.den]
def NB(f:ca k X.A)(a:QL cl X o to i L)(c:QB cl X b tb pb)(d:QB cl X e te pe)
  (g:∀ ov iv new,augStore b ov iv new=(do holding [new,ov,iv] (setItem ov iv new);release [new,ov,iv] [];pure .next):=by intro _ _ _;rfl):
  QS cl pm X (.AugAssign (.Subscript o b tpos) .Add e pos) (kR to tb te Ag) (ku i L pb (λm n=>m+n) pe):=#v[Q7 (VJ f) a.sem c.sem d.sem F6 g,zZ (λq=>#v[_,_,rfl,rfl,q]) a.den c.den d.den]
def ND(f:ca k X.A)(a:QL cl X o to i L)(c:QB cl X b tb pb)(d:QB cl X e te pe)
  (g:∀ ov iv new,augStore b ov iv new=(do holding [new,ov,iv] (setItem ov iv new);release [new,ov,iv] [];pure .next):=by intro _ _ _;rfl):
  QS cl pm X (.AugAssign (.Subscript o b tpos) .Sub e pos) (kR to tb te md) (ku i L pb (λm n=>m-n) pe):=#v[Q7 (VJ f) a.sem c.sem d.sem nH g,zZ (λq=>#v[_,_,rfl,rfl,q]) a.den c.den d.den]
def NE{c}{f}(R:dM X.K<|cl c)(S:bT X.K (cl c) f)(M:QL cl X o to i L)(N:QB cl X e te pe):
  QS cl pm X (.AugAssign (.Attribute o f tpos) .Sub e pos) (F5 X.K to te md f) (V1 i L c f (λm n=>m-n) pe):=#v[(by
    intro b s σ H D I h;refine wpAny_AugAssign_AttributeAny<|thn (M.sem b s σ H _ I h) λT s1 j=>?_;let[x,U,V,W,a,C,p,fs,v,ex,g,c,n,l,q]:=j;subst ex;obtain rfl:T=Value.ref a:=W;refine KM V g c n l λu Y I2 ru=>thn (N.sem b Y σ U _ I2 q) λw3 r ⟨y,P,I3,ry,q3⟩=>thn (nH b r σ P v y u w3 _ I3 ru ry q3) λw4 s4 j=>?_;let[z,H3,I4,rz,dx',fs',A,l',q4]:=j;exact KW I4 A c n l' rz λs5 I5=>#v[σ,_,I5,q4]),(by
      intro σ ρ Z H O o w s e D' k;refine ob e λt hi e=>ob e λ⟨y,k0⟩ e3 e=>ob e λ⟨c',ns,l⟩ e4 e=>ob e λx hm e=>ob e λm e1 e=>ob e λx' e6 e=>ob e λn e2 e=>oc e λB e=>?_;cases e;cases Yv e4;cases jZ e1;cases jZ e2;rw[M0] at B;obtain rfl:c'=c:=by simpa using B.1
      refine JE (P0:=[]) M.den w s hi e3 dI λa p vs O' Q d g ht put=>?_;let[mv,P3,E,F]:=tp Q d hm;let[rfl,_]:=F.int_of;refine ht #v[a,_,p,_,_,rfl,g,R,S,E,N.den w.zd s e6 λ{u Z2 P P4} G r2=>?_];let[rfl,_]:=r2.int_of;let[vs2,O2,r3,e7,J,c3]:=Kf (bS.int_mk) (G.reps w.zd Q) d;let[O3,g3,r]:=put dI J G r3 ⇑c3;refine(λq=>#v[_,_,rfl,rfl,q]) #v[p,_,G.at0 g,Cp B.2,?_];rw[<- e7];exact k g3 r<|cf.refl _ _)]
end
namespace QK
def NF{K}{cl}{X}{o}{to}{po}{pos}{c}{f}(a:X.K=K)(b:dM X.K<|cl c)(d:bT X.K (cl c) f)(e:QB cl X o to po)(g:attributeBase o f X.env (eval o X.env)=eval o X.env:=by rfl):QB cl X (.Attribute o f pos) (io K to f) (v9 c f po):=by subst a;exact Cq b d e g
def tw{K}{cl}{X}{o e}{es}{to}{po}{tr}{pr}{pos apos}{k n c}{ps}{m}{mn qual}{st}{pl}(d:X.K=K)(g:dM X.K<|cl c)(O:iJ X.prog X.w X.K X.mg (cl c) mn qual st k ps<|dX #v[X.K,cl] m n)(h:ca k X.A)(i:QB cl X o to po)(j:eD cl X (e::es) tr pr)(hn:-(e::es)+1=n:=by rfl)
  (a:dS X e es:=by rfl) (b:eh X pos es:=by rfl)
  (l:eval (.Call (.Attribute o mn apos) (e::es) [] pos) X.env=(do
   let ov <- eval o X.env
   standAt apos.atName
   let (f,first) <- holding [ov] (getMethod ov mn pl)
   callWith pos f first (backTo pos<|starEach (e::es) X.env) (backToKw pos<|keywordEach [] X.env)):=by rfl):
  QP cl X (.Call (.Attribute o mn apos) (e::es) [] pos) (kA (cl c) mn (dX #v[K,cl] m n) [] E0 to tr) (yf m c mn po pr):=by subst d;exact Cv g O h i j hn a b l
end QK
section
variable {R:RC}{Z Z':Zn}{H H':Hp}{pm:List Nat}
def YG(m:List D->Option (D×D))(i:Nat)(L:Ln)(p:cR)(ρ:Rh):Option (D×Rh):=(pV i ρ).bind λt=>(L t).bind λy=>(p ρ).bind λds=>bif frzs ds then(m<|y.1::ds).bind λr=>some (r.1,ρ.set i<|some<|y.2 r.2) else none
def tz(i:Nat)(pa pb:PF)(g:Int->Int->Int)(pv:PF):FS:=λs=>(pV i s).bind λx=>(kW x).bind λp=>(lH pa pb s).bind λa=>(um p.1 p.2 a).bind λy=>(kn y).bind λm=>(pv s).bind λz=>(kn z).bind λn=>
 bif cb (-p.1) then some (.nx<|s.set i<|some<|.dT true (Q5 p.1 p.2 a<|.int<|g m n).1 (Q5 p.1 p.2 a<|.int<|g m n).2) else none
end
section
variable {cl:Nat->Addr}{pm:List Nat}{X:Cx}{o e:Expr}{es:List Expr}{to te:TE}{po pe:PF}{tr:TA}{pr:cR}{pos p:Pos}{i:Nat}{L:Ln}
def NG{k n}{ps}{m}{x}{st}(O:lj X.prog X.w X.K X.mg x st k ps<|gw #v[X.K,cl] m n 0)(N:ca k X.A)
  (u:QL cl X o to i L) (C:fO cl X es tr pr) (hn:∀ ρ ds,pr ρ\ds->-ds+1=n) (R:Gl X x:=by rfl) (g:Nd x:=by decide)
  (D:starEach (o::es) X.env=(false,eval o X.env)::starEach es X.env:=by rfl) (j:eh X pos es:=by rfl):QE cl X (.Call (.Name x p) (o::es) [] pos) (nI (gw #v[X.K,cl] m n 0) [] E0<|ve to tr) (YG m i L pr):=by
 let[_,_,F,G]:=O;exact#v[AG F (G _) N (yy u.sem C.sem D) R g D j,(by
   intro σ ρ ρ' Z H O d w s e Q k;refine ob e λt hi e=>ob e λ⟨y,k0⟩ e3 e=>ob e λds E e=>oc e λS e=>ob e λ⟨T,U⟩ e2 e=>?_;cases e;let[v,A,P,B,rfl,r,V,W]:=u.den s (KI hi) e3;refine V<|C.den w.zd s E λ{vs l I P1} b J=>?_;cases J.nil S;have c:Go Z H (A++P++B) l I (A++P++B):=by simpa using b.widen w
   have Y:a_ #v[X.K,cl] l I (y::ds) (v::vs) P:=by
    have:=a_.cons (b.rep w.zd r) J;simpa using this
   refine#v[l,y::ds,T,U,P,v,c.wf.mid,by have:=hn ρ ds E;simpa using this,by rw[M9];exact Y,rfl,e2,λ{v2 Z2 H2 P2 O2} f r2 q=>?_];have M:=Go.keepA c.wf f;exact k (c.trans<|f.frame c.wf).turn r2 (W q (λa z=>f.zz a<|b.zz a z) (λa z=>(f.zH c.wf.mid a<|b.zz a z).trans (b.same a<|w.zd a z)) (λa h=>(M.1 a h).trans (b.same a<|w.od a<|by simp[h]))<|λa h=>(M.2 a h).trans (b.same a<|w.od a<|by simp[h])))]
def NH{a b}{ta tb}{pa pb}{x}{x1}{k}{d f tpos}(L:ca k X.A)(M:QB cl X (.Name x d) (vw i)<|pV i)(D:QB cl X a ta pa)(E:QB cl X b tb pb)(F:QB cl X e te pe)
  (hx:∀ ov iv new,augStore (.Tuple [a,b] x1 f) ov iv new=(do holding [new,ov,iv] (setItem ov iv new);release [new,ov,iv] [];pure .next):=by intro _ _ _;rfl)
  (h1:starEach [a,b] X.env=(false,eval a X.env)::starEach [b] X.env:=by rfl) (h2:starEach [b] X.env=(false,eval b X.env)::starEach [] X.env:=by rfl):
  QS cl pm X (.AugAssign (.Subscript (.Name x d) (.Tuple [a,b] x1 f) tpos) .Sub e pos) (kR (vw i) (mS ta tb) te md) (tz i pa pb (λm n=>m-n) pe):=
 ⟨Q7 (VJ L) M.sem (Y9<|yy D.sem (yy E.sem Ji h2) h1) F.sem nH hx,(by
   intro σ ρ Z H O o w s e D' k;refine ob e λx N e=>ob e λ⟨ks,l⟩ P e=>ob e λc e2 e=>ob e λy e3 e=>ob e λm Q e=>ob e λz e7 e=>ob e λn R e=>oc e λh e=>?_;cases e;cases uy P;cases jZ Q;cases jZ R;refine JE (P0:=[]) J4 w s N rfl oh λa _ vs O' G j I S put=>S<|VD D.den E.den w.zd s e2 λ{b Z2 H2} p zb J=>?_;let[mv,P3,r,v]:=(Vx G j).1 _ e3;let[rfl,_]:=v.int_of;refine#v[a,.int m,rfl,by rw[<- r];exact cG.t (p.at0 I) J,F.den p.wf.zd (p.slots w.zd s) e7 λ{u Z3 H3 P4} K T=>?_];let[rfl,_]:=T.int_of;have g:=p.trans K;let[U,O2,B,V,W,C]:=Q0 (bS.int_mk) c (g.reps w.zd G) j;let[O3,Y,s4]:=put oh C g B ⇑W.count_le;refine(λq=>#v[_,_,rfl,rfl,q]) #v[_,cW.t (g.at0 I) (K.at0 J)<|Kk h,?_];rw[<- V];exact k Y s4<|cf.refl _ _)⟩
def NI(g:ca k X.A)(d:QB cl X a ta pa)(f:QB cl X b tb pb)(h:behindInMarks .NotIn b=false:=by with_unfolding_all rfl):QP cl X (.Compare a [.NotIn] [b] pos) (uV ta tb) (p2 (Ko true) pa pb):=
 ⟨(λc s u H Q I i=>wpAny_Compare1 ((GP (VJ g) d.sem f.sem) c s u H Q I i) h),(λz s e _ k=>by
   have:=Mu d.den f.den z s e k;simpa [uV] using this)⟩
end
section
variable {R:RC}{Z Z':Zn}{H H':Hp}{pm:List Nat}
def uN(K:W4):List V->Hp->VK->Prop:=(λxs H Q=>∃(p:Addr) (ys:List V) (ps:List<|List cS×Addr×V),xs=[.ref p]/\cD K H p ys/\ -ys=-ps/\ -ps<=100000 /\
  (∀(j:Nat) y,ys[j]?\y->∃ kv t,ps[j]?\kv/\y=.ref t/\cK K H t [.ref kv.2.1,kv.2.2]/\H kv.2.1\(.tup<|kv.1.map kV))/\∀ D,H D=none->Q (.ref D) (bU H D<|.dT<|ps.foldl (λa kv=>Jj a kv.1 kv.2.2) []))
def tD(ps:List<|List KA×D):List (List KA)×List D:=ps.foldl (λacc kv=>Q5 acc.1 acc.2 kv.1 kv.2) ([],[])
theorem xL:∀{ps:List (List KA×D)}{ws:List (List cS×Addr×V)}{ks}{l}{us},ws.map (·.1)=ps.map (λy=>y.1.map bX)->a_ R Z H (ps.map (·.2)) (ws.map (·.2.2)) []->a_ R Z H l us []->-ks=-l ->
  ∃ us',cM (a_ R Z H (ps.foldl (λacc kv=>Q5 acc.1 acc.2 kv.1 kv.2) (ks,l)).2 us' []) ((((ps.foldl (λacc kv=>Q5 acc.1 acc.2 kv.1 kv.2) (ks,l)).1).map (List.map bX)).zip us'=(ws.foldl (λa kv=>Jj a kv.1 kv.2.2)<|(ks.map<|List.map bX).zip us))<|(ps.foldl (λacc kv=>Q5 acc.1 acc.2 kv.1 kv.2) (ks,l)).1.length=(ps.foldl (λacc kv=>Q5 acc.1 acc.2 kv.1 kv.2) (ks,l)).2.length
 | [],[],ks,l,us,_,_,r,b=>#v[us,r,by simp,b]
 | [],w::ws,ks,l,us,h,_,_,_=>by simp at h
 | p::ps,[],ks,l,us,h,_,_,_=>by simp at h
 | p::ps,w::ws,ks,l,us,j,c,r,b=>by
  let[v,k,z,A,m,e,n,o]:=c;let[rfl,rfl]:=List.append_eq_nil_iff.mp e.symm;let[rfl,rfl]:=List.cons.inj m;rw[L5,L5] at j;let[d,f]:=List.cons.inj j;let[q,B,s,e3,t,g]:=Q0 n p.1 r b;have:=List.sublist_nil.mp t;subst this;let[us',u,x,i]:=xL f o s g;refine#v[us',u,?_,i];rw[U9,U9,x,e3,d]
end
end QD
namespace L2
open PySem PySem.Spec PyProof.Rows
def NJ(h:bQ ys its):bQ (KB lt ys .non) (KB lt its Value.none):=by
 unfold KB;rw[<- h.length];split
 ·exact h
 ·generalize(dF lt<|PySem.W.kas_sort (-ys)).toList=l;have get:∀ ys its,bQ ys its->∀ i,bR (ys.getD i .non) (its.getD i Value.none):=by
   intro ys its h
   induction h with
   | nil=>intro i;simp;rfl
   | cons b _ a=>
    intro i;cases i with
    | zero=>exact b
    | succ i=>exact a i
  induction l with
  | nil=>exact .nil
  | cons i l a=>exact .cons (get ys its h i) a
def Cz(K:W4):List V->Hp->VK->Prop:=λxs H Q=>∃(p:Addr) (ys:List V) (rs:List iz),xs=[.ref p]/\cD K H p ys/\ -ys=-rs/\ -ys<64 /\
 (∀(j:Nat) y,ys[j]?\y->∃ r t,rs[j]?\r/\y=.ref t/\cK K H t [.str r.1,.str r.2.1,.int r.2.2])/\∀ D,H D=none->Q (.ref D) (bU H D<|.lst<|KB (λi j=>wa (rs.getD i ("","",0))<|rs.getD j ("","",0)) ys .non)
def NK(h:bQ ys its):∀(j:Nat) v,its[j]?\v->∃ y,ys[j]?\y/\bR y v:=by
 induction h with
 | nil=>intro j v e;simp at e
 | @cons y u ys c a _ b=>
  intro j v e;cases j with
  | zero=>cases e;exact#v[y,rfl,a]
  | succ j=>exact b j v ⇑e
def Va:JX X (.builtin "sorted") (Cz X.K):=by
 intro w s σ H xs us Q I r h;let[p,z,a,rfl,A,hl,hz,B,q]:=h;let[u,rfl,C]:=r.one;cases C;obtain⟨D,b,⟨o,n,e,d,E,f⟩,_⟩:=I.list A;have F:=b.length.symm;refine Vf (rs:=a) #v[o,e,d,n,f] ∅ ∅ (λj v G=>?_) λh' c J L=>?_
 ·let[y,M,N]:=NK b j v G;let[r,t,O,rfl,g]:=B j y M;cases(N);obtain⟨x,P,⟨R,e2,k,S,l⟩,_⟩:=I.tuple g;cases P with
  | cons T U=>
   cases U with
   | cons V W=>
    cases W with
    | cons Y Z=>
     cases Z;rename_i v1 v2 v3;let[t1,rfl]:=(T);let[t2,rfl]:=(V);let[t3,rfl]:=(Y);exact#v[r,O,t,R,S,t1,t2,t3,rfl,e2,k,l]
 ·have m:=I.hok.fresh<|Nat.le_succ ↥s;refine#v[.ref<|↥s+1,_,I.laid (o:=.lst<|KB (λi j=>wa (a.getD i ("","",0))<|a.getD j ("","",0)) z .non) J (Nat.le_succ _) #v[?_,_,c,NJ b,L],rfl,q _ m];rw[A6]
  lia
end L2
namespace QD
open PySem L2 PySem.Spec PyProof.Rows
def CA:List D->Option (D×D×D)
 | [x,y,z]=>some (x,y,z)
 | _=>none
def NL{l}{p}(h:CA l\p):l=[p.1,p.2.1,p.2.2]:=by
 match l with
 | [_,_,_]=>cases h;rfl
def NO(d:D):Option iz:=(mm d).bind λt=>(CA t).bind λp=>(rV p.1).bind λa=>(rV p.2.1).bind λb=>(kn p.2.2).bind λn=>some (S a,S b,n)
def lK:List D->Option (List iz)
 | []=>some []
 | d::l=>(NO d).bind λx=>(lK l).bind λr=>some<|x::r
def xE(rs:List iz)(l:List D):List D:=KB (λi j=>wa (rs.getD i ("","",0))<|rs.getD j ("","",0)) l .non
def y8(l:List D):Option D:=(fN l).bind λx=>(gk x).bind λl=>(lK l).bind λrs=>bif decide (-l<64) then some (.lst true<|xE rs l) else none
@[simp] def lM(o)(l):y8 [.lst o l]=(lK l).bind λrs=>bif decide (-l<64) then some (.lst true<|xE rs l) else none:=rfl
def NQ:∀{l}{rs}{ys}{O},lK l\rs->a_ R Z H l ys O->O=[]/\ -ys=-rs/\∀(j:Nat) y,ys[j]?\y->∃ r t,rs[j]?\r/\y=.ref t/\cK R.K H t [.str r.1,.str r.2.1,.int r.2.2]:=by
 intro l
 induction l with
 | nil=>
  intro rs ys O e r;cases e;let[rfl,rfl]:=r;exact#v[rfl,rfl,λj y f=>by simp at f]
 | cons d l k=>
  intro rs ys O e r;refine ob e λx c e=>ob e λm e2 e=>ob c λt o c=>ob c λq p c=>ob c λa s c=>ob c λb u c=>ob c λn v c=>?_;cases e;cases c;symm at r;rw[QY o,NL p,Bh s,Bh u,jZ v] at r;let[J,w,L,M,rfl,rfl,i,z]:=r;let[rfl,A,q]:=k e2 z;have B:=i.nil (by rfl);subst B;let[t,vs,rfl,C,g]:=i;let[N,D,P,Q,rfl,T,E,h]:=g;let[U,V,W,X,rfl,F,G,I]:=h.two_of;let[rfl,_]:=E.str_of;let[rfl,_]:=G.str_of;let[rfl,_]:=I.int_of;refine#v[rfl,by simp[A],λj y f=>?_];cases j with
  | zero=>cases f;exact#v[(S a,S b,n),t,rfl,rfl,C.sq]
  | succ j=>exact q j y ⇑f
def NR(r:a_ R Z H l vs [])(a:List Nat):a_ R Z H (a.map λi=>l.getD i .non) (a.map λi=>vs.getD i .non) []:=by
 have get:∀ l vs,a_ R Z H l vs []->∀ i,bS R Z H (l.getD i .non) (vs.getD i .non) []:=by
  intro l
  induction l with
  | nil=>
   intro vs r i;let[rfl,_]:=r;simp;exact .non_mk
  | cons d l b=>
   intro vs r i;let[v,c,h,j,rfl,e,f,g]:=r;let[rfl,rfl]:=List.append_eq_nil_iff.mp e.symm;cases i with
   | zero=>exact f
   | succ i=>exact b c g i
 induction a with
 | nil=>exact .empty
 | cons i a b=>exact a_.cons (get l vs r i) b
def xT:BC R (Cz R.K) y8:=by
 intro Z H C d vs O z r e Q k;refine ob e λx m n=>ob n λl s t=>?_;let[o,rfl]:=Jf s;rw[kP m] at r
 ·refine ob t λc u e=>oc e λw e=>?_;cases e;let[v,rfl,y]:=r.one_of;let[p,f,E,rfl,hx,b]:=y.lst_of;let[rfl,A,q]:=NQ u b;refine#v[p,f,c,rfl,hx.sq,A,by rw[b.length];exact(X2 w),q,λD g=>?_];refine k (Go.newO (cZ z) g) ?_;have ne:∀ a,H a≠none->a≠D:=λa h e=>h<|e▸g;have B:a_ R Z H (xE c l) (KB (λi j=>wa (c.getD i ("","",0))<|c.getD j ("","",0)) f .non) []:=by
   unfold xE KB;rw[b.length];split
   ·exact b
   ·exact NR b _
  exact#v[D,_,[],rfl,B.frame (λa z=>z) (λa h=>jh<|ne a<|z a h)<|λa h=>(nomatch h),js,rfl]
def Ve:bootBuiltins "sorted" = some (.builtin "sorted"):=by boot_fast
def Qd:(xE rs l).Perm l:=by
 unfold xE KB;split
 ·exact List.Perm.refl _
 ·rename_i h;refine(((u5 (lt:=λi j=>wa (rs.getD i ("","",0))<|rs.getD j ("","",0)) (n:=-l) ∅).2).map λi=>l.getD i .non).trans ?_;have:(List.range (-l)).map (λi=>l.getD i .non)=l:=by
   apply List.ext_getElem
   ·simp
   ·intro i b a;simp[List.getD_eq_getElem?_getD,X5 a]
  rw[this]
def two2:List KA->Option (KA×KA)
 | [a,b]=>some (a,b)
 | _=>none
def two2_of{k}{p}(h:two2 k\p):k=[p.1,p.2]:=by
 match k with
 | [_,_]=>cases h;rfl
def wS(q:KA->KA->Int->Option Bool)(el:KA->KA->Int->D):List (List KA)->List D->Option (List D)
 | [],[]=>some []
 | k::ks,d::l=>(two2 k).bind λp=>(kn d).bind λn=>(q p.1 p.2 n).bind λt=>(wS q el ks l).bind λr=>some<|bif t then el p.1 p.2 n::r else r
 | _,_=>none
theorem Ql{q el}:∀{ks}{l}{r},wS q el ks l\r->frzs l=true/\ -ks=-l
 | [],[],_,_=>#v[rfl,rfl]
 | [],_::_,_,e=>by cases e
 | _::_,[],_,e=>by cases e
 | k::ks,d::l,r,e=>by
  refine ob e λp c e=>ob e λn e2 e=>ob e λt f e=>ob e λg e3 e=>?_;let[a,b]:=Ql e3;cases jZ e2;exact#v[by rw[kO,a];rfl,by simp[b]]
def NT{q el}{ks:List (List KA)}{l:List D}{r}{i}(e:wS q el (ks.drop i) (l.drop i)\r)(hi:i< -ks):pR λa b n t r'=>fI (ks[i]?\[a,b]) (l[i]?\(.int n)) (q a b n\t) (wS q el (ks.drop<|i+1) (l.drop<|i+1)\r') (r=bif t then el a b n::r' else r'):=by
 rw[List.drop_eq_getElem_cons hi] at e;have c:i< -l:=by
  by_cases h:i< -l
  ·exact h
  ·rw[List.drop_eq_nil_of_le (as:=l) ∅] at e;cases e
 rw[List.drop_eq_getElem_cons c] at e;rw[X5 hi,X5 c];refine ob e λp d e=>ob e λn e2 e=>ob e λt f e=>ob e λr' e3 e=>?_;cases e;exact#v[p.1,p.2,n,t,r',by rw[two2_of d],by rw[jZ e2],f,e3,rfl]
section
variable {R:RC}{tc:TT}{te ts:TE}{q:KA->KA->Int->Option Bool}{el:KA->KA->Int->D}
def tE(R:RC)(tc:TT)(q:KA->KA->Int->Option Bool):Prop:=∀{s:L2.St}{Z:Zn}{H:Hp}{b a1 a2 n t}{Q:Bool->Hp->Prop},Zd Z H->s[0]?\(some<|.ref b)->s[1]?\(some<|.int n)->H b\(.tup [kV<|bX a1,kV<|bX a2])->q a1 a2 n\t->(∀{Z' H'},Go Z H [] Z' H' []->Q t H')->tc s H Q
def tF(R:RC)(te:TE)(el:KA->KA->Int->D):Prop:=∀{s:L2.St}{Z:Zn}{H:Hp}{b a1 a2 n}{Q:VK},Zd Z H->s[0]?\(some<|.ref b)->s[1]?\(some<|.int n)->H b\(.tup [kV<|bX a1,kV<|bX a2])->(∀{v Z' H'},Go Z H [] Z' H' []->bS R Z' H' (el a1 a2 n) v []->Q v H')->te s H Q
inductive CB (R:RC) (q:KA->KA->Int->Option Bool) (el:KA->KA->Int->D) (Z0:Zn) (H0:Hp) (a:Addr) (ks:List<|List KA) (l all:List D) (i m:Nat) (σ2:L2.St) (H2:Hp):Prop
 | mk:m=-ks-i->i<=-ks->-σ2=2->∀(Z2:Zn) (ys:List D) (vs:List V) (rest:List D),Go Z0 H0 [] Z2 H2 [a]->H2 a\(.lst vs)->a_ R Z2 H2 ys vs []->wS q el (ks.drop i) (l.drop i)\rest->all=ys++rest->-ys<=i->CB R q el Z0 H0 a ks l all i m σ2 H2
def NU(ht:tE R tc q)(he:tF R te el){I}{o}{j}{d}{ks}{l}{us}{all}(D:Zd j d)(hd:d I\(.frz o<|.dT<|(ks.map<|List.map bX).zip us))(ru:a_ R j d l us [])(E:-ks=-l)(hl:cb (-ks)=true)(e:wS q el ks l\all)
  {Q:VK}(k:∀{a}{Z'}{H'}{vs},Go j d [] Z' H' [a]->H' a\(.lst vs)->a_ R Z' H' all vs []->Q (.ref a) H'):∀ a,d a=none ->
  nT tc te (iP R.K 2<|zi (Jl 0)<|zi (Jl 1) ka) (rL I o<|(ks.map<|List.map bX).zip us) a %[_,_|0] (bU d a<|.lst []) λH2=>Q (.ref a) H2:=by
 intro a ha;have N:-us=-ks:=by rw[ru.length];exact E.symm
 have r:-((ks.map<|List.map bX).zip us)=-ks:=by rw[List.length_zip,L1,N,Nat.min_self]
 have gp:Go j d [] j (bU d a<|.lst []) [a]:=Go.newO (cZ D) ha;refine#v[CB R q el j d a ks l all,
  ⟨ks.length,rfl,U4 _,rfl,j,[],[],all,gp,js,a_.empty,e,rfl,M8 _⟩,?_]
 rintro i m O H2 ⟨rfl,P,hσ,Z2,ys,vs,rest,f,F,J,e3,C,s⟩;have hJ:H2 I\(.frz o<|.dT<|(ks.map<|List.map bX).zip us):=by rw[f.same I<|by rw[hd];exact λz=>(nomatch z)];exact hd
 by_cases g:i< -ks
 ·right
  refine#v[#v[hJ,by rw[r];exact g],?_];rintro u H3 ⟨p,kv,b,G,rfl,hp,S,rfl⟩;let[L,M,n,t,r',hk,hn,e6,e5,rfl]:=NT e3 g;let[w,hw,T]:=(f.reps D ru).item hn;let[rfl,_]:=T.int_of;have hz:((ks.map<|List.map bX).zip us)[i]?\([bX L,bX M],.int n):=by
   rw[List.getElem?_zip_eq_some];exact#v[by rw[List.getElem?_map,hk];rfl,hw]
  rw[hz] at G;cases G;have U:b≠p:=λz=>by rw[z,hp] at S;cases S
  have y:bU H2 p (.tup [.ref b,.int n]) b\(.tup [kV<|bX L,kV<|bX M]):=by rw[jh U];exact S
  have g3:Go Z2 H2 [] Z2 (bU H2 p<|.tup [.ref b,.int n]) []:=(Go.newO (cZ f.wf.zd) hp).drop (λ_ h=>(nomatch h)) List.nodup_nil;refine#v[p,[.ref b,.int n],rfl,cK.of js,rfl,.ref b,[.int n],rfl,.int n,[],rfl,rfl,?_];have s0:((O.set 0<|some<|.ref b).set 1 (some<|.int n))[0]?\(some<|.ref b):=by
   rw[List.getElem?_set_ne<|by decide,List.getElem?_set_self ∅]
  have s1:((O.set 0<|some<|.ref b).set 1 (some<|.int n))[1]?\(some<|.int n):=by
   rw[List.getElem?_set_self<|by rw[List.length_set];lia]
  have H:-((O.set 0<|some<|V.ref b).set 1 (some<|V.int n))=2:=by simp[hσ]
  refine ht g3.wf.zd s0 s1 y e6 λ{Z4 H4} g4=>?_;have c:=g3.trans g4;cases t with
  | true=>
   have W:H4 b\(.tup [kV<|bX L,kV<|bX M]):=by rw[g4.same b<|by rw[y];exact λz=>(nomatch z)];exact y
   refine iy<|he c.wf.zd s0 s1 W λ{v Z6 X} gq rq=>?_;have A:=c.trans gq;have Y:X a\(.lst vs):=by rw[A.same a<|by rw[F];exact λz=>(nomatch z)];exact F
   have Z:-vs<sizeLine:=by
    rw[J.length];exact xj<|X0<|N6 s<|N6 P<|X2 hl
   have gA:Go j d [] Z6 X [a]:=f.trans ⇑(A.frame (B:=[])<|by simpa using f.wf);have w6:=gA.wf;have rr:=((A.reps f.wf.zd J).append (.one rq)).frame (H':=bU X a<|.lst<|vs++[v]) (λ_ z=>z) (λx hx=>jh λz=>w6.nz a L7<|z▸hx) (λx hx=>(nomatch hx));rw[cond_true] at C;exact#v[vs,Y,Z,-ks-(i+1),by lia,rfl,g,H,_,ys++[el L M n],vs++[v],r',gA.trans<|Go.put (o:=.lst<|vs++[v]) w6 L7,js,by simpa using rr,e5,by rw[C];simp,by rw[N3];exact Nat.add_le_add_right s 1]
  | false=>
   refine iu ?_;rw[cond_false] at C;exact#v[ks.length-(i+1),by lia,rfl,g,H,Z4,ys,vs,r',f.trans<|by simpa using(c.frame (B:=[]) ⇑f.wf),by rw[c.same a<|by rw[F];exact λz=>(nomatch z)];exact F,c.reps f.wf.zd J,e5,C,Nat.le_succ_of_le s]
 ·left
  have hi2:i=-ks:=by lia
  refine#v[#v[hJ,by rw[r];lia],?_];rw[hi2,List.drop_length,E,List.drop_length] at e3;cases e3;rw[M9] at C;subst C;exact k f F J
@[simp] def CD(fe:FE)(q:KA->KA->Int->Option Bool)(el:KA->KA->Int->D)(s:Rh):Option (D×Rh):=(fe s).bind λt=>(kW t.1).bind λp=>bif cb (-p.1) then(wS q el p.1 p.2).bind λr=>some (.lst true r,t.2) else none
def NV{fe}(h:DE R ts fe)(F:tE R tc q)(G:tF R te el):DE R (xZ (A8 ts) (iP R.K 2<|zi (Jl 0)<|zi (Jl 1) ka) tc te %[_,_|0]) (CD fe q el):=by
 intro Y ρ S Z H O d w s e Q k;refine ob e λt e5 e=>ob e λp I e=>oc e λi e=>ob e λall e7 e=>?_;cases e;let[x,T]:=t;let[u,l]:=p;cases uy I;refine h w s e5 λ{v j g P m} C r s1=>?_;let[c,y,U,rfl,D,A,J,rfl]:=r;cases D.nil (Ql e7).1;refine#v[c,_,rfl,J,λo=>?_];have B:=C.wf;have L:Go j g ([c]++m) j (bU g c<|.frz o<|.dT<|(u.map<|List.map bX).zip y) ([c]++m):=Go.put B (by simp);have nd:=B.nd;simp only[List.singleton_append,List.nodup_cons] at nd;have n:Go j g ([c]++m) j (bU g c<|.frz o<|.dT<|(u.map<|List.map bX).zip y) m:=L.drop (λa h=>U2 _ h) nd.2;have nz:∀ b,j b->bU g c (.frz o<|.dT<|(u.map<|List.map bX).zip y) b=g b:=λb f=>jh λz=>B.nz c (by simp)<|z▸f;have nO:∀ b∈m,b≠c:=λb f z=>nd.1<|z▸f;exact NU F G n.wf.zd js (D.frame (λ_ z=>z) nz λb f=>(nomatch f)) A i e7 λ{a V W vs} E M N=>(k (C.trans<|n.trans<|E.widen n.wf) #v[a,vs,[],rfl,N,M,rfl]<|E.slots n.wf.zd<|s1.frame (λ_ z=>z) nz λb f=>jh<|nO b f)
def NW:tE R (kf<|de (ff λi j=>.bl<|decide<|j<i) (vw 1)<|tC<|.int 0) (λ_ _ n=>some<|decide<|0<n):=by
 intro s Z H b a c n t Q z s0 s1 d e k;cases e;exact#v[.int n,s1,n,0,rfl,rfl,_,rfl,k<|Go.refl<|cZ z]
def NX:tF R (gf<|ve (de (fg R.K) (vw 0)<|tC<|.int 0)<|ve (de (fg R.K) (vw 0)<|tC<|.int 1)<|ve (vw 1) Qp) (λa b n=>.tup [eQ a,eQ b,.int n]):=by
 intro s Z H b e f n Q z s0 s1 c k;refine#v[.ref b,s0,.inr<|.inl #v[b,_,0,_,rfl,rfl,cK.of c,rfl,#v[.ref b,s0,.inr<|.inl #v[b,_,1,_,rfl,rfl,cK.of c,rfl,?_]]]];exact#v[.int n,s1,by show 3<=sizeLine;decide,λq d=>k (Go.newF (cZ z) d)<|bS.tupNew (cZ z) d<|a_.cons (zw e)<|a_.cons (zw f)<|a_.cons .int_mk .empty]
abbrev CF:List (List KA)->List D->Option (List D):=wS (λ_ _ n=>some<|decide<|0<n) λa b n=>.tup [eQ a,eQ b,.int n]
@[simp] def CG(i:Nat)(s:Rh):Option (D×Rh):=CD (d9 i) (λ_ _ n=>some<|decide<|0<n) (λa b n=>.tup [eQ a,eQ b,.int n]) s
end
def lN:List D->List D->List D->List D
 | a::l,b::m,c::n=>.tup [a,b,c]::lN l m n
 | _,_,_=>[]
def CH{a l b m c n}:lN (a::l) (b::m) (c::n)=.tup [a,b,c]::lN l m n:=rfl
theorem z7:∀{ns}{l}{vs}{O},a_ R Z H l vs O->-ns=-l->Jh ns l f\d->eB λv P=>cM ((ns.zip vs).lookup f\v) (bS R Z H d v P)<|∀ q,P.count q<=O.count q
 | [],l,vs,O,_,_,h=>by cases l<;>cases h
 | n::ns,[],vs,O,_,a,_=>by simp at a
 | n::ns,x::l,vs,O,r,a,h=>by
  let[v,b,c,k,rfl,rfl,g,i]:=r;rw[oX] at h;by_cases e:f=n
  ·rw[if_pos e] at h;cases h;exact#v[v,c,by rw[U6,List.lookup_cons,e];simp,g,λq=>by rw[U7];lia]
  ·rw[if_neg e] at h;let[w,P,j,e2,e3]:=z7 i ⇑a h;refine#v[w,P,?_,e2,λq=>by have:=e3 q;rw[U7];lia];rw[U6,List.lookup_cons,show(f==n)=false by simp[e]];exact j
theorem CI(j:f≠g):∀{ns}{l}{vs}{O},a_ R Z H l vs O->-ns=-l->Jh ns l f\d->Jh ns l g=some c ->
  gP λv P w Q=>fI ((ns.zip vs).lookup f\v) ((ns.zip vs).lookup g\w) (bS R Z H d v P) (bS R Z H c w Q)<|∀ q,P.count q+Q.count q<=O.count q
 | [],l,vs,O,_,_,h,_=>by cases l<;>cases h
 | n::ns,[],vs,O,_,m,_,_=>by simp at m
 | n::ns,x::l,vs,O,r,m,h,k=>by
  let[v,u,s,A,rfl,rfl,t,p]:=r;rw[oX] at h k;by_cases e:f=n
  ·have i:g≠n:=λz=>j<|e.trans z.symm;rw[if_pos e] at h;rw[if_neg i] at k;cases h;let[w,Q,o,e2,e3]:=z7 p ⇑m k;refine#v[v,s,w,Q,by rw[U6,List.lookup_cons,e];simp,?_,t,e2,λq=>by have:=e3 q;rw[U7];lia];rw[U6,List.lookup_cons,show(g==n)=false by simp[i]];exact o
  ·rw[if_neg e] at h;by_cases i:g=n
   ·rw[if_pos i] at k;cases k;let[w,Q,o,e2,e3]:=z7 p ⇑m h;refine#v[w,Q,v,s,?_,by rw[U6,List.lookup_cons,i];simp,e2,t,λq=>by have:=e3 q;rw[U7];lia];rw[U6,List.lookup_cons,show(f==n)=false by simp[e]];exact o
   ·rw[if_neg i] at k;let[a,P,b,Q,o,e2,e3,y,e5]:=CI j p ⇑m h k;refine#v[a,P,b,Q,?_,?_,e3,y,λq=>by have:=e5 q;rw[U7];lia]
    ·rw[U6,List.lookup_cons,show(f==n)=false by simp[e]];exact o
    ·rw[U6,List.lookup_cons,show(g==n)=false by simp[i]];exact e2
@[simp] def lO(i:Nat)(c:Nat)(f:Str)(g:Str)(pe:PF)(s:Rh):Option (D×Rh):=(pV i s).bind λt=>(xx t).bind λy=>bif y.1==c&&!decide (f=g) then(Jh y.2.1 y.2.2 f).bind λa=>(Jh y.2.1 y.2.2 g).bind λb=>(pe s).bind λr=>some (.tup [a,r,b],s.set i none) else none
def NY(L:dM R.K<|R.cls c)(X:bT R.K (R.cls c) f)(Y:bT R.K (R.cls c) g)(he:PP R te pe):DE R (gf<|ve (io R.K (vw i) f)<|ve te<|ve (io R.K (vw i) g) Qp) (lO i c f g pe):=by
 intro σ ρ ρ' Z H O d w s e Q k;refine ob e λt e1 e=>ob e λ⟨c',ns,l⟩ e2 e=>oc e λE e=>ob e λa e3 e=>ob e λb e4 e=>ob e λr e5 e=>?_;cases e;cases Yv e2;have M:=KI e1;rw[M0] at E;obtain rfl:c'=c:=by simpa using E.1
 have F:f≠g:=by simpa using E.2
 let[A,P,B,rfl,k1,_,k3]:=s.put (L9.mp M).1;let[v,N,rp]:=k1 _ M;let[x,S,vs,G,rfl,rs,I,T,rfl]:=rp;let[m,Pf,n,Pg,lf,lg,rf,rg,cn]:=CI F rs I e3 e4;refine#v[.ref x,N,x,_,S,_,m,rfl,T,L,X,lf,(he w.zd s e5 λ{p o j D} u r1=>?_)];refine#v[.ref x,N,x,_,S,_,n,rfl,u.at0 T,L,Y,lg,by show 3<=sizeLine;decide,λq U=>?_];have J:=u.widen w;have gN:Go o j (D++(A++(x::G)++B)) (λy=>o y\/y=q) (bU j q<|.tup [m,p,n]) (D++(A++(x::G)++B)):=Go.newF J.wf U;have ne:∀ y,j y≠none->y≠q:=λy h e=>h<|e▸U;have zn:∀ y,o y->bU j q (.tup [m,p,n]) y=j y:=λy C=>jh<|ne y<|J.wf.zd y C;have up:∀{d}{v}{V},bS R o j d v V->bS R (λy=>o y\/y=q) (bU j q<|.tup [m,p,n]) d v V:=λW=>W.frame (λ_ z=>.inl z) zn λy C=>jh<|ne y<|W.dom y C;have s1:=(u.slots w.zd k3);have s2:Slots R (λy=>o y\/y=q) (bU j q<|.tup [m,p,n]) (ρ.set i none) σ (A++B):=s1.frame (λ_ z=>.inl z) zn λy C=>jh<|ne y<|s1.dom y C;have le:∀ y,((Pf++(D++Pg))++(A++B)).count y<=(D++(A++(x::G)++B)).count y:=λy=>by
  have:=cn y;simp only[U7,List.count_cons];lia
 refine k ((J.trans gN).drop (V8 le) (JP le gN.wf.nd)) #v[q,[m,p,n],rfl,.inl #v[.inr rfl,.inl js],?_] s2;have:=a_.cons (up<|u.rep w.zd rf)<|a_.cons (up r1)<|a_.one<|up<|u.rep w.zd rg;simpa using this
def NZ{cl}{X}{e}{te}{pe}{pos p}{i k}{x f g}{x1}{p2 b a}(m:dM X.K<|cl k)(n:bT X.K (cl k) f)(o:bT X.K (cl k) g)(q:QB cl X (.Name x p) (vw i)<|pV i)(l:QP cl X e te pe)(c:QB cl X (.Name x p2) (vw i)<|pV i)
  (r:attributeBase (.Name x p) f X.env (eval (.Name x p) X.env)=eval (.Name x p) X.env:=by rfl) (d:attributeBase (.Name x p2) g X.env (eval (.Name x p2) X.env)=eval (.Name x p2) X.env:=by rfl)
  (s:starEach [.Attribute (.Name x p) f b,e,.Attribute (.Name x p2) g a] X.env=(false,eval (.Attribute (.Name x p) f b) X.env)::starEach [e,.Attribute (.Name x p2) g a] X.env:=by rfl)
  (h:starEach [e,.Attribute (.Name x p2) g a] X.env=(false,eval e X.env)::starEach [.Attribute (.Name x p2) g a] X.env:=by rfl)
  (j:starEach [.Attribute (.Name x p2) g a] X.env=(false,eval (.Attribute (.Name x p2) g a) X.env)::starEach [] X.env:=by rfl):
  QE cl X (.Tuple [.Attribute (.Name x p) f b,e,.Attribute (.Name x p2) g a] x1 pos) (gf<|ve (io X.K (vw i) f)<|ve te<|ve (io X.K (vw i) g) Qp) (lO i k f g pe):=
 ⟨Y9<|yy (nF q.sem r) (yy l.sem (yy (nF c.sem d) Ji j) h) s,NY m n o l.den⟩
end QD
namespace QD
open PySem L2
def N_(B:cr X scope N' %[_,_|0])(Q:X.calm=true)(r:QB cl X (.Name x p) (vw i)<|pV i)
  (S:∀ C s H fp,QG cl [] (yJ X scope N' C s H fp) (.Tuple elts m tpos) (iP X.K 2<|zi (Jl 0)<|zi (Jl 1) ka) g)
  (t:∀ C s H fp,QT cl (yJ X scope N' C s H fp) c (kf<|de (ff λi j=>.bl<|decide<|j<i) (vw 1)<|tC<|.int 0) q)
  (T:∀ C s H fp,QP cl (yJ X scope N' C s H fp) elt (gf<|ve (de (fg X.K) (vw 0)<|tC<|.int 0)<|ve (de (fg X.K) (vw 0)<|tC<|.int 1)<|ve (vw 1) Qp) pe)
  (f:attributeBase (.Name x p) "items" X.env (eval (.Name x p) X.env)=eval (.Name x p) X.env:=by rfl) (k:(apos.endLine==cpos.line)=true:=by rfl)
  (U:∀ z,foldedSetIterable (.Call (.Attribute (.Name x p) "items" apos) [] [] cpos) X.env z=pure z:=by intro _;rfl):
  QE cl X (.ListComp elt [#v[.Tuple elts m tpos,.Call (.Attribute (.Name x p) "items" apos) [] [] cpos,[c],0]] scope pos)
   (xZ (A8<|vw i) (iP X.K 2<|zi (Jl 0)<|zi (Jl 1) ka) (kf<|de (ff λi j=>.bl<|decide<|j<i) (vw 1)<|tC<|.int 0) (gf<|ve (de (fg X.K) (vw 0)<|tC<|.int 0)<|ve (de (fg X.K) (vw 0)<|tC<|.int 1)<|ve (vw 1) Qp) %[_,_|0]) (CG i):=
 ⟨Ay B Q ((by
   intro e s σ H R I h;refine wpAny_Call_method0_late f k<|thn (r.sem e s σ H _ I h) λv s1 ⟨x,V,w,W,a,l,ex,y,q⟩=>?_;subst ex;obtain rfl:v=Value.ref a:=W;let[t1,Y,_]:=rB w<|.inr #v[l,.inl y];let[o0,A,D,d0,E,Z,G,_]:=w.frzT y;let[d,gg,dd,tk,os]:=s1;refine#v["dict","dict.items",PySem.F.plainAttrs_dict,PySem.F.slot_dict_items,PySem.F.type_dict_items,t1,Y,Calls.callWith_builtin rfl<|PySem.evalArgs_none<|uw (es:=A) (ep:=D) E Z G ?_];have M:∀ b u,d.get? b\u->(d.push ({cls:=.type "dict_items",data:=.fields #[.ref a]}:Obj)).get? b\u:=λb u q=>L8 _ q;have N:bP X e σ V #v[d.push {cls:=.type "dict_items",data:=.fields #[.ref a]},gg,dd,tk,os]:=w.kept M;have r:(d.push ({cls:=.type "dict_items",data:=.fields #[.ref a]}:Obj)).IsItemsView d.objs.size a:=#v[_,X7 _ rfl,rfl,rfl];let[o,J,L,P,h1,hx,hd,O]:=N.frzT y;refine Hm r h1 P ?_;generalize d.push ({cls:=.type "dict_items",data:=.fields #[.ref a]}:Obj)=hp2 at *;have hk:∀ b u,hp2.get? b\u->(hp2.push ({cls:=.type "dict_itemiterator",data:=.fields #[.none,.bool false,.ref a,.int 0 0,.int J.size 0,.int L 0,.none,.none]}:Obj)).get? b\u:=λb u q=>L8 _ q;refine#v[hp2.objs.size,[hp2.objs.size],_,_,_,rfl,O.kept hk,Ho a _ o l J L P,#v[.none,.none,X7 _ rfl],λb hb=>?_,q o];have n:hp2.objs.size<=b:=by
    have:b=hp2.objs.size:=by simpa using hb
    rw[this];exact M8 _
   exact O.fpOk n<|O.hok.fresh n)) (λC s H fp=>(S C s H fp).sem) (λC s H fp=>.inr #v[c,rfl,(t C s H fp).sem]) (λC s H fp=>(T C s H fp).sem) U,NV Bj (@NW _)<|@NX _⟩
end QD
namespace QD
open PySem L2 PySem.Spec PyProof.Rows
def i5:List D->List D->Option (List<|KA×D)
 | [],_=>some []
 | k::l,v::m=>(kZ k).bind λa=>(i5 l m).bind λr=>some<|(a,v)::r
 | _::_,[]=>none
def Oa{k l v m}:i5 (k::l) (v::m)=(kZ k).bind λa=>(i5 l m).bind λr=>some ((a,v)::r):=rfl
def xb:List D->Option D
 | [.lst _ l,.tup m]=>(i5 l m).bind λps=>bif frzs (ps.map (·.2))&&cb (-ps) then some (.dK true (Jz ps).1 (Jz ps).2) else none
 | _=>none
@[simp] def CJ(o)(l m):xb [.lst o l,.tup m]=(i5 l m).bind λps=>bif frzs (ps.map (·.2))&&cb (-ps) then some (.dK true (Jz ps).1 (Jz ps).2) else none:=rfl
theorem CK:∀{l m}{ps}{xs ys}{O P},i5 l m\ps->a_ R Z H l xs O->a_ R Z H m ys P->frzs (ps.map (·.2))=true ->
  ∃(ws:List V),cM (a_ R Z H (ps.map (·.2)) ws []) (xs=((ps.map λp=>bX p.1).zip ws).map (λkv=>kV kv.1))<|∀(j:Nat) kv,((ps.map λp=>bX p.1).zip ws)[j]?\kv->ys[j]?\kv.2
 | [],m,ps,xs,ys,O,P,e,c,f,b=>by
  cases e;let[rfl,_]:=c;exact#v[[],.empty,rfl,λj kv d=>by simp at d]
 | k::l,[],ps,xs,ys,O,P,e,c,f,b=>by cases e
 | k::l,v::m,ps,xs,ys,O,P,e,c,f,b=>by
  refine ob e λa o e=>ob e λr e2 e=>?_;cases e;let[y,s,z,A,rfl,rfl,t,g]:=c;let[u,w,B,C,rfl,rfl,n,h]:=f;rw[L5,kO,M0] at b;let[ws,i,hx,q]:=CK e2 g h b.2;let[rfl,_]:=vb o t;have x:=n.nil b.1;subst x;refine#v[u::ws,a_.cons n i,by rw[L5,U6,L5,<- hx],λj kv d=>?_];cases j with
  | zero=>cases d;rfl
  | succ j=>exact q j kv ⇑d
def Ob:BC R (Be R.K) xb:=by
 intro Z H y d vs O z r e Q k
 match y,e,r with
 | [.lst o l,.tup m],e,r=>
  refine ob e λn A e=>oc e λc e=>?_;cases e;rw[M0] at c;let[v,u,J,L,rfl,rfl,B,C]:=r.two_of;let[p,M,N,rfl,hx,E]:=B.lst_of;let[t,ts,rfl,F,rt]:=C;let[s,b,f,q]:=CK A E rt c.1;let[g,G,I,i]:=V4 (ks:=[]) b .empty rfl;have j:-s=-n:=by rw[b.length];simp
  refine#v[p,t,ts,(n.map λp=>bX p.1).zip s,rfl,by rw[<- f];exact hx.sq,F.sq,q,by simp[j];exact X2 c.2,λD w=>?_];refine k (Go.newO (cZ z) w) ?_;have ne:∀ a,H a≠none->a≠D:=λa h e=>h<|e▸w;exact#v[D,g,[],rfl,G.frame (λa z=>z) (λa h=>jh<|ne a<|z a h)<|λa h=>(nomatch h),i,by show bU H D _ D\_;rw[js];exact congrArg (λx=>some<|HO.dK x) I.symm,rfl]
def Oc{cl}{X}{a b}{tr}{pr}{p p2 pos c}(hc:X.calm=true)(hm:X.mg "dict" = none)(B:X.mg "zip" = none)(V:eD cl X [a,b] tr pr)(hg:Gl X "dict":=by rfl)(C:Gl X "zip":=by rfl)
  (he:starEach [.Call (.Name "zip" p2) [a,b] [] c] X.env=(false,eval (.Call (.Name "zip" p2) [a,b] [] c) X.env)::starEach [] X.env:=by rfl)
  (D:(backTo pos<|starEach [] X.env).any (·.1)=false:=by rfl)
  (hbt:backTo pos (starEach [.Call (.Name "zip" p2) [a,b] [] c] X.env)=[(false,eval (.Call (.Name "zip" p2) [a,b] [] c) X.env)]:=by rfl)
  (hs:starEach [a,b] X.env=[(false,eval a X.env),(false,eval b X.env)]:=by rfl) (t:starEach [b] X.env=[(false,eval b X.env)]:=by rfl):
  QP cl X (.Call (.Name "dict" p) [.Call (.Name "zip" p2) [a,b] [] c] [] pos) (gh (Be X.K) tr) (bW xb pr):=#v[(by
    intro w s σ H Q I h;refine wpAny_Call_Name_kw<|JF I hg hm (show bootBuiltins "dict" = some (.type "dict") by decide +kernel) (PyProof.Rows.callWith_type1 (Calls.spliced_cons<|wpAny_Call_Name_kw<|JF I C B (show bootBuiltins "zip" = some (.type "zip") by decide +kernel) ?_ (by decide)<|by decide) he D) (by decide) (by decide);refine PyProof.Rows.callWith_type1 (thn (V.sem c w s σ H _ I h) λus s1 ⟨vs,H1,m,r1,q1⟩=>?_) (by rw[hs,t]) (by rw[t];rfl);let[E,l2,ys,W,rfl,G,J,L,hz,q]:=q1;let[u,v,rfl,ru,rv]:=r1.two;cases ru;cases rv;let[d,M,g,hz1]:=m.list G;let[f,O,i,x]:=m.tuple J;have Y:E < ↥s1:=by
     let[o,_,e,_]:=g;exact N0 e
    have Z:l2 < ↥s1:=by
     let[o,e,_]:=id i;exact N0 e
    let[qs,y,hl,P]:=HK M O L;refine Ba (l:=[(E,d.toArray,true),(l2,f.toArray,false)]) (Nat.le_of_ble_eq_true rfl) (F.typeCall_zip_2 _ _) (F.newCall_zip_2 _ _) (λobj=>F.args_object_init_3 obj _ _) (by simpa using#v[g.isList,i]) λR N S a1 a2 a3 A T=>Calls.spliced_nil ?_;replace S:N=↥s1+2:=S;subst S;have a5:=(A 1 _ rfl).1;replace A:=(A 0 _ rfl).1;have w1:R.IsList E d.toArray:=by
     let[o,e,r]:=g.isList;exact#v[o,T _ _ e,r]
    have w2:R.IsTuple l2 f.toArray:=by
     let[o,e,r]:=i;exact#v[o,T _ _ e,r]
    have k:=N6 (Nat.le_add_right _ 4)<|Nat.le_of_lt<|N0 a1;refine QZ (m.ok.hd hc) ((by constructor<;>(show @Ne Nat _ _)<;>lia)) a1 a2 a3 A a5 w1 w2 (by rw[N2];exact hl) (λj u e=>by let[kv,e1,e2,e3]:=P j u ⇑e;exact#v[kv,e1,e2,by simpa using e3]) (by rw[<- y.length];exact hz) λh' tk hd U=>?_;have x:=AU (ps:=W) (qs:=[]);have hsl:sizeLine=16777216:=by decide
    have ne:∀{b}{o} n,s1.heap.get? b\o->b≠↥s1+n:=λn e q=>absurd (N0 e) (by rw[q];exact Nat.not_lt.mpr<|Nat.le_add_right _ _);refine#v[.ref R.objs.size,_,m.laid (λb o e=>U b o (ne 4 e) (ne 3 e) (ne 0 e) (ne 1 e)<|T b o e) k<|rA (by simp at x;lia) (U1.mpr<|λz=>?_) (uQ y .nil) hd,rfl,q _<|m.hok.fresh k];exact absurd z<|Nat.ne_of_gt<|U3 m.big k),og Ob V.den]
def CL(K:W4)(mg:W6)(x:Str)(st:Stmt)(ps:List Str):Prop:=∃ f fd,d4 K mg x x st f fd ps
def CM(K:W4)(C:Addr)(x qual:Str)(st:Stmt)(ps:List Str):Prop:=∃ f fd,eS K C x qual st f fd ps
section
variable {K:W4}{mg:W6}{h:Heap}{x qual:Str}{st:Stmt}{ps:List Str}{a C:Addr}{od an:Option Addr}{sl:Array (Option Value)}{oc kV dc pm cd ct:Value}
def tG(X:K.In h)(G:h.Ns mainGlobals mg)(c:PySem.W.nsIn K mainGlobals x\(some<|.ref a))(e2:K.lookup a\#v[oc,od,.func<|PySem.W.fnOf x x (Js st) (kT st) (jP st) .none kV dc pm an cd ct,sl])(e3:PySem.W.codeIn K cd x=true)(b:PySem.W.keepIn K (.ref a)=true)
  (d:∀ kV doc pm an cdv ct us,-us=-ps->bindArgs (PySem.W.fnOf x x (Js st) (kT st) (jP st) .none kV doc pm an cdv ct) #v[us,[]]=pure (ps.zip us)):CL K mg x st ps:=#v[_,_,nS e2 e3 b,PySem.W.mg_of X G c,(nS e2 e3 b).binds d]
def tH(c:PySem.W.findIn K (.ref C) x\(some<|.ref a))(e5:PySem.W.isFn K (.ref a)=true)(e2:K.lookup a\#v[oc,od,.func<|PySem.W.fnOf x qual (Js st) (kT st) (jP st) .none kV dc pm an cd ct,sl])(e3:PySem.W.codeIn K cd qual=true)(b:PySem.W.keepIn K (.ref a)=true)
  (d:∀ kV doc pm an cdv ct us,-us=-ps->bindArgs (PySem.W.fnOf x qual (Js st) (kT st) (jP st) .none kV doc pm an cdv ct) #v[us,[]]=pure (ps.zip us)):CM K C x qual st ps:=#v[_,_,nS e2 e3 b,#v[c,e5,b],(nS e2 e3 b).binds d]
end
def CN{N ps}{h}(a:h.kind=.function:=by rfl)(b:h.isCoroutine=false:=by rfl)(c:h.isGenerator=false:=by rfl)(d:N.Nodup:=by decide +kernel)(e:N.take (-ps)=ps:=by rfl)
  (f:∀ x∈ps,h.names.lookup x=some .local\/h.names.lookup x\.cell:=by decide +kernel) (g:∀ y∈h.names,y.2≠.free:=by decide +kernel):cv N ps h:=#v[a,b,c,d,e,f,g]
def i6(K:W4)(mg:W6)(x:Str)(st:Stmt)(N:List Str)(n:Nat):Prop:=cv N (N.take n) (jP st)/\CL K mg x st (N.take n)
def f3(K:W4)(C:Addr)(x qual:Str)(st:Stmt)(N:List Str)(n:Nat):Prop:=cv N (N.take n) (jP st)/\CM K C x qual st (N.take n)
section
variable (P:Program)(w:World)(cl:Nat->Addr){K:W4}{mg:W6}{C:Addr}{x qual:Str}{st:Stmt}{N:List Str}{n:Nat}
abbrev NP(_:i6 K mg x st N n)(k:Nat)(m:List D->Option D):Prop:=lj P w K mg x st k (N.take n)<|dX #v[K,cl] m n
abbrev NM(_:i6 K mg x st N n)(k:Nat)(m:List D->Option (D×D)):Prop:=lj P w K mg x st k (N.take n)<|gw #v[K,cl] m n 0
abbrev OP(mg:W6)(_:f3 K C x qual st N n)(k:Nat)(m:List D->Option D):Prop:=iJ P w K mg C x qual st k (N.take n)<|dX #v[K,cl] m n
abbrev OM(mg:W6)(_:f3 K C x qual st N n)(k:Nat)(m:List D->Option (D×D)):Prop:=iJ P w K mg C x qual st k (N.take n)<|gw #v[K,cl] m n 0
end
section
variable {P:Program}{w:World}{k:Nat}{sp:Sp}{K:W4}{mg:W6}{C:Addr}{x qual:Str}{st:Stmt}{N:List Str}{n:Nat}
def Oe(h:i6 K mg x st N n)(g:∀ f fd,cv N (N.take n) (jP st)->d4 K mg x x st f fd (N.take n)->∀ base,cL P w K mg base eN k f fd (N.take n) sp):lj P w K mg x st k (N.take n) sp:=by
 let[S,f,fd,F]:=h;exact#v[f,fd,F,g f fd S F]
def Of(h:f3 K C x qual st N n)(g:∀ f fd,cv N (N.take n) (jP st)->eS K C x qual st f fd (N.take n)->∀ base,cL P w K mg base eN k f fd (N.take n) sp):iJ P w K mg C x qual st k (N.take n) sp:=by
 let[S,f,fd,F]:=h;exact#v[f,fd,F,g f fd S F]
end
def u0{s:Type}{P:List s->Prop}(h:P []):∀ us:List s,-us=0->P us
 | [],_=>h
def uS{s:Type}{P:List s->Prop}{n}(h:∀ a,∀ us:List s,-us=n->P (a::us)):∀ us:List s,-us=n+1->P us
 | a::us,e=>h a us<|Nat.succ.inj e
def lQ{a b}(h:a)(k:a->b):a/\b:=#v[h,k h]
section
variable {cl:Nat->Addr}{X:Cx}{pos:Pos}{x:Str}{scope:Scope}{N':List Str}{i:Nat}
def qS{j}{l}(h:x=S l:=by decide +kernel):QP cl X (.Constant (.str x) j pos) (tC<|.str x) (pS l):=#v[(λ_ _ _ H _ I h=>Calls.Constant_str #v[.str x,H,I.tok _,#v[_,rfl],h]),by subst h;exact oe λ_ _=>.str_mk]
def qI{i}{j}:QB cl X (.Constant (.int i) j pos) (tC<|.int i) (pI i):=QP.bb BH
end
def oY(N:List Str):List (Option Nat)->List Str->List Str
 | [],_=>[]
 | none::l,xs=>xs.headD ""::oY N l xs.tail
 | some j::l,xs=>N.getD j ""::oY N l xs
def CO(sc:Scope):List Str:=(sc.names.filter λy=>decide (y.2=.local)||decide (y.2=.cell)).tail.map (·.1)
def Og(_:cv N ps sc)  (h1:X.env.scope=sc:=by rfl) (h2:X.N=N:=by rfl) (h:AF sc N scope (oY N ix<|CO scope) ix=true:=by decide +kernel):cr X scope (oY N ix<|CO scope) ix:=by
 subst h1;subst h2;unfold AF at h;simp only[M0,decide_eq_true_eq,List.all_eq_true,Bool.or_eq_true,Bool.not_eq_true',decide_eq_false_iff_not] at h;obtain⟨⟨⟨⟨⟨⟨⟨c,d⟩,f⟩,g⟩,b⟩,k⟩,l⟩,m⟩:=h;refine#v[c,λy a e=>((g y a).elim (absurd e) id),λy a e=>((f y a).elim (absurd e) id),λy a e=>((b y a).elim (absurd e) λz=>z.1),λy a e=>((b y a).elim (absurd e) λz=>z.2),k,l,λi j x h1 h2=>?_,d]
 ·have hi:=(L9.mp h1).1;have z:=m i<|List.mem_range.mpr hi;rw[h1,h2] at z;simp only[M0,decide_eq_true_eq] at z;exact z
def Oh{p:cR}{n}(h:∀ s ds,p s\ds->-ds=n):∀ s ds,p s\ds->-ds+1=n+1:=λs ds e=>by rw[h s ds e]
def Oj(h:N'.Nodup):(yJ X scope N' C s H fp).N.Nodup:=h
section
open Classical in
end
end QD
namespace QD
open PySem L2
def tI:D->Option (List KA)
 | .kt k=>some k
 | _=>none
def Om(h:tI d\k):d=.kt k:=by
 cases d with
 | kt b=>cases h;rfl
 | _=>cases h
@[simp] def oZ(k):tI (.kt k)\k:=rfl
end QD
namespace QD
open PySem L2 PySem.Spec PyProof.Rows
def mX:D->Option (Bool×List D)
 | .lst _ l=>some (true,l)
 | .tup l=>some (false,l)
 | _=>none
def mY:List D->Option (List<|Bool×List D)
 | []=>some []
 | d::ds=>(mX d).bind λx=>(mY ds).bind λxs=>some<|x::xs
def FB(R:RC)(Z:Zn)(H:Hp)(a:Addr):Bool->List V->Prop
 | true,w=>FL R Z H a w
 | false,w=>FT R Z H a w
def FB.frame(b:∀ a,Z a->Z' a)(c:∀ a,Z a->H' a=H a)(h:FB R Z H a k w):FB R Z' H' a k w:=by
 cases k with
 | true=>exact FL.frame b c h
 | false=>exact FT.frame b c h
def FB.sq(h:FB R Z H a k w):fM R.K H a k w:=by
 cases k with
 | true=>exact FL.sq h
 | false=>exact FT.sq h
def On(e:mX d\x)(r:bS R Z H (fz d) v []):eB λa w=>cM (v=.ref a) (FB R Z H a x.1 w) (a_ R Z H (bV x.2) w []):=by
 cases d with
 | lst o l=>
  cases e;let[a,w,f,rfl,b,hx,rfl,_]:=r;exact#v[a,w,rfl,hx,b]
 | tup l=>
  cases e;let[a,w,rfl,c,b]:=r;exact#v[a,w,rfl,c,b]
 | _=>cases e
structure Zr where
 a:Addr
 k:Bool
 w:List V
 l:List D
theorem CP:∀{ds}{xs}{vs},mY ds\xs->a_ R Z H (bV ds) vs []->∃(zs:List Zr),cM (zs.map (λz=>(z.k,z.l))=xs) (vs=zs.map (λz=>.ref z.a))<|∀ z∈zs,FB R Z H z.a z.k z.w/\a_ R Z H (bV z.l) z.w []
 | [],xs,vs,e,r=>by
  cases e;exact#v[[],rfl,r.1,by simp]
 | d::ds,xs,vs,e,r=>by
  refine ob e λx b e=>ob e λp e2 e=>?_;cases e;let[v,c,s,t,rfl,f,g,h]:=r;let[rfl,rfl]:=List.append_eq_nil_iff.mp f.symm;let[a,w,rfl,i,j]:=On b g;let[zs,m,rfl,n]:=CP e2 h;exact#v[#v[a,x.1,w,x.2]::zs,by rw[L5,m],rfl,λz o=>(M4.mp o).elim (λq=>by rw[q];exact#v[i,j]) (n z)]
theorem CQ:∀{zs:List Zr}{us},-us=-zs->(∀(m:Nat) q,zs[m]?\q->∃ u,us[m]?\u/\bS R Z H (g q) u [])->a_ R Z H (zs.map g) us []
 | [],[],_,_=>a_.empty
 | [],_::_,h,_=>by simp at h
 | _::_,[],h,_=>by simp at h
 | q::zs,u::us,h,k=>by
  let[a,e,r]:=k 0 q rfl;cases e;exact a_.cons r (CQ ⇑h λm q e=>by have:=k (m+1) q ⇑e;simpa using this)
def CT(ls:List<|List D)(i:Nat):D:=.tup<|ls.map λl=>l.getD i .non
def o_(m:Nat)(ds:List D):Option (List D):=(mY ds).bind λxs=>bif decide (-xs=m)&&(decide (0<m)&&xs.all λx=>decide<|(xs.headD (true,[])).2.length<=-x.2) then some ((List.range (xs.headD (true,[])).2.length).map (CT<|xs.map λx=>bV x.2)) else none
@[simp] def tJ(m:Nat)(p:cR)(s:Rh):Option (List D):=(p s).bind (o_ m)
def Oo(h:gS R ta p):iC R (rN R.K m ta) (tJ m p):=by
 intro σ ρ Z H O Y z s e Q k;refine ob e λds F e=>ob e λj e2 e=>oc e λn e=>?_;cases e;rw[M0,M0,List.all_eq_true] at n;have h0:=X2 n.2.1;refine h z s F λ{vs G H1 I} J L=>?_;let[d,o,rfl,r]:=CP e2<|L.freeze (Z':=λa=>G a\/a∈I) (λa z=>.inl z) λa z=>.inr z;have A:-d=-j:=by rw[<- o,L1]
 refine#v[d.map λz=>(z.a,z.k),by rw[L1,A,X2 n.1],by rw[U0];rfl,λa f=>?_,k J.fz ?_]
 ·let[q,b,rfl]:=M5.mp f;exact#v[q.w,(r q b).1.sq]
 intro B t g C zd i;have fr:∀ q∈d,fM R.K t q.a q.k q.w/\a_ R B t (bV q.l) q.w []:=λq b=>#v[((r q b).1.frame g C).sq,(r q b).2.frame g C λa f=>(nomatch f)];refine#v[λhi=>?_,λx hx=>?_]
 ·cases d with
  | nil=>simp at A;lia
  | cons q d=>
   refine#v[_,_,q.w,rfl,(fr q<|by simp).1,?_];rw[L1,List.length_range] at hi;rw[(fr q<|by simp).2.length,Jy];rw[<- o] at hi;exact hi
 ·rw[List.getElem?_map] at hx;let[c,D,rfl]:=Option.map_eq_some_iff.mp hx;have M:i<(j.headD (true,[])).2.length:=by have:=(L9.mp D).1;simpa using this
  have:c=i:=by have:=(L9.mp D).2;simpa using this.symm
  subst this;have get:∀ q∈d,∃ u,q.w[c]?\u/\bS R B t ((bV q.l).getD c .non) u []:=λq b=>by
   have N:c< -(bV q.l):=by
    rw[Jy];have:(j.headD (true,[])).2.length<=-q.l:=(λx hx=>X2<|n.2.2 x hx) (q.k,q.l) (by rw[<- o];exact M5.mpr #v[q,b,rfl])
    lia
   have e3:(bV q.l)[c]?\((bV q.l).getD c .non):=by rw[List.getD_eq_getElem?_getD,X5 N];rfl
   exact(fr q b).2.item e3
  refine#v[λa f=>?_,λu H3 P=>?_]
  ·let[q,b,rfl]:=M5.mp f;let[u,v,_]:=get q b;exact#v[q.w,u,(fr q b).1,v]
  ·let[pp,us,S,v,rfl,E,rfl]:=P;refine#v[_,Go.newF (cZ zd) E,bS.tupNew (cZ zd) E ?_];have T:(j.map λx=>bV x.2).map (λl=>l.getD c .non)=d.map λq=>(bV q.l).getD c .non:=by rw[<- o,U0,U0];rfl
   rw[T];refine CQ (by rw[S,L1]) λm q y=>?_;let[u,U,V]:=v m (q.a,q.k) (by rw[List.getElem?_map,y];rfl) q.w (fr q<|List.mem_of_getElem? y).1;let[u',W,X]:=get q<|List.mem_of_getElem? y;cases V.symm.trans W;exact#v[u,U,X]
def Op(e:X.mg "zip" = none)(h:fO cl X [a,b,c] tr pr)(f:Gl X "zip":=by rfl)(g:starEach [a,b,c] X.env=[(false,eval a X.env),(false,eval b X.env),(false,eval c X.env)]:=by rfl)(d:starEach [b,c] X.env=[(false,eval b X.env),(false,eval c X.env)]:=by rfl):
  QI cl X (.Tuple elts n tpos) (.Call (.Name "zip" p) [a,b,c] [] pos) (rN X.K 3 tr) (tJ 3 pr):=#v[HS f e h.sem g d,Oo h.den]
end QD
namespace QD
open PySem L2
theorem wU:∀{l m n},-l<=-m->-l<=-n->(List.range (-l)).map (CT [l,m,n])=lN l m n
 | [],m,n,_,_=>by cases m<;>cases n<;>rfl
 | a::l,[],_,h,_=>by simp at h
 | a::l,b::m,[],_,h=>by simp at h
 | a::l,b::m,c::n,h,d=>by
  rw[M1,List.range_succ_eq_map,L5,U0,CH,<- wU ⇑h ⇑d];rfl
def Oq(h1:mX d\(k,l))(h2:mX e\(k',m))(a:mX f\(k2,n))(h:-l<=-m)(h':-l<=-n):o_ 3 [d,e,f]\(lN (bV l) (bV m)<|bV n):=by
 have b:mY [d,e,f]\[(k,l),(k',m),(k2,n)]:=by simp[mY,h1,h2,a]
 have e2:=wU (l:=bV l) (m:=bV m) (n:=bV n) (by rw[Jy,Jy];exact h) (by rw[Jy,Jy];exact h');rw[Jy] at e2;unfold o_;rw[b,L4,<- e2];simp[h,h']
end QD
namespace QD
open PySem L2 PySem.Spec PyProof.Rows
section
variable {R:RC}{Z Z':Zn}{H H':Hp}
def Os(d:D):Option (List KA×D):=(mm d).bind λl=>(two1 l).bind λp=>(tI p.1).bind λk=>bif frz p.2 then some (k,p.2) else none
def uM:List D->Option (List<|List KA×D)
 | []=>some []
 | d::l=>(Os d).bind λp=>(uM l).bind λr=>some<|p::r
def pu(ds:List D):Option D:=(fN ds).bind λd=>(gk d).bind λl=>(uM l).bind λps=>bif cb (-l) then some (.dT true (tD ps).1 (tD ps).2) else none
structure Ot(R:RC)(Z:Zn)(H:Hp)(ys:List<|List KA×D)(vs:List V)(ps:List<|List cS×Addr×V):Prop where
 l:-vs=-ps
 i:∀(j:Nat) (v:V),vs[j]?\v->∃ kv t,ps[j]?\kv/\v=.ref t/\cK R.K H t [.ref kv.2.1,kv.2.2]/\H kv.2.1\(.tup<|kv.1.map kV)
 k:ps.map (·.1)=ys.map λy=>y.1.map bX
 r:a_ R Z H (ys.map (·.2)) (ps.map (·.2.2)) []
def Ou:∀{l:List D}{ys:List (List KA×D)}{vs:List V}{O:W5},uM l\ys->a_ R Z H l vs O->∃ ps,Ot R Z H ys vs ps:=by
 intro l
 induction l with
 | nil=>
  intro ys vs O e r;cases e;symm at r;let[rfl,_]:=r;exact#v[[],rfl,λj v h=>by simp at h,rfl,a_.empty]
 | cons d l s=>
  intro ys vs O e r;rw[uM] at e;refine ob e λp c e=>ob e λx e2 e=>?_;cases e;refine ob c λt e3 c=>ob c λq y c=>ob c λk e5 c=>oc c λz c=>?_;cases c;symm at r;let[v,A,I,J,rfl,_,g,B]:=r;let[ps,h]:=s e2 B;rw[QY e3,two1_of y,Om e5] at g;symm at g;let[a,K,rfl,C,f]:=g;symm at f;let[w,E,L,M,rfl,_,m,f]:=f;symm at m;let[b,rfl,_,F,_]:=m;symm at f;let[u,G,N,Q,rfl,_,n,f]:=f;symm at f;let[rfl,_]:=f;cases n.nil z;refine#v[(k.map bX,b,u)::ps,by simp[h.l],λj v o=>?_,by simp[h.k],a_.cons (O:=[]) (P:=[]) n h.r];cases j with
  | zero=>cases o;exact#v[_,a,rfl,rfl,C.sq,F]
  | succ j=>exact h.i j v o
def Ov:BC R (uN R.K) pu:=by
 intro Z H A d vs O z r e Q k;refine ob e λx q e=>ob e λl e2 e=>ob e λs e3 e=>oc e λt e=>?_;cases e;rw[kP q] at r;let[o,rfl]:=Jf e2;let[v,rfl,u]:=r.one_of;let[p,g,B,rfl,hx,j]:=u.lst_of;let[m,h]:=Ou e3 j;let[c,w,y,f]:=xL (ps:=s) (ks:=[]) (l:=[]) (us:=[]) h.k h.r .empty rfl;refine#v[p,g,m,rfl,hx.sq,h.l,?_,h.i,λD n=>?_]
 ·rw[<- h.l,j.length];exact X2 t
 ·refine k (Go.newO (cZ z) n) ?_;symm;refine#v[D,c,[],rfl,w.frame (λa z=>z) (λb h=>jh<|by rintro rfl;exact z _ h n)<|λa h=>(nomatch h),f,?_,rfl];rw[js];exact congrArg (λx=>some<|HO.dT x) y.symm
@[simp] def tK(pa pb:PF)(s:Rh):Option D:=(lH pa pb s).bind λk=>some<|.kt k
end
section
variable {cl:Nat->Addr}{X:Cx}{a b e:Expr}{ta tb:TE}{pa pb:PF}{tr:TA}{pr:cR}{pos:Pos}
def Ow{x1}{tpos:Pos}(f:QB cl X a ta pa)(h:QB cl X b tb pb)(h1:starEach [a,b] X.env=(false,eval a X.env)::starEach [b] X.env:=by rfl)(h2:starEach [b] X.env=(false,eval b X.env)::starEach [] X.env:=by rfl):
  QP cl X (.Tuple [a,b] x1 tpos) (mS ta tb) (tK pa pb):=#v[Y9<|yy f.sem (yy h.sem Ji h2) h1,(by
    intro u w Z H O d z s e Q k;refine ob e λc i e=>?_;cases e;exact VD f.den h.den z s i λg j l=>k g<|by symm;exact#v[_,rfl,j,l,rfl])]
def Ox{k:Nat}{p:Pos}(f:ca k X.A)(g:X.calm=true)(i:X.mg "dict" = none)(j:bootBuiltins "dict" = some (.type "dict"))(d:eD cl X [e] tr pr)(m:Gl X "dict":=by rfl)
  (n:starEach [e] X.env=(false,eval e X.env)::starEach [] X.env:=by rfl) (c:(backTo pos<|starEach [] X.env).any (·.1)=false:=by rfl):
  QP cl X (.Call (.Name "dict" p) [e] [] pos) (gh (uN X.K) tr) (bW pu pr):=#v[wT (r:=uN X.K) ((QC (ok:=λH (x:List cS×Addr×V)=>H x.2.1\(.tup<|x.1.map kV)) g (λ_ _ _=>(by have:=f.un;omega)) (λh H b=>(#v[U4 _,U1.mpr<|Ne.symm<|N5 b,[],.nil,_,#[],0,X7 _ rfl,#v[rfl,rfl,rfl],rfl,rfl,List.nodup_nil]))
    λH D l (x:List cS×Addr×V) q s u=>by have:=cW.t (k:=x.1) (b:=x.2.1) (v:=x.2.2) (js (H:=H) (a:=D) (o:=.dT l)) (Yh q s) u;rw[yn] at this;exact this)) m i j d.sem (by decide) (by decide) n c,og Ov d.den]
end
section
variable {cl:Nat->Addr}{X:Cx}{o:Expr}{to:TE}{po:PF}{pos apos:Pos}
def Oy{k n c}{ps}{m}{mn qual}{st}{pl}(g:dM X.K<|cl c)(O:iJ X.prog X.w X.K X.mg (cl c) mn qual st k ps<|dX #v[X.K,cl] m n)(i:ca k X.A)(e:QB cl X o to po)(hn:1=n:=by rfl)
  (j:eval (.Call (.Attribute o mn apos) [] [] pos) X.env=(do
   let ov <- eval o X.env
   standAt apos.atName
   let (f,first) <- holding [ov] (getMethod ov mn pl)
   callWith pos f first (backTo pos<|starEach [] X.env) (backToKw pos<|keywordEach [] X.env)):=by rfl):
  QP cl X (.Call (.Attribute o mn apos) [] [] pos) (kA (cl c) mn (dX #v[X.K,cl] m n) [] E0 to Qp) (yf m c mn po pN):=by
 let[_,_,F,G]:=O;exact#v[(by
   intro b s U H Q I h;refine PySem.W.methodCall_KW (thn (e.sem b s U H _ I h) λu s1 p=>?_) j;let[x,v,d,r,a,y,fs,ex,t,l,q]:=p;subst ex;obtain rfl:u=Value.ref a:=r;exact Qk d t g F.mt l<|PySem.W.callWith_K0 d.kIn F.mt.kp<|qz (vs:=[.ref a]) (G _) i F.bd .nil mi d (.cons rfl .nil) q),Cu e.den Bl λY z h=>by cases h;exact hn]
end
end QD
namespace K44
set_option hygiene false
local macro_rules|`($a>>>$b)=>`(jA (dP $a) (jc [] $b))|`($a<|>$b)=>`(jg $a $b)|`(!$x)=>match x.raw.isNatLit? with|some _=>`(pV $x)|_=>`(($x).map D.str)
local macro_rules|`($a|||$b)=>`(p2 jd (pV $a)<|pI $b)|`(($a,$b)&&&$c)=>`(gT 3<|gC (jc [] $a)<|gC (jc [] $b)<|gC (jc [] $c) gN)|`($a&&&$b)=>`(gT 2<|gC (jc [] $a)<|gC (jc [] $b) gN)
local macro_rules|`(‹$x›)=>`(some<|.lst false $x)|`(↑$x)=>`(some<|.lst true $x)
local macro_rules|`(#[])=>`(pN)|`(#[$x])=>`(ja $x pN)|`(#[$x,$y,*])=>`(ja $x #[$y,*])
open PySem L2 QD
def cE(i:Nat):Stmt:=PySem.Challenge.pw_tranchefall_k44_whole_each_day_is_a_step.main.body.getD i<|.Pass #v[0,0,0,0]
def J6:FS:=(yM<|dP<|bW gu #[yq (JT !0) (jc [] 0) qT (pF<|0|||1) [none]])
def vk:List D->Option D:=cI 1 J6
def yN:FS:=(cp (cm<|ji<|p2 ki (2|||0) !1) (yM<|dP<|pF !2)
 j9)
def Yg:FS:=((Jt (fw<|pF<|0|||4) (jc [] 2) yN)<|>(yM<|dP<|pC .non))
def yY:List D->Option D:=cI 3 Yg
def vX:FS:=(cp (cm<|ji<|p2 om (p2 jX !1<|pV 2) !3) (yM<|dP<|pF !4)
 j9)
def JC:FS:=((Jt (fw<|pF<|0|||5) ((2,3)&&&4) vX)<|>(yM<|dP<|pF<|p2 jd (p2 jd (0|||4)<|pI 0)<|pI 0))
def vt:List D->Option D:=cI 5 JC
def Jn:FS:=(yM<|dP<|bW pu #[yq (JT !0) ((0,1)&&&2) qT (yk #[tK !0<|pV 1,pF !2]) %[_,_,_|0]])
def yL:List D->Option D:=cI 1 Jn
def Yd:FS:=(cp (cm<|ji<|p2 ki !2<|pS [108,101,110,100]) (Cm 0 (!1) !3<|p2 jr (oV (!0) (!1) !3<|pI 0) !4)<|tz 0 (!3) (!1) (λm n=>m-n) !4)
def vi:List D->Option (D×D):=f1 5 0 Yd
def yB:FS:=(sT 1 !2<|bW gv #[p3 xy (!1) !2<|pI 0,!3])
def JA:FS:=((pC<|.dK true [] [])>>>1<|>(Jt (fw<|pF<|0|||5) ((2,3)&&&4) yB)<|>(yM<|d9 1))
def yS:List D->Option D:=cI 5 JA
def vH:FS:=(yM<|dP<|gm (p2 jX (v9 0 "alive" !0) !1)<|p2 (Ko true) !1<|v9 0 "served" !0)
def jf:List D->Option D:=cI 2 vH
def vm:FS:=(v7 0 (k8 0 "served" vW) !3<|pC<|.bl true)
def yu:FS:=((jA (dP<|pF<|1|||0)<|jc [0] 2)<|>(cp (cm<|ji<|p2 ki !2<|pS [102,105,108,108]) (v7 0 (k8 0 "full" vW) (1|||1)<|pC<|.bl true)<|cp (cm<|ji<|p2 ki !2<|pS [115,104,97,114,101]) (Jt (fw<|pF<|1|||1) (jc [0] 3) vm)<|(v7 0 (k8 0 "served" vW) (1|||1)<|pC<|.bl true)<|>cp (cm<|ji<|p2 ki !2<|pS [114,101,112,97,121]) (v7 0 (k8 0 "repaid" vW) (1|||1)<|pC<|.bl true)
 j9))
def jy:List D->Option (D×D):=f1 4 0 yu
def JK:FS:=(cp (cm<|zI (ji<|p2 Yz !4<|pI 0)<|ji<|p2 gV (p2 jd !3<|pV 5) !6) ((oy 3 (!5) (λi j=>i+j)<|pI 1)<|>(sy [] 4 (λi j=>i-j)<|pI 1))
 j9)
def zX:FS:=((bW gu #[!0])>>>2<|>(cp (cm<|ji<|p2 om !1<|pV 2) (yM<|dP<|bW Q4 #[!0])
 j9)<|>(yq (JT !0) (jc [] 0) qT (p2 jw (p2 yA !1<|pV 0) !2) %[_,1,2|0])>>>3<|>(p2 Ku !1<|bW gu #[!3])>>>4<|>(Jt (Jk #[pF !0]) (5&&&6) JK)<|>(yM<|d9 3))
def Ym:List D->Option D:=cI 7 zX
def ym:FS:=((pF<|1|||0)>>>2<|>(pF<|1|||1)>>>3<|>(cp (cm<|ji<|p2 ki !2<|pS [112,97,121]) (yM<|dP<|pF<|p2 jX (v9 1 "owed" !0) !3)
 j9)<|>(cp (cm<|ji<|p2 ki !2<|pS [114,101,112,97,121]) (yM<|dP<|p2 jr (p2 jX (v9 1 "owed" !0) !3)<|p2 jX (v9 1 "sizes" !0) !3)
 j9)<|>(cp (cm<|ji<|p2 ki !2<|pS [102,105,108,108]) (yM<|dP<|bW gv #[p2 Ku (p2 jX (v9 1 "marks" !0) !3)<|p2 jX (v9 1 "levels" !0) !3,pI 0])
 j9)<|>(cp (cm<|ji<|p2 ki !2<|pS [108,101,110,100]) (yM<|dP<|bW gv #[p2 Ku (1|||2)<|oV (v9 1 "loans" !0) (v9 1 "pool_name" !0) !3<|pI 0,pI 0])
 j9)<|>(cp (cm<|ji<|p2 ki !2<|pS [98,97,99,107]) (yM<|dP<|pF<|oV (v9 1 "loans" !0) (!3) (v9 1 "pool_name" !0)<|pI 0)
 j9)<|>(yM<|dP<|pF<|v9 1 "cash" !0))
def jl:List D->Option D:=cI 4 ym
def vK:FS:=((jA (dP<|pF<|p2 jX (v9 1 "owed" !0) !3)<|jc [0] 4)<|>(jA (dP<|bW zN #[!4,p2 jX (v9 1 "levels" !0) !2])<|jc [0] 5)<|>(ku 0 (k8 1 "levels" vW) (!2) (λm n=>m-n) !5)<|>(ku 0 (k8 1 "owed" vW) (!3) (λm n=>m-n) !5)<|>(qV 0 (k8 1 "entries" vW)<|yk #[pF !1,pS [103,117,97,114,100],pF !3,pF !4,pF !5]))
def yX:List D->Option (D×D):=f1 6 0 vK
def jN:FS:=((gm (p2 Yz (p2 jX !2<|pV 4)<|pI 0)<|p2 (Ko true) !4<|v9 1 "served" !0)>>>6<|>(Qu 3<|yk #[pF !4,fq (ji !6) (p2 jr !5<|pI 1)<|pI 0]))
def qe:FS:=((bW vB #[1|||0])>>>2<|>(vF pN)>>>3<|>(Jt (fw<|pF<|1|||2) (4&&&5) jN)<|>(yM<|iB<|Jc (dP<|vp<|v9 1 "sizes" !0)<|Jc (dP<|vp<|v9 1 "owed" !0)<|Jc (d9 3)<|Jc (dP<|vp<|v9 1 "levels" !0)<|Jc (dP<|pF<|1|||4) iV))
def j8:List D->Option D:=cI 7 qe
def Kb:FS:=((bW zN #[!4,p2 jX !3<|pV 7])>>>8<|>(Qu 5<|yk #[pF !6,pS [101,97,116],pF !7,pF !4,pF !8])<|>(B5 3 (!7) (λm n=>m-n) !8)<|>(sy [] 4 (λi j=>i-j) !8))
def CU:FS:=((bW vB #[1|||0])>>>3<|>(pF !2)>>>4<|>(vF pN)>>>5<|>(Jt (Jk #[pF<|0|||3]) (6&&&7) Kb)<|>(yq (JT<|1|||1) (0&&&1) qT (yk #[pF !0,fq (ji<|p2 Yz (p2 jX !2<|pV 0)<|pI 0) (pF !1)<|pI 0]) %[_,_,3|0])>>>9<|>(yM<|iB<|Jc (d9 5)<|Jc (iB<|Jc (dP<|vp !3)<|Jc (d9 9)<|Jc (dP<|bW Q4 #[1|||2])<|Jc (dP<|bW Q4 #[1|||3])<|Jc (dP<|p2 jr (1|||4) !4) iV) iV))
def zq:List D->Option D:=cI 10 CU
def V9:FS:=((bW vB #[1|||0])>>>2<|>(bW vB #[yq (JT<|0|||1) (jc [] 0) qT (yk #[pF<|0|||0,pF<|0|||2]) [none]])>>>3<|>(yq (JT<|1|||1) (0&&&1) qT (yk #[pF !0,fq (ji<|p2 Yz (p2 jX !2<|pV 0)<|pI 0) (p2 jr !1<|p2 jX !3<|pV 0)<|pF !1]) %[_,_,2,3|0])>>>4<|>(cC 4<|yM<|dP<|yk #[pF<|1|||0,pF !4,pF<|1|||2,pF<|1|||3,pF<|1|||4]))
def kK:List D->Option D:=cI 5 V9
def qZ:FS:=((cp (cm<|ji<|p2 gV !1<|bW kF #[!0]) (yM<|dP<|pF<|p2 jd !0<|pV 1)
 j9)<|>(yM<|dP<|pI 0))
def jT:List D->Option D:=cI 2 qZ
def Kp:FS:=((p2 jk (p2 yA (p2 jk !0<|pI 2147483647)<|p2 jr (pI 69621)<|p2 yA (p2 yA (pI 1511) !1) !1)<|pI 2147483629)>>>2<|>(yM<|dP<|p2 jk (p2 yA (p2 jr !2<|pV 1)<|p2 jr (p2 jr !2<|p2 yA (pI 5) !1)<|pI 1)<|pI 2147483587))
def jL:List D->Option D:=cI 3 Kp
def kY:FS:=((p2 jr !3<|p2 jd !2<|p2 jk !0<|pI 26)>>>3<|>(p2 jw !0<|pI 26)>>>0)
def Yj:FS:=((pS [97,98,99,100,101,102,103,104,105,106,107,108,109,110,111,112,113,114,115,116,117,118,119,120,121,122])>>>2<|>(pS [])>>>3<|>(Jt (ud #[!1]) (jc [] 4) kY)<|>(yM<|dP<|pF !3))
def yG:List D->Option D:=cI 5 Yj
def V5:FS:=((pS [97,98,99,100,101,102,103,104,105,106,107,108,109,110,111,112,113,114,115,116,117,118,119,120,121,122])>>>1<|>(vF #[pS [112,111,111,108],pS [99,108,97,105,109],pS [112,111,116],pS [101,97,116],pS [111,114,100,101,114],pS [112,97,114,116],pS [112,97,121],pS [115,104,97,114,101],pS [114,101,112,97,121],pS [102,105,108,108],pS [108,101,110,100],pS [98,97,99,107]])>>>2<|>(cp (cm<|sj (ji<|p2 (Vh false) !0<|pV 2)<|ji<|p2 (Vh false) !0<|vF #[pS [114,101,115,116],pS [108,111,111,107],pS [103,117,97,114,100],pS [100,101,98,116],pS [111,110],pS [108,97,116,101],pS [101,97,114,108,121],pS [113,117,105,116]]) (yM<|dP<|p2 jr (eP (!0) oN<|oS<|p1 ur<|pI 1)<|p2 jd !1<|p2 jk (p2 jr (sE "str" Qz (!1) #[p2 jd !0<|p1 ur<|pI 1])<|pI 13)<|pI 26)
 j9)<|>(yM<|dP<|pF !0))
def qM:List D->Option D:=cI 3 V5
def Jo:FS:=((cp (cm<|ji<|p2 ki (p2 jk !0<|pI 3)<|pI 0) (yM<|dP<|p2 jr (pI 1)<|p2 jk (p2 jw !0<|pI 3)<|pI 4)
 j9)<|>(yM<|dP<|p2 jr (pI 1)<|p2 jk (p2 yA !0<|pV 0)<|p2 xQ (pI 10)<|pI 12))
def jG:List D->Option D:=cI 1 Jo
def qX:FS:=((p2 jr (p2 jr (p2 jw !0<|pI 3)<|p2 yA !5<|pI 40)<|p2 yA (p2 yA (pI 7) !5)<|p2 jw !0<|pI 50)>>>6<|>(Qu 4<|yk #[pF<|p2 jd !1<|p2 jk !6<|bW zN #[pI 2,bW kF #[!1]],p2 jr (pI 1)<|p2 jk (p2 jw !6<|pI 2) !3,pF<|p2 jd (p2 jd !2<|p2 jk (p2 jw !6<|p2 yA (pI 2) !3)<|bW kF #[!2])<|pI 0]))
def VN:FS:=((vF pN)>>>4<|>(Jt (ud #[p2 jk !0<|pI 3]) (jc [] 5) qX)<|>(yM<|d9 4))
def qR:List D->Option D:=cI 7 VN
def yp:FS:=(cp (cm<|ji<|p2 ki (8|||0)<|pS [115,104,97,114,101]) (iG 4<|yq (JT<|8|||1) (jc [] 0) qT (pF !0) [none])<|cp (cm<|ji<|p2 ki (8|||0)<|pS [114,101,112,97,121]) (Qu 4<|pF<|8|||1)
 j9)
def vR:FS:=(Jt (fw<|pF !7) (jc [] 8) yp)
def vV:FS:=(cp (cm<|zI (ji<|p2 (Vh true) !11<|pV 4)<|zI (ji<|p2 Yz (bW kF #[!2])<|pI 0)<|ji<|p2 Yz (p2 jk (p2 jw !0<|p2 jr (p2 yA (pI 5) !10)<|pI 3)<|pI 4)<|pI 0) (Qu 9<|yk #[pF<|p2 jd !2<|p2 jk (p2 jw !0<|p2 jr (p2 yA (pI 7) !10)<|pI 2)<|bW kF #[!2],pF !11])
 j9)
def Vd:FS:=((vF pN)>>>4<|>(Jt (fw<|pF !3) ((5,6)&&&7) vR)<|>(vF pN)>>>9<|>(Jt (Jk #[pF !1]) (10&&&11) vV)<|>(yM<|d9 9))
def qj:List D->Option D:=cI 12 Vd
def yQ:FS:=(sT 2 !3<|bW gv #[p3 xy (!2) !3<|pI 0,!4])
def YD:FS:=((pC<|.dK true [] [])>>>2<|>(Jt (fw<|pF<|0|||5) ((3,4)&&&5) yQ)<|>(bW vB #[1|||2])>>>6<|>(bW vB #[1|||3])>>>7<|>(jA (s_ (wJ 2) (jc [] 0) qT (yk #[pF !0,bW zN #[p2 jX !1<|pV 0,p2 jX !2<|pV 0]]) %[_,6,2|0])<|jc [] 8)<|>(yq (JT<|0|||2) (0&&&1) qT (p2 ki (p2 jX !2<|pV 0) !1) %[_,_,7|0])>>>9<|>(yM<|dP<|yk #[bW J3 #[!8],bW J3 #[yq (JT<|1|||0) (0&&&1) qT (p2 Yz !1<|pI 0) %[_,_|0]],bW J3 #[!9]]))
def vA:List D->Option D:=cI 10 YD
def uI:FS:=((jC vk #[!0])>>>2<|>(cp (cm<|ji<|p2 Yz !2<|pI 10) ((yq (JT !0) (jc [] 0) qT (p2 jw (p2 jr (p2 yA !1<|0|||1)<|pI 9)<|pI 10) %[_,1|0])>>>3<|>(yM<|sQ 3 #[p2 Ku (bW gu #[!3]) !1]))
 j9)<|>(yq (JT !0) (jc [] 0) qT (p2 jw (p2 yA !1<|0|||1)<|pI 10) %[_,1|0])>>>3<|>(p2 Ku (p2 jw (p2 yA !1<|pV 2)<|pI 10)<|bW gu #[!3])>>>4<|>(cC 3<|yM<|dP<|yk #[yq (Jk #[pF !3]) (0&&&1) qT (fq (ji<|p2 gV !0<|pV 2) (p2 jr !1<|pI 1)<|pF !1) %[_,_,4|0],pI 0]))
def VP:List D->Option D:=cI 5 uI
def km:FS:=(KF<|YG vi 3 vW #[pF !1,pF !4,pF !5,pF !6])
def JZ:FS:=((jC yL #[!0])>>>3<|>(Jt (fw<|pF !2) ((4,5)&&&6) km)<|>(yM<|iA y8<|Jc (CG 3) iV))
def vY:List D->Option D:=cI 7 JZ
def K8:FS:=(yM<|dP<|jC vt #[!0,bW xC #[1|||0]])
def qE:List D->Option D:=cI 2 K8
def yc:FS:=(v7 0 (k8 0 "alive" vW) !4<|pC<|.bl false)
def yU:FS:=((kD 0 0 "claims"<|yq (JT<|1|||1) (jc [] 0) qT (pF<|0|||0) [none])<|>(kD 0 0 "pots"<|yq (JT<|1|||2) (jc [] 0) qT (pF<|0|||0) [none])<|>(kD 0 0 "guards"<|pF<|1|||6)<|>(kD 0 0 "greatest"<|jC yS #[!1])<|>(kD 0 0 "runs"<|pF<|2|||0)<|>(kD 0 0 "alive"<|bW xb #[v9 0 "claims" !0,2|||1])<|>(Jt (fw<|pF !3) (jc [0] 4) yc)<|>(kD 0 0 "full"<|bW xb #[v9 0 "pots" !0,2|||2])<|>(kD 0 0 "served"<|pC<|.dK true [] [])<|>(kD 0 0 "repaid"<|pC<|.dK true [] []))
def jU:List D->Option (D×D):=f1 5 0 yU
def jD:FS:=((pF<|1|||0)>>>2<|>(cp (cm<|ji<|p2 ki !2<|pS [112,97,121]) (yM<|dP<|yf jf 0 "is_missed" (!0) #[1|||1])
 j9)<|>(cp (cm<|ji<|p2 ki !2<|pS [115,104,97,114,101]) (yM<|dP<|bW ou #[yq (JT<|1|||1) (jc [] 0) qT (yf jf 0 "is_missed" (!1) #[!0]) %[_,0|0]])
 j9)<|>(cp (cm<|ji<|p2 ki !2<|pS [114,101,112,97,121]) (yM<|dP<|gm (p2 jX (v9 0 "alive" !0)<|1|||1)<|p2 (Ko true) (1|||1)<|v9 0 "repaid" !0)
 j9)<|>(cp (cm<|ji<|p2 ki !2<|pS [102,105,108,108]) (yM<|dP<|Bo<|p2 jX (v9 0 "full" !0)<|1|||1)
 j9)<|>(yM<|dP<|pC<|.bl false))
def jq:List D->Option D:=cI 3 jD
def vv:FS:=(yM<|dP<|fq (ji<|yf jf 0 "is_missed" (!0) #[!1]) (bW zN #[p2 jr !2<|pI 1,p2 jX (v9 0 "greatest" !0) !1])<|pI 0)
def jt:List D->Option D:=cI 3 vv
def Jv:FS:=((kD 0 1 "pool_name"<|pF<|1|||0)<|>(kD 0 1 "marks"<|bW vB #[1|||2])<|>(kD 0 1 "sizes"<|bW vB #[2|||0])<|>(kD 0 1 "owed"<|bW vB #[2|||1])<|>(kD 0 1 "levels"<|bW vB #[2|||3])<|>(kD 0 1 "loans"<|jC yL #[!4])<|>(kD 0 1 "cash"<|pF !3)<|>(kD 0 1 "served"<|pC<|.dK true [] [])<|>(kD 0 1 "entries"<|vF pN)<|>(kD 0 1 "moves"<|vF pN))
def vD:List D->Option (D×D):=f1 5 0 Jv
def yP:FS:=(cp (cm<|ji<|p2 ki !1<|pS [112,97,121]) (ku 0 (k8 1 "owed" vW) (!2) (λm n=>m-n) !3)<|cp (cm<|ji<|p2 ki !1<|pS [114,101,112,97,121]) ((jA (dP<|bW zN #[!3,p2 jX (v9 1 "owed" !0) !2])<|jc [0] 4)<|>(ku 0 (k8 1 "owed" vW) (!2) (λm n=>m-n) !4)<|>(ku 0 (k8 1 "sizes" vW) (!2) (λm n=>m-n)<|p2 Ku !3<|pV 4))<|cp (cm<|ji<|p2 ki !1<|pS [102,105,108,108]) (ku 0 (k8 1 "levels" vW) (!2) (λm n=>m+n) !3)<|cp (cm<|zI (ji<|p2 (Vh false) !1<|yk #[pS [108,101,110,100],pS [98,97,99,107]])<|ji<|p2 Yz !3<|pI 0) ((KF<|YG vi 0 (k8 1 "loans" vW) #[pF<|v9 1 "pool_name" !0,pF !1,pF !2,pF !3])<|>(qV 0 (k8 1 "moves" vW)<|yk #[pF !1,pF !2,pF !3]))
 j9)
def jB:List D->Option (D×D):=f1 5 0 yP
def vj:FS:=((V1 0 vW 1 "cash" (λm n=>m-n) !8)<|>(ku 0 (k8 1 "owed" vW) (!6) (λm n=>m-n) !8)<|>(qV 0 (k8 1 "entries" vW)<|yk #[pF !1,pS [115,104,97,114,101],pF !6,pF !7,pF !8])<|>cp (cm<|ji !5) (v7 0 (k8 1 "served" vW) !6<|pC<|.bl true)
 j9)
def vI:FS:=((jA (dP<|yq (JT !2) (jc [] 0) qT (pF<|p2 jX (v9 1 "owed" !1) !0) %[_,0|0])<|jc [0] 3)<|>(jA (dP<|jC Ym #[!3,v9 1 "cash" !0])<|jc [0] 4)<|>(jA (dP<|gm (p2 Yz (bW gu #[!3])<|pI 0)<|p2 ki !4<|pV 3)<|jc [0] 5)<|>(cC 3<|cC 4<|Jt (tJ 3 #[pF !2,pF !3,pF !4]) (gT 3<|gC (jc [0] 6)<|gC (jc [0] 7)<|gC (jc [0] 8) gN) vj))
def jQ:List D->Option (D×D):=f1 9 0 vI
def VW:FS:=(yM<|dP<|jC vt #[!0,bW vB #[1|||2]])
def kI:List D->Option D:=cI 2 VW
def kB:FS:=((pF<|p2 jd !3<|p2 jk (p2 jr (p2 jw !4<|pI 192) !9)<|pI 26)>>>10<|>(cp (cm<|ji<|p2 ki (p2 jk !4<|pI 3)<|pI 0) ((p2 jr (p2 jr (eP (!5) oN<|oS !7) !10)<|eP (!5) (oS<|p2 jr !7<|pI 1)<|oS !6)>>>11)<|cp (cm<|ji<|p2 ki (p2 jk !4<|pI 3)<|pI 1) ((eP (!5) oN<|oS<|p2 jr (pI 1)<|p2 jk (p2 jr (p2 jw !4<|pI 24) !9) !2)>>>11)<|(eP (p2 jr !10<|jC yG #[jC jL #[!0,p2 jr !9<|pI 2],pI 7]) oN<|oS<|p2 jr (pI 1)<|p2 jk (jC jL #[!0,p2 jr !9<|pI 40]) !2)>>>11)<|>(Qu 8<|jC qM #[!11]))
def Yb:FS:=((pS [97,98,99,100,101,102,103,104,105,106,107,108,109,110,111,112,113,114,115,116,117,118,119,120,121,122])>>>3<|>(jC jL #[!0,pI 1])>>>4<|>(jC yG #[p2 jr (p2 yA !4<|pV 4) !4,pI 8])>>>5<|>(p2 jr (pI 1)<|p2 jk (p2 jw !4<|pI 3) !2)>>>6<|>(p2 jk (p2 jw !4<|pI 24) !6)>>>7<|>(vF pN)>>>8<|>(Jt (ud #[!1]) (jc [] 9) kB)<|>(cp (cm<|ji<|p2 ki (p2 jk (p2 jw !4<|pI 5000)<|pI 2)<|pI 1) (yM<|dP<|i3 !8)
 j9)<|>(yM<|d9 8))
def vQ:List D->Option D:=cI 12 Yb
def YU:FS:=((p2 jk !0<|pI 8)>>>4<|>(p2 jw !0<|pI 8)>>>5<|>(pF<|p2 jd !1<|p2 jk !5<|bW kF #[!1])>>>6<|>(cp (cm<|zI (ji<|p2 ki !4<|pI 2)<|ji<|p2 Yz (bW kF #[!1])<|pI 1) ((p2 jr (pI 2)<|p2 jk (p2 jw !5<|pI 3)<|p2 Ku (bW kF #[!1])<|pI 1)>>>7<|>(yq (ud #[!7]) (jc [] 0) qT (pF<|p2 jd !1<|p2 jk (p2 jr !2<|pV 0)<|bW kF #[!1]) %[_,1,5|0])>>>8<|>(cp (cm<|ji<|p2 ki (p2 jk (p2 jw !5<|pI 9)<|pI 2)<|pI 1) ((i3 !8)>>>8)
 j9)<|>(yM<|dP<|yk #[pS [115,104,97,114,101],bW J3 #[!8]]))
 j9)<|>(cp (cm<|ji<|p2 ki !4<|pI 3) (yM<|dP<|yk #[pS [114,101,112,97,121],pF !6])
 j9)<|>(cp (cm<|zI (ji<|p2 ki !4<|pI 4)<|ji<|p2 Yz (bW kF #[!2])<|pI 0) (yM<|dP<|yk #[pS [102,105,108,108],pF<|p2 jd !2<|p2 jk (p2 jw !5<|pI 3)<|bW kF #[!2]])
 j9)<|>(cp (cm<|zI (ji<|p2 ki !4<|pI 5)<|zI (ji<|p2 Yz (bW kF #[!3])<|pI 0)<|ji<|p2 Yz (p2 jk (p2 jw !5<|pI 3)<|pI 3)<|pI 0) (yM<|dP<|yk #[pS [108,101,110,100],pF<|p2 jd !3<|p2 jk (p2 jw !5<|pI 9)<|bW kF #[!3],jC jG #[p2 jw !5<|pI 27]])
 j9)<|>(cp (cm<|zI (ji<|p2 ki !4<|pI 5)<|ji<|p2 Yz (bW kF #[!3])<|pI 0) (yM<|dP<|yk #[pS [98,97,99,107],pF<|p2 jd !3<|p2 jk (p2 jw !5<|pI 9)<|bW kF #[!3]])
 j9)<|>(yM<|dP<|yk #[pS [112,97,121],pF !6]))
def kE:List D->Option D:=cI 9 YU
def kc:FS:=((jC jL #[!1,p2 jr !5<|pI 60])>>>7<|>(p2 Yz (p2 jk !7<|pI 4)<|pI 0)>>>8<|>(Qu 2<|yk #[pF<|6|||0,fq (ji !8) (p2 jr (pI 1)<|p2 jk (p2 jw !7<|pI 4)<|6|||1)<|pI 0])<|>(Qu 3<|yk #[pF<|6|||0,fq (ji !8) (p2 yA (p2 jk (p2 jw !7<|pI 8)<|pI 3)<|p2 jk (p2 yA !7<|pV 7)<|p2 xQ (pI 10)<|pI 14)<|pI 0])<|>(Qu 4<|yk #[pF<|6|||0,fq (ji !8) (p2 jk (p2 jw !7<|pI 24)<|pI 5)<|pI 0]))
def kh:FS:=((jC jL #[!1,p2 jr !5<|pI 70])>>>7<|>(Qu 9<|yk #[pF<|6|||0,fq (ji<|p2 ki (p2 jk !7<|pI 2)<|pI 0) (pF<|6|||1)<|p2 jk (p2 jw !7<|pI 2)<|6|||1]))
def Qm:FS:=((vF pN)>>>2<|>(vF pN)>>>3<|>(vF pN)>>>4<|>(Jt (Jk #[pF<|0|||1]) (5&&&6) kc)<|>(vF pN)>>>9<|>(Jt (Jk #[pF<|0|||2]) (5&&&6) kh)<|>(cC 2<|cC 3<|cC 4<|cC 9<|yM<|dP<|yk #[pF !2,pF !3,pF !4,pF !9,pI 0]))
def JS:List D->Option D:=cI 10 Qm
def kU:FS:=((vF pN)>>>3<|>(cp (cm<|ji<|p2 Yz (p2 jk !2<|pI 3)<|pI 0) (Qu 3<|yk #[pF<|0|||0,pF<|1|||0,jC jG #[p2 jw !2<|pI 9]])
 j9)<|>(cp (cm<|ji<|p2 Yz (p2 jk (p2 jw !2<|pI 3)<|pI 3)<|pI 0) (Qu 3<|yk #[pF<|1|||0,pF<|0|||0,jC jG #[p2 jw !2<|pI 10]])
 j9)<|>(yM<|dP<|bW y8 #[!3]))
def yF:List D->Option D:=cI 4 kU
def Jd:FS:=((cp (cm<|ji<|p2 ki (p2 jk !0<|pI 4)<|pI 0) (yM<|dP<|pI 0)
 j9)<|>(cp (cm<|ji<|p2 ki (p2 jk !0<|pI 4)<|pI 1) (yM<|dP<|p2 jk (p2 jw !0<|pI 4)<|pI 12)
 j9)<|>(yM<|dP<|jC jG #[p2 jw !0<|pI 4]))
def yH:List D->Option D:=cI 1 Jd
def yT:FS:=((yq (JT<|v9 0 "guards" !0) (0&&&1) (ji<|yf jf 0 "is_missed" (!2) #[!1]) (pF !0) %[_,_,0|0])>>>1<|>(yq (JT<|v9 0 "runs" !0) (0&&&1) qT (yk #[pF !0,yf jt 0 "days_behind" (!2) #[!0,!1]]) %[_,_,0|0])>>>2<|>(yq (JT<|v9 0 "claims" !0) (jc [] 0) qT (gm (p2 jX (v9 0 "alive" !1) !0)<|p2 (Ko true) !0<|v9 0 "repaid" !1) %[_,0|0])>>>3<|>(yq (JT<|v9 0 "pots" !0) (jc [] 0) qT (gm (p2 jX (v9 0 "full" !1) !0)<|p2 (Vh true) !0<|pV 2) %[_,0,1|0])>>>4<|>(yM<|dP<|yk #[bW J3 #[!2],bW J3 #[!3],bW J3 #[!4]]))
def ju:List D->Option D:=cI 5 yT
def kQ:FS:=((jA (dP<|pF<|p2 jd (3|||0) !4)<|jc [0] 6)<|>(jA (dP<|bW zN #[!6,v9 1 "cash" !0])<|jc [0] 7)<|>(V1 0 vW 1 "cash" (λm n=>m-n) !7)<|>(qV 0 (k8 1 "entries" vW)<|yk #[pF !4,pS [112,97,114,116],pF<|5|||0,pF !6,pF !7]))
def vJ:FS:=((jA (dP<|pF<|v9 1 "cash" !0)<|jc [0] 2)<|>(jA (dP<|jC VP #[!1,!2])<|jc [0] 3)<|>(Jt (Jk #[pF !1]) (gT 2<|gC (jc [0] 4)<|gC (jc [0] 5) gN) kQ)<|>cp (cm<|ji<|p2 Yz (3|||1)<|pI 0) (qV 0 (k8 1 "entries" vW)<|yk #[p1 ur<|pI 1,pS [116,119,105,99,101],pS [],bW gu #[3|||0],pF !2])
 j9)
def ye:List D->Option (D×D):=f1 8 0 vJ
def yI:FS:=((jA (dP<|pF<|2|||0)<|jc [0] 3)<|>(jA (dP<|pF<|2|||1)<|jc [0] 4)<|>(jA (dP<|yf jl 1 "need_of" (!0) #[!2])<|jc [0] 5)<|>(jA (dP<|bW zN #[!5,v9 1 "cash" !0])<|jc [0] 6)<|>(V1 0 vW 1 "cash" (λm n=>m-n) !6)<|>(qV 0 (k8 1 "entries" vW)<|yk #[pF !1,pF !3,pF !4,pF !5,pF !6])<|>(KF<|y6 jB 0 1 "give" #[pF !3,pF !4,pF !6])<|>cp (cm<|zI (ji<|p2 (Vh false) !3<|yk #[pS [112,97,121],pS [114,101,112,97,121]])<|zI (ji<|p2 ki !6<|pV 5)<|ji<|p2 Yz !5<|pI 0) (v7 0 (k8 1 "served" vW) !4<|pC<|.bl true)
 j9)
def jF:List D->Option (D×D):=f1 7 0 yI
def vS:FS:=((jC jL #[!7,p2 jr !6<|pI 3])>>>8<|>(p2 jw !8<|pI 10)>>>9<|>(pF<|p2 jd !1<|p2 jk !9<|bW kF #[!1])>>>10<|>(gW 5 11 [] (zI (ji<|p2 ki (p2 jk !8<|pI 10)<|pI 7)<|ji<|p2 gV (bW kF #[!5])<|bW kF #[!4]) (Qu 5<|vF #[pF<|p2 jd !4<|bW kF #[!5],vF pN,vF pN])<|cp (cm<|ji<|p2 Yz (p2 jk !8<|pI 10)<|pI 7) ((jA (dP<|p2 jr (pI 1)<|p2 jk (p2 jw !9<|pI 3)<|pI 3)<|jc [5,11] 12)<|>(cp (cm<|ji<|p2 ki (p2 jk (p2 jw !9<|pI 9)<|pI 4)<|pI 0) (jA (dP<|p2 jr (pI 1)<|p2 jk (p2 jw !9<|pI 36)<|pI 10)<|jc [5,11] 12)
 j9)<|>cp (cm<|ji<|p2 (Vh true) !10<|yq (JT<|11|||1) (0&&&1) qT (pF !0) %[_,_|0]) (YJ 11 1<|yk #[pF !10,pF !12])
 j9)<|cp (cm<|ji<|p2 gV (bW kF #[11|||2])<|pI 4) (YJ 11 2<|jC kE #[!9,!1,!2,!3])
 j9))
def Vc:FS:=((vF #[vF #[pF<|4|||0,vF pN,vF pN]])>>>5<|>(Jt (Jk #[pF !0]) (6&&&7) vS)<|>(cC 5<|yM<|dP<|yq (JT !5) (jc [] 0) qT (yk #[pF<|0|||0,pF<|0|||1,p2 jr (0|||2)<|vF #[yk #[pS [114,101,115,116],pF<|p2 jd !1<|p2 jk (bW kF #[0|||2])<|bW kF #[!1]]]]) %[_,1|0]))
def qf:List D->Option D:=cI 13 Vc
def jJ:FS:=(cp (cm<|ji<|yf jq 0 "needs" (!5) #[!8]) ((Qu 6<|yk #[pF !3,pF !7,yf ju 0 "outline_behind" (!5) pN])<|>(cp (cm<|ji<|p2 om (jC vk #[1|||1])<|pI 10) (yM<|d9 6)
 j9)<|>(KF<|y6 jy 5 0 "fill" #[pF !8]))
 j9)
def qk:FS:=((Vk jU 0 #[pF !0,pF !2,pF !4])>>>5<|>(vF pN)>>>6<|>(Jt (Jk #[pF<|1|||2]) (7&&&8) jJ)<|>(Qu 6<|yk #[pF !3,bW kF #[1|||2],yf ju 0 "outline_behind" (!5) pN])<|>(yM<|d9 6))
def yR:List D->Option D:=cI 9 qk
def JJ:FS:=(cp (cm<|ji<|p2 ki (8|||0)<|pS [115,104,97,114,101]) (KF<|y6 jQ 6 1 "take_share" #[pF !7,pF<|8|||1])<|KF<|y6 jF 6 1 "take_rule" #[pF !7,pF !8])
def zM:FS:=(KF<|y6 yX 6 1 "take_guard" #[pF !7,pF<|9|||0,pF<|9|||1])
def CV:FS:=((jC yY #[!0,!1])>>>5<|>(Vk vD 1 #[pF !0,pF !2,pF !3,pF !4])>>>6<|>(KF<|y6 ye 6 1 "take_parts" #[pF<|5|||1])<|>(Jt (mR #[pF<|5|||2] (bW kF #[5|||1])) (7&&&8) JJ)<|>(Jt (Jk #[pF<|0|||6]) (7&&&9) zM)<|>(yM<|lO 6 1 "entries" "moves"<|yf j8 1 "book_behind" (!6) #[!2]))
def pw:List D->Option D:=cI 10 CV
def qg:FS:=(Qu 10<|yk #[pF !12,jC jG #[p2 jw !6<|p2 jr !11<|pI 1],jC jG #[p2 jr (p2 jw !6<|p2 jr !11<|pI 5) !11]])
def YK:FS:=((jC jL #[jC jT #[!0,pI 0],pI 1])>>>5<|>(jC jL #[jC jT #[!0,pI 1],pI 2])>>>6<|>(eP (!1) (oS<|pI 1)<|oS<|p2 jr (pI 2)<|p2 jk !5<|pI 3)>>>7<|>(eP (!1) (oS<|pI 4)<|oS<|p2 jr (pI 4)<|p2 jk (p2 jw !5<|pI 3)<|pI 3)>>>8<|>(cC 8<|cC 7<|(jC qf #[i4<|eP (!0) (oS<|pI 2) oN,!7,!8,!3,!2])>>>9)<|>(vF pN)>>>10<|>(cC 7<|Jt (Jk #[pF !7]) (11&&&12) qg)<|>(yq (ud #[p2 jk (p2 jw !5<|pI 36)<|p2 jr (bW kF #[!7])<|pI 1]) (jc [] 0) qT (pF<|p2 jd !1<|p2 jk (p2 jr (p2 jw !2<|pI 12) !0)<|bW kF #[!1]) %[_,7,5|0])>>>13<|>(jC qR #[p2 jw !6<|pI 11,!7,!9,p2 jw !4<|bW gv #[pI 1,bW kF #[!8]]])>>>14<|>(cC 8<|(yq (Jk #[pF !8]) (0&&&1) qT (yk #[pF !1,jC jG #[p2 jr (p2 jw !2<|pI 13) !0]]) %[_,_,6|0])>>>15)<|>(cC 10<|cC 15<|cC 13<|cC 9<|cC 14<|yM<|dP<|yk #[pF<|1|||0,pF !10,pF !15,pF !13,pF !9,pF !14,jC qj #[p2 jw !5<|pI 200,!7,!8,!9]]))
def YM:List D->Option D:=cI 16 YK
def Vb:FS:=(iG 5<|jC yR #[!0,!2,!1,!6,eP (!4) oN<|oS !6])
def Qx:FS:=((jC yY #[!0,jC qE #[!0,!1]])>>>2<|>(bW xb #[yq (JT<|0|||1) (jc [] 0) qT (pF<|0|||0) [none],1|||1])>>>3<|>(yq (JT<|0|||3) (jc [] 0) (ji<|p2 jX !1<|pV 0) (pF !0) %[_,3|0])>>>4<|>(vF pN)>>>5<|>(Jt (ud #[p2 jr (bW kF #[!4])<|pI 1]) (jc [] 6) Vb)<|>(yM<|d9 5))
def kG:List D->Option D:=cI 7 Qx
def Qv:FS:=((jC zq #[!0,!1,!4])>>>5<|>(jC kI #[!0,!1])>>>6<|>(cC 5<|(jC pw #[!0,!6,jC kK #[!0,5|||1],!3,!2])>>>7)<|>(yq (JT<|5|||0) (jc [] 0) qT (p2 jr (yk #[pF<|1|||0,pS []]) !0) %[_,0|0])>>>8<|>(iG 8<|yq (JT<|7|||0) (jc [] 0) qT (p2 jr (yk #[pF<|1|||0,pF !2]) !0) %[_,0,6|0])<|>(cC 7<|cC 8<|yM<|dP<|yk #[pF<|7|||1,jC vY #[!2,0|||0,7|||2],pF<|7|||2,pF !8]))
def JQ:List D->Option D:=cI 9 Qv
def xX:FS:=((jC vQ #[jC jT #[!0,pI 0],pI 8,pI 8])>>>1<|>(jC vQ #[jC jT #[!0,pI 1],pI 3,pI 8])>>>2<|>(cC 2<|cC 1<|(jC YM #[i4<|eP (!0) oN<|oS<|pI 16,!1,!2,i4<|vF #[pF<|1|||6],pI 2])>>>3)<|>(vF #[yk #[pS [108,101,110,100],pF<|1|||0,p2 xQ (pI 10)<|pI 6],yk #[pS [98,97,99,107],pF<|1|||0],yk #[pS [114,101,115,116],pF<|1|||7]])>>>4<|>(cC 4<|(yk #[pF<|1|||6,vF #[yk #[pF<|1|||7,pI 1,pI 1]],vF pN,vF pN,vF #[yk #[pF<|2|||0,vF pN,pF !4]],vF pN,vF pN])>>>5)<|>(cC 3<|cC 5<|yM<|dP<|yk #[pF !3,pF !5]))
def Yu:List D->Option D:=cI 6 xX
def qh:FS:=(oy 6 (p2 jX !8<|pV 14) (λi j=>i+j) !15)
def JD:FS:=((p2 jr (p2 jd !2<|pV 9)<|p2 jd !6<|pV 9)>>>11<|>(jA (dP<|pI 0)<|sw [] 6 !9)<|>(cC 5<|(jC JQ #[!10,p2 jd (1|||0) !9,!5,!11,p2 jd !3<|pV 9])>>>12)<|>(cC 12<|Qu 4<|pF<|12|||0)<|>(pF<|12|||1)>>>5<|>(Jt (fw<|pF<|12|||2) ((13,14)&&&15) qh)<|>(iG 7<|12|||3))
def Qy:FS:=((vF pN)>>>4<|>(bW Q4 #[1|||1])>>>5<|>(bW Q4 #[1|||2])>>>6<|>(vF pN)>>>7<|>(bW vB #[yq (Jk #[pF !0]) (0&&&1) qT (yk #[pF<|1|||0,pF !0]) %[_,_|0]])>>>8<|>(Jt (Jk #[pF !0]) (9&&&10) JD)<|>(yM<|iB<|Jc (iB<|Jc (d9 4)<|Jc (d9 5)<|Jc (d9 6) iV)<|Jc (d9 7) iV))
def qB:List D->Option D:=cI 16 Qy
def Q3:FS:=((jC jL #[!12,p2 jr !11<|pI 100])>>>13<|>(vF #[jC yH #[!13],jC yH #[p2 jw !13<|pI 40]])>>>14<|>(vF #[jC yH #[p2 jw !13<|pI 4],jC yH #[p2 jw !13<|pI 5]])>>>15<|>(cC 15<|cC 14<|sx (dP<|pF<|i4<|jC qB #[!8,!9,!14,!15])<|9&&&16)<|>(cC 9<|(jC vA #[!1,p2 jd (9|||0) !7])>>>17)<|>(cp (cm<|ji<|p2 (tq true) !17<|yq (JT<|jC kG #[!1,!10]) (jc [] 0) qT (pF<|0|||2) [none]) (yM<|dP<|pC<|.bl false)
 j9)<|>(pF !17)>>>10)
def tL:FS:=((sx (dP<|pF<|i4<|jC Yu #[!0])<|1&&&2)<|>(cC 2<|cC 1<|(pF<|p2 jd (p2 jd (2|||1)<|pI 0)<|pI 0)>>>3)<|>(jC jL #[jC jT #[!0,pI 16],pI 90])>>>4<|>(jC JS #[!1,jC jT #[!0,pI 16]])>>>5<|>(cC 5<|(yk #[vF #[yk #[pF !3,pI 1]],vF #[yk #[pF !3,pI 0]],vF #[yk #[pF !3,pI 0]],vF pN,pI 0])>>>6)<|>(cC 6<|(p2 jk (p2 jw !4<|pI 9)<|pI 2)>>>7)<|>(cC 1<|cC 2<|(vF #[pF !1,pF !2])>>>8)<|>(cC 5<|cC 6<|(yk #[vF #[pF !5,pF !6],jC yF #[!1,!2,!4],vF #[p2 jk (p2 jw !4<|pI 18)<|pI 3,p2 jk (p2 jw !4<|pI 54)<|pI 3]])>>>9)<|>(cC 9<|cC 8<|cp (cm<|ji<|p2 ki !7<|pI 1) ((cC 2<|cC 1<|(vF #[pF !2,pF !1])>>>8)<|>(cC 6<|cC 5<|(yk #[vF #[pF !6,pF !5],pF<|9|||1,pF<|9|||2])>>>9))
 j9)<|>(cC 9<|cC 8<|(jC vA #[!1,!5])>>>10)<|>(Jt (Jk #[p2 jr (vF #[pI 0])<|eP (!0) (oS<|pI 17)<|oS<|pI 45]) (11&&&12) Q3)<|>(yM<|dP<|pC<|.bl true))
def mZ:List D->Option D:=cI 18 tL
def CW(st:Stmt):List Str:=((jP st).names.filter λp=>decide (p.2=.local)||decide (p.2=.cell)).map (·.1)
abbrev J5(K:W4)(mg:W6)(x:Str)(st:Stmt)(n:Nat):Prop:=i6 K mg x st (CW st) n
abbrev lT(K:W4)(C:Addr)(x qual:Str)(st:Stmt)(n:Nat):Prop:=f3 K C x qual st (CW st) n
structure Txt(P:Program)(w:World)(K:W4)(mg:W6)(cl:Nat->Addr):Prop where
 C0:dM K (cl 0)
 mk0:PySem.W.makesIn K (cl 0)=true
 kc0:PySem.W.keepIn K (.ref<|cl 0)=true
 mg0:mg "OutlineDay" = some (.ref<|cl 0)
 C1:dM K (cl 1)
 mk1:PySem.W.makesIn K (cl 1)=true
 kc1:PySem.W.keepIn K (.ref<|cl 1)=true
 mg1:mg "Fall" = some (.ref<|cl 1)
 aa:bT K (cl 0) "served"
 ab:bT K (cl 0) "alive"
 ae:bT K (cl 0) "full"
 af:bT K (cl 0) "repaid"
 ag:bT K (cl 1) "owed"
 ah:bT K (cl 1) "sizes"
 ai:bT K (cl 1) "marks"
 aj:bT K (cl 1) "levels"
 ak:bT K (cl 1) "loans"
 am:bT K (cl 1) "pool_name"
 ap:bT K (cl 1) "cash"
 aq:bT K (cl 1) "entries"
 ar:bT K (cl 1) "served"
 au:bT K (cl 0) "claims"
 av:bT K (cl 0) "pots"
 aw:bT K (cl 0) "guards"
 ay:bT K (cl 0) "greatest"
 az:bT K (cl 0) "runs"
 aA:bT K (cl 1) "moves"
 aB:mg "any" = none
 aD:mg "dict" = none
 aE:mg "enumerate" = none
 aF:mg "len" = none
 aG:mg "list" = none
 aH:mg "max" = none
 aI:mg "min" = none
 aJ:mg "range" = none
 aL:mg "reversed" = none
 aM:mg "sorted" = none
 aN:mg "sum" = none
 aO:mg "tuple" = none
 aP:mg "zip" = none
 aQ:J5 K mg "tenths_of" (cE 2) 1
 aR:J5 K mg "order_named" (cE 4) 2
 aS:J5 K mg "look_order" (cE 5) 2
 aT:J5 K mg "loans_by_ends" (cE 6) 1
 aU:J5 K mg "move_loan" (cE 7) 5
 aV:J5 K mg "greatest_days" (cE 10) 1
 aW:lT K (cl 0) "is_missed" "OutlineDay.is_missed" (vC (cE 14) 2) 2
 aX:lT K (cl 0) "fill" "OutlineDay.fill" (vC (cE 14) 3) 2
 aY:i6 K mg "shared" (cE 16) ["needs","cash","whole","gets","left","at","need"] 2
 aZ:f3 K (cl 1) "need_of" "Fall.need_of" (vC (cE 19) 3) ["self","rule","kind","name"] 2
 b4:f3 K (cl 1) "take_guard" "Fall.take_guard" (vC (cE 19) 6) ["self","place","pot","claim","need","got"] 4
 b7:f3 K (cl 1) "book_behind" "Fall.book_behind" (vC (cE 19) 7) ["self","book","sizes_ahead","runs","claim","days","missed"] 2
 b8:J5 K mg "eaten" (cE 21) 3
 b9:J5 K mg "with_dues" (cE 24) 2
 ba:J5 K mg "_law_cell_at" (cE 28) 2
 bc:J5 K mg "_law_mixed" (cE 29) 2
 be:J5 K mg "_law_letters" (cE 30) 2
 bf:J5 K mg "_law_spelt" (cE 31) 1
 bg:J5 K mg "_law_amount" (cE 33) 1
 bh:J5 K mg "_law_looks" (cE 36) 4
 bi:i6 K mg "_law_guards" (cE 37) ["_law_m","_law_claims","_law_pots","_law_orders_here","_law_busy","_law_name","_law_parts","_law_rules","_law_rule_here","_law_guards_here","_law_k","_law_claim"] 4
 bj:J5 K mg "_law_outline" (cE 39) 2
 bm:J5 K mg "asked" (cE 1) 2
 bn:J5 K mg "loans_behind" (cE 8) 3
 bo:J5 K mg "order_of" (cE 11) 2
 bp:lT K (cl 0) "__init__" "OutlineDay.__init__" (vC (cE 14) 0) 4
 bq:lT K (cl 0) "needs" "OutlineDay.needs" (vC (cE 14) 1) 2
 br:lT K (cl 0) "days_behind" "OutlineDay.days_behind" (vC (cE 14) 5) 3
 bt:f3 K (cl 1) "__init__" "Fall.__init__" (vC (cE 19) 0) ["self","pool","book","came","loans"] 5
 bu:f3 K (cl 1) "give" "Fall.give" (vC (cE 19) 4) ["self","kind","name","coins","from_owed"] 4
 bv:f3 K (cl 1) "take_share" "Fall.take_share" (vC (cE 19) 5) ["self","place","names","needs","gets","full","name","need","got"] 3
 bw:J5 K mg "order_now" (cE 23) 2
 bx:J5 K mg "_law_words" (cE 32) 3
 bz:J5 K mg "_law_rule" (cE 34) 4
 bA:J5 K mg "_law_book" (cE 40) 2
 bB:J5 K mg "_law_loans" (cE 42) 3
 bC:J5 K mg "_law_coins" (cE 43) 1
 bD:lT K (cl 0) "outline_behind" "OutlineDay.outline_behind" (vC (cE 14) 4) 1
 bE:f3 K (cl 1) "take_parts" "Fall.take_parts" (vC (cE 19) 1) ["self","parts","came","told","place","part","ask","got"] 2
 bF:f3 K (cl 1) "take_rule" "Fall.take_rule" (vC (cE 19) 2) ["self","place","rule","kind","name","need","got"] 3
 bG:J5 K mg "_law_orders" (cE 35) 5
 bH:J5 K mg "steps_with" (cE 13) 5
 bI:J5 K mg "fell" (cE 18) 5
 bJ:J5 K mg "_law_pool" (cE 38) 5
 bK:J5 K mg "steps_of" (cE 12) 2
 bL:J5 K mg "pool_day" (cE 25) 5
 bM:J5 K mg "_law_two" (cE 41) 1
 bN:i6 K mg "day_done" (cE 26) ["deal","state","incomes","losses","books","loans","waiting","log","at_of","at","pool","came","told","kind","other","coins"] 4
 bO:J5 K mg "law" (cE 44) 1
section
variable {P:Program}{w:World}{K:W4}{mg:W6}{cl:Nat->Addr}(T:Txt P w K mg cl)
include T
set_option maxHeartbeats 40000000 in
def Oz:((((NP P w cl T.aQ 1 vk/\NP P w cl T.aR 1 yY)/\NP P w cl T.aS 1 vt/\NP P w cl T.aT 1 yL/\NM P w cl T.aU 1 vi)/\(NP P w cl T.aV 1 yS/\OP P w cl mg T.aW 1 jf/\OM P w cl mg T.aX 1 jy)/\NP P w cl T.aY 1 Ym/\OP P w cl mg T.aZ 1 jl/\OM P w cl mg T.b4 1 yX)/\((OP P w cl mg T.b7 1 j8/\NP P w cl T.b8 1 zq)/\NP P w cl T.b9 1 kK/\NP P w cl T.ba 1 jT/\NP P w cl T.bc 1 jL)/\(NP P w cl T.be 1 yG/\NP P w cl T.bf 1 qM/\NP P w cl T.bg 1 jG)/\NP P w cl T.bh 1 qR/\NP P w cl T.bi 1 qj/\NP P w cl T.bj 1 vA) /\
 (((NP P w cl T.bm 2 VP/\NP P w cl T.bn 2 vY/\NP P w cl T.bo 2 qE)/\(OM P w cl mg T.bp 2 jU/\OP P w cl mg T.bq 2 jq)/\OP P w cl mg T.br 2 jt/\OM P w cl mg T.bt 2 vD)/\((OM P w cl mg T.bu 2 jB/\OM P w cl mg T.bv 2 jQ)/\NP P w cl T.bw 2 kI/\NP P w cl T.bx 2 vQ)/\(NP P w cl T.bz 2 kE/\NP P w cl T.bA 2 JS)/\NP P w cl T.bB 2 yF/\NP P w cl T.bC 2 yH) /\
 ((OP P w cl mg T.bD 3 ju/\OM P w cl mg T.bE 3 ye)/\OM P w cl mg T.bF 3 jF/\NP P w cl T.bG 3 qf) /\
 (NP P w cl T.bH 4 yR/\NP P w cl T.bI 4 pw/\NP P w cl T.bJ 4 YM) /\
 (NP P w cl T.bK 5 kG/\NP P w cl T.bL 5 JQ/\NP P w cl T.bM 5 Yu) /\
 NP P w cl T.bN 6 qB /\
 NP P w cl T.bO 7 mZ:=by
 cases T;refine lQ ?_ λa=>lQ ?_ λb=>lQ ?_ λc=>lQ ?_ λe=>lQ ?_ λg=>lQ ?_ λj=>?_
 all_goals repeat' apply And.intro
 all_goals
  (first | refine Oe (by assumption) λf fd S F base=>?_ | refine Of (by assumption) λf fd S F base=>?_)
  (first | refine' LX F.fn S rfl λh A outer s H E i=>?_ | refine' MK F.fn S rfl λh A outer s H E i=>?_)
  apply Exists.intro
  repeat' first | exact rfl | (show QB _ _ _ _ _;first | apply IL | apply qI | apply BJ | apply Cq | apply Mw | apply QP.fzb | apply MX | apply Mx | apply QK.ix | apply QK.NF | apply QP.bb) | (show fO _ _ _ _ _;first | apply Lf | apply Le) | (show eD _ _ _ _ _;first | apply Lh | apply Lg) | (show fP _ _ _ _ _ _;first | apply LF | apply LH | apply LD | apply Nk) | (show QP _ _ _ _ _;first | ((with_reducible show QP _ _ _ _ (bW vB _));refine' zD (GX rfl) MB ?_ K5 ?_) | ((with_reducible show QP _ _ _ _ (bW zN _));refine' YZ (FX rfl) BD ?_ Ls ?_) | ((with_reducible show QP _ _ _ _ (bW gu _));refine' YZ (GM rfl) IF ?_ Lp ?_) | ((with_reducible show QP _ _ _ _ (bW J3 _));refine' zD zr IJ ?_ uv ?_) | ((with_reducible show QP _ _ _ _ (bW gv _));refine' YZ (FW rfl) BD ?_ Lr ?_) | ((with_reducible show QP _ _ _ _ (bW Q4 _));refine' zD wj II ?_ Qq ?_) | ((with_reducible show QP _ _ _ _ (bW xC _));refine' zD (Hh rfl) Nn ?_ K5 ?_) | ((with_reducible show QP _ _ _ _ (bW ou _));refine' YZ (GH rfl) IG ?_ Lq ?_) | ((with_reducible show QP _ _ _ _ (bW y8 _));refine' YZ Va xT ?_ Ve ?_) | ((with_reducible show QP _ _ _ _ (sE "str" Qz _ _));refine' Mp PySem.F.plainAttrs_str PySem.F.slot_str_index PySem.F.type_str_index Ng M' ?_ ?_) | apply qS | apply BL | apply Li | apply IT | apply IS | apply Lj | apply BI | apply BN | apply IR | apply BH | apply Lo | apply Mb | apply IN | apply Ld | apply IQ | apply Lb | apply Lc | apply Mv | apply Cv | apply NI | apply MI | apply IV | apply IU | apply Oc | apply Nb | apply Oy | apply IP | apply Ow | apply Ox | apply IW | apply Nr | apply QK.Mq | apply QK.len | apply QK.tw | apply QK.call | apply I' | apply QB.f) | (show QE _ _ _ _ _;first | ((with_reducible show QE _ _ _ _ (iA y8 _));refine' MN Va xT ?_ Ve ?_) | apply IM | apply Nq | apply MF | apply NG | apply Ms | apply N_ | apply NZ | apply QP.d) | (show QS _ _ _ _ _ _;first | apply LJ | apply LK | apply QS.fz | apply LW | apply No | apply LV | apply ux (hsw:=by with_unfolding_all rfl) | apply LI | apply NA | apply ND | apply Nv | apply MR | apply NE | apply My | apply LS | apply LU | apply LP | apply MY | apply NH | apply MH | apply uk | apply NB | apply Nj | apply LQ | apply LM) | (show lh _ _ _ _ _ _;first | apply LA | apply Lz) | (show QT _ _ _ _ _;first | apply I_ | apply J' | apply QW.t) | (show QG _ _ _ _ _ _;first | apply Ly | apply BP | apply QK.mO) | (show mE _ _ _ _ _ _;first | apply Ma | apply QI.b') | (show QL _ _ _ _ _ _;first | apply Nt | apply Nu) | (show lD _ _ _ _ _;first | apply ME | apply MD) | (show QI _ _ _ _ _ _;first | apply Lx | apply Lu | apply Lw | apply Op | apply MW) | (show QO _ _ _ _ _;first | apply Lm | apply Ll) | (show QW _ _ _ _ _;first | apply K_ | apply J_ | apply K' | apply La) | apply LC | apply Nc | apply hU | apply IY | apply IX | apply I0 | apply IZ | apply dG | apply Nx | apply QK.hU | apply QK.dG | apply rfl | exact Or.inl rfl | exact Or.inr rfl | exact Or.inr (Or.inl rfl) | exact Or.inr (Or.inr rfl) | exact λ_=>rfl | exact λ_ _=>rfl | exact λ_ _ _=>rfl | exact i.mono (by decide) | exact i.mono (by first | exact M8 _ | exact Nat.le_add_left _ _ | exact N6 (by decide)<|Nat.le_add_right _ _) | apply LB | exact S.nd | (show cr _ _ _ _;exact Og S) | exact PassesOwn.never | exact Fv | exact Fw | (intro _ _ _ _;first | show QP _ _ _ _ _ | show QG _ _ _ _ _ _ | show li _ _ _ _ _ | show QT _ _ _ _ _) | exact#v[rfl,rfl,rfl,rfl] | exact Oj (by decide +kernel) | decide +kernel | with_unfolding_all rfl | assumption | exact a.1.1.1.1 | exact a.1.1.1.2 | exact a.1.1.2.1 | exact a.1.1.2.2.1 | exact a.1.1.2.2.2 | exact a.1.2.1.1 | exact a.1.2.1.2.1 | exact a.1.2.1.2.2 | exact a.1.2.2.1 | exact a.1.2.2.2.1 | exact a.1.2.2.2.2 | exact a.2.1.1.1 | exact a.2.1.1.2 | exact a.2.1.2.1 | exact a.2.1.2.2.1 | exact a.2.1.2.2.2 | exact a.2.2.1.1 | exact a.2.2.1.2.1 | exact a.2.2.1.2.2 | exact a.2.2.2.1 | exact a.2.2.2.2.1 | exact a.2.2.2.2.2 | exact b.1.1.1 | exact b.1.1.2.1 | exact b.1.1.2.2 | exact b.1.2.1.1 | exact b.1.2.1.2 | exact b.1.2.2.1 | exact b.1.2.2.2 | exact b.2.1.1.1 | exact b.2.1.1.2 | exact b.2.1.2.1 | exact b.2.1.2.2 | exact b.2.2.1.1 | exact b.2.2.1.2 | exact b.2.2.2.1 | exact b.2.2.2.2 | exact c.1.1 | exact c.1.2 | exact c.2.1 | exact c.2.2 | exact e.1 | exact e.2.1 | exact e.2.2 | exact g.1 | exact g.2.1 | exact g.2.2 | exact j | apply MP | apply MO | apply Oh
end
abbrev lU(ns:List Int):Prop:=∀ x∈ns,Builtin.Int.intBits x<=2 ^ 20
abbrev Lt(w:List Nat):Prop:=∀ c∈w,97<=c/\c<=122
def xH{a b}(h1:Lt a)(h2:Lt b):Lt (a++b):=λc d=>(N1.mp d).elim (h1 c) (h2 c)
def tM{c}(h:97<=c/\c<=122):Lt [c]:=λd hd=>by rw[M7.mp hd];exact h
def YQ{s}{l}{lo hi}{c:s}(h:c∈vf l lo hi):c∈l:=by
 exact List.mem_of_mem_drop<|List.mem_of_mem_take h
def u8{s}(l:List s)(lo hi):-(vf l lo hi)<=-l:=by
 unfold vf;rw[X6,List.length_drop];lia
def tN{w}{lo hi}(h:Lt w):Lt (vf w lo hi):=λc a=>h c<|YQ a
noncomputable abbrev dO:List Nat:=[97,98,99,100,101,102,103,104,105,106,107,108,109,110,111,112,113,114,115,116,117,118,119,120,121,122]
def Je(ns:List Int):frzs (ns.map D.int)=true:=yd λd hd=>by let[x,_,rfl]:=M5.mp hd;rfl
def YI(ns:List Int):bV (ns.map D.int)=ns.map D.int:=je _<|Je ns
def VU{ns}(b:lU ns){k}(c:0<=k):∃ z,jT [.lst false<|ns.map D.int,.int k]\(.int z)/\Builtin.Int.intBits z<=2 ^ 20:=by
 have a:-(ns.map D.int)=-ns:=L1 ..;by_cases h:k< -ns
 ·have hi:k.toNat< -ns:=by lia
  have ix:jd (.lst false<|ns.map D.int) (.int k)\(.int ns[k.toNat]):=by
   rw[lF c<|by rw[a];exact h,List.getElem?_map,X5 hi];rfl
  refine#v[ns[k.toNat],?_,b _<|List.getElem_mem hi];simp[jT,jK,qZ,a,h,ix]
 ·refine#v[0,?_,by decide];simp[jT,jK,qZ,a,h]
def vT{z k}(j:Builtin.Int.intBits z<=2 ^ 20)(h0:0<=k)(h1:k<=1000):∃ m,cM (jL [.int z,.int k]\(.int m)) (0<=m) (m<2147483587):=by
 have b:0<=k*k/\k*k<=1000*1000:=#v[Int.mul_nonneg h0 h0,Int.mul_le_mul h1 h1 h0<|by decide];have c:1511*k*k=1511*(k*k):=by rw[Int.mul_assoc]
 generalize k*k=kk at *;have d:yA (.int 1511) (.int k)\(.int<|1511*k):=vE (by decide) ∅;have e:yA (.int<|1511*k) (.int k)\(.int<|1511*kk):=by rw[vE ∅ ∅,c]
 generalize a:z%2147483647=zz at *;have f:yA (.int zz) (.int<|69621+1511*kk)\(.int<|zz*(69621+1511*kk)):=vE ∅ ∅;generalize g:zz*(69621+1511*kk)%2147483629=n at *;have h:yA (.int 5) (.int k)\(.int<|5*k):=vE (by decide) ∅;have i:yA (.int<|n+k) (.int<|n+5*k+1)\(.int<|(n+k)*(n+5*k+1)):=vE ∅ ∅;refine#v[(n+k)*(n+5*k+1)%2147483587,?_,N9 _<|by decide,N8 _<|by decide];simp(disch:=decide) [jL,jK,Kp,jo,a,d,e,f,g,h,i]
def KY{n}{s:Nat}(hn:0<=n)(r:s<=8):∃ w,cM (yG [.int n,.int (s:Int)]\(.str w)) (-w=s) (Lt w):=by
 let[t,m,d,w,g,rfl,h,e,k]:=va (G:=jc [] 4) (f:=kY) (xs:=Qf 0 s) (λi u=>dL λd w g=>dY (u=%[.int d,.int s,.str dO,.str w,(g)|0]) (0<=d) (-w=i)<|Lt w) (by
  rintro i x u hx ⟨d,w,g,rfl,h,e,k⟩;let[rfl,hi]:=Vv hx;let[c,o,l]:=(show ∃ c,jd (.str dO) (.int<|d%26)\(.str [c])/\97<=c/\c<=122 from by 
    have e:dO.length=26:=rfl;refine#v[dO.getD (d%26).toNat 0,B' (by decide) ∅ ∅,?_];have:∀ c∈dO,97<=c/\c<=122:=by decide
    exact this _<|vh ∅)
  refine#v[_,%[.int<|d/26,.int s,.str dO,.str<|w++[c],.int<|0+i|0],rfl,.inl ?_,d/26,w++[c],some<|.int<|0+i,rfl,by lia,by simp[e],xH k<|tM l];have p:=xP (a:=w) (b:=[c]) (by simp;lia);simp(disch:=lia) [kY,jo,jx,o,p,-Int.zero_add]) #v[n,[],none,rfl,hn,rfl,λc l=>(nomatch l)]
 rw[qQ] at e;refine#v[w,?_,by lia,k];generalize q:dO=AA at *;simp[yG,jK,Yj,JU (j:=s) ∅ ∅,m,q]
def m3:List (List Nat):=[[112,111,111,108],[99,108,97,105,109],[112,111,116],[101,97,116],[111,114,100,101,114],[112,97,114,116],[112,97,121],[115,104,97,114,101],[114,101,112,97,121],[102,105,108,108],[108,101,110,100],[98,97,99,107]]
def px:List (List Nat):=[[114,101,115,116],[108,111,111,107],[103,117,97,114,100],[100,101,98,116],[111,110],[108,97,116,101],[101,97,114,108,121],[113,117,105,116]]
def CY(w)(o)(l:W1):Vh false (.str w) (.lst o<|!l)\(.bl<|decide<|w∈l):=by
 show(bif hR (.str w) (!l) then some (D.bl<|false != hQ (.str w) (!l)) else none)=_;rw[VL,zY];simp
def fx(c:Nat):Nat:=97+(c-97+13)%26
structure Sp(u v:List Nat):Prop where
 l:-v=-u
 a:∀ i,i+1< -u->v[i]?=u[i]?
 b:∀ i,i+1=-u->v[i]?=u[i]?\/(2<=-u/\∃ c,u[i]?\c/\v[i]?\(fx c))
def Sp.id(u):Sp u u:=#v[rfl,λ_ _=>rfl,λ_ _=>.inl rfl]
def Sp.last{u}{c}(h:1<=-u):Sp (u++[c]) (u++[fx c]):=by
 refine#v[by simp,λi hi=>?_,λi hi=>.inr #v[by simp;lia,c,?_,?_]]
 ·have:i< -u:=by simp at hi;exact hi
  rw[List.getElem?_append_left this,List.getElem?_append_left this]
 ·have:i=-u:=by simp at hi;exact hi
  subst this;simp
 ·have:i=-u:=by simp at hi;exact hi
  subst this;simp
def CZ:(∀ w∈m3,2<=-w)/\∀ w∈px,2<=-w:=by decide
def C2{i}(h0:0<=i)(h1:i<26):jd (.str dO) (.int i)\(.str [97+i.toNat]):=by
 have:∀ j,j<26->dO.getD j 0=97+j:=by decide
 rw[B' (s:=dO) (by decide) h0<|by omega,this i.toNat ∅]
def tO(h0:0<=j)(h1:j<=-l):vf l none (some j)=l.take j.toNat:=by
 unfold vf HT.cQ;simp;rw[if_neg ∅]
 lia
def d5{P:Option cq->Prop}(h:f s\(.nx ρ'))(k:P<|g ρ'):P (jg f g s):=by
 rw[xY,h];exact k
def gX(h:f s\(.nx ρ'))(k:(g ρ').bind F=r):(jg f g s).bind F=r:=d5 (P:=λo=>o.bind F=r) h k
def py{P:Option cq->Prop}(h:q s\b)(h1:b=true->P ((a s).bind λo=>o.thn f))(h2:b=false->P (f s)):P (jg (cp (cm q) a j9) f s):=by
 rw[xY,cp,cm,h];cases b
 ·exact h2 rfl
 ·exact h1 rfl
def m4(h:q s\b)(k:(bif b then f else g) s=r):cp (cm q) f g s=r:=by
 rw[cp,cm,h,<- k];cases b<;>rfl
def zJ(h:p s\d)(k:G d s=some ρ'):jA (dP p) G s\(.nx ρ'):=by
 rw[jA,dP,h];show(G d s).bind _=_;rw[k];rfl
def m5(h:pV i s\(.lst o l))(e:bV l=l')(k:f (s.set i<|‹l'›)=r):cC i f s=r:=by
 rw[cC,h,<- k,<- e];rfl
def m6(h:pV i s\(.lst o l))(e:bV l=l')(k:(f<|s.set i<|‹l'›).bind F=r):(cC i f s).bind F=r:=(congrArg (Option.bind · F)<|m5 h e rfl).trans k
def OA(h:p s\d):(yM (dP p) s).bind cq.val\d:=by
 rw[yM,dP,h];rfl
def OC:∀ c<123,97<=c->mN dO [c]=(c:Int)-97:=by decide +kernel
def OD(w:List Nat)(o:Option cq):Prop:=∃ v,dY (o.bind cq.val\(.str v)) (Lt v) (-v<=21)<|Sp w v
def OE{w}(g:Lt w)(r:-w<=20):∃ v,dY (qM [.str w]\(.str v)) (Lt v) (-v<=21) (Sp w v):=by
 have k:(Vh false (.str w)<|.lst true<|!m3).bind iU\(decide<|w∈m3):=by rw[CY];rfl
 have l:(Vh false (.str w)<|.lst true<|!px).bind iU\(decide<|w∈px):=by rw[CY];rfl
 show OD w (V5 _);refine d5 rfl<|d5 rfl<|py (b:=decide (w∈m3)||decide (w∈px)) ?_ (λh=>?_) λ_=>#v[w,rfl,g,by lia,Sp.id w]
 ·rw[sj];refine(congrArg (λo=>Option.bind o _) k).trans ?_;cases decide (w∈m3)
  ·exact l
  ·rfl
 clear k l;have m:2<=-w:=(Bool.or_eq_true_iff.mp h).elim (λz=>CZ.1 _<|X2 z) λz=>CZ.2 _<|X2 z;clear h;obtain⟨u,c,rfl⟩:∃ u c,w=u++[c]:=#v[w.dropLast,w.getLast (by rintro rfl;cases m),(List.dropLast_concat_getLast _).symm];rw[N3,List.length_singleton] at m r;have j:=g c (by simp);have ix:jd (.str<|u++[c]) (.int<|Neg.neg 1)\(.str [c]):=by
  show(bif cb (-(u++[c])) then((L2.atI (u++[c])<|Neg.neg 1).bind λc=>some<|D.str [c]) else none)=_;rw[jb<|by simp;lia,sU (i:=-u) (x:=c) (by
   unfold dU;congr 1;simp;lia)<|by simp]
  rfl
 have e:=mP (s:=u++[c]) (lo:=none) (hi:=some<|Neg.neg 1) (by simp;lia);rw[show vf (u++[c]) none (some<|Neg.neg 1)=u by
  unfold vf HT.cQ;simp;rw[show(Neg.neg 1+((-u:Int)+1)).toNat=-u by clear e ix j;lia];simp] at e
 have n:jd (.str dO) (.int<|((c:Int)-97+13)%26)\(.str [fx c]):=by
  rw[show((c:Int)-97+13)%26=(((c-97+13)%26:Nat):Int) by clear e ix;lia];exact C2 ∅ ∅
 have f:Qz (.str dO) [.str [c]]\(.int<|(c:Int)-97):=by
  rw[Nf,OC c ∅ j.1,X0 ∅];rfl
 have p:=xP (a:=u) (b:=[fx c]) (by simp;lia);have q:97<=fx c/\fx c<=122:=by unfold fx;clear e ix n f p;lia
 refine#v[u++[fx c],?_,xH (λd hd=>g d<|N1.mpr<|.inl hd)<|tM q,by simp;lia,Sp.last ∅];clear g j q;generalize fx c=c' at *;generalize((c:Int)-97)=cc at *;generalize u++[c]=w,u++[c']=w' at *;generalize t:dO=AA at *;simp(disch:=decide) [jo,e,ix,t,f,n,p]
structure Nm(w:List Nat):Prop where
 l:-w<=21
 r:Lt w
def h8(n:Int)(i:Nat):Nat:=97+((n/192+(0+(i:Int)))%26).toNat
def Mk(n at' lo:Int)(i:Nat)(w:List Nat):Prop:=
 (n%3=0/\∃ d,w[at'.toNat]?\d/\(d=h8 n i\/d=fx (h8 n i)))\/(n%3=1/\ -w=(1+(n/24+(0+(i:Int)))%lo).toNat)\/(n%3=2/\w[0]?\(h8 n i))
def C3(n)(i):h8 n i=97+((n/192%26).toNat+i)%26:=by
 unfold h8;rw[Int.zero_add,<- Int.emod_add_emod];let[u,e]:=Int.eq_ofNat_of_zero_le<|N9 (n/192) (show(26:Int)≠0 by decide);rw[e];rfl
def OG:∀ u<26,∀ i<8,∀ j<8,(97+(u+i)%26=97+(u+j)%26\/97+(u+i)%26=fx (97+(u+j)%26)\/fx (97+(u+i)%26)=97+(u+j)%26\/fx (97+(u+i)%26)=fx (97+(u+j)%26))->i=j:=by decide +kernel
def Mk.ne{n b}{i j}{w}(hi:i<8)(d:j<8)(h1:Mk n b 8 i w)(h2:Mk n b 8 j w):i=j:=by
 have f:(n/192%26).toNat<26:=by clear h1 h2;lia
 have k:=OG _ f i hi j d;rw[<- C3,<- C3] at k;rcases h1 with⟨c1,d1,a,fy⟩ | ⟨c1,a⟩ | ⟨c1,a⟩<;>rcases h2 with⟨c,g,e2,wb⟩ | ⟨c,e2⟩ | ⟨c,e2⟩
 any_goals (clear k a e2;lia)
 ·rw[a] at e2;cases e2;rcases fy with rfl | rfl<;>rcases wb with e | e<;>exact k (by simp[e])
 ·rw[a] at e2;clear k c1 c
  lia
 ·rw[a] at e2;injection e2 with e2;exact k<|.inl e2
def C4(z:Int)(a1:Option D)(lo n:Int)(base:List Nat)(si at':Int)(W:W1)(i:Nat)(o:Option cq):Prop:=dL λ(w:List Nat) (r10 r11:Option D)=>cM (o\(.nx %[.int z,(a1),.int lo,.str dO,.int n,.str base,.int si,.int at',↑(!(W++[w])),.int<|0+(i:Int),(r10),(r11)|0])) (Nm w)<|Mk n at' lo i w
def OH{z:Int}(R:Builtin.Int.intBits z<=2 ^ 20){n lo m e:Int}(hn:0<=n)(X:1<=lo)(S:lo<=8){base:List Nat}(x:Lt base)(Y:-base=8)(y:0<=e)(Z:e<=7){W:W1}(hW:-W<=100){i:Nat}(hi:i<=100){a1 A B:Option D}:
  C4 z a1 lo n base m e W i (kB %[.int z,(a1),.int lo,.str dO,.int n,.str base,.int m,.int e,↑(!W),.int<|0+(i:Int),(A),(B)|0]):=by
 have C:=C2 (N9 (n/192+(0+i))<|show 26≠0 by decide)<|N8 (n/192+(0+i)) (show 0<26 by decide);have E:97+((n/192+(0+i))%26).toNat=h8 n i:=rfl;have T:Lt [h8 n i]:=tM (by unfold h8;lia);rw[E] at C;generalize t:h8 n i=c at *;have j {u}(F:Lt u) (G:-u<=20) (r:∀ v,Sp u v->Mk n e lo i v):C4 z a1 lo n base m e W i (Qu 8 (jC qM #[!11]) %[.int z,(a1),.int lo,.str dO,.int n,.str base,.int m,.int e,↑(!W),.int<|0+(i:Int),.str [c],.str u|0]):=by
  let[v,ev,hv,lv,g]:=OE F G;refine#v[v,some<|.str [c],some<|.str u,?_,#v[lv,hv],r v g];have lW:cb (-(!W))=true:=jb (by rw[L1];lia);rw[N4];show _\(cq.nx [_,_,_,_,_,_,_,_,↑((!W)++[.str v]),_,_,_]);clear r g;generalize (!W)=WW,dO=AA at *;simp[ev,lW]
 have e3:jk (.int n) (.int 3)\(.int<|n%3):=jo (by decide);have q3 (k:Int):ki (.int<|n%3) (.int k)\(.bl<|n%3==k):=rfl;unfold kB;refine d5 (zJ (d:=.str [c]) (by simp(disch:=decide) [jx,jo,C,-Int.zero_add]) rfl) ?_;by_cases H:n%3=0
 ·have s1:=mP (s:=base) (lo:=none) (hi:=some e) ∅;have s2:=mP (s:=base) (lo:=some<|e+1) (hi:=some m) ∅;have l2:=u8 base (some<|e+1)<|some m;have t1:=tN (lo:=none) (hi:=some e) x;have t2:=tN (lo:=some<|e+1) (hi:=some m) x;have I:-(vf base none<|some e)=e.toNat:=by rw[tO y ∅,X6];lia
  generalize vf base none (some e)=u1,vf base (some<|e+1) (some m)=u2 at *;have o:=xP (a:=u1) (b:=[c]) (by simp;lia);have J:=xP (a:=u1++[c]) (b:=u2) (by simp;lia);have K:(u1++[c]++u2)[e.toNat]?\c:=by rw[<- I];simp
  refine d5 (m4 (b:=true) (by simp[e3,H])<|zJ (d:=.str<|u1++[c]++u2) (by simp[s1,s2,o,J]) rfl)<|j (xH (xH t1 T) t2) (by simp;lia) λv g=>.inl #v[H,?_];rw[t];by_cases f:e.toNat+1=-(u1++[c]++u2)
  ·rcases g.b _ f with h | ⟨_,c',p,U⟩
   ·exact#v[c,by rw[h,K],.inl rfl]
   ·rw[K] at p;cases p;exact#v[_,U,.inr rfl]
  ·exact#v[c,by rw[g.a _<|by simp at *;lia,K],.inl rfl]
 have pr {a:Int}:jk (.int a) (.int lo)\(.int<|a%lo)/\0<=a%lo/\a%lo<lo:=#v[jo ∅,N9 a ∅,N8 a ∅];by_cases p:n%3=1
 ·let[r,q0,q1]:=pr (a:=n/24+(0+i));have L {v}(h:-v=(1+(n/24+(0+i))%lo).toNat):Mk n e lo i v:=.inr<|.inl #v[p,h];generalize(n/24+(0+i))%lo=q at *;have s1:=mP (s:=base) (lo:=none) (hi:=some<|1+q) ∅;have t1:=tN (lo:=none) (hi:=some<|1+q) x;have I:-(vf base none<|some<|1+q)=(1+q).toNat:=by rw[tO ∅ ∅,X6];lia
  generalize vf base none (some<|1+q)=u1 at *;exact d5 (m4 (b:=false) (by simp[e3,p])<|m4 (b:=true) (by simp[e3,p])<|zJ (d:=.str u1) (by simp(disch:=decide) [jx,r,s1,-Int.zero_add]) rfl)<|j t1 ∅ λv g=>L (by rw[g.l,I])
 let[m1,M,N,_]:=vT (k:=0+i+2) R ∅ ∅;let[V,O,hm2,_]:=vT (k:=0+i+40) R ∅ ∅;let[u,eu,G,F]:=KY (s:=7) N (by decide);have P:yG [.int m1,.int 7]\(.str u):=eu;have o:jr (.str [c]) (.str u)\(.str<|c::u):=xP (by simp;lia);let[r,q0,q1]:=pr (a:=V);generalize V%lo=q at *;have s1:=mP (s:=c::u) (lo:=none) (hi:=some<|1+q) (by simp;lia);rw[tO ∅ (by simp;lia)] at s1;have t1:Lt ((c::u).take (1+q).toNat):=λd hd=>xH T F d<|List.mem_of_mem_take hd;have Q:1<=-((c::u).take (1+q).toNat)/\ -((c::u).take (1+q).toNat)<=20:=by rw[X6,M1,G];lia
 have w:((c::u).take (1+q).toNat)[0]?\c:=by rw[List.getElem?_take_of_lt ∅];rfl
 generalize(c::u).take (1+q).toNat=u1 at *;refine d5 (m4 (b:=false) (by simp[e3,H])<|m4 (b:=false) (by simp[e3,p])<|zJ (d:=.str u1) (by simp[M,O,P,o,r,s1,-Int.zero_add]) rfl)<|j t1 Q.2 λv g=>.inr<|.inr #v[by clear pr j C;lia,?_];rw[t];by_cases f:0+1=-u1
 ·rcases g.b _ f with h | ⟨U,_⟩
  ·rw[h,w]
  ·lia
 ·rw[g.a _ ∅,w]
def OI(many:Nat)(o:Option cq):Prop:=∃(W:W1),dY (o.bind cq.val=↑(!W)) (-W=many) (∀ w∈W,Nm w) W.Nodup
def C5{z}(N:Builtin.Int.intBits z<=2 ^ 20){many:Nat}(P:many<=8):
  ∃(W:W1),dY (vQ [.int z,.int (many:Int),.int 8]=↑(!W)) (-W=many) (∀ w∈W,Nm w) W.Nodup:=by
 let[n,en,r,y]:=vT (k:=1) N (by decide) (by decide);have Q:yA (.int n) (.int n)\(.int<|n*n):=vE ∅ ∅;let[base,O,R,S]:=KY (n:=n*n+n) (s:=8) (Int.add_nonneg (Int.mul_nonneg r r) r) (by decide);have A:yG [.int<|n*n+n,.int 8]\(.str base):=O;clear O y;generalize n*n=nn at *;have B:=N8 (n/3) (show 0<8 by decide);have hd:=N9 (n/3) (show 8≠0 by decide);have C:jk (.int<|n/3) (.int 8)\(.int<|n/3%8):=jo (by decide);generalize n/3%8=q at *;have E:jk (.int<|n/24) (.int<|1+q)\(.int<|n/24%(1+q)):=jo ∅;have o:=N9 (n/24) (show 1+q≠0 by lia);have F:=N8 (n/24) (show 0<1+q by lia);generalize n/24%(1+q)=at' at *;have H:=JU (j:=many) ∅ ∅;let[Y,T,W,I,g,l,rfl,p,t,a]:=va (G:=jc [] 9) (f:=kB) (xs:=Qf 0 many) (λi ρ=>gP λW I g l=>dY (ρ=%[.int z,.int many,.int 8,.str dO,.int n,.str base,.int<|1+q,.int at',↑(!W),(I),(g),(l)|0]) (-W=i) (∀ w∈W,Nm w)<|∀ j w,W[j]?\w->Mk n at' 8 j w) (by
  rintro i x ρ hx ⟨W,I,g,l,rfl,p,t,a⟩;let[rfl,hi]:=Vv hx;let[w,J,K,e,U,V]:=OH (lo:=8) N r (by decide) (by decide) S R o ∅ (W:=W) ∅ (i:=i) ∅;exact#v[_,_,rfl,.inl e,W++[w],some<|.int<|0+i,J,K,rfl,by simp[p],λv m=>(N1.mp m).elim (t v) λm=>by rw[M7.mp m];exact U,λj v c=>by
   by_cases L:j< -W
   ·rw[List.getElem?_append_left L] at c;exact a j v c
   ·rw[List.getElem?_append_right ∅] at c;have M:j- -W=0:=by have:=(L9.mp c).1;rw[List.length_singleton] at this;lia
    rw[M] at c;cases c;rw[show j=i by lia];exact V]) (ρ:=%[.int z,.int many,.int 8,.str dO,.int n,.str base,.int<|1+q,.int at',.lst true [],_,_,_|0]) #v[[],none,none,none,rfl,rfl,λv m=>(nomatch m),λj v c=>(nomatch c)]
 rw[qQ] at p;have nd:W.Nodup:=by
  unfold List.Nodup;rw[List.pairwise_iff_getElem];intro i j hi c X e;have:=Mk.ne ∅ ∅ (a i _<|by rw[X5 hi,e]) (a j _<|X5 c)
  lia
 have u:=jn W;show OI many (Yb _);unfold Yb;clear a P hd B o F;refine d5 (zJ (d:=.str dO) rfl rfl)<|d5 (zJ (d:=.int n) (by simp[en]) rfl)<|d5 (zJ (d:=.str base) (by simp[Q,A]) rfl)<|d5 (zJ (d:=.int<|1+q) (by simp(disch:=decide) [jx,C]) rfl)<|d5 (zJ (d:=.int at') (by simp(disch:=decide) [jx,E]) rfl)<|d5 (zJ (d:=.lst true []) rfl rfl)<|d5 (by simp[H,T];rfl)<|py (b:=n/5000%2==1) (by simp(disch:=decide) [jx,jo]) (λ_=>#v[W.reverse,by simp[u,je _ u,jb],by rw[List.length_reverse];exact p,λv m=>t v<|List.mem_reverse.mp m,by unfold List.Nodup at *;rw[List.pairwise_reverse];exact nd.imp λh=>h.symm]) λ_=>#v[W,by simp[u,je _ u,jb],p,t,nd]
def kX{m}(h0:0<=m)(h1:m<10 ^ 20):∃ v,jG [.int m]\(.int v)/\1<=v/\v<=10 ^ 40:=by
 have a:xQ (.int 10) (.int 12)\(.int 1000000000000):=rfl;by_cases h:m%3=0
 ·exact#v[1+m/3%4,by simp(disch:=lia) [jG,jK,Jo,jo,jx,h],by lia,by lia]
 ·have b:yA (.int m) (.int m)\(.int<|m*m):=vE ∅ ∅;generalize m*m=q at *;exact#v[1+q%1000000000000,by simp(disch:=lia) [jG,jK,Jo,jo,jx,h,b,a],by lia,by lia]
noncomputable abbrev Jp:List Nat:=[115,104,97,114,101]
noncomputable abbrev yZ:List Nat:=[114,101,112,97,121]
inductive Rl where
 | two (kw x:List Nat) | many (ws:W1) | lend (kw x:List Nat) (v:Int)
def yh:Rl->D
 | .two kw x=>.tup [.str kw,.str x]
 | .many ws=>.tup [.str Jp,.tup<|!ws]
 | .lend kw x v=>.tup [.str kw,.str x,.int v]
noncomputable abbrev h9:List Nat:=[112,97,121]
noncomputable abbrev uO:List Nat:=[102,105,108,108]
noncomputable abbrev KH:List Nat:=[114,101,115,116]
noncomputable abbrev tP:List Nat:=[98,97,99,107]
noncomputable abbrev C6:List Nat:=[108,101,110,100]
def Kd(C P:W1)(kw x:List Nat):Prop:=(kw=h9\/kw=yZ)/\x∈C\/kw=uO/\x∈P\/kw=tP\/kw=KH
def xc(C P:W1):Rl->Prop
 | .two kw x=>kw≠Jp/\Lt kw/\Nm x/\Kd C P kw x
 | .many ws=>-ws<=8/\(∀ w∈ws,Nm w)/\∀ w∈ws,w∈C
 | .lend kw x v=>(kw≠Jp/\kw≠yZ)/\Lt kw/\Nm x/\kw=C6
def lX(C O:W1):Rl->Prop
 | .two kw x=>(kw=tP->x∈O)/\(kw=KH->x∈C)
 | .many ws=>ws.Nodup
 | .lend _ x _=>x∈O
def tQ{l:W1}{i}(h:i< -l):l.getD i []=l[i]:=by simp[List.getD,X5 h]
def C7{C:W1}(dC:C.Nodup){a b}(c:a< -C)(f:b< -C)(e:C.getD a []=C.getD b []):a=b:=by
 rw[tQ c,tQ f] at e;have d:=List.pairwise_iff_getElem.mp dC;rcases Nat.lt_trichotomy a b with h | h | h
 ·exact absurd e<|d a b c f h
 ·exact h
 ·exact absurd e.symm<|d b a f c h
def Vq(r):frz (yh r)=true:=by
 cases r with
 | two kw x=>rfl
 | many a=>
  have:=jn a;show frz (D.tup [.str Jp,.tup<|!a])=true;simp[this]
 | lend kw x v=>rfl
def Ja{W:W1}(h:∀ w∈W,Nm w){i}(hi:i< -W):Nm (W.getD i []):=h _<|vh hi
def h_(C:W1)(a:Int)(q:Nat):List (List Nat):=(List.range q).map λi:Nat=>C.getD ((a+(0+(i:Int)))%(-C:Int)).toNat []
def wM(C:W1)(a)(i:Nat)(h:0< -C):0<=(a+(0+(i:Int)))%(-C:Int)/\(a+(0+(i:Int)))%(-C:Int)< -C:=
 ⟨N9 _ ∅,N8 _ ∅⟩
def OJ(h:0< -C):∀ w∈h_ C a q,w∈C:=λw b=>by
 let[i,_,rfl]:=M5.mp b;have:=wM C a i h;exact vh ∅
def OK:-(h_ C a q)=q:=by simp[h_]
def OL{C:W1}{a}{q}(h:0< -C)(k:q<=-C)(g:C.Nodup):(h_ C a q).Nodup:=by
 unfold h_ List.Nodup;rw[List.pairwise_map];refine List.Pairwise.imp_of_mem ?_<|List.nodup_range;intro i j hi b c e;refine c ?_;have hi:=List.mem_range.mp hi;have b:=List.mem_range.mp b;have d:=wM C a i h;have f:=wM C a j h;have e2:=C7 g (by clear f;lia) (by clear d;lia) e;have e5:=Int.eq_zero_of_dvd_of_natAbs_lt_natAbs (Int.dvd_of_emod_eq_zero<|Int.emod_eq_emod_iff_emod_sub_eq_zero.mp<|show(a+(0+(i:Int)))%(-C:Int)=(a+(0+(j:Int)))%(-C:Int) by clear hi b;lia) (by clear e2 d f;lia);clear e2 d f
 lia
def ON{C:W1}{r:Int}(b:0< -C):jE (jc [] 0) qT (pF<|p2 jd !1<|p2 jk (p2 jr !2<|pV 0)<|bW kF #[!1]) (Qf 0 q) %[_,‹!C›,.int r|0]\(!(h_ C r q)):=by
 unfold h_;rw[U0];refine jV rfl (λs=>∃ z,s=[z,‹!C›,some<|.int r]) ?_ #v[none,rfl];rintro i hi s ⟨z,rfl⟩;have c:=vn (o:=false) (wM C r i b).1 (wM C r i b).2;have a:((-(!C):Nat):Int)=-C:=by rw[L1]
 have d:jk (.int<|r+(0+(i:Int))) (.int (-C:Int))\(.int<|(r+(0+(i:Int)))%(-C:Int)):=jo ∅;refine#v[%[.int<|0+(i:Int),‹!C›,.int r|0],rfl,?_,_,rfl];show _\(D.str<|C.getD ((r+(0+(i:Int)))%(-C:Int)).toNat []);generalize (!C)=CC at *;simp[a,d,c,-Int.zero_add]
def pz{P:Option cq->Prop}(h:q s\b)(h':q' s\b')(h1:b=true->b'=true->P ((a s).bind λo=>o.thn f))(h2:P<|f s):P (jg (cp (cm<|zI q q') a j9) f s):=by
 refine py (b:=b&&b') (by simp only[zI,h];cases b;rfl;exact h') (λw=>?_) λ_=>h2;cases b<;>cases b'<;>first | exact h1 rfl rfl | cases w
def gy(C P O:W1)(o:Option cq):Prop:=∃ r,cM (o.bind cq.val\(yh r)) (xc C P r)<|lX C O r
def gy.rt{a f:FS}(h:a ρ\(.rt (yh r) ρ'))(k:xc C P r)(b:lX C O r):gy C P O ((a ρ).bind λo=>o.thn f):=by
 rw[h];exact#v[r,rfl,k,b]
def OQ(s:0<=m)(t:m<10 ^ 12)  (d:1<=-C) (J:-C<=6) (K:-P<=50) (M:-O<=50) (nC:∀ w∈C,Nm w) (nP:∀ w∈P,Nm w) (nO:∀ w∈O,Nm w) (dC:C.Nodup):
  ∃ r,cM (kE [.int m,.lst false<|!C,.lst false<|!P,.lst false<|!O]\(yh r)) (xc C P r) (lX C O r):=by
 have e:((-(!C):Nat):Int)=-C:=by rw[L1]
 have g:((-(!P):Nat):Int)=-P:=by rw[L1]
 have b:((-(!O):Nat):Int)=-O:=by rw[L1]
 have N:jk (.int m) (.int 8)\(.int<|m%8):=jo (by decide);have e2:jw (.int m) (.int 8)\(.int<|m/8):=jx ∅ (by decide);have U:0<=m/8:=by lia
 have V:m/8<10 ^ 12:=by lia
 generalize m%8=k,m/8=r at *;clear s t;have Q:=N8 r (show 0<(-C:Int) by lia);have R:=vn (o:=false) (l:=C) (N9 r<|show(-C:Int)≠0 by lia) Q;have n:C.getD (r% -C).toNat []∈C:=vh ∅;have x:jk (.int r) (.int (-C:Int))\(.int<|r%(-C:Int)):=jo ∅;generalize C.getD (r% -C).toNat []=cl at *;generalize r% -C=u at *;have ot {L:W1}{a:Int}(z:decide (0< -L)=true):∃ q:List Nat,cM (jd (.lst false<|!L) (.int<|a%(-L:Int))\(.str q)) (jk (.int a) (.int (-L:Int))\(.int<|a%(-L:Int))) (q∈L):=have z:=X2 z;have p2:=N8 a (show 0<(-L:Int) by lia)
  ⟨_,vn (N9 a ∅) p2,jo ∅,vh ∅⟩
 show gy C P O (YU _);unfold YU;refine d5 (by simp[N];rfl)<|d5 (by simp[e2];rfl)<|d5 (by simp[e,x,R];rfl) ?_;refine pz (by simp;rfl) (by simp[e];rfl) (λ_ w=>?_) ?_
 ·replace w:=X2 w;have d1:=N9 (r/3) (show(-C:Int)-1≠0 by lia);have X:=N8 (r/3) (show 0<(-C:Int)-1 by lia);have f:jk (.int<|r/3) (.int<|C.length-1)\(.int<|r/3%(-C-1)):=jo ∅;generalize r/3%(-C-1)=sz at *;have y:=JU (j:=2+sz) ∅ ∅;have A:cb (-(Qf 0 (2+sz).toNat))=true:=jb (by rw[qQ];lia);have p:=OJ (a:=r) (q:=(2+sz).toNat) d;have S:=ON (r:=r) (q:=(2+sz).toNat) d;have E:=OL (a:=r) (q:=(2+sz).toNat) d ∅ dC;have F:-(h_ C r (2+sz).toNat)<=8:=by rw[OK];lia
  generalize h_ C r (2+sz).toNat=W at *;have B:cb (-(!W))=true:=jb (by rw[L1];lia);have G:=jn W;have H:frzs (!W).reverse=true:=by rw[<- List.map_reverse];exact jn _
  refine d5 (P:=λo=>gy C P O<|o.bind λo=>o.thn _) (by simp(disch:=lia) [jx,e,f];rfl)<|d5 (P:=λo=>gy C P O<|o.bind λo=>o.thn _) (by simp[y,A,S,B,jv];rfl) ?_;by_cases I:r/9%2=1
  ·exact gy.rt (r:=.many W.reverse) (by simp(disch:=lia) [jx,jo,I,H,je _ H,B,yh];rfl) #v[by rw[List.length_reverse];exact F,λw z=>nC w<|p w<|List.mem_reverse.mp z,λw z=>p w<|List.mem_reverse.mp z] (by show W.reverse.Nodup;unfold List.Nodup at *;rw[List.pairwise_reverse];exact E.imp λh=>h.symm)
  ·exact gy.rt (r:=.many W) (by simp(disch:=lia) [jx,jo,I,G,je _ G,B,yh];rfl) #v[F,λw z=>nC w<|p w z,p] E
 refine py (by simp;rfl) (λ_=>gy.rt (r:=.two yZ cl) rfl #v[by decide,by decide,nC _ n,.inl #v[.inr rfl,n]] #v[λz=>absurd z<|by decide,λz=>absurd z<|by decide]) λ_=>?_;refine pz (by simp;rfl) (by simp[g];rfl) (λ_ w=>?_) ?_
 ·let[q,i,f,c]:=ot (a:=r/3) w;exact gy.rt (r:=.two uO q) (by simp(disch:=lia) [jx,g,f,i];rfl) #v[by decide,by decide,nP _ c,.inr<|.inl #v[rfl,c]] #v[λz=>absurd z<|by decide,λz=>absurd z<|by decide]
 refine pz (by simp;rfl) (b':=decide (0< -O)&&decide (0<r/3%3)) (by simp(disch:=lia) [b,jx,jo];by_cases h:0< -O<;>simp[h]) (λ_ w=>?_) ?_
 ·let[q,i,f,c]:=ot (a:=r/9) (by cases h:decide (0< -O);rw[h] at w;cases w;rfl);let[v,T,_]:=kX (m:=r/27) ∅ ∅;exact gy.rt (r:=.lend C6 q v) (by simp(disch:=lia) [jx,b,f,i,T];rfl) #v[#v[by decide,by decide],by decide,nO _ c,rfl] c
 refine pz (by simp;rfl) (by simp[b];rfl) (λ_ w=>?_) ?_
 ·let[q,i,f,c]:=ot (a:=r/9) w;exact gy.rt (r:=.two tP q) (by simp(disch:=lia) [jx,b,f,i];rfl) #v[by decide,by decide,nO _ c,.inr<|.inr<|.inl rfl] #v[λ_=>c,λz=>absurd z<|by decide]
 exact#v[.two h9 cl,rfl,#v[by decide,by decide,nC _ n,.inl #v[.inl rfl,n]],λz=>absurd z<|by decide,λz=>absurd z<|by decide]
def OR{i x}{pm}{q}{a b}{s}{l}{c}(d:s[i]?\(↑l))(hit:l[l.length-1]?\c)(e:(decide (x< -s)&&(not (decide (x∈pm))&&not (decide (x=i))))=true)
  (f:q (s.set x<|some .dead)\true):gW i x pm q a b s=a (s.set x<|some .dead):=by
 unfold gW;simp only[d,hit,e,f,cond_true]
def OS{i x}{pm}{q}{e b}{s a}{l}{c d}(f:s[i]?\(↑l))(hit:l[l.length-1]?\c)(g:(decide (x< -s)&&(not (decide (x∈pm))&&not (decide (x=i))))=true)
  (h:q (s.set x<|some .dead)\false) (j:b ((s.set i none).set x (some c))\(.nx a)) (hd:a[x]?\(some d)) (hi:decide (i< -a)=true):
  gW i x pm q e b s\(.nx<|(a.set x<|some .dead).set i (↑(l.set (-l-1) d))):=by
 unfold gW;simp only[f,hit,g,h,cond_true,j,hd,hi]
def C8{i j}{p}{s}{d}{l l'}(a:p s\d)(b:s[i]?\(↑l))(c:l[j]?=↑l')(e:cb (-l')=true):YJ i j p s\(.nx<|s.set i<|↑(l.set j<|.lst true<|l'++[d])):=by
 unfold YJ;simp only[a,b,c,e,cond_true]
noncomputable abbrev Qt:=List Nat×Int
noncomputable abbrev yW(q:Qt):D:=.tup [.str q.1,.int q.2]
abbrev Od:=List Nat×List Qt×List Rl
def JY(x:Od):D:=.lst true [.str x.1,.lst true<|x.2.1.map yW,.lst true<|x.2.2.map yh]
structure er(C P O:W1)(n:Nat)(x:Od):Prop where
 nm:Nm x.1
 p:-x.2.1<=n
 q:∀ q∈x.2.1,Nm q.1
 r:-x.2.2<=4
 k:∀ r∈x.2.2,xc C P r
 t:∀ q∈x.2.1,q.1∈C/\1<=q.2/\q.2<=10
 u:(x.2.1.map (·.1)).Nodup
 v:∀ r∈x.2.2,lX C O r
def er.mono{C P O}{n m}{x}(h:er C P O n x)(hn:n<=m):er C P O m x:=#v[h.nm,N6 h.p hn,h.q,h.r,h.k,h.t,h.u,h.v]
def jY(l:List Qt):frzs (l.map yW)=true:=yd λd hd=>by let[x,_,rfl]:=M5.mp hd;rfl
def vZ(l:List Rl):frzs (l.map yh)=true:=yd λd hd=>by let[x,_,rfl]:=M5.mp hd;exact Vq x
def C9(w)(o)(l:W1):Vh true (.str w) (.lst o<|!l)\(.bl<|not (decide (w∈l))):=by
 show(bif hR (.str w) (!l) then some (D.bl<|true != hQ (.str w) (!l)) else none)=_;rw[VL,zY];simp
structure tR(C P O N:W1):Prop where
 c1:1<=-C
 c6:-C<=6
 p:-P<=50
 o:-O<=50
 nC:∀ w∈C,Nm w
 nP:∀ w∈P,Nm w
 nO:∀ w∈O,Nm w
 nN:∀ w∈N,Nm w
 n:-N<=50
 dC:C.Nodup
 dN:N.Nodup
def OT(h:tR C P O N)  (Z:0<=m) (K:0<=r) (L:r<10 ^ 12)  (M:Nm cl) (Q:cl∈C)  (hn:n<=1000)  (c:er C P O n y) :
  eB λ(y':Od) (r12:Option D)=>cM ((cp (cm<|ji<|p2 Yz (p2 jk !8<|pI 10)<|pI 7) ((jA (dP<|p2 jr (pI 1)<|p2 jk (p2 jw !9<|pI 3)<|pI 3)<|jc [5,11] 12)<|>(cp (cm<|ji<|p2 ki (p2 jk (p2 jw !9<|pI 9)<|pI 4)<|pI 0) (jA (dP<|p2 jr (pI 1)<|p2 jk (p2 jw !9<|pI 36)<|pI 10)<|jc [5,11] 12)
 j9)<|>cp (cm<|ji<|p2 (Vh true) !10<|yq (JT<|11|||1) (0&&&1) qT (pF !0) %[_,_|0]) (YJ 11 1<|yk #[pF !10,pF !12])
 j9)<|cp (cm<|ji<|p2 gV (bW kF #[11|||2])<|pI 4) (YJ 11 2<|jC kE #[!9,!1,!2,!3])
 j9) %[(a0),‹!C›,‹!P›,‹!O›,‹!N›,_,(a6),(a7),.int m,.int r,.str cl,JY y,(o12)|0] =
   some (.nx %[(a0),‹!C›,‹!P›,‹!O›,‹!N›,_,(a6),(a7),.int m,.int r,.str cl,JY y',(r12)|0])) (er C P O (n+1) y') (y'.1=y.1):=by
 have F:=jY y.2.1;have H:jd (JY y) (.int 1)=↑(y.2.1.map yW):=rfl;have W:jd (JY y) (.int 2)=↑(y.2.2.map yh):=rfl;have B:cb (-(y.2.1.map yW))=true:=jb (by rw[L1];have:=c.p;lia);have lr:cb (-(y.2.2.map yh))=true:=jb (by rw[L1];have:=c.r;lia);have E:((-(y.2.2.map yh):Nat):Int)=-y.2.2:=by rw[L1]
 by_cases A:7<m%10
 ·have X:∀(ρ:Rh),(∃ I J,ρ=[I,J])->jE (0&&&1) qT (pF !0) (y.2.1.map yW) ρ\(!(y.2.1.map (·.1))):=by
   intro ρ hρ;have:=jV (G:=0&&&1) (p:=pF !0) (l:=y.2.1) (en:=yW) (out:=λq=>D.str q.1) rfl (λρ=>∃ I J,ρ=[I,J]) (by
    rintro q f ρ ⟨I,J,rfl⟩;exact#v[%[.str q.1,.int q.2|0],rfl,by simp,_,_,rfl]) hρ
   rw[this,U0];rfl
  have s:=C9 cl true (y.2.1.map (·.1));obtain⟨t,w⟩:∃ t:Int,(if r/9%4=0 then 1+r/36%10 else 1+r/3%3)=t:=#v[_,rfl];have R:1<=t/\t<=10:=by rw[<- w];split<;>lia
  by_cases i:cl∈y.2.1.map (·.1)
  ·refine#v[y,some<|.int t,?_,c.mono<|Nat.le_succ _,rfl];have j:=X (jv %[_,_|0] %[(a0),‹!C›,‹!P›,‹!O›,‹!N›,_,(a6),(a7),.int m,.int r,.str cl,JY y,.int t|0]) #v[none,none,rfl];generalize(y.2.1.map (·.1)).map D.str=NN at *;generalize y.2.1.map yW=QQ at *;by_cases x:r/9%4=0
   ·rw[if_pos x] at w;subst w;simp(disch:=lia) [jo,jx,A,x,H,F,B,j,s,i]
   ·rw[if_neg x] at w;subst w;simp(disch:=lia) [jo,jx,A,x,H,F,B,j,s,i]
  ·refine#v[(y.1,y.2.1++[(cl,t)],y.2.2),some<|.int t,?_,#v[c.nm,by have:=c.p;simp;lia,λq f=>(N1.mp f).elim (c.q q) λf=>by rw[M7.mp f];exact M,c.r,c.k,λq f=>(N1.mp f).elim (c.t q) λf=>by rw[M7.mp f];exact#v[Q,R],by rw[N4,U8];exact#v[c.u,by simp,λa ha b hb e=>i<|(show b=cl from M7.mp hb)▸e▸ha],c.v],rfl];have j:=X (jv %[_,_|0] %[(a0),‹!C›,‹!P›,‹!O›,‹!N›,_,(a6),(a7),.int m,.int r,.str cl,JY y,.int t|0]) #v[none,none,rfl];have g:YJ 11 1 (yk #[pF !10,pF !12]) %[(a0),‹!C›,‹!P›,‹!O›,‹!N›,_,(a6),(a7),.int m,.int r,.str cl,JY y,.int t|0] =
     some (.nx %[(a0),‹!C›,‹!P›,‹!O›,‹!N›,_,(a6),(a7),.int m,.int r,.str cl,JY (y.1,y.2.1++[(cl,t)],y.2.2),.int t|0]):=by
    rw[C8 (d:=yW (cl,t)) (by simp(disch:=lia) [jb]) rfl rfl B];unfold JY;rw[N4];rfl
   generalize(y.2.1.map (·.1)).map D.str=NN at *;generalize y.2.1.map yW=QQ at *;by_cases x:r/9%4=0
   ·rw[if_pos x] at w;subst w;simp(disch:=lia) [jo,jx,A,x,H,F,B,j,s,i,g]
   ·rw[if_neg x] at w;subst w;simp(disch:=lia) [jo,jx,A,x,H,F,B,j,s,i,g]
 ·by_cases Y:-y.2.2<4
  ·let[S,T,U,V]:=OQ K L h.c1 h.c6 h.p h.o h.nC h.nP h.nO h.dC;refine#v[(y.1,y.2.1,y.2.2++[S]),o12,?_,#v[c.nm,Nat.le_succ_of_le c.p,c.q,by simp;lia,λq f=>(N1.mp f).elim (c.k q) λf=>by rw[M7.mp f];exact U,c.t,c.u,λq f=>(N1.mp f).elim (c.v q) λf=>by rw[M7.mp f];exact V],rfl];have fy:=jn C;have wb:=jn P;have m8:=jn O;have g:YJ 11 2 (jC kE #[!9,!1,!2,!3]) %[(a0),‹!C›,‹!P›,‹!O›,‹!N›,_,(a6),(a7),.int m,.int r,.str cl,JY y,(o12)|0] =
     some (.nx %[(a0),‹!C›,‹!P›,‹!O›,‹!N›,_,(a6),(a7),.int m,.int r,.str cl,JY (y.1,y.2.1,y.2.2++[S]),(o12)|0]):=by
    rw[C8 (d:=yh S) (by
     simp[fy,wb,m8,je _ fy,je _ wb,je _ m8,T]) rfl rfl lr]
    unfold JY;rw[N4];rfl
   have z:(-y.2.2:Int)<4:=by lia
   simp(disch:=lia) [jo,A,W,E,z,Y,g]
  ·refine#v[y,o12,?_,c.mono<|Nat.le_succ _,rfl];have z:¬ (-y.2.2:Int)<4:=by lia
   simp(disch:=lia) [jo,A,W,E,z,Y]
def oQ:d_:=(zI (ji<|p2 ki (p2 jk !8<|pI 10)<|pI 7)<|ji<|p2 gV (bW kF #[!5])<|bW kF #[!4])
def oA:FS:=(Qu 5<|vF #[pF<|p2 jd !4<|bW kF #[!5],vF pN,vF pN])
def oB:FS:=(cp (cm<|ji<|p2 Yz (p2 jk !8<|pI 10)<|pI 7) ((jA (dP<|p2 jr (pI 1)<|p2 jk (p2 jw !9<|pI 3)<|pI 3)<|jc [5,11] 12)<|>(cp (cm<|ji<|p2 ki (p2 jk (p2 jw !9<|pI 9)<|pI 4)<|pI 0) (jA (dP<|p2 jr (pI 1)<|p2 jk (p2 jw !9<|pI 36)<|pI 10)<|jc [5,11] 12)
 j9)<|>cp (cm<|ji<|p2 (Vh true) !10<|yq (JT<|11|||1) (0&&&1) qT (pF !0) %[_,_|0]) (YJ 11 1<|yk #[pF !10,pF !12])
 j9)<|cp (cm<|ji<|p2 gV (bW kF #[11|||2])<|pI 4) (YJ 11 2<|jC kE #[!9,!1,!2,!3])
 j9)
def OU:vS=jg ((jC jL #[!7,p2 jr !6<|pI 3])>>>8) ((p2 jw !8<|pI 10)>>>9<|>(pF<|p2 jd !1<|p2 jk !9<|bW kF #[!1])>>>10<|>gW 5 11 [] oQ oA oB):=rfl
def uP{C P O N}(h:tR C P O N)  (B:Builtin.Int.intBits z<=2 ^ 20)  (hi:i<=100)  (e:∀ x∈Y++[y],er C P O i x) (E:-(Y++[y])<=-N) (b:(Y++[y]).map (·.1)=N.take (-(Y++[y]))) :
  w_ λX r8 r9 r10 r11 r12=>fI (vS [a0,‹!C›,‹!P›,‹!O›,‹!N›,↑((Y++[y]).map JY),some<|.int (i:Int),some<|.int z,o8,o9,o10,o11,o12] =
   some (.nx [a0,‹!C›,‹!P›,‹!O›,‹!N›,↑(X.map JY),some<|.int (i:Int),some<|.int z,r8,r9,r10,r11,r12])) (X≠[]) (-X<=-N) (∀ x∈X,er C P O (i+1) x) (X.map (·.1)=N.take (-X)):=by
 let[m,F,f,G]:=vT (k:=i+3) B ∅ ∅;have H:=h.c1;have I:=N8 (m/10) (show 0<(-C:Int) by lia);have J:=vn (o:=false) (N9 (m/10)<|show(-C:Int)≠0 by lia) I;have K:Nm (C.getD (m/10% -C).toNat []):=Ja h.nC ∅;have L:C.getD (m/10% -C).toNat []∈C:=vh ∅;have j:jk (.int<|m/10) (.int (-C))\(.int<|m/10% -C):=jo ∅;generalize m/10% -C=rc at *;generalize C.getD rc.toNat []=cl at *;have p:((-(!C):Nat):Int)=-C:=by rw[L1]
 have pre:vS [a0,‹!C›,‹!P›,‹!O›,‹!N›,↑((Y++[y]).map JY),some<|.int i,some<|.int z,o8,o9,o10,o11,o12] =
   gW 5 11 [] oQ oA oB %[(a0),‹!C›,‹!P›,‹!O›,‹!N›,↑((Y++[y]).map JY),.int i,.int z,.int m,.int<|m/10,.str cl,(o11),(o12)|0]:=by
  simp(disch:=lia) [OU,F,jx,p,j,J]
 rw[pre];have c:-((Y++[y]).map JY)=-Y+1:=by simp
 have hit:((Y++[y]).map JY)[((Y++[y]).map JY).length-1]?\(JY y):=by
  rw[c,Nat.add_sub_cancel,N4,List.getElem?_append_right<|by simp];simp
 have A:((-(!N):Nat):Int)=-N:=by rw[L1]
 by_cases s:m%10=7/\ -Y+1< -N
 ·have a:oQ %[(a0),‹!C›,‹!P›,‹!O›,‹!N›,↑((Y++[y]).map JY),.int i,.int z,.int m,.int<|m/10,.str cl,.dead,(o12)|0]\true:=by
   have t:(-Y+1)<(-N:Int):=by lia
   simp(disch:=lia) [oQ,jo,s.1,A,c,t,s.2]
  have M:=vn (o:=false) (l:=N) (i:=-Y+1) ∅ ∅;have Q:Nm (N.getD ((-Y:Int)+1).toNat []):=Ja h.nN ∅;have R:N.take (Y++[y]++[((N.getD ((-Y:Int)+1).toNat [],[],[]):Od)]).length=N.take (-(Y++[y]))++[N.getD ((-Y:Int)+1).toNat []]:=by
   have g:-(Y++[y])< -N:=by simp;lia
   rw[N3,List.length_singleton,List.take_succ_eq_append_getElem g,show((-Y:Int)+1).toNat=-(Y++[y]) by simp,tQ g]
  generalize N.getD ((-Y:Int)+1).toNat []=nw at *;refine#v[Y++[y]++[(nw,[],[])],some<|.int m,some<|.int<|m/10,some<|.str cl,some .dead,o12,?_,by simp,by simp;lia,λx hx=>(N1.mp hx).elim (λhx=>(e x hx).mono (Nat.le_succ _)) λhx=>by rw[M7.mp hx];exact#v[Q,U4 _,λq a=>(nomatch a),U4 _,λq a=>(nomatch a),λq a=>(nomatch a),List.Pairwise.nil,λq a=>(nomatch a)],by rw[N4,b,R];rfl];rw[OR rfl hit rfl a];have lm:cb (-((Y++[y]).map JY))=true:=jb (by rw[c];have:=h.n;lia);rw[N4 (l₂:=[(nw,[],[])])];show oA %[(a0),‹!C›,‹!P›,‹!O›,‹!N›,↑((Y++[y]).map JY),.int i,.int z,.int m,.int<|m/10,.str cl,.dead,(o12)|0]\(cq.nx [_,_,_,_,_,↑((Y++[y]).map JY++[.lst true [.str nw,.lst true [],.lst true []]]),_,_,_,_,_,_,_]);rw[c] at lm;simp[oA,c,M,lm,jb]
 ·have a:oQ %[(a0),‹!C›,‹!P›,‹!O›,‹!N›,↑((Y++[y]).map JY),.int i,.int z,.int m,.int<|m/10,.str cl,.dead,(o12)|0]\false:=by
   by_cases u:m%10=7
   ·have t:¬ (-Y+1)<(-N:Int):=λz=>s #v[u,by lia];have S:-N<=-Y+1:=by lia
    simp(disch:=lia) [oQ,jo,u,A,c,t,S]
   ·simp(disch:=lia) [oQ,jo,u]
  let[v,r12,T,w,U]:=OT h (r:=m/10) f ∅ ∅ K L ∅ (e y<|by simp) (a0:=a0) (a6:=some<|.int i) (a7:=some<|.int z) (o12:=o12);refine#v[Y++[v],some<|.int m,some<|.int<|m/10,some<|.str cl,some .dead,r12,?_,by simp,by simpa using E,λx hx=>(N1.mp hx).elim (λhx=>(e x<|List.mem_append_left _ hx).mono (Nat.le_succ _)) λhx=>by rw[M7.mp hx];exact w,by rw[N4,N3,L5,U,List.map_nil];rw[N4,N3] at b;exact b];rw[OS rfl hit rfl a T rfl rfl];have d:((Y++[y]).map JY).set (-((Y++[y]).map JY)-1) (JY v)=(Y++[v]).map JY:=by
   simp
  rw[d];rfl
def kC(o:Bool)(x:Od):D:=.tup [.str x.1,.lst false<|x.2.1.map yW,.lst o<|x.2.2.map yh]
structure dz(C P:W1)(x:Od):Prop where
 nm:Nm x.1
 p:-x.2.1<=200
 q:∀ q∈x.2.1,Nm q.1
 r:-x.2.2<=5
 k:∀ r∈x.2.2,xc C P r
def OV(x):fz (JY x)=.lst false [.str x.1,.lst false<|x.2.1.map yW,.lst false<|x.2.2.map yh]:=by
 show D.lst false [.str x.1,.lst false<|bV<|x.2.1.map yW,.lst false<|bV<|x.2.2.map yh]=_;rw[je _<|jY x.2.1,je _<|vZ x.2.2]
def f4(x:Od):D:=.lst false [.str x.1,.lst false<|x.2.1.map yW,.lst false<|x.2.2.map yh]
def OW(x):frz (f4 x)=true:=by
 show frz (D.lst false [.str x.1,.lst false<|x.2.1.map yW,.lst false<|x.2.2.map yh])=true;simp[jY x.2.1,vZ x.2.2]
structure m7(C O:W1)(x:Od):Prop where
 t:∀ q∈x.2.1,q.1∈C/\1<=q.2/\q.2<=10
 u:(x.2.1.map (·.1)).Nodup
 v:∀ r∈x.2.2,lX C O r
 last:∃ Z w,x.2.2=Z++[.two KH w]/\w∈C
def tS(C:W1)(x:Od):Od:=(x.1,x.2.1,x.2.2++[.two KH<|C.getD ((-x.2.2:Int)%(-C:Int)).toNat []])
def OX(hb:lU ns)(hns:-ns<=63)  (h:tR C P O N) (hN:1<=-N):
  ∃(X:List Od),pW (qf [.lst false<|ns.map D.int,.lst false<|!C,.lst false<|!P,.lst false<|!O,.lst false<|!N]=↑(X.map<|kC true)) (1<=-X) (-X<=-N) (∀ x∈X,dz C P x) (∀ x∈X,m7 C O x) ((X.map (·.1)).Nodup):=by
 have n0:=vn (o:=false) (l:=N) (i:=0) ∅ ∅;have nn:Nm (N.getD (0:Int).toNat []):=Ja h.nN ∅;have e0:[N.getD (0:Int).toNat []]=N.take 1:=by
  cases N with
  | nil=>exact absurd hN (by decide)
  | cons a l=>rfl
 generalize N.getD (0:Int).toNat []=nw at *;let[ρ',e1,X,J,K,L,M,b,c,f,rfl,g,F,H,A]:=va (G:=6&&&7) (λi ρ=>nr λ(X:List Od) (J K L M b c f:Option D)=>fI (ρ=[‹ns.map D.int›,‹!C›,‹!P›,‹!O›,‹!N›,↑(X.map JY),J,K,L,M,b,c,f]) (X≠[]) (-X<=-N) (∀ x∈X,er C P O i x) (X.map (·.1)=N.take (-X))) (by
  rintro i x ρ hx ⟨X,J,K,L,M,b,c,f,rfl,g,F,H,A⟩;let[d,hd,rfl]:=kg 0 _ i x hx;rw[List.getElem?_map] at hd;cases hz:ns[i]? with
  | none=>rw[hz] at hd;cases hd
  | some z=>
   rw[hz] at hd;cases hd;have hi:i< -ns:=(L9.mp hz).1;obtain⟨Y,y,rfl⟩:∃ Y y,X=Y++[y]:=#v[X.dropLast,X.getLast g,(List.dropLast_concat_getLast g).symm];let[X',r8,r9,Q,R,S,e,h0,T,hk,U]:=uP h (hb z<|List.mem_of_getElem? hz) ∅ H F A;refine#v[_,_,?_,.inl e,X',some<|.int i,some<|.int z,r8,r9,Q,R,S,rfl,h0,T,hk,U];rw[Nat.zero_add];rfl) (ρ:=%[‹ns.map D.int›,‹!C›,‹!P›,‹!O›,‹!N›,.lst true [.lst true [.str nw,.lst true [],.lst true []]],_,_,_,_,_,_,_|0]) #v[[(nw,[],[])],none,none,none,none,none,none,none,rfl,by simp,hN,λx hx=>by rw[M7.mp hx];exact#v[nn,U4 _,λq B=>(nomatch B),U4 _,λq B=>(nomatch B),λq B=>(nomatch B),List.Pairwise.nil,λq B=>(nomatch B)],e0]
 rw[yt,L1] at H;have V:=h.c1;have W:((-(!C):Nat):Int)=-C:=by rw[L1]
 have hn50:=h.n;have fV:frzs (X.map f4)=true:=yd λd hd=>by let[x,_,rfl]:=M5.mp hd;exact OW x
 have zW:bV (X.map JY)=X.map f4:=by 
   rw[qP,U0];exact List.map_congr_left λx _=>OV x
 have lV:cb (-(X.map f4))=true:=jb (by rw[L1];lia);have ec:=jV (G:=jc [] 0) (p:=yk #[pF<|0|||0,pF<|0|||1,p2 jr (0|||2)<|vF #[yk #[pS [114,101,115,116],pF<|p2 jd !1<|p2 jk (bW kF #[0|||2])<|bW kF #[!1]]]]) (xs:=X.map f4) (l:=X) (en:=f4) (out:=λx=>kC true<|tS C x) rfl (λρ=>∃ o,ρ=[o,‹!C›]) (by
  rintro x hx ρ ⟨o,rfl⟩;refine#v[[some<|f4 x,‹!C›],rfl,?_,_,rfl];show _\(kC true (x.1,x.2.1,x.2.2++[.two KH<|C.getD (-x.2.2%(-C:Int)).toNat []]));have ic:=vn (o:=false) (l:=C) (N9 (-x.2.2)<|show(-C:Int)≠0 by lia)<|N8 x.2.2.length (show 0<(-C:Int) by lia);have hm:jk (.int (-x.2.2)) (.int (-C))\(.int<|x.2.2.length% -C):=jo ∅;generalize (-x.2.2)%(-C:Int)=q at *;generalize C.getD q.toNat []=w at *;have oxr:=(H x hx).r;have j0:jd (f4 x) (.int 0)\(.str x.1):=rfl;have j1:jd (f4 x) (.int 1)=‹x.2.1.map yW›:=rfl;have j2:jd (f4 x) (.int 2)=‹x.2.2.map yh›:=rfl;have lr:((-(x.2.2.map yh):Nat):Int)=-x.2.2:=by rw[L1]
  have ad:jr (.lst false<|x.2.2.map yh) (.lst true [.tup [.str KH,.str w]])=↑(x.2.2.map yh++[.tup [.str KH,.str w]]):=by
   show(bif cb (-(x.2.2.map yh)+1)&&(frzs (x.2.2.map yh)&&frzs [.tup [.str KH,.str w]]) then some (D.lst true<|x.2.2.map yh++[.tup [.str KH,.str w]]) else none)=_;rw[vZ x.2.2,jb<|by rw[L1];lia];rfl
  unfold kC;rw[N4];show _\(D.tup [.str x.1,.lst false<|x.2.1.map yW,.lst true<|x.2.2.map yh++[.tup [.str KH,.str w]]]);simp(disch:=lia) [j0,j1,j2,jY x.2.1,lr,W,hm,ic,ad,jb]) (ρ:=jv %[_,1|0] [‹ns.map D.int›,‹!C›,‹!P›,‹!O›,‹!N›,‹X.map f4›,J,K,L,M,b,c,f]) #v[none,rfl]
 obtain⟨m,j⟩:∃ m:List Od,m=X.map (tS C):=#v[_,rfl];have Z:(X.map λx=>kC true<|tS C x)=m.map (kC true):=by rw[j,U0];rfl
 rw[Z] at ec;have T:-m=-X:=by rw[j,L1]
 have I:∀ y∈m,dz C P y/\m7 C O y:=λy hy=>by
  rw[j] at hy;let[x,hx,rfl]:=M5.mp hy;exact(by
    have s:=(H x hx);have V:=h.c1;have wb:=N8 x.2.2.length (show 0<(-C:Int) by lia);have nc:Nm (C.getD (-x.2.2%(-C:Int)).toNat []):=Ja h.nC ∅;have mc:C.getD (-x.2.2%(-C:Int)).toNat []∈C:=vh ∅;have r4:=s.r;exact#v[#v[s.nm,N6 s.p ∅,s.q,by show(x.2.2++[_]).length<=5;rw[N3];show x.2.2.length+1<=5;lia,λr E=>(N1.mp E).elim (s.k r) λE=>by rw[M7.mp E];exact#v[by decide,by decide,nc,.inr<|.inr<|.inr rfl]],#v[s.t,s.u,λr E=>(N1.mp E).elim (s.v r) λE=>by rw[M7.mp E];exact#v[λz=>absurd z<|by decide,λ_=>mc],#v[_,_,rfl,mc]]])
 have hN2:(m.map (·.1)).Nodup:=by
  have:m.map (·.1)=X.map (·.1):=by rw[j,U0];rfl
  rw[this,A];exact h.dN.sublist<|List.take_sublist _ _
 refine#v[m,?_,by rw[T];exact Nat.pos_of_ne_zero λz=>g<|List.eq_nil_of_length_eq_zero z,by lia,λx hx=>(I x hx).1,λx hx=>(I x hx).2,hN2];have en:VX [.lst false<|ns.map D.int]\(jO 0<|ns.map D.int):=by
  show some (jO 0<|bV<|ns.map D.int)=_;rw[YI ns]
 generalize X.map f4=XV at *;simp[qf,jK,Vc,n0,jb,Je ns,en,e1,zW,fV,lV,ec]
noncomputable abbrev Lk:=List Nat×Int×List Nat
def KD(x:Lk):D:=.tup [.str x.1,.int x.2.1,.str x.2.2]
structure gz(C:W1)(X:List Od)(x:Lk):Prop where
 m:x.1∈C
 c:Nm x.1
 d:1<=x.2.1
 n:∃ y∈X,y.1=x.2.2
def OY{o}{X:List Od}{i:Int}(h0:0<=i)(h:i< -X):∃ x∈X,jd (.lst o<|X.map<|kC false) (.int i)\(kC false x):=by
 have hi:i.toNat< -X:=by lia
 exact#v[X[i.toNat],List.getElem_mem hi,by rw[lF h0<|by rw[L1];exact h,List.getElem?_map,X5 hi];rfl]
def OZ(o)(x):jd (kC o x) (.int 0)\(.str x.1):=rfl
def O6{m mo}(h0:0<=m)(h1:m<10 ^ 10)(O:1<=mo)(P:mo<=9){C}(Q:1<=-C)(nC:∀ w∈C,Nm w){X}(R:1<=-X):
  ∃(L:List Lk),cM (qR [.int m,.lst false<|!C,.lst false<|X.map<|kC false,.int mo]=↑(L.map KD)) (-L<=2) (∀ l∈L,gz C X l):=by
 let[S,y,L,f,d,rfl,g,h]:=va (G:=jc [] 5) (xs:=Qf 0 (m%3).toNat) (λi U=>dL λL f d=>cM (U=%[.int m,‹!C›,‹X.map (kC false)›,.int mo,↑(L.map KD),(f),(d)|0]) (-L=i)<|∀ l∈L,gz C X l) (by
  rintro i x U hx ⟨L,f,d,rfl,g,h⟩;let[rfl,hi]:=Vv hx;let[l,p,e,z]:=(show ∃ l p,qX %[.int m,‹!C›,‹X.map (kC false)›,.int mo,↑(L.map KD),.int<|0+(i:Int),(d)|0] =
   some (.nx %[.int m,‹!C›,‹X.map (kC false)›,.int mo,↑((L++[l]).map KD),.int<|0+(i:Int),(p)|0])/\gz C X l from by 
    have a:zN [.int 2,.int (-C)]\(.int<|if(-C:Int)<2 then C.length else 2):=rfl;have A:1<=(if(-C:Int)<2 then(-C:Int) else 2):=by split<;>lia
    have B:(if(-C:Int)<2 then(-C:Int) else 2)<=-C:=by split<;>lia
    generalize(if(-C:Int)<2 then(-C:Int) else 2)=k at a A B;have T:=Int.mul_nonneg (by omega) (by omega);have E:yA (.int<|0+i) (.int 40)\(.int<|(0+i)*40):=vE ∅ ∅;have F:yA (.int 7) (.int<|0+i)\(.int<|7*(0+i)):=vE ∅ ∅;have H:yA (.int<|7*(0+i)) (.int<|m/50)\(.int<|7*(0+i)*(m/50)):=vE ∅ ∅;generalize 7*(0+i)*(m/50)=t at *;generalize I:m/3+(0+i)*40+t=n at *;have wb:=N8 n (show 0<k by lia);have J:=vn (o:=false) (l:=C) (N9 n<|show k≠0 by lia) ∅;have u:C.getD (n%k).toNat []∈C:=vh ∅;have mk:jk (.int n) (.int k)\(.int<|n%k):=jo ∅;generalize n%k=nk at *;generalize C.getD nk.toNat []=cl at *;have d1:=N9 (n/2) (show mo≠0 by lia);have K:jk (.int<|n/2) (.int mo)\(.int<|n/2%mo):=jo ∅;generalize n/2%mo=dy at *;have M:yA (.int 2) (.int mo)\(.int<|2*mo):=vE ∅ ∅;have N:jw (.int n) (.int<|2*mo)\(.int<|n/(2*mo)):=jx ∅ ∅;generalize n/(2*mo)=nd at *;let[x,hx,ix]:=OY (o:=false) (N9 nd<|show(-X:Int)≠0 by lia)<|N8 nd (show 0<(-X:Int) by lia);have q:jk (.int nd) (.int (-X))\(.int<|nd% -X):=jo ∅;have r:((-(X.map<|kC false):Nat):Int)=-X:=by rw[L1]
    have s:((-(!C):Nat):Int)=-C:=by rw[L1]
    have b:cb (-(L.map KD))=true:=jb (by rw[L1];lia);refine#v[(cl,1+dy,x.1),some<|.int n,?_,u,nC _ u,by show 1<=1+dy;lia,x,hx,rfl];rw[N4];show _\(cq.nx [_,_,_,_,↑(L.map KD++[.tup [.str cl,.int<|1+dy,.str x.1]]),_,_]);simp(disch:=lia) [qX,jx,E,F,H,I,s,a,mk,J,K,M,N,r,q,ix,OZ false x,b,jb,-Int.zero_add])
  exact#v[_,_,rfl,.inl e,L++[l],some<|.int<|0+i,p,rfl,by simp[g],λv c=>(N1.mp c).elim (h v) λc=>by rw[M7.mp c];exact z]) (ρ:=%[.int m,‹!C›,‹X.map (kC false)›,.int mo,.lst true [],_,_|0]) #v[[],none,none,rfl,rfl,λv c=>(nomatch c)]
 rw[qQ] at g;refine#v[L,?_,by lia,h];simp(disch:=lia) [qR,jK,VN,jo,JU (j:=m%3) ∅ ∅,y,jb]
def pA{i}{p}{ρ}{e}{m l}(h1:p ρ\e)(h2:B7 e\m)(a:ρ[i]?\(↑l))(b:-l+-m<=50000):iG i p ρ\(.nx<|ρ.set i<|↑(l++m)):=by
 unfold iG;rw[h1,L4,h2,L4,show pV i ρ=↑l by simp[pV,a]];show(bif _ then _ else _)=_;rw[jb ∅];rfl
def O7{ws:W1}:∀{o},jE (jc [] 0) qT (pF !0) (!ws) [o]\(!ws):=by
 induction ws with
 | nil=>intro o;rfl
 | cons w ws a=>
  intro o;have:=a (o:=some<|.str w);rw[L5,jM];simp[this]
def eU:Rl->List (List Nat)
 | .two kw x=>if kw=yZ then [x] else []
 | .many ws=>ws
 | .lend _ _ _=>[]
def xJ{a0 a1 a2 a3 a5 a6 a7 a9 b0 b1}{C P}{r}(d:xc C P r){N}(o:-N<=960):-(eU r)<=8/\yp [a0,a1,a2,a3,↑(!N),a5,a6,a7,some<|yh r,a9,b0,b1]\(.nx [a0,a1,a2,a3,↑(!(N++eU r)),a5,a6,a7,some<|yh r,a9,b0,b1]):=by
 have c:cb (-(!N))=true:=jb (by rw[L1];lia);cases r with
 | two kw x=>
  have b:jd (yh<|.two kw x) (.int 0)\(.str kw):=rfl;have f:jd (yh<|.two kw x) (.int 1)\(.str x):=rfl;by_cases g:kw=yZ
  ·subst g;rw[show eU (.two yZ x)=[x] from(if_pos rfl:(if yZ=yZ then [x] else [])=[x])];refine#v[by simp,?_];rw[N4];generalize (!N)=NN at *;simp[yp,b,f,c]
  ·have k:=U1.mpr g;have l:=(U1.mpr d.1);rw[show eU (.two kw x)=[] from if_neg g];refine#v[by simp,?_];rw[M9];simp[yp,b,f,k,l]
 | many a=>
  have h:=d.1;have b:jd (yh<|.many a) (.int 0)\(.str Jp):=rfl;have f:jd (yh<|.many a) (.int 1)\(.tup<|!a):=rfl;have j:=jn a;have m:cb (-(!a))=true:=jb (by rw[L1];lia);refine#v[h,?_];rw[show eU (.many a)=a from rfl,N4];have n:jE (jc [] 0) qT (pF !0) (!a) (jv [none] [a0,a1,a2,a3,↑(!N),a5,a6,a7,some<|yh<|.many a,a9,b0,b1])\(!a):=O7;have hx:=pA (i:=4) (p:=yq (JT<|8|||1) (jc [] 0) qT (pF !0) [none]) (ρ:=[a0,a1,a2,a3,↑(!N),a5,a6,a7,some<|yh<|.many a,a9,b0,b1]) (e:=.lst true<|!a) (by
   generalize (!a)=WW at *;simp[f,j,yg a,m,n]) (by show(bif frzs (!a) then _ else _)=_;rw[j];rfl) rfl (by rw[L1,L1];lia)
  simp[yp,b,hx]
 | lend kw x v=>
  have b:jd (yh<|.lend kw x v) (.int 0)\(.str kw):=rfl;rw[show eU (.lend kw x v)=[] from rfl];refine#v[by simp,?_];simp[yp,b,U1.mpr d.1.2,U1.mpr d.1.1]
def C'(x):frz (kC false x)=true:=by
 show frz (D.tup [.str x.1,.lst false<|x.2.1.map yW,.lst false<|x.2.2.map yh])=true;simp[jY x.2.1,vZ x.2.2]
def VB(X:List Od):frzs (X.map<|kC false)=true:=yd λd hd=>by let[x,_,rfl]:=M5.mp hd;exact C' x
noncomputable abbrev Gd:=List Nat×List Nat
noncomputable abbrev VC(q:Gd):D:=.tup [.str q.1,.str q.2]
def uH{m}(h0:0<=m){C P N:W1}{a3 a5 a6 a7 a8}{G}(B:-G<=100){i:Nat}(hi:i<=50){c}(r:Nm c)(nP:∀ w∈P,Nm w):
  ∃(T:List Gd),cM (-T<=1) (∀ g∈T,(Nm g.1/\Nm g.2)/\g.1∈P/\g.2=c/\c∉N) (vV %[.int m,‹!C›,‹!P›,(a3),↑(!N),(a5),(a6),(a7),(a8),↑(G.map VC),.int (i:Int),.str c|0] =
   some (.nx %[.int m,‹!C›,‹!P›,(a3),↑(!N),(a5),(a6),(a7),(a8),↑((G++T).map VC),.int (i:Int),.str c|0])):=by
 have a:=C9 c true N;have e:((-(!P):Nat):Int)=-P:=by rw[L1]
 have f:cb (-(G.map VC))=true:=jb (by rw[L1];lia);have n:yA (.int 5) (.int i)\(.int<|5*i):=vE ∅ ∅;have s:yA (.int 7) (.int i)\(.int<|7*i):=vE ∅ ∅;have p:jw (.int m) (.int<|5*i+3)\(.int<|m/(5*i+3)):=jx ∅ ∅;have u:jw (.int m) (.int<|7*i+2)\(.int<|m/(7*i+2)):=jx ∅ ∅;generalize m/(5*i+3)=t1,m/(7*i+2)=t2 at *;by_cases w:¬ c∈N/\0< -P/\0<t1%4
 ·let[b,h,j]:=w;have p2:=N8 t2 (show 0<(-P:Int) by lia);have v:=vn (o:=false) (N9 t2<|show(-P:Int)≠0 by lia) p2;have x:Nm (P.getD (t2% -P).toNat []):=Ja nP ∅;have y:P.getD (t2% -P).toNat []∈P:=vh ∅;have k:jk (.int t2) (.int (-P))\(.int<|t2% -P):=jo ∅;generalize t2% -P=q at *;generalize P.getD q.toNat []=pq at *;have d:0< -P:=by lia
  refine#v[[(pq,c)],by simp,λg l=>by rw[M7.mp l];exact#v[#v[x,r],y,rfl,b],?_];rw[N4];simp(disch:=lia) [vV,a,b,e,d,h,n,s,p,u,jo,j,k,v,f,jb]
 ·refine#v[[],by simp,λg l=>(nomatch l),?_];rw[M9];have t:(zI (ji<|p2 (Vh true) !11<|pV 4)<|zI (ji<|p2 Yz (bW kF #[!2])<|pI 0)<|ji<|p2 Yz (p2 jk (p2 jw !0<|p2 jr (p2 yA (pI 5) !10)<|pI 3)<|pI 4)<|pI 0) %[.int m,‹!C›,‹!P›,(a3),↑(!N),(a5),(a6),(a7),(a8),↑(G.map VC),.int i,.str c|0]\false:=by
   by_cases b:c∈N
   ·generalize (!N)=NN at *;simp[a,b]
   by_cases h:0< -P
   ·have j:¬ 0<t1%4:=λz=>w #v[b,h,z];have d:0< -P:=by lia
    simp(disch:=lia) [a,b,e,d,h,n,p,jo,j]
    try lia
   ·have A:P=[]:=List.eq_nil_of_length_eq_zero ∅;subst A;simp[a,b]
  simp[vV,-zI,t]
theorem wc{a0 a1 a2 a3 a5 a6 a7 a9 b0 b1}{C P}:∀{rs:List Rl}{N}{o8},(∀ r∈rs,xc C P r)->-N+8* -rs<=960 ->
  ∃ o8',yC (jc [] 8) yp (rs.map yh) [a0,a1,a2,a3,↑(!N),a5,a6,a7,o8,a9,b0,b1]\(.nx [a0,a1,a2,a3,↑(!(N++rs.flatMap eU)),a5,a6,a7,o8',a9,b0,b1])
 | [],N,o8,_,_=>#v[o8,by rw[List.flatMap_nil,M9];rfl]
 | r::rs,N,o8,h,a=>by
  rw[M1] at a;let[l,e]:=xJ (h r L7) (N:=N) ∅;let[o8',b]:=wc (N:=N++eU r) (λq c=>h q<|L6 _ c) (by rw[N3];lia);have d:jc [] 8 (yh r) [a0,a1,a2,a3,↑(!N),a5,a6,a7,o8,a9,b0,b1]\[a0,a1,a2,a3,↑(!N),a5,a6,a7,some<|yh r,a9,b0,b1]:=rfl;exact#v[o8',by rw[L5,j7,d,L4,e,L4,qW,b,List.flatMap_cons,List.append_assoc]]
theorem C_{C P}:∀{rs:List Rl},(∀ r∈rs,xc C P r)->-(rs.flatMap eU)<=8* -rs
 | [],_=>M8 _
 | r::rs,h=>by
  have i:=C_ λq a=>h q<|L6 _ a;have l:=(xJ (a0:=none) (a1:=none) (a2:=none) (a3:=none) (a5:=none) (a6:=none) (a7:=none) (a9:=none) (b0:=none) (b1:=none) (h r L7) (N:=[])<|U4 _).1;rw[List.flatMap_cons,N3,M1]
  lia
def lY(X:List Od):List (List Nat):=X.flatMap λx=>x.2.2.flatMap eU
theorem Da{a0 a1 a2 a3 a9 b0 b1}{C P}:∀{X}{N}{o5 o6 o7 o8},(∀ x∈X,dz C P x)->-N+40* -X<=900 ->
  gP λo5' o6' o7' o8'=>yC ((5,6)&&&7) vR (X.map<|kC false) [a0,a1,a2,a3,↑(!N),o5,o6,o7,o8,a9,b0,b1]\(.nx [a0,a1,a2,a3,↑(!(N++lY X)),o5',o6',o7',o8',a9,b0,b1])
 | [],N,o5,o6,o7,o8,_,_=>#v[o5,o6,o7,o8,by rw[lY,List.flatMap_nil,M9];rfl]
 | x::X,N,o5,o6,o7,o8,h,c=>by
  rw[M1] at c;have b:=h x L7;have l:=b.r;let[d,e]:=wc (a0:=a0) (a1:=a1) (a2:=a2) (a3:=a3) (a5:=some<|.str x.1) (a6:=‹x.2.1.map yW›) (a7:=‹x.2.2.map yh›) (a9:=a9) (b0:=b0) (b1:=b1) (N:=N) (o8:=o8) b.k ∅;have bl:=C_ b.k;let[o5',o6',o7',o8',f]:=Da (N:=N++x.2.2.flatMap eU) (λq g=>h q<|L6 _ g) (by rw[N3];lia);have i:gT 3 (gC (jc [] 5)<|gC (jc [] 6)<|gC (jc [] 7) gN) (kC false x) [a0,a1,a2,a3,↑(!N),o5,o6,o7,o8,a9,b0,b1]\[a0,a1,a2,a3,↑(!N),some<|.str x.1,‹x.2.1.map yW›,‹x.2.2.map yh›,o8,a9,b0,b1]:=rfl;have a:=vZ x.2.2;refine#v[o5',o6',o7',o8',?_];rw[L5,j7,i,L4];have j:vR [a0,a1,a2,a3,↑(!N),some<|.str x.1,‹x.2.1.map yW›,‹x.2.2.map yh›,o8,a9,b0,b1]\(.nx [a0,a1,a2,a3,↑(!(N++x.2.2.flatMap eU)),some<|.str x.1,‹x.2.1.map yW›,‹x.2.2.map yh›,d,a9,b0,b1]):=by
   simp[vR,a,je _ a,e]
  rw[j,L4,qW,f];unfold lY;rw[List.flatMap_cons,List.append_assoc]
def O8{m}(h0:0<=m){C P}(O:-C<=6)(dC:C.Nodup)(nC:∀ w∈C,Nm w)(nP:∀ w∈P,Nm w){X}(Q:-X<=5)(J:∀ x∈X,dz C P x):
  ∃(G:List Gd),fI (qj [.int m,.lst false<|!C,.lst false<|!P,.lst false<|X.map<|kC false]=↑(G.map VC)) (-G<=6) (∀ g∈G,(Nm g.1/\Nm g.2)/\g.1∈P/\g.2∈C) ((G.map (·.2)).Nodup) (∀ g∈G,g.2∉lY X):=by
 have k:=VB X;let[l,n,o,p,e]:=Da (a0:=some<|.int m) (a1:=‹!C›) (a2:=‹!P›) (a3:=‹X.map (kC false)›) (a9:=none) (b0:=none) (b1:=none) (N:=[]) (o5:=none) (o6:=none) (o7:=none) (o8:=none) J (by simp;lia);rw[X4,List.map_nil] at e;generalize lY X=N at *;let[R,e3,G,h,j,rfl,H,r,s,u,y]:=va (G:=10&&&11) (λi U=>dL λG h j=>pW (U=[some<|.int m,‹!C›,‹!P›,‹X.map (kC false)›,↑(!N),l,n,o,p,↑(G.map VC),h,j]) (-G<=i) (∀ g∈G,(Nm g.1/\Nm g.2)/\g.1∈P/\g.2∈C) ((G.map (·.2)).Nodup) (∀ g∈G,g.2∈C.take i)<|∀ g∈G,g.2∉N) (by
  rintro i x U hx ⟨G,h,j,rfl,H,r,s,u,y⟩;let[d,hd,rfl]:=kg 0 _ i x hx;rw[List.getElem?_map] at hd;cases hz:C[i]? with
  | none=>rw[hz] at hd;cases hd
  | some z=>
   rw[hz] at hd;cases hd;let[hi,A]:=L9.mp hz;let[T,K,f,e]:=uH h0 (G:=G) ∅ (i:=i) ∅ (nC z<|List.mem_of_getElem? hz) nP;have I:C.take (i+1)=C.take i++[z]:=by rw[List.take_succ_eq_append_getElem hi,A]
   have B:=λq=>by
    have:=dC;rw[<- List.take_append_drop (i+1) C,I,List.append_assoc,U8] at this;exact this.2.2 z q z (by simp) rfl
   refine#v[_,_,?_,.inl e,G++T,some<|.int i,some<|.str z,rfl,by rw[N3];lia,λv c=>(N1.mp c).elim (r v) λc=>#v[(f v c).1,(f v c).2.1,(f v c).2.2.1▸List.mem_of_getElem? hz],?_,?_,?_]
   ·rw[Nat.zero_add];rfl
   ·rw[N4,U8];refine#v[s,?_,?_]
    ·match T,K with
     | [],_=>simp
     | [t],_=>simp
    ·rintro a L b E rfl;let[g,F,rfl]:=M5.mp L;let[t,M,e2]:=M5.mp E;have:=(f t M).2.2.1;exact B (by rw[<- this,e2];exact u g F)
   ·intro v c;rw[I,N1];rcases N1.mp c with c | c
    ·exact .inl<|u v c
    ·exact .inr (by rw[(f v c).2.2.1];simp)
   ·intro v c;rcases N1.mp c with c | c
    ·exact y v c
    ·have:=f v c;rw[this.2.2.1];exact this.2.2.2) (ρ:=%[.int m,‹!C›,‹!P›,‹X.map (kC false)›,↑(!N),(l),(n),(o),(p),.lst true [],_,_|0]) #v[[],none,none,rfl,by simp,λv c=>(nomatch c),by simp,λv c=>(nomatch c),λv c=>(nomatch c)]
 rw[yt,L1] at H;have en:VX [.lst false<|!C]\(jO 0<|!C):=by
  show some (jO 0<|bV<|!C)=_;rw[yg C]
 refine#v[G,?_,by lia,r,s,y];simp[qj,jK,Vd,k,je _ k,e,jn C,en,e3,jb]
noncomputable abbrev Cl:=List Nat×Int×Int
noncomputable abbrev Vn(x:Cl):D:=.tup [.str x.1,.int x.2.1,.int x.2.2]
def YB(l:List Cl):frzs (l.map Vn)=true:=yd λd hd=>by let[x,_,rfl]:=M5.mp hd;rfl
def Ys(L:List Lk):frzs (L.map KD)=true:=yd λd hd=>by let[x,_,rfl]:=M5.mp hd;rfl
def Yo(L:List Gd):frzs (L.map VC)=true:=yd λd hd=>by let[x,_,rfl]:=M5.mp hd;rfl
structure Pl where
 nm:List Nat
 C:List Cl
 P:List Qt
 E:List (List Nat)
 X:List Od
 L:List Lk
 G:List Gd
def jH(o:Bool)(p:Pl):D:=.tup [.str p.nm,.lst false<|p.C.map Vn,.lst false<|p.P.map yW,.lst false<|!p.E,.lst false<|p.X.map<|kC false,.lst false<|p.L.map KD,.lst o<|p.G.map VC]
structure cF(p:Pl):Prop where
 nm:Nm p.nm
 c:-p.C<=6
 nC:∀ c∈p.C,Nm c.1
 p6:-p.P<=6
 nP:∀ c∈p.P,Nm c.1
 e:-p.E<=6
 nE:∀ c∈p.E,Nm c
 x1:1<=-p.X
 x5:-p.X<=5
 x:∀ x∈p.X,dz (p.C.map (·.1)) (p.P.map (·.1)) x
 l2:-p.L<=2
 l:∀ l∈p.L,gz (p.C.map (·.1)) p.X l
 cN:(p.C.map (·.1)).Nodup
 c1:∀ c∈p.C,1<=c.2.1
 pN:(p.P.map (·.1)).Nodup
 p1:∀ c∈p.P,1<=c.2
 g6:-p.G<=6
 g:∀ g∈p.G,(Nm g.1/\Nm g.2)/\g.1∈p.P.map (·.1)/\g.2∈p.C.map (·.1)
 me:∀ c∈p.E,c∈p.C.map (·.1)
structure iK(O:W1)(p:Pl):Prop where
 b:∀ c∈p.C,c.2.1<=10 ^ 40/\1<=c.2.2/\c.2.2<=10 ^ 40
 m:∀ c∈p.P,c.2<=10 ^ 40
 x:∀ x∈p.X,m7 (p.C.map (·.1)) O x
 n:(p.X.map (·.1)).Nodup
 c0:1<=-p.C
 gn:(p.G.map (·.2)).Nodup
 gb:∀ g∈p.G,g.2∉lY p.X
def O9{a}(s0:0<=a)(s1:a<2147483587){C}(q:-C<=6)(nC:∀ w∈C,Nm w){a0 a1 a2 a3 a4 a5 a8 a9}:
  dL λ(K:List Cl) (o11 o12:Option D)=>cM (yC (11&&&12) qg (jO 0<|!C) %[(a0),(a1),(a2),(a3),(a4),(a5),.int a,‹!C›,(a8),(a9),.lst true [],_,_,_,_,_|0] =
   some (.nx [a0,a1,a2,a3,a4,a5,some<|.int a,‹!C›,a8,a9,↑(K.map Vn),o11,o12,none,none,none])) (K.map (·.1)=C) (∀ c∈K,(1<=c.2.1/\c.2.1<=10 ^ 40)/\1<=c.2.2/\c.2.2<=10 ^ 40):=by
 let[r,j,K,o11,o12,rfl,e,k]:=va (G:=11&&&12) (f:=qg) (λi U=>dL λK o11 o12=>cM (U=[a0,a1,a2,a3,a4,a5,some<|.int a,‹!C›,a8,a9,↑(K.map Vn),o11,o12,none,none,none]) (K.map (·.1)=C.take i)<|∀ c∈K,(1<=c.2.1/\c.2.1<=10 ^ 40)/\1<=c.2.2/\c.2.2<=10 ^ 40) (by
  rintro i x U hx ⟨K,o11,o12,rfl,e,k⟩;let[d,hd,rfl]:=kg 0 _ i x hx;rw[List.getElem?_map] at hd;cases hz:C[i]? with
  | none=>rw[hz] at hd;cases hd
  | some z=>
   rw[hz] at hd;cases hd;have hi:=(L9.mp hz).1;have s:=Int.ediv_nonneg (b:=i+1) s0 ∅;have t:=Int.ediv_le_self (i+1) s0;have u:=Int.ediv_nonneg (b:=i+5) s0 ∅;have y:=Int.ediv_le_self (i+5) s0;let[l,j,o]:=kX (m:=a/(i+1)) ∅ ∅;let[n,e2,dj]:=kX (m:=a/(i+5)+i) ∅ ∅;have p:-K<=i:=by
    have:-(K.map (·.1))=-(C.take i):=by rw[e]
    rw[L1,X6] at this
    lia
   have g:cb (-(K.map Vn))=true:=jb (by rw[L1];omega);refine#v[%[(a0),(a1),(a2),(a3),(a4),(a5),.int a,‹!C›,(a8),(a9),↑(K.map Vn),.int i,.str z,_,_,_|0],%[(a0),(a1),(a2),(a3),(a4),(a5),.int a,‹!C›,(a8),(a9),↑((K++[(z,l,n)]).map Vn),.int i,.str z,_,_,_|0],?_,.inl ?_,K++[(z,l,n)],some<|.int i,some<|.str z,rfl,by rw[N4,e,List.take_add_one,hz];rfl,λv h=>(N1.mp h).elim (k v) λh=>by rw[M7.mp h];exact#v[o,dj]]
   ·rw[Nat.zero_add];rfl
   ·rw[N4];simp(disch:=omega) [qg,jx,j,e2,g,jb]) #v[[],none,none,rfl,rfl,λv h=>(nomatch h)]
 rw[yt,L1,List.take_length] at e;exact#v[K,o11,o12,j,e,k]
theorem Db{a}(s0:0<=a)(s1:a<2147483587):∀{P}{j}{o0 o1},j+-P<=100 ->
  ∃(K:List Qt),cM (jE (0&&&1) qT (yk #[pF !1,jC jG #[p2 jr (p2 jw !2<|pI 13) !0]]) (jO j<|!P) [o0,o1,some<|.int a]\(K.map yW)) (K.map (·.1)=P)<|∀ c∈K,1<=c.2/\c.2<=10 ^ 40
 | [],_,_,_,_=>#v[[],rfl,rfl,λc b=>(nomatch b)]
 | w::P,j,o0,o1,d=>by
  rw[M1] at d;let[K,e,f,g]:=Db s0 s1 (P:=P) (j:=j+1) (o0:=some<|.int j) (o1:=some<|.str w) ∅;let[v,h,i]:=kX (m:=a/13+j) ∅ ∅;refine#v[(w,v)::K,?_,by rw[L5,f],λc b=>?_]
  ·have k:(0&&&1) (.tup [.int j,.str w]) [o0,o1,some<|.int a]=some %[.int j,.str w,.int a|0]:=rfl;rw[L5,jO,jM,k,L5];simp(disch:=lia) [jx,h,e,jb]
  ·rcases M4.mp b with rfl | b
   ·exact i
   ·exact g c b
def O_{C:W1}(n:1<=-C)(nC:∀ w∈C,Nm w){m}{k}:
  ∃(E:W1),cM (jE (jc [] 0) qT (pF<|p2 jd !1<|p2 jk (p2 jr (p2 jw !2<|pI 12) !0)<|bW kF #[!1]) (Qf 0 k) %[_,‹!C›,.int m|0]\(!E)) (-E=k) (∀ w∈E,Nm w/\w∈C):=by
 have a:((-(!C):Nat):Int)=-C:=by rw[L1]
 let[r,e,b,f]:=Cb (G:=jc [] 0) (p:=pF<|p2 jd !1<|p2 jk (p2 jr (p2 jw !2<|pI 12) !0)<|bW kF #[!1]) (Good:=λd=>∃ w,d=.str w/\Nm w/\w∈C) (P:=λs=>∃ o,s=[o,‹!C›,some<|.int m]) (xs:=Qf 0 k) (by
  rintro x hx s ⟨o,rfl⟩;let[i,hi,rfl]:=M5.mp hx;have wb:=N8 (m/12+(0+i)) (show 0<(-C:Int) by lia);have g:=vn (o:=false) (N9 (m/12+(0+i))<|show(-C:Int)≠0 by lia) wb;have h:=Ja nC (i:=((m/12+(0+i))% -C).toNat) ∅;have j:C.getD ((m/12+(0+i))% -C).toNat []∈C:=vh ∅;have c:jk (.int<|m/12+(0+i)) (.int (-C))\(.int<|(m/12+(0+i))% -C):=jo ∅;generalize(m/12+(0+i))% -C=q at *;generalize C.getD q.toNat []=w at *;refine#v[%[.int<|0+i,‹!C›,.int m|0],.str w,rfl,?_,#v[_,rfl,h,j],_,rfl];simp(disch:=lia) [jx,a,c,g,-Int.zero_add]) #v[none,rfl]
 rw[qQ] at b;let[W,rfl,l]:=YA f;rw[L1] at b;exact#v[W,e,b,l]
def Dc(h:-W=8):nr λa b c d e f g k=>W=[a,b,c,d,e,f,g,k]:=by
 match W,h with
 | [a,b,c,d,e,f,g,k],_=>exact#v[a,b,c,d,e,f,g,k,rfl]
def Pa(h:-W=8){q}(h0:0<=q)(h1:q<=2):1<=-(vf W (some 1)<|some<|2+q)/\ -(vf W (some 1)<|some<|2+q)<=3:=by
 let[a,b,c,d,e,f,g,k,rfl]:=Dc h;rcases(by lia:q=0\/q=1\/q=2) with rfl | rfl | rfl<;>exact#v[Nat.le_of_ble_eq_true rfl,Nat.le_of_ble_eq_true rfl]
def Pb(h:-W=8){q}(h0:0<=q)(h1:q<=2):-(vf W (some 4)<|some<|4+q)<=2:=by
 let[a,b,c,d,e,f,g,k,rfl]:=Dc h;rcases(by lia:q=0\/q=1\/q=2) with rfl | rfl | rfl<;>exact Nat.le_of_ble_eq_true rfl
def Dd{lo hi}(h:l.Nodup):(vf l lo hi).Nodup:=by
 exact h.sublist<|(List.take_sublist _ _).trans (List.drop_sublist _ _)
def uX(o)(l)(lo hi):ld lo hi (.lst o<|l.map D.int)=↑((vf l lo hi).map D.int):=by
 rw[Cc<|Je l,Cd]
def Pc{ns:List Int}(Y:lU ns)(Z:-ns<=63){W N O:W1}(hW:-W=8)(nW:∀ w∈W,Nm w)(dW:W.Nodup)(hN1:1<=-N)(hN5:-N<=5)(nN:∀ w∈N,Nm w)(dN:N.Nodup)(hO:-O<=50)(nO:∀ w∈O,Nm w):
  ∃(p:Pl),dY (YM [.lst false<|ns.map D.int,.lst false<|!W,.lst false<|!N,.lst false<|!O,.int 2]\(jH true p)) (cF p) (iK O p) (p.nm=W.getD 0 []):=by
 let[z0,ez0,hz0]:=VU Y (k:=0) (by decide);let[z1,ez1,hz1]:=VU Y (k:=1) (by decide);let[f,ef,Pk,fy]:=vT hz0 (k:=1) (by decide) (by decide);let[sc,es,s0,s1]:=vT hz1 (k:=2) (by decide) (by decide);let[u,hC3]:=Pa hW (q:=f%3) ∅ ∅;have hP2:=Pb hW (q:=f/3%3) ∅ ∅;have nC:∀ w∈vf W (some 1) (some<|2+f%3),Nm w:=λw v=>nW w<|YQ v;have nP:∀ w∈vf W (some 4) (some<|4+f/3%3),Nm w:=λw v=>nW w<|YQ v;have dC:=Dd (lo:=some 1) (hi:=some<|2+f%3) dW;have dP:=Dd (lo:=some 4) (hi:=some<|4+f/3%3) dW;have sC:=ub false W (some 1)<|some<|2+f%3;have sP:=ub false W (some 4)<|some<|4+f/3%3;generalize vf W (some 1) (some<|2+f%3)=C,vf W (some 4) (some<|4+f/3%3)=P at *;have hbc:lU (vf ns (some 2) none):=λx hx=>Y x<|YQ hx;have hlc:-(vf ns (some 2) none)<=63:=N6 (u8 _ _ _) Z;have sN:=uX false ns (some 2) none;generalize vf ns (some 2) none=cs at *;let[X,eX,F,hX5,hX,hXX,hXN]:=OX hbc hlc (C:=C) (P:=P) (O:=O) (N:=N) #v[u,by lia,by lia,hO,nC,nP,nO,nN,by lia,dC,dN] hN1;let[K,H,I,eK,a,gK]:=O9 s0 s1 (C:=C) ∅ nC (a0:=‹ns.map D.int›) (a1:=‹!W›) (a2:=‹!N›) (a3:=‹!O›) (a4:=some<|.int 2) (a5:=some<|.int f) (a8:=‹!P›) (a9:=↑(X.map<|kC true));have hK:-K=-C:=by rw[<- a,L1]
 have nK:∀ c∈K,Nm c.1:=λc e=>nC _ (by rw[<- a];exact M5.mpr #v[c,e,rfl]);have a1:=N9 (f/36) (show(-C:Int)+1≠0 by lia);have a2:=N8 (f/36) (show 0<(-C:Int)+1 by lia);have J:jk (.int<|f/36) (.int<|C.length+1)\(.int<|f/36%(-C+1)):=jo ∅;generalize f/36%(-C+1)=q at a1 a2 J;have hrg:=JU (j:=q) ∅ ∅;have hlq:cb (-(Qf 0 q.toNat))=true:=jb (by rw[qQ];lia);let[E,eE,hE,nE]:=O_ u nC (m:=f) (k:=q.toNat);have t:gv [.int 1,.int (-P)]\(.int<|if(-P:Int)>1 then P.length else 1):=rfl;have k0:1<=(if(-P:Int)>1 then(-P:Int) else 1)/\(if(-P:Int)>1 then(-P:Int) else 1)<=2:=by split<;>lia
 generalize(if(-P:Int)>1 then(-P:Int) else 1)=k at t k0;have Q:1<=2/k/\2/k<=9:=by
  rcases(by lia:k=1\/k=2) with rfl | rfl<;>decide
 have dk:jw (.int 2) (.int k)\(.int<|2/k):=jx ∅ ∅;let[L,eL,hL,nL]:=O6 (m:=sc/11) (mo:=2/k) ∅ ∅ Q.1 Q.2 u nC (X:=X) F;let[M,eM,h,gM]:=Db s0 s1 (P:=P) (j:=0) (o0:=none) (o1:=none) ∅;have hM:-M=-P:=by rw[<- h,L1]
 have nM:∀ c∈M,Nm c.1:=λc e=>nP _ (by rw[<- h];exact M5.mpr #v[c,e,rfl]);let[G,eG,hG,nG,gn,gb]:=O8 (m:=f/200) ∅ (C:=C) (P:=P) ∅ dC nC nP (X:=X) ∅ hX;have iw:=vn (o:=false) (l:=W) (i:=0) (by omega) (by omega);have nw:Nm (W.getD (0:Int).toNat []):=Ja nW (by show 0< -W;omega);generalize hnm:W.getD (0:Int).toNat []=nm at *;refine#v[#v[nm,K,M,E,X,L,G],?_,#v[nw,by show K.length<=6;omega,nK,by show M.length<=6;omega,nM,by show E.length<=6;omega,λw v=>(nE w v).1,F,by show X.length<=5;omega,by show ∀ x∈X,dz (K.map (·.1)) (M.map (·.1)) x;rw[a,h];exact hX,hL,by show ∀ l∈L,gz (K.map (·.1)) X l;rw[a];exact nL,by show(K.map (·.1)).Nodup;rw[a];exact dC,λc e=>(gK c e).1.1,by show(M.map (·.1)).Nodup;rw[h];exact dP,λc e=>(gM c e).1,hG,by show ∀ g∈G,(Nm g.1/\Nm g.2)/\g.1∈M.map (·.1)/\g.2∈K.map (·.1);rw[a,h];exact nG,by show ∀ c∈E,c∈K.map (·.1);rw[a];exact λw v=>(nE w v).2],#v[λc e=>#v[(gK c e).1.2,(gK c e).2],λc e=>(gM c e).2,by show ∀ x∈X,m7 (K.map (·.1)) O x;rw[a];exact hXX,hXN,by show 1<=-K;omega,gn,gb],hnm.symm];show _\(D.tup [.str nm,.lst false<|K.map Vn,.lst false<|M.map yW,.lst false<|!E,.lst false<|X.map<|kC false,.lst false<|L.map KD,.lst true<|G.map VC]);have frc:=Je cs;have fzc:=YI cs;have r:=jn C;have b:=yg C;have y:=jn P;have n:=yg P;have frE:=jn E;have R:=yg E;have z:=YB K;have A:=jY M;have B:=Ys L;have clL:jW (L.map KD)=true:=by rw[yw,List.all_map,List.all_eq_true];intro x _;rfl
 have s:=VB X;have S:bV (X.map<|kC true)=X.map (kC false):=by 
   rw[qP,U0];refine List.map_congr_left λx _=>?_;show D.tup [.str x.1,.lst false<|bV<|x.2.1.map yW,.lst false<|bV<|x.2.2.map yh]=_;rw[je _<|jY x.2.1,je _<|vZ x.2.2];rfl
 have frO:=jn O;have fzO:=yg O;have T:=jn N;have U:=yg N;have V:=YI ns;have hlC:((-(!C):Nat):Int)=-C:=by rw[L1]
 have hlP:((-(!P):Nat):Int)=-P:=by rw[L1]
 have lP:cb (-(jO 0<|!P))=true:=jb (by rw[yt,L1];omega);have enC:VX [.lst false<|!C]\(jO 0<|!C):=by
  show some (jO 0<|bV<|!C)=_;rw[b]
 have enP:VX [.lst false<|!P]\(jO 0<|!P):=by
  show some (jO 0<|bV<|!P)=_;rw[n]
 have eE':jE (jc [] 0) qT (pF<|p2 jd !1<|p2 jk (p2 jr (p2 jw !2<|pI 12) !0)<|bW kF #[!1]) (Qf 0 q.toNat) (jv %[_,7,5|0] %[‹ns.map D.int›,‹!W›,‹!N›,‹!O›,.int 2,.int f,.int sc,‹!C›,‹!P›,↑(X.map<|kC true),↑(K.map Vn),(H),(I),_,_,_|0])\(!E):=eE;have eM':jE (0&&&1) qT (yk #[pF !1,jC jG #[p2 jr (p2 jw !2<|pI 13) !0]]) (jO 0<|!P) (jv %[_,_,6|0] %[‹ns.map D.int›,‹!W›,‹!N›,‹!O›,.int 2,.int f,.int sc,‹!C›,‹!P›,↑(X.map<|kC true),↑(K.map Vn),(H),(I),↑(!E),↑(L.map KD),_|0])\(M.map yW):=eM;generalize ns.map D.int=NS,cs.map D.int=CS,(!W)=WW,(!N)=NN,(!O)=OO,(!C)=CC,(!P)=PP,(!E)=EE,K.map Vn=KK,M.map yW=MM,L.map KD=LL,G.map VC=GG,X.map (kC false)=XF,X.map (kC true)=XX at *;show(YK _).bind cq.val=_;unfold YK;refine gX (zJ (by simp[Je,V,ez0];exact ef) rfl) ?_;refine gX (zJ (by simp[Je,V,ez1];exact es) rfl) ?_;refine gX (zJ (by simp(disch:=decide) [jo];exact sC) rfl) ?_;refine gX (zJ (by simp(disch:=decide) [jo,jx];exact sP) rfl) ?_;refine gX (m5 rfl n<|m5 rfl b<|zJ (by simp[sN,b,n,fzc,frc,r,y,frO,fzO,T,U];exact eX) rfl) ?_;refine gX (zJ (d:=.lst true []) rfl rfl) ?_;refine gX (m5 rfl b<|by simp[r,enC,eK];rfl) ?_;refine gX (zJ (d:=.lst true EE) (by simp(disch:=decide) [jx,hlC,J,hrg,hlq,eE']) rfl) ?_;refine gX (zJ (d:=.lst true LL) (by simp(disch:=decide) [jx,r,b,hlP,t,dk,S,je _ s,s,eL,clL]) rfl) ?_;refine gX (m5 rfl n<|zJ (d:=.lst true MM) (by simp[y,enP,lP,eM']) rfl) ?_;refine m6 rfl (je _ z)<|m6 rfl (je _ A)<|m6 rfl R<|m6 rfl S<|m6 rfl (je _ B)<|OA ?_;simp(disch:=decide) [jx,b,n,r,y,je _ s,s,je _ z,z,je _ A,A,R,frE,je _ B,B,iw,eG];rfl
def fS(w c x a b d:List Nat):Pl:=#v[w,[(c,1,1)],[],[],[(x,[],[.lend [108,101,110,100] a 1000000,.two [98,97,99,107] b,.two [114,101,115,116] d])],[],[]]
def Pd(p):fz (jH true p)=jH false p:=by
 show D.tup [.str p.nm,.lst false<|bV<|p.C.map Vn,.lst false<|bV<|p.P.map yW,.lst false<|bV<|!p.E,.lst false<|bV<|p.X.map<|kC false,.lst false<|bV<|p.L.map KD,.lst false<|bV<|p.G.map VC]=_;rw[je _<|YB p.C,je _<|jY p.P,yg p.E,je _<|VB p.X,je _<|Ys p.L,je _<|Yo p.G];rfl
def vz(p):frz (jH false p)=true:=by
 show frz (D.tup [.str p.nm,.lst false<|p.C.map Vn,.lst false<|p.P.map yW,.lst false<|!p.E,.lst false<|p.X.map<|kC false,.lst false<|p.L.map KD,.lst false<|p.G.map VC])=true;simp[YB p.C,jY p.P,jn p.E,VB p.X,Ys p.L,Yo p.G]
def two_ok{ns}(a:lU ns):dL λ(p:Pl) (W:W1) (x:List Nat)=>x_ (Yu [.lst false<|ns.map D.int]\(.tup [jH false p,jH false<|fS (W.getD 6 []) (W.getD 7 []) x p.nm p.nm<|W.getD 7 []])) (cF p) (iK [W.getD 6 []] p) (p.nm=W.getD 0 []) (-W=8) (∀ w∈W,Nm w) W.Nodup (Nm x):=by
 let[r,b,c]:=VU a (k:=0) (by decide);let[s,d,e]:=VU a (k:=1) (by decide);let[W,t,n,f,o]:=C5 c (many:=8) (by decide);let[N,u,G,nN,dN]:=C5 e (many:=3) (by decide);have g:lU (vf ns none<|some 16):=λx hx=>a x<|YQ hx;have h:-(vf ns none<|some 16)<=63:=by 
   unfold vf at *;rw[X6];have:HT.cQ ns.length ns.length (some 16)<=16:=by
    unfold HT.cQ;simp
    lia
   lia
 have v:=uX false ns none<|some 16;generalize vf ns none (some 16)=cs at *;have y:jd (.lst false<|!W) (.int 6)\(.str<|W.getD 6 []):=vn ∅ ∅;have z:jd (.lst false<|!W) (.int 7)\(.str<|W.getD 7 []):=vn ∅ ∅;have A:jd (.lst false<|!W) (.int 0)\(.str<|W.getD 0 []):=vn ∅ ∅;have B:jd (.lst false<|!N) (.int 0)\(.str<|N.getD 0 []):=vn ∅ ∅;have C:Nm (W.getD 6 []):=Ja f ∅;have hx:Nm (N.getD 0 []):=Ja nN ∅;let[p,q,E,i,pn]:=Pc g h n f o ∅ ∅ nN dN (Nat.le_of_ble_eq_true rfl) (λw F=>by rw[M7.mp F];exact C);refine#v[p,W,N.getD 0 [],?_,E,i,pn,n,f,o,hx];have j:vQ [.int r,.int 8,.int 8]=↑(!W):=t;have l:vQ [.int s,.int 3,.int 8]=↑(!N):=u;show _\(D.tup [jH false p,.tup [.str<|W.getD 6 [],.lst false [.tup [.str<|W.getD 7 [],.int 1,.int 1]],.lst false [],.lst false [],.lst false [.tup [.str<|N.getD 0 [],.lst false [],.lst false [.tup [.str [108,101,110,100],.str p.nm,.int 1000000],.tup [.str [98,97,99,107],.str p.nm],.tup [.str [114,101,115,116],.str<|W.getD 7 []]]]],.lst false [],.lst false []]]);have m:xQ (.int 10) (.int 6)\(.int 1000000):=rfl;rw[pn];rw[L5,List.map_nil] at q;generalize W.getD 6 []=w6 at *;simp(maxSteps:=400000) (disch:=lia) [Yu,jK,xX,Je ns,YI ns,b,d,j,l,jn W,yg W,jn N,yg N,v,Je cs,YI cs,y,z,A,B,q,m,Pd p,vz p,jb]
noncomputable abbrev Gw:=List (List Nat)×(List Nat->Int)
def gD(S:Gw)(c:List Nat):Int:=if c∈S.1 then S.2 c else 0
def big(d g:Int):Int:=if d>g then d else g
def grow(S:Gw)(x:Lk):Gw:=(if x.1∈S.1 then S.1 else S.1++[x.1],λn=>if n=x.1 then big x.2.1 (gD S x.1) else S.2 n)
def De{o}{S}{c}:xy (bY o S.1 S.2) (.str c) (.int 0)\(.int<|gD S c):=by
 unfold bY gD;rw[MA,Mz,L4];by_cases h:c∈S.1
 ·rw[YC S.2 h,if_pos h];rfl
 ·have:∀{N:W1},¬ c∈N->Y6 (N.map KA.str) (N.map λn=>D.int<|S.2 n) (.str c)=none:=by
   intro N
   induction N with
   | nil=>intro _;rfl
   | cons n N a=>
    intro h;rw[L5,L5,Y7,if_neg<|λe=>h (by injection e with e;rw[e];exact L7),a<|λz=>h<|L6 _ z]
  rw[this h,if_neg h];rfl
def Df{S}{x}:qp (S.1.map KA.str) (S.1.map λn=>D.int<|S.2 n) (.str x.1) (.int<|big x.2.1<|gD S x.1)=((grow S x).1.map KA.str,(grow S x).1.map λn=>D.int<|(grow S x).2 n):=by
 unfold grow;generalize big x.2.1 (gD S x.1)=v;by_cases h:x.1∈S.1
 ·rw[zy h,if_pos h]
 ·unfold qp;rw[if_neg<|λz=>h (by let[n,a,e]:=M5.mp z;injection e with e;rw[<- e];exact a),if_neg h,N4,N4];congr 1;show _=_++[D.int<|if x.1=x.1 then v else S.2 x.1];rw[if_pos rfl];congr 1;exact List.map_congr_left λn a=>by
   show _=D.int (if n=x.1 then v else S.2 n);rw[if_neg<|λz=>h<|by rw[<- z];exact a]
structure eV(L:List Lk)(m:Nat)(S:Gw):Prop where
 n:S.1.Nodup
 l:-S.1<=m
 i:∀ c∈S.1,∃ x∈L,x.1=c
theorem eV.grow{L}{m}{S}(h:eV L m S){x}(hx:x∈L):eV L (m+1) (grow S x):=by
 unfold K44.grow;by_cases d:x.1∈S.1
 ·rw[if_pos d];exact#v[h.n,Nat.le_succ_of_le h.l,h.i]
 ·rw[if_neg d];refine#v[?_,by have:=h.l;simp;lia,λc f=>?_]
  ·show(S.1++[x.1]).Nodup;rw[U8];exact#v[h.n,by simp,λa j b k e=>d<|by rw[<- M7.mp k,<- e];exact j]
  ·rcases N1.mp f with g | g
   ·exact h.i c g
   ·exact#v[x,hx,(M7.mp g).symm]
def Pe{a0 a4}{S}(f:-S.1<=1000){x}:yB %[(a0),bY true S.1 S.2,.str x.1,.int x.2.1,(a4)|0]\(.nx %[(a0),bY true (grow S x).1 (grow S x).2,.str x.1,.int x.2.1,(a4)|0]):=by
 have d:cb (-(S.1.map KA.str))=true:=jb (by rw[L1];lia);have a:gv [.int<|gD S x.1,.int x.2.1]\(.int<|big x.2.1<|gD S x.1):=rfl;have b:fZ (bY true S.1 S.2)\(S.1.map KA.str,S.1.map λn=>D.int<|S.2 n):=rfl;have e:=Df (S:=S) (x:=x);show _\(cq.nx [a0,some<|.dK true ((grow S x).1.map KA.str)<|(grow S x).1.map λn=>D.int<|(grow S x).2 n,_,_,_]);generalize S.1.map KA.str=ks at *;simp[yB,De (o:=true) (S:=S) (c:=x.1),a,b,d,e]
theorem YY{A}{a0}:∀{L:List Lk}{S}{m}{o2 o3 o4},m+-L<=1000->(∀ x∈L,x∈A)->eV A m S ->
  dL λ(r2 r3 r4:Option D)=>j4 (yC ((2,3)&&&4) yB (L.map KD) [a0,some<|bY true S.1 S.2,o2,o3,o4]\(.nx [a0,some<|bY true (L.foldl grow S).1 (L.foldl grow S).2,r2,r3,r4]))<|eV A (m+-L)<|L.foldl grow S
 | [],S,m,o2,o3,o4,_,_,h=>#v[o2,o3,o4,rfl,h]
 | x::L,S,m,o2,o3,o4,b,a,h=>by
  rw[M1] at b;let[r2,r3,r4,e2,c]:=YY (L:=L) ∅ (λy d=>a y<|by simp[d]) (h.grow<|a x<|by simp);refine#v[r2,r3,r4,?_,by rw[M1,show m+(-L+1)=m+1+-L by lia];exact c];have e:((2,3)&&&4) (KD x) [a0,some<|bY true S.1 S.2,o2,o3,o4]=some %[(a0),bY true S.1 S.2,.str x.1,.int x.2.1,.str x.2.2|0]:=rfl;rw[L5,j7,e,L4,Pe<|by have:=h.l;lia,L4,qW,e2,U9]
def Dg(o)(p):jd (jH o p) (.int 5)=‹p.L.map KD›:=rfl
def i7(o)(p):jd (jH o p) (.int 1)=‹p.C.map Vn›:=rfl
def i8(o)(p):jd (jH o p) (.int 2)=‹p.P.map yW›:=rfl
def gr(p:Pl):Gw:=p.L.foldl grow ([],λ_=>0)
def pB{p}(h:cF p):eV p.L 2 (gr p):=by
 let[_,_,_,_,g]:=YY (a0:=none) (L:=p.L) (S:=([],λ_=>0)) (m:=0) (o2:=none) (o3:=none) (o4:=none) (by have:=h.l2;lia) (λx hx=>hx) #v[List.nodup_nil,U4 _,λc a=>(nomatch a)];exact#v[g.n,by have:=g.l;have:=h.l2;unfold gr;lia,g.i]
noncomputable abbrev WN:=List Nat
def gd(o:Bool)(N:List WN)(f:WN->D):D:=.dK o (N.map KA.str)<|N.map f
theorem tT(f)(c:WN):∀ N:List WN,Y6 (N.map KA.str) (N.map f) (.str c)=if c∈N then some (f c) else none
 | []=>rfl
 | n::N=>by
  rw[L5,L5,Y7];by_cases h:n=c
  ·subst h;simp
  ·rw[if_neg<|λz=>h<|KA.str.inj z,tT f c N];by_cases q:c∈N
   ·rw[if_pos q,if_pos<|L6 _ q]
   ·rw[if_neg q,if_neg λz=>(M4.mp z).elim (λz=>h z.symm) q]
def KN{o}{N}{f}(h:c∈N):jX (gd o N f) (.str c)\(f c):=by
 show Y6 _ _ _=_;rw[tT,if_pos h]
def tU{o neg}{N}{f}  : Ko neg (.str c) (gd o N f)\(.bl<|neg != decide (c∈N)):=by
 show some (D.bl<|neg != (Y6 _ _ _).isSome)=_;rw[tT];by_cases h:c∈N<;>simp[h]
theorem Dh(f)(c:WN)(v):∀ N:List WN,h5 (N.map KA.str) (N.map f) (.str c) v=N.map λn=>if n=c then v else f n
 | []=>rfl
 | n::N=>by
  rw[L5,L5,Qo,Dh f c v N,L5];by_cases h:n=c
  ·simp[h]
  ·rw[if_neg h,if_neg<|λz=>h<|KA.str.inj z]
def qo(l:List WN)(c:WN):List WN:=if c∈l then l else l++[c]
def cA{l}{c d}:d∈qo l c↔d∈l\/d=c:=by
 unfold qo;by_cases h:c∈l
 ·rw[if_pos h];exact#v[.inl,λz=>z.elim id λz=>z▸h]
 ·rw[if_neg h];simp
def Vy(l)(c):-(qo l c)<=-l+1:=by unfold qo;split<;>simp
def Ph(f)(c:WN)(v)(N):qp (N.map KA.str) (N.map f) (.str c) v=((qo N c).map KA.str,(qo N c).map λn=>if n=c then v else f n):=by
 have a:(KA.str c∈N.map KA.str)↔c∈N:=by simp
 unfold qp qo;by_cases h:c∈N
 ·rw[if_pos h,if_pos<|a.mpr h,Dh]
 ·rw[if_neg h,if_neg λz=>h<|a.mp z,N4,N4];refine congrArg (Prod.mk _) ?_;rw[List.map_congr_left (g:=λn=>if n=c then v else f n) λn b=>(if_neg<|show ¬ n=c from λz=>h<|by rw[<- z];exact b).symm];simp
structure Sy where
 al:WN->Bool
 fu:WN->Bool
 sv:List WN
 rp:List WN
def dv(y:Sy)(c:WN):Bool:=y.al c&&not (decide (c∈y.sv))
def nd(y:Sy):Rl->Bool
 | .two kw x=>if kw=h9 then dv y x else if kw=yZ then y.al x&&not (decide (x∈y.rp)) else if kw=uO then not (y.fu x) else false
 | .many ws=>ws.any<|dv y
 | .lend _ _ _=>false
def fl(y:Sy):Rl->Sy
 | .two kw x=>if kw=uO then{y with fu:=λq=>if q=x then true else y.fu q} else{y with sv:=qo y.sv x,rp:=if kw=yZ then qo y.rp x else y.rp}
 | .many ws=>{y with sv:=ws.foldl qo y.sv}
 | .lend _ _ _=>y
def FN:List Str:=["claims","pots","guards","greatest","runs","alive","full","served","repaid"]
abbrev I9(o:Bool)(a0 a1 a2 a3 a4 a5 a6 a7 a8:D):D:=.ins o 0 FN [a0,a1,a2,a3,a4,a5,a6,a7,a8]
noncomputable abbrev nC(p:Pl):List WN:=p.C.map (·.1)
noncomputable abbrev nP(p:Pl):List WN:=p.P.map (·.1)
abbrev bd(o:Bool)(N:List WN)(f:WN->Bool):D:=gd o N λn=>.bl<|f n
abbrev td(o:Bool)(N:List WN):D:=gd o N λ_=>.bl true
def yj(o:Bool)(p:Pl)(R:List Qt)(y:Sy):D:=I9 o (.lst o<|!(nC p)) (.lst o<|!(nP p)) (.lst false<|p.G.map VC) (bY o (gr p).1 (gr p).2) (.tup<|R.map yW) (bd o (nC p) y.al) (bd o (nP p) y.fu) (td o y.sv)<|td o y.rp
def vP(N:List WN)(f:WN->Bool):frzs (N.map λn=>D.bl<|f n)=true:=yd λd hd=>by let[x,_,rfl]:=M5.mp hd;rfl
def Pj(o)(p)(R)(y):fz (yj o p R y)=yj false p R y:=by
 show D.ins false 0 FN [.lst false<|bV<|!(nC p),.lst false<|bV<|!(nP p),.lst false<|bV<|p.G.map VC,.dK false _<|bV<|(gr p).1.map λn=>D.int<|(gr p).2 n,.tup<|bV<|R.map yW,.dK false _<|bV<|(nC p).map λn=>D.bl<|y.al n,.dK false _<|bV<|(nP p).map λn=>D.bl<|y.fu n,.dK false _<|bV<|y.sv.map λ_=>D.bl true,.dK false _<|bV<|y.rp.map λ_=>D.bl true]=_;rw[yg<|nC p,yg<|nP p,je _<|Yo p.G,je _<|Vp (gr p).1 (gr p).2,je _<|jY R,je _<|vP (nC p) y.al,je _<|vP (nP p) y.fu,je _<|vP y.sv λ_=>true,je _<|vP y.rp λ_=>true];rfl
def Pk:Jh FN [a0,a1,a2,a3,a4,a5,a6,a7,a8] "claims" = some a0:=rfl
def fy:Jh FN [a0,a1,a2,a3,a4,a5,a6,a7,a8] "pots" = some a1:=rfl
def wb:Jh FN [a0,a1,a2,a3,a4,a5,a6,a7,a8] "guards" = some a2:=rfl
def m8:Jh FN [a0,a1,a2,a3,a4,a5,a6,a7,a8] "greatest" = some a3:=rfl
def Di:k8 0 "full" vW (I9 true a0 a1 a2 a3 a4 a5 a6 a7 a8)\(a6,λz=>I9 true a0 a1 a2 a3 a4 a5 z a7 a8):=rfl
def Pn:k8 0 "served" vW (I9 true a0 a1 a2 a3 a4 a5 a6 a7 a8)\(a7,λz=>I9 true a0 a1 a2 a3 a4 a5 a6 z a8):=rfl
def Po:k8 0 "repaid" vW (I9 true a0 a1 a2 a3 a4 a5 a6 a7 a8)\(a8,λz=>I9 true a0 a1 a2 a3 a4 a5 a6 a7 z):=rfl
def pD{ρ}{i}{L}{pk}{t}{N}{f}{a}{b}(h0:pV i ρ\t)(c:L t\(gd true N f,a))(d:pk ρ\(.str w))(e:-N<=1000):
  v7 i L pk (pC<|.bl b) ρ\(.nx<|ρ.set i<|some<|a<|gd true (qo N w) λn=>if n=w then .bl b else f n):=by
 unfold v7;rw[show(pC<|D.bl b) ρ\(.bl b) from rfl,L4,h0,L4,c,L4];show((pk ρ).bind λq=>_)=_;rw[d,L4];show(bif cb (-(N.map KA.str))&&(true||_) then some (cq.nx<|ρ.set i<|some<|a<|.dK true (qp (N.map KA.str) (N.map f) (.str w)<|.bl b).1 (qp (N.map KA.str) (N.map f) (.str w)<|.bl b).2) else none)=_;rw[jb<|by rw[L1];lia,Ph];rfl
def Pp{m}{mn}{pa}{ρ}{i}{ds}(h0:pV i ρ\(I9 true a0 a1 a2 a3 a4 a5 a6 a7 a8))(a:pa ρ\ds)(b:frzs ds=true)
  (hn:Jh FN [a0,a1,a2,a3,a4,a5,a6,a7,a8] mn=none):y6 m i 0 mn pa ρ=(m<|I9 true a0 a1 a2 a3 a4 a5 a6 a7 a8::ds).bind λr=>some (r.1,ρ.set i<|some r.2):=by
 unfold y6;rw[a,L4,h0,L4];show(bif true&&(frzs ds&&(Jh FN [a0,a1,a2,a3,a4,a5,a6,a7,a8] mn).isNone) then _ else _)=_;rw[hn,b];rfl
def Q2{p}{R}{y}{m}{mn}{po}{pa}{ρ}{ds}{o}{r}(h0:po ρ\(yj o p R y))(b:pa ρ\ds)
  (hn:∀ a0 a1 a2 a3 a4 a5 a6 a7 a8:D,Jh FN [a0,a1,a2,a3,a4,a5,a6,a7,a8] mn=none) (c:m (yj false p R y::bV ds)\r) (d:kJ r=true):yf m 0 mn po pa ρ\r:=by
 unfold yf;rw[h0,L4];have e3:bV (yj o p R y::ds)=yj false p R y::bV ds:=by rw[JG,Pj]
 have a:∃ a0 a1 a2 a3 a4 a5 a6 a7 a8,yj o p R y=.ins o 0 FN [a0,a1,a2,a3,a4,a5,a6,a7,a8]:=#v[_,_,_,_,_,_,_,_,_,rfl];let[a0,a1,a2,a3,a4,a5,a6,a7,a8,a]:=a;rw[a] at e3 ⊢;show(bif true&&(Jh FN [a0,a1,a2,a3,a4,a5,a6,a7,a8] mn).isNone then _ else none)=_;rw[b,L4,e3,c,L4,hn];simp[d]
def Pq:Jq 0 "greatest" (yj o p R y)\(bY o (gr p).1 (gr p).2):=rfl
def tV:Jq 0 "alive" (yj o p R y)\(bd o (nC p) y.al):=rfl
def Dj:Jq 0 "full" (yj o p R y)\(bd o (nP p) y.fu):=rfl
def Dk:Jq 0 "repaid" (yj o p R y)\(td o y.rp):=rfl
def Pr:Jq 0 "served" (yj o p R y)\(td o y.sv):=rfl
def Yk{po pa}{ρ}{o}(a:c∈nC p)(h0:po ρ\(yj o p R y))(h1:pa ρ\(.str c)):yf jf 0 "is_missed" po #[pa] ρ\(.bl<|dv y c):=
 Q2 h0 (ds:=[.str c]) (by simp[h1]) (λ_ _ _ _ _ _ _ _ _=>rfl) ((by
   unfold dv;cases h:y.al c<;>simp[jf,jK,vH,tV (p:=p) (R:=R) (y:=y) (o:=false),Pr (p:=p) (R:=R) (y:=y) (o:=false),KN (o:=false) (f:=λn=>D.bl<|y.al n) a,tU (o:=false) (neg:=true) (N:=y.sv) (f:=λ_=>D.bl true) (c:=c),h])) rfl
theorem Dl{o}:∀{ws:List WN}{o0},(∀ w∈ws,w∈nC p)->jE (jc [] 0) qT (yf jf 0 "is_missed" (!1) #[!0]) (!ws) [o0,some<|yj o p R y]\(ws.map λw=>D.bl<|dv y w)
 | [],_,_=>rfl
 | w::ws,o0,h=>by
  have a:jc [] 0 (.str w) [o0,some<|yj o p R y]=some %[.str w,yj o p R y|0]:=rfl;rw[L5,jM,a,L4,Yk (po:=pV 1) (pa:=pV 0) (ρ:=%[.str w,yj o p R y|0]) (h w L7) rfl rfl,L4,Dl (o:=o) (o0:=some<|.str w) λw b=>h w<|L6 _ b];rfl
def Ps(l:List WN)(f):Y3 (l.map λw=>D.bl<|f w)\(l.map f):=by
 induction l with
 | nil=>rfl
 | cons a l b=>rw[L5,Y3,b];rfl
def Pt(d:xc (nC p) (nP p) r):jq [yj false p R y,yh r]\(.bl<|nd y r):=by
 cases r with
 | two kw x=>
  let[_,_,_,g]:=d;rcases g with⟨rfl | rfl,hx⟩ | ⟨rfl,hx⟩ | rfl | rfl
  ·have m:=Yk (po:=pV 0) (pa:=1|||1) (ρ:=%[yj false p R y,yh<|.two h9 x,.str h9|0]) hx rfl rfl;unfold yh at *;simp[jq,jK,jD,m,xp,nd,-yf]
  ·have i:=KN (o:=false) (f:=λn=>D.bl<|y.al n) hx;have j:=Dk (p:=p) (R:=R) (y:=y) (o:=false);unfold yh;unfold bd td at *;cases h:y.al x<;>simp[jq,jK,jD,xp,nd,tV (p:=p) (R:=R) (y:=y) (o:=false),j,i,tU (o:=false) (neg:=true) (N:=y.rp) (f:=λ_=>D.bl true) (c:=x),h]
  ·have k:=KN (o:=false) (f:=λn=>D.bl<|y.fu n) hx;unfold yh;cases h:y.fu x<;>simp[jq,jK,jD,xp,nd,Dj (p:=p) (R:=R) (y:=y) (o:=false),k,h]
  ·unfold yh;simp[jq,jK,jD,xp,nd]
  ·unfold yh;simp[jq,jK,jD,xp,nd]
 | many a=>
  have e:=Dl (R:=R) (y:=y) (o:=false) (o0:=none) d.2.2;have l:=Ps a<|dv y;have q:cb (-(!a))=true:=jb (by rw[L1];have:=d.1;lia);have s:=jn a;rw[show yh (.many a)=.tup [.str Jp,.tup<|!a] from rfl];unfold nd;generalize yj false p R y=I,(!a)=WW at *;generalize(a.map λw=>D.bl<|dv y w)=BB at *;have t:jE (jc [] 0) qT (yf jf 0 "is_missed" (!1) #[!0]) WW (jv %[_,0|0] %[I,D.tup [D.str Jp,D.tup WW],D.str Jp|0])\BB:=e;have u:ou [.lst true BB]\(.bl<|a.any<|dv y):=by
   show(Y3 BB).bind (λns=>some<|D.bl<|ns.any λb=>b)=_;rw[l];simp[List.any_map,Function.comp_def]
  simp[jq,jK,jD,xp,t,u,q,s,List.any_map,Function.comp_def,-yf]
 | lend kw x v=>
  let[_,_,_,rfl]:=d;unfold yh;simp[jq,jK,jD,xp,nd]
def Pu(w)(f:WN->Bool):(λn=>if n=w then D.bl true else D.bl (f n))=λn=>D.bl (if n=w then true else f n):=by
 funext n;split<;>rfl
def Dm(w):(λn:WN=>if n=w then D.bl true else D.bl true)=λ_=>D.bl true:=by
 funext n;split<;>rfl
def tW{ρ}{i}{pk}(h0:pV i ρ\(yj true p R y))(a:pk ρ\(.str c))(b:-y.sv<=1000):
  v7 i (k8 0 "served" vW) pk (pC<|.bl true) ρ\(.nx<|ρ.set i<|some<|yj true p R {y with sv:=qo y.sv c}):=by
 rw[pD h0 (Pn ..) a b,Dm];rfl
def Pv{ρ}{i}{pk}(h0:pV i ρ\(yj true p R y))(a:pk ρ\(.str c))(b:-y.rp<=1000):
  v7 i (k8 0 "repaid" vW) pk (pC<|.bl true) ρ\(.nx<|ρ.set i<|some<|yj true p R {y with rp:=qo y.rp c}):=by
 rw[pD h0 (Po ..) a b,Dm];rfl
def Pw{ρ}{i}{pk}(h0:pV i ρ\(yj true p R y))(a:pk ρ\(.str c))(b:c∈nP p)(d:-p.P<=6):
  v7 i (k8 0 "full" vW) pk (pC<|.bl true) ρ\(.nx<|ρ.set i<|some<|yj true p R {y with fu:=λq=>if q=c then true else y.fu q}):=by
 rw[pD h0 (Di ..) a<|by rw[L1];lia,Pu,show qo (nP p) c=nP p from if_pos b];rfl
theorem wk{a1 a2}:∀{ws:List WN}{y}{o3},-y.sv+-ws<=1000 ->
  ∃ o3',yC (jc [0] 3) vm (!ws) [some<|yj true p R y,a1,a2,o3]\(.nx [some<|yj true p R {y with sv:=ws.foldl qo y.sv},a1,a2,o3'])
 | [],y,o3,_=>#v[o3,rfl]
 | w::ws,y,o3,h=>by
  rw[M1] at h;have c:=Vy y.sv w;let[o3',e]:=wk (ws:=ws) (y:={y with sv:=qo y.sv w}) (by show(qo y.sv w).length+_<=_;lia);have a:jc [0] 3 (.str w) [some<|yj true p R y,a1,a2,o3]=some %[yj true p R y,(a1),(a2),.str w|0]:=rfl;have b:vm %[yj true p R y,(a1),(a2),.str w|0]\(.nx %[yj true p R {y with sv:=qo y.sv w},(a1),(a2),.str w|0]):=tW rfl rfl ∅;exact#v[o3',by rw[L5,j7,a,L4,b,L4,qW,e];rfl]
def Pz(ws:List WN):∀ l:List WN,-(ws.foldl qo l)<=-l+-ws:=by
 induction ws with
 | nil=>intro l;simp
 | cons w ws a=>
  intro l;have:=a<|qo l w;have:=Vy l w;rw[U9,M1]
  lia
def mn(a b:Int):Int:=if b<a then b else a
def pE(p:Pl)(y:Sy)(q:Qt):Qt:=(q.1,if dv y q.1 then mn (q.2+1) ((gr p).2 q.1) else 0)
def ia(G:List Gd)(y:Sy):List WN:=(G.filter λg=>dv y g.2).map (·.1)
def ib(p:Pl)(R:List Qt)(y:Sy):List D:=(R.map<|pE p y).map yW
def gY(p:Pl)(y:Sy):List D:=(nC p).map λn=>.bl<|y.al n&&not (decide (n∈y.rp))
def gZ(p:Pl)(y:Sy):List D:=(nP p).map λn=>.bl<|y.fu n&&not (decide (n∈ia p.G y))
def ob(p:Pl)(R:List Qt)(y:Sy):D:=.tup [.tup<|ib p R y,.tup<|gY p y,.tup<|gZ p y]
section
variable {p:Pl}{R:List Qt}{y:Sy}{c:WN}{o:Bool}
def PD(a:c∈nC p)(b:c∈(gr p).1){d}:jt [yj false p R y,.str c,.int d]\(.int<|if dv y c then mn (d+1) ((gr p).2 c) else 0):=by
 have e:zN [.int<|d+1,.int<|(gr p).2 c]\(.int<|mn (d+1)<|(gr p).2 c):=rfl;cases h:dv y c<;>simp[jt,jK,vv,Yk (po:=pV 0) (pa:=pV 1) (ρ:=%[yj false p R y,.str c,.int d|0]) a rfl rfl,Pq (p:=p) (R:=R) (y:=y) (o:=false),yE (o:=false) (f:=(gr p).2) b,e,h,-yf,-J2]
theorem Qn:∀{G:List Gd}{o0 o1},(∀ g∈G,g.2∈nC p)->jE (0&&&1) (ji<|yf jf 0 "is_missed" (!2) #[!1]) (pF !0) (G.map VC) [o0,o1,some<|yj o p R y]\(!(ia G y))
 | [],_,_,_=>rfl
 | g::G,o0,o1,h=>by
  have a:(0&&&1) (VC g) [o0,o1,some<|yj o p R y]=some %[.str g.1,.str g.2,yj o p R y|0]:=rfl;have q:ji (yf jf 0 "is_missed" (!2) #[!1]) %[.str g.1,.str g.2,yj o p R y|0]\(dv y g.2):=by
   rw[ji,Yk (po:=pV 2) (pa:=pV 1) (ρ:=%[.str g.1,.str g.2,yj o p R y|0]) (h g L7) rfl rfl];rfl
  rw[L5,jM,a,L4,q,L4,Qn (o0:=some<|.str g.1) (o1:=some<|.str g.2) λg a=>h g<|L6 _ a];unfold ia;cases h:dv y g.2<;>simp[h]
theorem xm:∀{S:List Qt}{o0 o1},(∀ q∈S,q.1∈nC p/\q.1∈(gr p).1)->jE (0&&&1) qT (yk #[pF !0,yf jt 0 "days_behind" (!2) #[!0,!1]]) (S.map yW) [o0,o1,some<|yj o p R y]\(ib p S y)
 | [],_,_,_=>rfl
 | q::S,o0,o1,h=>by
  have e:=xm (o0:=some<|.str q.1) (o1:=some<|.int q.2) λg a=>h g<|L6 _ a;have a:(0&&&1) (yW q) [o0,o1,some<|yj o p R y]=some %[.str q.1,.int q.2,yj o p R y|0]:=rfl;have m:yf jt 0 "days_behind" (!2) #[!0,!1] %[.str q.1,.int q.2,yj o p R y|0]\(.int<|if dv y q.1 then mn (q.2+1) ((gr p).2 q.1) else 0):=
   Q2 rfl rfl (λ_ _ _ _ _ _ _ _ _=>rfl) (PD (h q L7).1 (h q L7).2) rfl
  rw[L5,jM,a,L4];unfold ib at *;rw[L5,L5];simp[m,e,pE,yW,jb,-yf]
theorem K0:∀{N:List WN}{o0},(∀ n∈N,n∈nC p)->jE (jc [] 0) qT (gm (p2 jX (v9 0 "alive" !1) !0)<|p2 (Ko true) !0<|v9 0 "repaid" !1) (!N) [o0,some<|yj o p R y]\(N.map λn=>D.bl<|y.al n&&not (decide (n∈y.rp)))
 | [],_,_=>rfl
 | n::N,o0,h=>by
  have a:jc [] 0 (.str n) [o0,some<|yj o p R y]=some %[.str n,yj o p R y|0]:=rfl;rw[L5,jM,a,L4,L5];cases q:y.al n<;>simp[tV (p:=p) (R:=R) (y:=y) (o:=o),Dk (p:=p) (R:=R) (y:=y) (o:=o),KN (o:=o) (f:=λn=>D.bl<|y.al n)<|h n L7,tU (o:=o) (neg:=true) (N:=y.rp) (f:=λ_=>D.bl true) (c:=n),K0 (o0:=some<|.str n) λg a=>h g<|L6 _ a,q]
theorem wy{T:List WN}{o'}:∀{N:List WN}{o0},(∀ n∈N,n∈nP p)->jE (jc [] 0) qT (gm (p2 jX (v9 0 "full" !1) !0)<|p2 (Vh true) !0<|pV 2) (!N) %[(o0),yj o p R y,.lst o'<|T.map D.str|0]\(N.map λn=>D.bl<|y.fu n&&not (decide (n∈T)))
 | [],_,_=>rfl
 | n::N,o0,h=>by
  have a:jc [] 0 (.str n) %[(o0),yj o p R y,.lst o'<|T.map D.str|0]=some %[.str n,yj o p R y,.lst o'<|T.map D.str|0]:=rfl;rw[L5,jM,a,L4,L5];cases q:y.fu n<;>simp[Dj (p:=p) (R:=R) (y:=y) (o:=o),KN (o:=o) (f:=λn=>D.bl<|y.fu n)<|h n L7,MT true o' n T,wy (o':=o') (T:=T) (o0:=some<|.str n) λg a=>h g<|L6 _ a,q]
def PH(h:cF p)(s:R.map (·.1)=(gr p).1):ju [yj false p R y]\(ob p R y):=by
 have a:=pB h;have u:-R<=2:=by
  have:=congrArg List.length s;rw[L1] at this;have:=a.l
  lia
 have Di:=h.g6;have c6:=h.c;have p6:=h.p6;have b:∀ q∈R,q.1∈nC p/\q.1∈(gr p).1:=λq v=>by
  have m:q.1∈(gr p).1:=by rw[<- s];exact M5.mpr #v[q,v,rfl]
  let[l,w,e]:=a.i q.1 m;exact#v[e▸(h.l l w).m,m]
 have x:=Qn (R:=R) (y:=y) (o:=false) (o0:=none) (o1:=none) λg z=>(h.g g z).2.2;have e2:=xm (R:=R) (y:=y) (o:=false) (o0:=none) (o1:=none) b;have e3:=K0 (R:=R) (y:=y) (o:=false) (N:=nC p) (o0:=none) λn d=>d;have t:=wy (R:=R) (y:=y) (o:=false) (o':=true) (T:=ia p.G y) (N:=nP p) (o0:=none) λn d=>d;have fy:frzs (ib p R y)=true:=jY _;have wb:frzs (gY p y)=true:=vP (nC p) λn=>y.al n&&not (decide (n∈y.rp));have m8:frzs (gZ p y)=true:=vP (nP p) λn=>y.fu n&&not (decide (n∈ia p.G y));have A:cb (-(p.G.map VC))=true:=jb (by rw[L1];lia);have l2:cb (-(R.map yW))=true:=jb (by rw[L1];lia);have B:cb (-(!(nC p)))=true:=jb (by rw[L1,L1];lia);have C:cb (-(!(nP p)))=true:=jb (by rw[L1,L1];lia);have E:=Yo p.G;have F:=jY R;have H:=jn<|nC p;have J:=jn<|nP p;have K:Jq 0 "claims" (yj false p R y)=‹!(nC p)›:=rfl;have L:Jq 0 "pots" (yj false p R y)=‹!(nP p)›:=rfl;have M:Jq 0 "guards" (yj false p R y)=‹p.G.map VC›:=rfl;have O:Jq 0 "runs" (yj false p R y)\(.tup<|R.map yW):=rfl;unfold ob;change jE _ _ _ _ _\(gY p y) at e3;change jE _ _ _ _ _\(gZ p y) at t;generalize yj false p R y=I at *;generalize(ia p.G y).map D.str=DR at *;generalize ib p R y=RR,gY p y=AA,gZ p y=FF,p.G.map VC=GG,R.map yW=QQ at *;generalize(nC p).map D.str=CC at *;generalize(nP p).map D.str=PP at *;have f:jE (0&&&1) (ji<|yf jf 0 "is_missed" (!2) #[!1]) (pF !0) GG (jv %[_,_,0|0] %[I,_,_,_,_|0])\DR:=x;have j:jE (0&&&1) qT (yk #[pF !0,yf jt 0 "days_behind" (!2) #[!0,!1]]) QQ (jv %[_,_,0|0] %[I,↑DR,_,_,_|0])\RR:=e2;have k:jE (jc [] 0) qT (gm (p2 jX (v9 0 "alive" !1) !0)<|p2 (Ko true) !0<|v9 0 "repaid" !1) CC (jv %[_,0|0] %[I,↑DR,↑RR,_,_|0])\AA:=e3;have r:jE (jc [] 0) qT (gm (p2 jX (v9 0 "full" !1) !0)<|p2 (Vh true) !0<|pV 2) PP (jv %[_,0,1|0] %[I,↑DR,↑RR,↑AA,_|0])\FF:=t;simp[ju,jK,yT,K,L,M,O,f,j,k,r,fy,wb,m8,A,l2,B,C,E,F,H,J,jb,-yf]
end
structure Ol where
 R:List Qt
 al:WN->Bool
 fu:WN->Bool
def yK(p:Pl)(o:Ol):D:=.tup [.tup<|o.R.map yW,.tup<|(nC p).map λn=>.bl<|o.al n,.tup<|(nP p).map λn=>.bl<|o.fu n]
def Do(p)(o):jd (yK p o) (.int 0)\(.tup<|o.R.map yW):=rfl
def Dp(p)(o):jd (yK p o) (.int 1)\(.tup<|(nC p).map λn=>.bl<|o.al n):=rfl
def PJ(o)(p):jd (jH o p) (.int 3)=‹!p.E›:=rfl
def PK(p):jd (jH false p) (.int 6)=‹p.G.map VC›:=rfl
def pG(p)(o):frz (yK p o)=true:=by
 show frz (D.tup [.tup<|o.R.map yW,.tup _,.tup _])=true;simp only[Mh,kO,BX,jY o.R,vP (nC p) o.al,vP (nP p) o.fu,Bool.and_self]
theorem Dq(g):∀ N:List WN,i5 (!N) (N.map g)\(N.map λn=>(KA.str n,g n))
 | []=>rfl
 | n::N=>by rw[L5,L5,Oa,Dq g N];rfl
def PM{N:List WN}(h:N.Nodup)(g):Jz (N.map λn=>(KA.str n,g n))=(N.map KA.str,N.map g):=by
 have:=J7 (N.map λn=>(KA.str n,g n)) [] [] (by rw[X4,U0];exact(by
   induction N with
   | nil=>exact List.nodup_nil
   | cons n N a=>
    let[b,c]:=List.nodup_cons.mp h;refine List.nodup_cons.mpr #v[λz=>?_,a c];let[m,d,e]:=M5.mp z;exact b<|KA.str.inj e▸d))
 unfold Jz;rw[this,X4,X4,U0,U0];rfl
def tX{o}{N}(h:N.Nodup)(a:-N<=1000)(f):xb [.lst o<|!N,.tup<|N.map λn=>.bl<|f n]\(bd true N f):=by
 have e:(N.map λn=>(KA.str n,D.bl<|f n)).map (·.2)=N.map λn=>D.bl (f n):=by rw[U0];rfl
 rw[CJ,Dq,L4,e,vP N f,jb<|by rw[L1];lia,PM h];rfl
theorem uK:∀{C:List Cl}{o0},jE (jc [] 0) qT (pF<|0|||0) (C.map Vn) [o0]\(!(C.map (·.1)))
 | [],_=>rfl
 | c::C,o0=>by
  have a:jc [] 0 (Vn c) [o0]\[some<|Vn c]:=rfl;have b:jd (Vn c) (.int 0)\(.str c.1):=rfl;rw[L5,jM,a,L4,L5,L5];simp[uK (C:=C) (o0:=some<|Vn c),b]
theorem Dr:∀{C:List Qt}{o0},jE (jc [] 0) qT (pF<|0|||0) (C.map yW) [o0]\(!(C.map (·.1)))
 | [],_=>rfl
 | c::C,o0=>by
  have a:jc [] 0 (yW c) [o0]\[some<|yW c]:=rfl;have b:jd (yW c) (.int 0)\(.str c.1):=rfl;rw[L5,jM,a,L4,L5,L5];simp[Dr (C:=C) (o0:=some<|yW c),b]
def Jb{f}{pv}{ns ns'}{l l'}{v}(a:pv (some (.ins true 0 ns l)::r)\v)(h:qF ns l f v=(ns',l'))(hn:-ns<=900):kD 0 0 f pv (some (.ins true 0 ns l)::r)\(.nx<|some (.ins true 0 ns' l')::r):=by
 rw[kD,a,L4];show(bif (0==0)&&decide (-ns<=900) then some (cq.nx<|some (D.ins true 0 (qF ns l f v).1 (qF ns l f v).2)::r) else none)=_;rw[h,X0 hn];rfl
noncomputable abbrev I6(a0 a1 a2 a3 a4 a5:D):D:=.ins true 0 ["claims","pots","guards","greatest","runs","alive"] [a0,a1,a2,a3,a4,a5]
def PN(w)(f:WN->Bool):(λn=>if n=w then D.bl false else D.bl (f n))=λn=>D.bl (if n=w then false else f n):=by
 funext n;split<;>rfl
def d6(al:WN->Bool)(K:List WN)(n:WN):Bool:=al n&&not (decide (n∈K))
theorem wQ{a0 a1 a2 a3 a4}{b1 b2 b3}{N}(a:-N<=1000):∀{K}{al:WN->Bool}{o4},(∀ k∈K,k∈N) ->
  ∃ o4',yC (jc [0] 4) yc (!K) [some<|I6 a0 a1 a2 a3 a4<|bd true N al,b1,b2,b3,o4]\(.nx [some<|I6 a0 a1 a2 a3 a4<|bd true N<|d6 al K,b1,b2,b3,o4'])
 | [],al,o4,_=>#v[o4,by rw[show d6 al []=al by funext n;simp[d6]];rfl]
 | k::K,al,o4,h=>by
  let[o4',e]:=wQ a λx hx=>h x<|L6 _ hx;have c:jc [0] 4 (.str k) [some<|I6 a0 a1 a2 a3 a4<|bd true N al,b1,b2,b3,o4]=some %[I6 a0 a1 a2 a3 a4<|bd true N al,(b1),(b2),(b3),.str k|0]:=rfl;have d:yc %[I6 a0 a1 a2 a3 a4<|bd true N al,(b1),(b2),(b3),.str k|0]\(.nx %[I6 a0 a1 a2 a3 a4<|bd true N λn=>if n=k then false else al n,(b1),(b2),(b3),.str k|0]):=by
   have:=pD (ρ:=%[I6 a0 a1 a2 a3 a4<|bd true N al,(b1),(b2),(b3),.str k|0]) (i:=0) (L:=k8 0 "alive" vW) (pk:=pV 4) (b:=false) rfl rfl rfl a;rw[PN,show qo N k=N from if_pos (h k L7)] at this;exact this
  refine#v[o4',?_];rw[L5,j7,c,L4,d,L4,qW,e];have:d6 (λn=>if n=k then false else al n) K=d6 al (k::K):=by
   funext n
   unfold d6;by_cases q:n=k<;>simp[q]
  rw[this]
def PR(h:cF p)  (u:∀ k∈K,k∈nC p):jU [.ins true 0 [] [],jH false p,yK p o,.lst false<|!K]\(.non,yj true p o.R #v[d6 o.al K,o.fu,[],[]]):=by
 have c6:=h.c;have p6:=h.p6;have w:cb (-(p.C.map Vn))=true:=jb (by rw[L1];lia);have y:cb (-(p.P.map yW))=true:=jb (by rw[L1];lia);have z:=YB p.C;have A:=jY p.P;have B:=Yo p.G;have E:=jY o.R;have F:=jn K;have H:=yg K;have I:yS [jH false p]\(bY true (gr p).1 (gr p).2):=by 
   let[J,M,O,e,_]:=YY (L:=p.L) (S:=([],λ_=>0)) (m:=0) (by have:=h.l2;lia) (λx hx=>hx) #v[List.nodup_nil,U4 _,λc Q=>(nomatch Q)];have T:yC ((2,3)&&&4) yB (p.L.map KD) %[jH false p,.dK true [] [],_,_,_|0]\(.nx %[jH false p,bY true (gr p).1 (gr p).2,(J),(M),(O)|0]):=e;have s:=Ys p.L;simp[yS,jK,JA,Dg false p,s,je _ s,T]
 have U:kJ (bY true (gr p).1 (gr p).2)=true:=by 
   have:jW ((gr p).1.map λn=>D.int<|(gr p).2 n)=true:=by rw[yw,List.all_map,List.all_eq_true];intro x _;rfl
   show(true&&jW _)=true;rw[this];rfl
 have V:=tX (o:=true) h.cN (by rw[L1];lia) o.al;have W:=tX (o:=true) h.pN (by rw[L1];lia) o.fu;have X:=uK (C:=p.C) (o0:=none);have e2:=Dr (C:=p.P) (o0:=none);have Y:=i7 false p;have Z:=i8 false p;have j6:=PK p;have k0:=Do p o;have k1:=Dp p o;have k2:jd (yK p o) (.int 2)\(.tup<|(nP p).map λn=>.bl<|o.fu n):=rfl;have g:=yb _<|vz p;let[i,eK]:=wQ (a0:=.lst true<|!(nC p)) (a1:=.lst true<|!(nP p)) (a2:=.lst false<|p.G.map VC) (a3:=bY true (gr p).1 (gr p).2) (a4:=.tup<|o.R.map yW) (b1:=some<|jH false p) (b2:=some<|yK p o) (b3:=‹!K›) (N:=nC p) (by rw[L1];lia) (K:=K) (al:=o.al) (o4:=none) u;show _\(D.non,D.ins true 0 FN [.lst true<|!(nC p),.lst true<|!(nP p),.lst false<|p.G.map VC,bY true (gr p).1 (gr p).2,.tup<|o.R.map yW,bd true (nC p)<|d6 o.al K,bd true (nP p) o.fu,.dK true [] [],.dK true [] []]);generalize bd true (nC p) (d6 o.al K)=aK,bd true (nC p) o.al=a5,bd true (nP p) o.fu=a6,bY true (gr p).1 (gr p).2=a3 at *;generalize((nC p).map λn=>D.bl<|o.al n)=B1 at *;generalize((nP p).map λn=>D.bl<|o.fu n)=B2 at *;generalize hCC:(!(nC p))=CC at *;generalize hPP:(!(nP p))=PP,jH false p=EP,yK p o=EO,p.G.map VC=GG,o.R.map yW=RR,p.C.map Vn=XC,p.P.map yW=XP,(!K)=KK at *;have j:jE (jc [] 0) qT (pF<|0|||0) XC [none]\CC:=X;have q:jE (jc [] 0) qT (pF<|0|||0) XP [none]\PP:=e2
 let r:Rh:=%[EP,EO,‹KK›,_|0]
 let b:Rh:=%[EP,EO,‹KK›,(i)|0]
 have a:r=%[EP,EO,‹KK›,_|0]:=rfl;have d:b=%[EP,EO,‹KK›,(i)|0]:=rfl;have t:∀ x:Option D,jv [none] (x::r)=[none]:=λ_=>rfl;have s0:=Jb (f:="claims") (pv:=yq (JT<|1|||1) (jc [] 0) qT (pF<|0|||0) [none]) (r:=r) (ns:=[]) (l:=[]) (ns':=["claims"]) (l':=[.lst true CC]) (v:=.lst true CC) (by rw[yq,t];rw[a];simp[Y,z,w,j]) rfl (by decide);have s1:=Jb (f:="pots") (pv:=yq (JT<|1|||2) (jc [] 0) qT (pF<|0|||0) [none]) (r:=r) (ns:=["claims"]) (l:=[.lst true CC]) (ns':=["claims","pots"]) (l':=[.lst true CC,.lst true PP]) (v:=.lst true PP) (by rw[yq,t];rw[a];simp[Z,A,y,q]) rfl (by decide);have s2:=Jb (f:="guards") (pv:=pF<|1|||6) (r:=r) (ns:=["claims","pots"]) (l:=[.lst true CC,.lst true PP]) (ns':=["claims","pots","guards"]) (l':=[.lst true CC,.lst true PP,.lst false GG]) (v:=.lst false GG) (by rw[a];simp[j6,B]) rfl (by decide);have s3:=Jb (f:="greatest") (pv:=jC yS #[!1]) (r:=r) (ns:=["claims","pots","guards"]) (l:=[.lst true CC,.lst true PP,.lst false GG]) (ns':=["claims","pots","guards","greatest"]) (l':=[.lst true CC,.lst true PP,.lst false GG,a3]) (v:=a3) (by rw[a];simp[I,U,g]) rfl (by decide);have s4:=Jb (f:="runs") (pv:=pF<|2|||0) (r:=r) (ns:=["claims","pots","guards","greatest"]) (l:=[.lst true CC,.lst true PP,.lst false GG,a3]) (ns':=["claims","pots","guards","greatest","runs"]) (l':=[.lst true CC,.lst true PP,.lst false GG,a3,.tup RR]) (v:=.tup RR) (by rw[a];simp[k0,E]) rfl (by decide);have s5:=Jb (f:="alive") (pv:=bW xb #[v9 0 "claims" !0,2|||1]) (r:=r) (ns:=["claims","pots","guards","greatest","runs"]) (l:=[.lst true CC,.lst true PP,.lst false GG,a3,.tup RR]) (ns':=["claims","pots","guards","greatest","runs","alive"]) (l':=[.lst true CC,.lst true PP,.lst false GG,a3,.tup RR,a5]) (v:=a5) (by rw[a];simp[k1,V,show Jh ["claims","pots","guards","greatest","runs"] [D.lst true CC,D.lst true PP,D.lst false GG,a3,D.tup RR] "claims" = ↑CC from rfl]) rfl (by decide);have s6:Jt (fw<|pF !3) (jc [0] 4) yc (some (I6 (.lst true CC) (.lst true PP) (.lst false GG) a3 (.tup RR) a5)::r)\(.nx<|some (I6 (.lst true CC) (.lst true PP) (.lst false GG) a3 (.tup RR) aK)::b):=by
  rw[a,d];simp[F,H,eK]
 have s7:=Jb (f:="full") (pv:=bW xb #[v9 0 "pots" !0,2|||2]) (r:=b) (ns:=["claims","pots","guards","greatest","runs","alive"]) (l:=[.lst true CC,.lst true PP,.lst false GG,a3,.tup RR,aK]) (ns':=["claims","pots","guards","greatest","runs","alive","full"]) (l':=[.lst true CC,.lst true PP,.lst false GG,a3,.tup RR,aK,a6]) (v:=a6) (by rw[d];simp[k2,W,show Jh ["claims","pots","guards","greatest","runs","alive"] [D.lst true CC,D.lst true PP,D.lst false GG,a3,D.tup RR,aK] "pots" = ↑PP from rfl]) rfl (by decide);have e0:jU [.ins true 0 [] [],EP,EO,.lst false KK]=(yU<|some (.ins true 0 [] [])::r).bind (Y4 0):=rfl;rw[e0];unfold yU;simp only[xY,s0,s1,s2,s3,s4,s5,s6,s7,Jb (f:="served") (pv:=pC<|.dK true [] []) (r:=b) (ns:=["claims","pots","guards","greatest","runs","alive","full"]) (l:=[.lst true CC,.lst true PP,.lst false GG,a3,.tup RR,aK,a6]) (ns':=["claims","pots","guards","greatest","runs","alive","full","served"]) (l':=[.lst true CC,.lst true PP,.lst false GG,a3,.tup RR,aK,a6,.dK true [] []]) (v:=.dK true [] []) rfl rfl<|by decide,Jb (f:="repaid") (pv:=pC<|.dK true [] []) (r:=b) (ns:=["claims","pots","guards","greatest","runs","alive","full","served"]) (l:=[.lst true CC,.lst true PP,.lst false GG,a3,.tup RR,aK,a6,.dK true [] []]) (ns':=FN) (l':=[.lst true CC,.lst true PP,.lst false GG,a3,.tup RR,aK,a6,.dK true [] [],.dK true [] []]) (v:=.dK true [] []) rfl rfl<|by decide,L4,HY];rfl
def c9(k c:Int)(d:D):D:=.tup [.int k,.int c,d]
def run(p:Pl)(R:List Qt)(kl:Int):List Rl->Nat->Sy->List D×Sy
 | [],_,y=>([],y)
 | r::rs,k,y=>bif nd y r then(c9 kl (k:Int) (ob p R y)::(run p R kl rs (k+1)<|fl y r).1,(run p R kl rs (k+1)<|fl y r).2) else run p R kl rs (k+1) y
def m9{p R kl r rs k y}:run p R kl (r::rs) k y=bif nd y r then(c9 kl (k:Int) (ob p R y)::(run p R kl rs (k+1)<|fl y r).1,(run p R kl rs (k+1)<|fl y r).2) else run p R kl rs (k+1) y:=rfl
def d7(y:Sy):List Rl->Nat->Option Nat
 | [],_=>none
 | r::rs,k=>bif nd y r then some k else d7 y rs (k+1)
def eY(p:Pl)(R:List Qt)(ten:Bool)(kl:Int)(rs:List Rl)(y:Sy):List D:=
 bif ten then [c9 kl (((d7 y rs 0).getD (-rs):Nat):Int)<|ob p R y] else(run p R kl rs 0 y).1++[c9 kl (-rs:Int)<|ob p R (run p R kl rs 0 y).2]
def Qi(N:List WN)(f:WN->Bool):jW (N.map λn=>D.bl<|f n)=true:=by rw[yw,List.all_map,List.all_eq_true];intro x _;rfl
def PU(N:List Qt):jW (N.map yW)=true:=by rw[yw,List.all_map,List.all_eq_true];intro x _;rfl
def Ds(p)(R)(y):kJ (ob p R y)=true:=by
 have a:jW (ib p R y)=true:=PU _;have b:jW (gY p y)=true:=Qi _ _;have c:jW (gZ p y)=true:=Qi _ _;unfold ob;simp[a,b,c]
def Dt(p)(R)(y):frz (ob p R y)=true:=by
 have a:frzs (ib p R y)=true:=jY _;have b:frzs (gY p y)=true:=vP (nC p) λn=>y.al n&&not (decide (n∈y.rp));have c:frzs (gZ p y)=true:=vP (nP p) λn=>y.fu n&&not (decide (n∈ia p.G y));unfold ob;simp[a,b,c]
theorem Du:∀{Q:List Qt}{o0},jE (jc [] 0) qT (pF<|0|||1) (Q.map yW) [o0]\((Q.map (·.2)).map D.int)
 | [],_=>rfl
 | c::C,o0=>by
  have a:jc [] 0 (yW c) [o0]\[some<|yW c]:=rfl;have b:jd (yW c) (.int 1)\(.int c.2):=rfl;rw[L5,jM,a,L4,L5,L5];simp[Du (Q:=C) (o0:=some<|yW c),b]
def PV(l):wu (l.map D.int)\l:=by
 induction l with
 | nil=>rfl
 | cons a l b=>simp[wu,b]
def ie(Q:List Qt):Int:=(Q.map (·.2)).sum
def wD{Q}(h:-Q<=1000):vk [.lst false<|Q.map yW]\(.int<|ie Q):=by
 have e:=Du (Q:=Q) (o0:=none);have hi:=PV (Q.map (·.2));have f:=jY Q;have l:cb (-(Q.map yW))=true:=jb (by rw[L1];lia);unfold ie;generalize Q.map yW=QQ at *;generalize b:(Q.map (·.2)).map D.int=NN at *;have a:jE (jc [] 0) qT (pF<|0|||1) QQ (jv [none] [‹QQ›])\NN:=e;simp[vk,jK,J6,a,f,l,hi]
def zh{r}(a:xc (nC p) (nP p) r){ρ}{po pa}{o}(h0:po ρ\(yj o p R y))(h1:pa ρ\(yh r)):yf jq 0 "needs" po #[pa] ρ\(.bl<|nd y r):=
 Q2 h0 (ds:=[yh r]) (by simp[h1]) (λ_ _ _ _ _ _ _ _ _=>rfl) (by rw[show bV [yh r]=[yh r] by rw[JG,yb _<|Vq r];rfl];exact Pt a) rfl
def Yw(h:cF p)(a:R.map (·.1)=(gr p).1){ρ}{po}{o}(h0:po ρ\(yj o p R y)):yf ju 0 "outline_behind" po pN ρ\(ob p R y):=
 Q2 h0 rfl (λ_ _ _ _ _ _ _ _ _=>rfl) (PH h a) (Ds p R y)
abbrev fr(a0:Option D)(x:Od)(a2:Option D)(kl:Int)(a4:Option D)(I:D)(S:List D)(o7 o8:Option D):Rh:=%[(a0),kC false x,(a2),.int kl,(a4),I,↑S,(o7),(o8)|0]
def Dv(o)(x):jd (kC o x) (.int 1)=‹x.2.1.map yW›:=rfl
def PX(o)(x):jd (kC o x) (.int 2)\(.lst o<|x.2.2.map yh):=rfl
def Dw{r}(a:xc (nC p) (nP p) r)(hn:nd y r=false){S}{k}:
  jJ (fr a0 x a2 kl a4 (yj true p R y) S (some<|.int k)<|some<|yh r)\(.nx<|fr a0 x a2 kl a4 (yj true p R y) S (some<|.int k)<|some<|yh r):=by
 have m:=zh a (ρ:=fr a0 x a2 kl a4 (yj true p R y) S (some<|.int k)<|some<|yh r) (po:=pV 5) (pa:=pV 8) rfl rfl;rw[hn] at m;simp[jJ,m,-yf]
def PY(h:cF p)(g:R.map (·.1)=(gr p).1)(hx:dz (nC p) (nP p) x)(o:ie x.2.1<10){r}(c:xc (nC p) (nP p) r)(hn:nd y r=true){S}(u:S.length<=900){k}(h1:-y.sv<=900)(h2:-y.rp<=900):
  jJ (fr a0 x a2 kl a4 (yj true p R y) S (some<|.int k)<|some<|yh r)\(.nx<|fr a0 x a2 kl a4 (yj true p R<|fl y r) (S++[c9 kl k<|ob p R y]) (some<|.int k)<|some<|yh r):=by
 have m:=zh c (ρ:=fr a0 x a2 kl a4 (yj true p R y) S (some<|.int k)<|some<|yh r) (po:=pV 5) (pa:=pV 8) rfl rfl;rw[hn] at m;have t:=wD (Q:=x.2.1) (by have:=hx.p;lia);have f:=jY x.2.1;have j:y6 jy 5 0 "fill" #[pF !8] (fr a0 x a2 kl a4 (yj true p R y) (S++[c9 kl k<|ob p R y]) (some<|.int k)<|some<|yh r)\(.non,fr a0 x a2 kl a4 (yj true p R<|fl y r) (S++[c9 kl k<|ob p R y]) (some<|.int k)<|some<|yh r):=by
  refine(Pp (m:=jy) (mn:="fill") (pa:=#[pF !8]) (ρ:=fr a0 x a2 kl a4 (yj true p R y) (S++[c9 kl k<|ob p R y]) (some<|.int k)<|some<|yh r) (i:=5) (ds:=[yh r]) (h0:=rfl) (by simp[Vq r]) (by simp[Vq r]) rfl).trans ?_;show(jy [yj true p R y,yh r]).bind _=_;rw[(show jy [yj true p R y,yh r]\(.non,yj true p R<|fl y r) from by 
    cases r with
    | two kw x=>
     let[_,_,_,l]:=c;rcases l with⟨rfl | rfl,hx⟩ | ⟨rfl,hx⟩ | rfl | rfl
     ·have s:=tW (ρ:=%[yj true p R y,yh<|.two h9 x,.str h9,_|0]) (i:=0) (pk:=1|||1) rfl rfl ∅;unfold yh at *;show _\(D.non,yj true p R {y with sv:=qo y.sv x});simp[jy,qw,yu,xp,s,Y4]
     ·have s:=tW (ρ:=%[yj true p R y,yh<|.two yZ x,.str yZ,_|0]) (i:=0) (pk:=1|||1) rfl rfl ∅;have t:=Pv (ρ:=%[yj true p R {y with sv:=qo y.sv x},yh<|.two yZ x,.str yZ,_|0]) (i:=0) (pk:=1|||1) rfl rfl (by show y.rp.length<=1000;lia);unfold yh at *;show _\(D.non,yj true p R { {y with sv:=qo y.sv x} with rp:=qo y.rp x });simp[jy,qw,yu,xp,s,t,Y4]
     ·have s:=Pw (ρ:=%[yj true p R y,yh<|.two uO x,.str uO,_|0]) (i:=0) (pk:=1|||1) rfl rfl hx h.p6;unfold yh at *;show _\(D.non,yj true p R {y with fu:=λq=>if q=x then true else y.fu q});simp[jy,qw,yu,xp,s,Y4]
     ·exact absurd hn (by simp[nd])
     ·exact absurd hn (by simp[nd])
    | many a=>
     have:=c.1;let[n,e]:=wk (p:=p) (R:=R) (a1:=some<|.tup [.str Jp,.tup<|!a]) (a2:=some<|.str Jp) (ws:=a) (y:=y) (o3:=none) ∅;rw[show yh (.many a)=.tup [.str Jp,.tup<|!a] from rfl];show _\(D.non,yj true p R {y with sv:=a.foldl qo y.sv});simp[jy,qw,yu,xp,e,jn a,yg a,Y4]
    | lend kw x v=>exact absurd hn<|by simp[nd])]
  rfl
 have b:cb S.length=true:=jb ∅;have d:¬ (10<=ie x.2.1):=by lia
 unfold fr c9 at *;simp[jJ,m,Yw h g (ρ:=fr a0 x a2 kl a4 (yj true p R y) S (some<|.int k)<|some<|yh r) (po:=pV 5) rfl,Dv false x,f,je _ f,t,d,b,j,jb,-yf,-y6]
def PZ(h:cF p)(d:R.map (·.1)=(gr p).1)(hx:dz (nC p) (nP p) x)(e:10<=ie x.2.1){r}(f:xc (nC p) (nP p) r)(hn:nd y r=true){S}(i:S.length<=900){k}:
  ∃ ρ',jJ (fr a0 x a2 kl a4 (yj true p R y) S (some<|.int k)<|some<|yh r)\(.rt (.lst true<|S++[c9 kl k<|ob p R y]) ρ'):=by
 have m:=zh f (ρ:=fr a0 x a2 kl a4 (yj true p R y) S (some<|.int k)<|some<|yh r) (po:=pV 5) (pa:=pV 8) rfl rfl;rw[hn] at m;have b:=Yw h d (ρ:=fr a0 x a2 kl a4 (yj true p R y) S (some<|.int k)<|some<|yh r) (po:=pV 5) rfl;have t:=wD (Q:=x.2.1) (by have:=hx.p;lia);have g:=Dv false x;have c:=jY x.2.1;have a:cb S.length=true:=jb ∅;unfold fr c9 at *;generalize yj true p R y=I,kC false x=X,yh r=Y at *;refine#v[%[(a0),X,(a2),.int kl,(a4),I,_,.int k,Y|0],?_];simp[jJ,m,b,g,c,je _ c,t,e,a,jb,-yf]
def P5{r}(b:xc (nC p) (nP p) r)(y):(fl y r).sv.length<=-y.sv+8/\(fl y r).rp.length<=-y.rp+8:=by
 cases r with
 | two kw x=>
  unfold fl;dsimp only;have:=Vy y.sv x;have:=Vy y.rp x;split
  ·exact#v[by show y.sv.length<=_;lia,by show y.rp.length<=_;lia]
  ·refine#v[by show(qo y.sv x).length<=_;lia,?_];show(if kw=yZ then qo y.rp x else y.rp).length<=_;split<;>lia
 | many a=>
  have:=Pz a y.sv;have:=b.1;exact#v[by show(a.foldl qo y.sv).length<=_;lia,by show y.rp.length<=_;lia]
 | lend kw x v=>exact#v[by show y.sv.length<=_;lia,by show y.rp.length<=_;lia]
def Dx(k:Nat)(d)(I)(S)(o7 o8):(7&&&8) (.tup [.int (k:Int),d]) (fr a0 x a2 kl a4 I S o7 o8)\(fr a0 x a2 kl a4 I S (some<|.int (k:Int))<|some d):=rfl
theorem QU(h:cF p)(b:R.map (·.1)=(gr p).1)(hx:dz (nC p) (nP p) x)(c:ie x.2.1<10):∀{rs}{k}{y}{S}{o7 o8},(∀ r∈rs,xc (nC p) (nP p) r)->S.length+-rs<=900->-y.sv+8* -rs<=900->-y.rp+8* -rs<=900 ->
  ∃ o7' o8',yC (7&&&8) jJ (jO k<|rs.map yh) (fr a0 x a2 kl a4 (yj true p R y) S o7 o8)\(.nx<|fr a0 x a2 kl a4 (yj true p R (run p R kl rs k y).2) (S++(run p R kl rs k y).1) o7' o8')
 | [],k,y,S,o7,o8,_,_,_,_=>#v[o7,o8,by rw[show S++(run p R kl [] k y).1=S from M9 _];rfl]
 | r::rs,k,y,S,o7,o8,d,g,i,j=>by
  have a:=d r L7;rw[M1] at g i j;rw[L5,jO,j7,Dx,L4];cases hn:nd y r with
  | false=>
   let[o7',o8',e]:=QU h b hx c (y:=y) (S:=S) (λq f=>d q<|L6 _ f) ∅ ∅ ∅;refine#v[o7',o8',?_];rw[Dw a hn,L4,qW,e,m9,hn];rfl
  | true=>
   have:=P5 a y;let[o7',o8',e]:=QU h b hx c (y:=fl y r) (S:=S++[c9 kl k<|ob p R y]) (λq f=>d q<|L6 _ f) (by simp;lia) ∅ ∅;refine#v[o7',o8',?_];rw[PY h b hx c a hn ∅ ∅ ∅,L4,qW,e,m9,hn,List.append_assoc];rfl
theorem K2(h:cF p)(b:R.map (·.1)=(gr p).1)(hx:dz (nC p) (nP p) x)(c:10<=ie x.2.1){S}(d:S.length<=900):∀{rs}{k}{o7 o8},(∀ r∈rs,xc (nC p) (nP p) r) ->
  (d7 y rs k=none/\∃ o7' o8',yC (7&&&8) jJ (jO k<|rs.map yh) (fr a0 x a2 kl a4 (yj true p R y) S o7 o8)\(.nx<|fr a0 x a2 kl a4 (yj true p R y) S o7' o8')) \/
  ∃ j ρ',d7 y rs k\j/\yC (7&&&8) jJ (jO k<|rs.map yh) (fr a0 x a2 kl a4 (yj true p R y) S o7 o8)\(.rt (.lst true<|S++[c9 kl (j:Int)<|ob p R y]) ρ')
 | [],k,o7,o8,_=>.inl #v[rfl,o7,o8,rfl]
 | r::rs,k,o7,o8,f=>by
  have a:=f r L7;rw[L5,jO,j7,Dx,L4,show d7 y (r::rs) k=bif nd y r then some k else d7 y rs (k+1) from rfl];cases hn:nd y r with
  | false=>
   rw[Dw a hn,L4,qW];exact K2 h b hx c d<|λq g=>f q<|L6 _ g
  | true=>
   let[ρ',e]:=PZ h b hx c a hn d;exact .inr #v[k,ρ',rfl,by rw[e];rfl]
structure m_(p:Pl)(o:Ol):Prop where
 r:o.R.map (·.1)=(gr p).1
def Qh{a b}(h1:jW a=true)(h2:jW b=true):jW (a++b)=true:=by
 rw[yw] at *;rw[List.all_append,h1,h2];rfl
def Dy{a b}(h1:frzs a=true)(h2:frzs b=true):frzs (a++b)=true:=by
 rw[Vu] at *;rw[List.all_append,h1,h2];rfl
def tY(p)(R)(y)(k c):kJ (c9 k c<|ob p R y)=true/\frz (c9 k c<|ob p R y)=true:=by
 unfold c9;simp[Ds,Dt]
theorem pH(p)(R)(kl):∀ rs k y,jW (run p R kl rs k y).1=true/\frzs (run p R kl rs k y).1=true/\(run p R kl rs k y).1.length<=-rs
 | [],_,_=>#v[rfl,rfl,M8 _]
 | r::rs,k,y=>by
  rw[m9];cases nd y r with
  | true=>
   have:=pH p R kl rs (k+1)<|fl y r;have q:=tY p R y kl k;simp only[cond_true,Kq,kO,this.1,this.2.1,q.1,q.2,Bool.and_self,M1,true_and]
   lia
  | false=>
   have:=pH p R kl rs (k+1) y;exact#v[this.1,this.2.1,by simp only[cond_false,M1];lia]
def Dz(p)(R)(ten)(kl)(rs)(y):jW (eY p R ten kl rs y)=true/\frzs (eY p R ten kl rs y)=true/\ -(eY p R ten kl rs y)<=-rs+1:=by
 unfold eY;cases ten with
 | true=>
  have q:=tY p R y kl (((d7 y rs 0).getD (-rs):Nat):Int);simp only[cond_true,Kq,kO,Mm,BX,q.1,q.2,Bool.and_self,M1,List.length_nil,true_and]
  lia
 | false=>
  have:=pH p R kl rs 0 y;have q:=tY p R (run p R kl rs 0 y).2 kl (-rs);refine#v[Qh this.1<|by simp[q.1],Dy this.2.1<|by simp[q.2],?_];simp only[cond_false,N3,M1,List.length_nil]
  lia
def ten(x:Od):Bool:=decide<|10<=ie x.2.1
section
variable {p:Pl}{o:Ol}{x:Od}{kl:Int}{K:List WN}
def QJ(h:cF p)(i:m_ p o)(hx:dz (nC p) (nP p) x)(v:∀ k∈K,k∈nC p):
  yR [jH false p,kC false x,yK p o,.int kl,.lst false<|!K]=↑(eY p o.R (ten x) kl x.2.2 #v[d6 o.al K,o.fu,[],[]]):=by
 have s:=vz p;have t:=pG p o;have u:=jn K;have en:VX [.lst false<|x.2.2.map yh]\(jO 0<|x.2.2.map yh):=by 
   show some (jO 0<|bV<|x.2.2.map yh)=_;rw[je _<|vZ x.2.2]
 have l:=vZ x.2.2;have m:=PX false x;have w:=hx.r;have c:((-(x.2.2.map yh):Nat):Int)=-x.2.2:=by rw[L1]
 have a:Vk jU 0 #[pF !0,pF !2,pF !4] %[jH false p,kC false x,yK p o,.int kl,‹!K›,_,_,_,_|0]\(yj true p o.R #v[d6 o.al K,o.fu,[],[]]):=by
  rw[Vk];have:#[pF !0,pF !2,pF !4] %[jH false p,kC false x,yK p o,.int kl,‹!K›,_,_,_,_|0]\[jH false p,yK p o,.lst false<|!K]:=by simp[s,t,u]
  rw[this,L4,PR (o:=o) h v];simp[s,t,u]
 have d:∀ S:List D,S.length<=900->cb S.length=true:=λS z=>jb ∅;cases ht:ten x with
 | false=>
  have n:ie x.2.1<10:=by have:=of_decide_eq_false ht;lia
  let[f,g,e]:=QU (a0:=some<|jH false p) (a2:=some<|yK p o) (a4:=‹!K›) (kl:=kl) h i.r hx n (k:=0) (y:=#v[d6 o.al K,o.fu,[],[]]) (S:=[]) (o7:=none) (o8:=none) hx.k (by simp;lia) (by simp;lia) (by simp;lia);have b:=Yw h i.r (ρ:=fr (some<|jH false p) x (some<|yK p o) kl (‹!K›) (yj true p o.R (run p o.R kl x.2.2 0 #v[d6 o.al K,o.fu,[],[]]).2) (run p o.R kl x.2.2 0 #v[d6 o.al K,o.fu,[],[]]).1 f g) (po:=pV 5) rfl;unfold eY c9;unfold fr at *;simp[yR,jK,qk,a,m,l,en,e,c,b,d _<|N6 (pH p o.R kl x.2.2 0 #v[d6 o.al K,o.fu,[],[]]).2.2 ∅,jb,-Vk,-yf]
 | true=>
  rcases K2 (a0:=some<|jH false p) (a2:=some<|yK p o) (a4:=‹!K›) (kl:=kl) h i.r hx (X2 ht) (S:=[]) (by simp) (o7:=none) (o8:=none) hx.k with⟨q,f,g,e⟩ | ⟨j,A,q,e⟩
  ·have b:=Yw h i.r (ρ:=fr (some<|jH false p) x (some<|yK p o) kl (‹!K›) (yj true p o.R #v[d6 o.al K,o.fu,[],[]]) [] f g) (po:=pV 5) rfl;unfold eY c9;unfold fr at *;rw[cond_true,q];simp[yR,jK,qk,a,m,l,en,e,c,b,jb,-Vk,-yf]
  ·unfold eY c9;unfold fr c9 at e;rw[cond_true,q];simp[yR,jK,qk,a,m,l,en,e,jb,-Vk,-yf]
end
def DB(h:cF p):∀ l∈p.L,l.1∈(gr p).1:=by
 have key:∀(L:List Lk) S,(∀ c∈S.1,c∈(L.foldl grow S).1)/\∀ l∈L,l.1∈(L.foldl grow S).1:=by
  intro L
  induction L with
  | nil=>intro S;exact#v[λc a=>a,λl b=>nomatch b]
  | cons x L d=>
   intro S;have k:=d<|grow S x;have m:∀ c,c∈S.1\/c=x.1->c∈(grow S x).1:=λc a=>by
    unfold grow;by_cases q:x.1∈S.1
    ·rw[if_pos q];rcases a with a | rfl
     ·exact a
     ·exact q
    ·rw[if_neg q];simpa using a
   refine#v[λc a=>k.1 c<|m c<|.inl a,λl b=>?_];rcases M4.mp b with rfl | b
   ·exact k.1 _<|m _<|.inr rfl
   ·exact k.2 l b
 exact(key p.L _).2
def cU(p:Pl)(o:Ol):List WN:=p.E.filter o.al
def fC(p:Pl)(o:Ol)(k:Nat):Sy:=#v[d6 o.al<|(cU p o).take k,o.fu,[],[]]
def QA(p:Pl)(o:Ol)(x:Od)(n:Nat):List D:=(List.range n).flatMap λ(k:Nat)=>eY p o.R (ten x) (k:Int) x.2.2<|fC p o k
theorem DF{b}{N}{al}:∀{E:List WN}{o0},(∀ n∈E,n∈N)->jE (jc [] 0) (ji<|p2 jX !1<|pV 0) (pF !0) (!E) [o0,some<|bd b N al]\(!(E.filter al))
 | [],_,_=>rfl
 | n::E,o0,h=>by
  have e:=DF (b:=b) (al:=al) (o0:=some<|.str n) λg a=>h g<|L6 _ a;have a:jc [] 0 (.str n) [o0,some<|bd b N al]=some %[.str n,bd b N al|0]:=rfl;have c:=KN (o:=b) (f:=λn=>D.bl<|al n)<|h n L7;rw[L5,jM,a,L4,List.filter_cons];unfold bd at *;cases q:al n with
  | true=>
   simp[c,e,q]
  | false=>
   simp[c,e,q]
theorem ue(p)(o)(x)(hx:-x.2.2<=5):∀ n,jW (QA p o x n)=true/\frzs (QA p o x n)=true/\ -(QA p o x n)<=6*n
 | 0=>#v[rfl,rfl,M8 _]
 | n+1=>by
  have i:=ue p o x hx n;have q:=Dz p o.R (ten x) n x.2.2<|fC p o n;have e:QA p o x (n+1)=QA p o x n++eY p o.R (ten x) n x.2.2 (fC p o n):=by
   unfold QA;rw[List.range_succ,List.flatMap_append];simp
  rw[e];exact#v[Qh i.1 q.1,Dy i.2.1 q.2.1,by rw[N3];lia]
def P6(p)(o)(x)(n):QA p o x (n+1)=QA p o x n++eY p o.R (ten x) (n:Int) x.2.2 (fC p o n):=by
 unfold QA;rw[List.range_succ,List.flatMap_append];simp
def uU(h:cF p)(M:m_ p o)  (hx:x∈p.X) (N:qE [jH false p,yK p o]\(.str nm)) (e2:yY [jH false p,.str nm]\(kC false x)):
  kG [jH false p,yK p o]=↑(QA p o x<|(cU p o).length+1):=by
 have d:=h.x x hx;have c6:=h.c;have O:=h.e;have dl:-(cU p o)<=6:=N6 (List.length_filter_le ..) O;have g:=vz p;have z:=yb _ g;have l:=pG p o;have B:=yb _ l;have m:=C' x;have P:cb (-(p.C.map Vn))=true:=jb (by rw[L1];lia);have Q:cb (-(!p.E))=true:=jb (by rw[L1];lia);have T:=YB p.C;have U:=jn p.E;have V:=uK (C:=p.C) (o0:=none);have W:=tX (o:=true) h.cN (by rw[L1];lia) o.al;have F:=DF (b:=true) (al:=o.al) (E:=p.E) (o0:=none) h.me;have Y:=i7 false p;have Z:=PJ false p;have k1:=Dp p o;have a:=JU (j:=(-(cU p o):Int)+1) ∅ ∅;have s:((-(!(cU p o)):Nat):Int)=(-(cU p o):Int):=by rw[L1]
 let[ρ',H,S,t,rfl,I]:=va (G:=jc [] 6) (f:=Vb) (xs:=Qf 0 ((-(cU p o):Int)+1).toNat) (λi ρ=>∃(S:List D) (t:Option D),ρ=%[jH false p,yK p o,kC false x,bd true (nC p) o.al,↑(!(cU p o)),↑S,(t)|0]/\S=QA p o x i) (by
  rintro i v ρ hv ⟨S,t,rfl,rfl⟩;let[rfl,hi]:=Vv hv;have u:=ub true (cU p o) none<|some<|0+i;have ct:vf (cU p o) none (some<|0+i)=(cU p o).take i:=by rw[MS _ ∅];congr 1;lia
  rw[ct] at u;have J:=QJ (o:=o) (x:=x) (kl:=i) (K:=(cU p o).take i) h M d λk hk=>h.me k (List.mem_filter.mp<|List.mem_of_mem_take hk).1;have q:=Dz p o.R (ten x) i x.2.2<|fC p o i;have qa:=ue p o x d.r i;have o5:=d.r;have zK:=yg<|(cU p o).take i;refine#v[_,%[jH false p,yK p o,kC false x,bd true (nC p) o.al,↑(!(cU p o)),↑(QA p o x<|i+1),.int<|0+i|0],rfl,.inl ?_,QA p o x<|i+1,_,rfl,rfl];rw[P6];have L:0+i=(i:Int):=by lia
  rw[L] at u;change yR _=↑(eY p o.R (ten x) i x.2.2<|fC p o i) at J;refine pA (e:=.lst true<|eY p o.R (ten x) i x.2.2<|fC p o i) ?_ (by show(bif frzs _ then _ else _)=_;rw[q.2.1];rfl) rfl ∅;generalize((cU p o).take i).map D.str=TK at *;simp[u,z,B,yb _ m,g,l,m,zK,J,q.1,L]) (ρ:=%[jH false p,yK p o,kC false x,bd true (nC p) o.al,↑(!(cU p o)),.lst true [],_|0]) #v[[],none,rfl,rfl]
 rw[qQ,show((-(cU p o):Int)+1).toNat=-(cU p o)+1 by lia] at I;rw[show((-(cU p o):Int)+1).toNat=-(cU p o)+1 by lia] at H a;subst I;change jE _ _ _ _ _\(!(cU p o)) at F;generalize jH false p=EP,yK p o=EO,kC false x=EX at *;generalize((nC p).map λn=>D.bl<|o.al n)=B1 at *;generalize bd true (nC p) o.al=A at *;generalize hDD:(!(cU p o))=DD at *;generalize hCC:(!(nC p))=CC,p.C.map Vn=XC,(!p.E)=XE at *;have w:jE (jc [] 0) qT (pF<|0|||0) XC (jv [none] %[EP,EO,EX,_,_,_,_|0])\CC:=V;have y:jE (jc [] 0) (ji<|p2 jX !1<|pV 0) (pF !0) XE (jv %[_,3|0] %[EP,EO,EX,A,_,_,_|0])\DD:=F;simp[kG,jK,Qx,g,l,z,B,N,e2,m,Y,T,P,w,k1,W,Z,U,Q,y,s,a,H,jb,-CJ]
noncomputable abbrev W2:=List Nat×Int
def e2(p:W2):D:=.tup [.str p.1,.int p.2]
noncomputable abbrev W3:=List Nat×Int×Int
def e3(p:W3):D:=.tup [.str p.1,.int p.2.1,.int p.2.2]
noncomputable abbrev WG:=List Nat×List Nat
def eG(p:WG):D:=.tup [.str p.1,.str p.2]
def Jx(l:List W2):bV (l.map e2)=l.map e2:=kr λd hd=>by let[p,_,rfl]:=M5.mp hd;rfl
def yz(l:List W2):frzs (l.map e2)=true:=yd λd hd=>by let[p,_,rfl]:=M5.mp hd;rfl
def DH(l:List W3):bV (l.map e3)=l.map e3:=kr λd hd=>by let[p,_,rfl]:=M5.mp hd;rfl
def uz(l:List W3):frzs (l.map e3)=true:=yd λd hd=>by let[p,_,rfl]:=M5.mp hd;rfl
def P7(l:List WG):bV (l.map eG)=l.map eG:=kr λd hd=>by let[p,_,rfl]:=M5.mp hd;rfl
def DI(l:List WG):frzs (l.map eG)=true:=yd λd hd=>by let[p,_,rfl]:=M5.mp hd;rfl
structure na(t:W3):Prop where
 w:Wd t.1
 s0:1<=t.2.1
 s1:t.2.1<=10 ^ 40
 d0:1<=t.2.2
 d1:t.2.2<=10 ^ 40
noncomputable abbrev Vj:List Nat:=[114,101,115,116]
noncomputable abbrev Qa:List Nat:=[112,97,121]
noncomputable abbrev yD:List Nat:=[114,101,112,97,121]
noncomputable abbrev kH:List Nat:=[102,105,108,108]
noncomputable abbrev Ki:List Nat:=[115,104,97,114,101]
noncomputable abbrev qd:List Nat:=[108,101,110,100]
noncomputable abbrev vO:List Nat:=[98,97,99,107]
inductive Ru where
 | one (k w:List Nat)
 | many (ws:W1)
 | lend (w:List Nat) (j:Int)
def dw:Ru->D
 | .one k w=>.tup [.str k,.str w]
 | .many ws=>.tup [.str Ki,.tup<|!ws]
 | .lend w j=>.tup [.str qd,.str w,.int j]
def Q9(r):frz (dw r)=true:=by
 cases r with
 | one k w=>rfl
 | lend w j=>rfl
 | many a=>have:=jn a;simp[dw,this]
def DJ(l:List Ru):frzs (l.map dw)=true:=yd λd hd=>by let[p,_,rfl]:=M5.mp hd;exact Q9 p
inductive cw (C P O:W1):Ru->Prop
 | rest {w:List Nat}:w∈C->cw C P O (.one Vj w)
 | pay {w:List Nat}:w∈C->cw C P O (.one Qa w)
 | repay {w:List Nat}:w∈C->cw C P O (.one yD w)
 | fill {w:List Nat}:w∈P->cw C P O (.one kH w)
 | back {w:List Nat}:w∈O->cw C P O (.one vO w)
 | lend {w:List Nat}{j:Int}:w∈O->cw C P O (.lend w j)
 | share {ws:W1}:ws.Nodup->(∀ w∈ws,w∈C)->-ws<=10->cw C P O (.many ws)
structure dD where
 nm:List Nat
 parts:List W2
 rules:List Ru
def vx(x:dD):D:=.tup [.str x.nm,.lst false<|x.parts.map e2,.lst false<|x.rules.map dw]
structure iL(C P O:W1)(x:dD):Prop where
 w:Wd x.nm
 parts:∀ p∈x.parts,p.1∈C/\1<=p.2/\p.2<=10
 parts2:-x.parts<=10
 rules:∀ r∈x.rules,cw C P O r
 rules2:-x.rules<=10
 last:∃ Z w,x.rules=Z++[.one Vj w]
def P8{l}(h:∀ d∈l,kJ d=true):jW l=true:=by rw[yw];exact List.all_eq_true.mpr h
def Vm(x):frz (vx x)=true:=by
 simp[vx,yz x.parts,DJ x.rules]
noncomputable abbrev nb:=List Nat×Int×List Nat
def eL(p:nb):D:=.tup [.str p.1,.int p.2.1,.str p.2.2]
def DK(l:List nb):bV (l.map eL)=l.map eL:=kr λd hd=>by let[p,_,rfl]:=M5.mp hd;rfl
def ut(l:List nb):frzs (l.map eL)=true:=yd λd hd=>by let[p,_,rfl]:=M5.mp hd;rfl
structure bZ where
 nm:List Nat
 told:List W3
 marks:List W2
 eats:List (List Nat)
 ords:List dD
 lks:List nb
 grds:List WG
 oth:List (List Nat)
noncomputable abbrev bZ.C(p:bZ):List (List Nat):=p.told.map (·.1)
noncomputable abbrev bZ.P(p:bZ):List (List Nat):=p.marks.map (·.1)
def y9(o:Bool)(p:bZ):D:=.tup [.str p.nm,.lst false<|p.told.map e3,.lst false<|p.marks.map e2,.lst false<|!p.eats,.lst false<|p.ords.map vx,.lst false<|p.lks.map eL,.lst false<|p.grds.map eG]
structure ce(p:bZ):Prop where
 nm:Wd p.nm
 told:∀ t∈p.told,na t
 toldn:p.C.Nodup
 told1:0< -p.told
 told2:-p.told<=10
 marks:∀ c∈p.marks,Wd c.1/\1<=c.2/\c.2<=10 ^ 40
 marksn:p.P.Nodup
 marks2:-p.marks<=10
 ords:∀ x∈p.ords,iL p.C p.P p.oth x
 ordn:(p.ords.map (·.nm)).Nodup
 grds:∀ g∈p.grds,g.1∈p.P/\g.2∈p.C
 grds2:-p.grds<=10
 otw:∀ w∈p.oth,Wd w
def wz(l:List dD):frzs (l.map vx)=true:=yd λd hd=>by let[p,_,rfl]:=M5.mp hd;exact Vm p
structure dH where
 S:List W2
 W:List W2
 R:List W2
 L:List W2
 z:Int
def jS(o:Bool)(b:dH):D:=.tup [.lst o<|b.S.map e2,.lst o<|b.W.map e2,.lst o<|b.R.map e2,.lst o<|b.L.map e2,.int b.z]
def In(l:List W2)(m:Int):Prop:=∀ p∈l,0<=p.2/\p.2<=m
def In.snoc{l}{m}(h:In l m){w}{v}(h1:0<=v)(h2:v<=m):In (l++[(w,v)]) m:=λp a=>by
 rcases N1.mp a with a | a
 ·exact h p a
 ·rw[M7.mp a];exact#v[h1,h2]
structure dE(p:bZ)(b:dH):Prop where
 S:b.S.map (·.1)=p.C
 W:b.W.map (·.1)=p.C
 R:b.R.map (·.1)=p.C
 L:b.L.map (·.1)=p.P
 s:In b.S (10 ^ 50)
 w:In b.W (10 ^ 50)
 r:In b.R (10 ^ 50)
 l:In b.L (10 ^ 50)
 lm:∀ w,fnOf b.L w<=fnOf p.marks w
noncomputable abbrev EN:=List Nat×List Nat
abbrev LN:=List<|EN×Int
def kL(r:EN×Int):List KA:=[.str r.1.1,.str r.1.2]
def vL(r:EN×Int):D:=.int r.2
def dA(o:Bool)(l:LN):D:=.dT o (l.map kL)<|l.map vL
def qx:LN->EN->Option Int
 | [],_=>none
 | r::l,k=>if r.1=k then some r.2 else qx l k
def f6(l:LN)(k:EN)(v:Int):LN:=l.map λr=>(r.1,if r.1=k then v else r.2)
def fD(l:LN)(k:EN)(v:Int):LN:=if k∈l.map (·.1) then f6 l k v else l++[(k,v)]
def P9{a b c d}:([KA.str a,KA.str b]=[KA.str c,KA.str d])=((a,b)=((c,d):EN)):=by simp
def ng(r)(k):(kL r=[KA.str k.1,KA.str k.2])=(r.1=k):=by
 obtain⟨⟨a,b⟩,n⟩:=r;let[c,d]:=k;exact P9
theorem Kx(k):∀ l:LN,um (l.map kL) (l.map vL) [.str k.1,.str k.2]=(qx l k).map D.int
 | []=>rfl
 | r::l=>by
  rw[L5,L5,oU,qx];by_cases h:r.1=k
  ·rw[if_pos h,if_pos<|by rw[ng];exact h];rfl
  ·rw[if_neg h,if_neg<|by rw[ng];exact h,Kx k l]
theorem DL(k)(v):∀ l:LN,iZ (l.map kL) (l.map vL) [.str k.1,.str k.2] (.int v)=(f6 l k v).map vL
 | []=>rfl
 | r::l=>by
  rw[L5,L5,oW,DL k v l];by_cases h:r.1=k
  ·rw[if_pos<|by rw[ng];exact h];simp[f6,h,vL]
  ·rw[if_neg<|by rw[ng];exact h];simp[f6,h,vL]
theorem tZ(k):∀ l:LN,([KA.str k.1,KA.str k.2]∈l.map kL)↔k∈l.map (·.1)
 | []=>by simp
 | r::l=>by
  rw[L5,L5,M4,M4,tZ k l];have:=ng r k;constructor
  ·rintro(h | h)
   ·exact .inl (this▸h.symm).symm
   ·exact .inr h
  ·rintro(h | h)
   ·exact .inl (this.symm▸h.symm:kL r=_).symm
   ·exact .inr h
def P_(l)(k)(v):(f6 l k v).map (·.1)=l.map (·.1):=by unfold f6;rw[U0];rfl
def Q_(l)(k)(v):(f6 l k v).map kL=l.map kL:=by unfold f6;rw[U0];rfl
def u9(k)(v)(l):Q5 (l.map kL) (l.map vL) [.str k.1,.str k.2] (.int v)=((fD l k v).map kL,(fD l k v).map vL):=by
 unfold Q5 fD;by_cases h:k∈l.map (·.1)
 ·rw[if_pos h,if_pos<|(tZ k l).mpr h,DL,Q_]
 ·rw[if_neg h,if_neg λz=>h<|(tZ k l).mp z];simp[kL,vL]
structure cx(N:W1)(l:LN):Prop where
 nd:(l.map (·.1)).Nodup
 mem:∀ r∈l,r.1.1∈N/\r.1.2∈N/\0<=r.2
def eR(r:EN×Int):D:=.tup [.str r.1.1,.str r.1.2,.int r.2]
def vM(l:LN):frzs (l.map eR)=true:=yd λd hd=>by let[p,_,rfl]:=M5.mp hd;rfl
def Y5(l:LN):bV (l.map eR)=l.map eR:=kr λd hd=>by let[p,_,rfl]:=M5.mp hd;rfl
def wt(l):kJ (dA true l)=true:=by
 have:jW (l.map vL)=true:=by rw[yw,List.all_map,List.all_eq_true];intro x _;rfl
 simp[dA,Ml,this]
theorem DM:∀(l a:LN),((a++l).map (·.1)).Nodup->(l.map λr=>(kL r,vL r)).foldl (λacc kv=>Q5 acc.1 acc.2 kv.1 kv.2) (a.map kL,a.map vL)=((a++l).map kL,(a++l).map vL)
 | [],a,_=>by simp
 | r::l,a,h=>by
  have b:r.1∉a.map (·.1):=by
   rw[N4,U8] at h;intro z;exact h.2.2 _ z r.1 (by simp) rfl
  have e:Q5 (a.map kL) (a.map vL) (kL r) (vL r)=((a++[r]).map kL,(a++[r]).map vL):=by
   have:=u9 r.1 r.2 a;unfold fD at this;rw[if_neg b] at this;exact this
  show List.foldl _ (Q5 (a.map kL) (a.map vL) (kL r)<|vL r) _=_;rw[e,DM l (a++[r]) ⇑h];simp
theorem xk:∀(l:LN) o0 o1 o2,jE ((0,1)&&&2) qT (yk #[tK !0<|pV 1,pF !2]) (l.map eR) [o0,o1,o2]\(l.map λr=>.tup [.kt<|kL r,vL r])
 | [],_,_,_=>rfl
 | r::l,o0,o1,o2=>by
  have a:gT 3 (gC (jc [] 0)<|gC (jc [] 1)<|gC (jc [] 2) gN) (eR r) [o0,o1,o2]=some %[.str r.1.1,.str r.1.2,.int r.2|0]:=rfl;rw[L5,jM,a,L4];simp[xk l (some<|.str r.1.1) (some<|.str r.1.2)<|some<|.int r.2,qT,kL,vL,show ∀ w,kZ (.str w)\(.str w) from λ_=>rfl,jb]
theorem DN:∀ l:LN,uM (l.map λr=>.tup [.kt<|kL r,vL r])\(l.map λr=>(kL r,vL r))
 | []=>rfl
 | r::l=>by rw[L5,uM,DN l];rfl
def DO{l}(h:(l.map (·.1)).Nodup)(b:-l<=1000):yL [.lst false<|l.map eR]\(dA true l):=by
 have d:tD (l.map λr=>(kL r,vL r))=(l.map kL,l.map vL):=DM l [] ⇑h;have a:cb (-l)=true:=jb ∅;have fd:pu [.lst true<|l.map λr=>.tup [.kt<|kL r,vL r]]\(dA true l):=by
  show(uM _).bind _=_;rw[DN,L4,d];simp[a,dA]
 simp[yL,jK,Jn,jv,xk l none none none,fd,vM,a]
theorem QH:∀ l:LN,∃ rs,lK (l.map eR)\rs
 | []=>#v[[],rfl]
 | r::l=>by
  let[rs,e]:=QH l;exact#v[(S r.1.1,S r.1.2,r.2)::rs,by show(lK<|l.map eR).bind _=_;rw[e];rfl]
def t4:D->EN
 | .tup [.str a,.str b,_]=>(a,b)
 | _=>([],[])
def Ra{l:LN}(h:(l.map (·.1)).Nodup){rs}:∃(l':LN),dY (xE rs (l.map eR)=l'.map eR) ((l'.map (·.1)).Nodup) (∀ r∈l',r∈l) (-l'=-l):=by
 have p:=Qd (rs:=rs) (l:=l.map eR);let[l',e,a]:=YA λy b=>by
  let[r,c,rfl]:=M5.mp<|p.mem_iff.mp b;exact#v[r,rfl,c]
 refine#v[l',e,?_,a,?_]
 ·rw[e] at p;have p2:=p.map t4;rw[U0,U0] at p2;have d:(t4 ∘ eR)=λr:EN×Int=>r.1:=by funext r;rfl
  exact p2.nodup_iff.mpr h
 ·have:=p.length_eq;rw[e,L1,L1] at this;exact this
def ql{f g}{ρ ρ'}{r}(h:f ρ\(.nx ρ'))(k:g ρ'=r):jg f g ρ=r:=by
 rw[xY,h];exact k
def nh{G}{f}{x}{xs}{ρ a}(h:(G x ρ).bind f\(.nx a)):yC G f (x::xs) ρ=yC G f xs a:=by
 refine QD.ob h λr b c=>?_;rw[j7,b,L4,c];rfl
def DP{G}{p}{x y}{xs}{s a}(h:G x s\a)(k:p a\y):jE G qT p (x::xs) s=(jE G qT p xs a).bind λys=>some (y::ys):=by
 rw[jM,h,L4,qT,L4,cond_true,k];rfl
def i9{G}{f}{x}{xs}{s a b}(h:G x s\a)(k:f a\(.nx b)):yC G f (x::xs) s=yC G f xs b:=by
 rw[j7,h,L4,k];rfl
def Rb{s}{l:List s}{i}(h:i< -l):atI l (i:Int)=l[i]?:=by
 unfold atI dU;simp
def t5{n i}(h:i<n):dU n (i:Int)\i:=by
 unfold dU;rw[if_pos ∅,if_pos ∅];simp
def low(c T n:Int):Int:=c*n/T
def fill(c T:Int):List Int->Int->List Int×Int
 | [],left=>([],left)
 | n::ns,left=>if 0<left/\low c T n<n then((low c T n+1)::(fill c T ns<|left-1).1,(fill c T ns<|left-1).2) else(low c T n::(fill c T ns left).1,(fill c T ns left).2)
def K7{c T n ns left}:fill c T (n::ns) left=if 0<left/\low c T n<n then((low c T n+1)::(fill c T ns<|left-1).1,(fill c T ns<|left-1).2) else(low c T n::(fill c T ns left).1,(fill c T ns left).2):=rfl
def DQ{c T left}:fill c T [] left=([],left):=rfl
theorem QM(c T):∀ ns left,(fill c T ns left).1.length=-ns
 | [],_=>rfl
 | n::ns,left=>by
  rw[K7];split
  ·simp[QM c T ns]
  ·simp[QM c T ns]
def u6{a b w}{L}{g n left}{i:Nat}(d:atI L (i:Int)\(.int g))(e:dU L.length (i:Int)\i)(c:L[i]?\(.int g)):
  JK %[(a),(b),(w),↑L,.int left,.int i,.int n|0] =
   some (.nx<|if 0<left/\g<n then %[(a),(b),(w),↑(L.set i<|.int<|g+1),.int<|left-1,.int i,.int n|0] else %[(a),(b),(w),↑L,.int left,.int i,.int n|0]):=by
 by_cases f:0<left<;>by_cases h:g<n<;>simp[JK,jd,d,f,h,e,c]
theorem Yc(a b w)(c T):∀ ns pre left o5 o6,
  ∃ o5' o6',yC (5&&&6) JK (jO (-pre)<|ns.map D.int) [a,b,w,↑((pre++ns.map (low c T)).map D.int),some<|.int left,o5,o6] =
   some (.nx [a,b,w,↑((pre++(fill c T ns left).1).map D.int),some<|.int (fill c T ns left).2,o5',o6'])
 | [],pre,left,o5,o6=>#v[o5,o6,by simp[jO,DQ]]
 | n::ns,pre,left,o5,o6=>by
  have d:=u6 (a:=a) (b:=b) (w:=w) (L:=(pre++low c T n::ns.map (low c T)).map D.int) (g:=low c T n) (n:=n) (left:=left) (i:=-pre)
   (by rw[Rb<|by simp];simp) (t5<|by simp) (by simp)
  have f:((pre++low c T n::ns.map (low c T)).map D.int).set pre.length (D.int<|low c T n+1)=(pre++(low c T n+1)::ns.map (low c T)).map D.int:=by
   simpa using this
  rw[f] at d;have k:(5&&&6) (.tup [.int (-pre),.int n]) [a,b,w,↑((pre++low c T n::ns.map (low c T)).map D.int),some<|.int left,o5,o6]=some %[(a),(b),(w),↑((pre++low c T n::ns.map (low c T)).map D.int),.int left,.int (-pre),.int n|0]:=rfl;rw[L5,jO,j7,L5,k,L4,d,L4,qW];by_cases h:0<left/\low c T n<n
  ·let[o5',o6',e]:=Yc a b w c T ns (pre++[low c T n+1]) (left-1) (some<|.int (-pre))<|some<|.int n;refine#v[o5',o6',?_];have j:-(pre++[low c T n+1])=-pre+1:=by simp
   rw[j] at e;rw[K7,if_pos h,if_pos h];simp only[List.append_assoc,List.singleton_append] at e;exact e
  ·let[o5',o6',e]:=Yc a b w c T ns (pre++[low c T n]) left (some<|.int (-pre)) (some<|.int n);refine#v[o5',o6',?_];have j:-(pre++[low c T n])=-pre+1:=by simp
   rw[j] at e;rw[K7,if_neg h,if_neg h];simp only[List.append_assoc,List.singleton_append] at e;exact e
def ya(ns:List Int)(c:Int):List Int:=if ns.sum<=c then ns else(fill c ns.sum ns<|c-(ns.map<|low c ns.sum).sum).1
def Rc{ns}{c}(d:-ns<=20)(a:∀ x∈ns,0<=x/\x<=10 ^ 60)(h0:0<=c)(h1:c<=2 ^ 900)(f:ns.sum<=10 ^ 80):
  Ym [.lst false<|ns.map D.int,.int c]=↑((ya ns c).map D.int):=by
 by_cases h:ns.sum<=c
 ·simp[Ym,jK,zX,ya,h]
 ·have b:jE (jc [] 0) qT (p2 jw (p2 yA !1<|pV 0) !2) (ns.map D.int) (jv %[_,1,2|0] %[‹ns.map D.int›,.int c,.int ns.sum,_,_,_,_|0])\(ns.map λn=>D.int<|low c ns.sum n):=by
   refine jV rfl (λs=>∃ o,s=%[(o),.int c,.int ns.sum|0]) ?_ #v[none,rfl];rintro x hx s ⟨o,rfl⟩;have:=a x hx;refine#v[%[.int x,.int c,.int ns.sum|0],rfl,?_,some<|.int x,rfl];simp(disch:=lia) [vE,jx,low]
  let[g,i,e]:=Yc (‹ns.map D.int›) (some<|.int c) (some<|.int ns.sum) c ns.sum ns [] (c-(ns.map<|low c ns.sum).sum) none none;simp only[X4,List.length_nil,U0] at e;have e2:(D.int ∘ low c ns.sum)=λn=>D.int (low c ns.sum n):=rfl;rw[e2] at e;have e3:ns.map (λn=>D.int<|low c ns.sum n)=(ns.map<|low c ns.sum).map D.int:=by rw[U0];rfl
  rw[e3] at b e;simp(disch:=lia) [Ym,jK,zX,ya,h,b,e,jb,-List.map_map]
theorem z4(c T):∀ ns left,(fill c T ns left).1.sum+(fill c T ns left).2=(ns.map<|low c T).sum+left
 | [],left=>by simp[DQ]
 | n::ns,left=>by
  rw[K7];split
  ·have:=z4 c T ns<|left-1;simp only[List.sum_cons,L5]
   lia
  ·have:=z4 c T ns left;simp only[List.sum_cons,L5]
   lia
def gE(c T:Int):List Int->Int
 | []=>0
 | n::ns=>(if low c T n<n then 1 else 0)+gE c T ns
def t6{c T n ns}:gE c T (n::ns)=(if low c T n<n then 1 else 0)+gE c T ns:=rfl
theorem DU(c T):∀ ns:List Int,0<=gE c T ns
 | []=>Int.le_refl 0
 | n::ns=>by
  have:=DU c T ns;rw[t6];split<;>lia
theorem Yi(c T):∀ ns left,0<=left->left<=gE c T ns->(fill c T ns left).2=0
 | [],left,h,k=>by have:left<=0:=k;show left=0;lia
 | n::ns,left,h,k=>by
  rw[t6] at k;rw[K7];have:=DU c T ns;split
  ·next g=>
   exact Yi c T ns (left-1) ∅ ∅
  ·next g=>
   by_cases dj:low c T n<n
   ·rw[if_pos dj] at k;exact Yi c T ns left h ∅
   ·rw[if_neg dj] at k;exact Yi c T ns left h ∅
def DV{c T n}(a:0<=c)(f:c<T)(hn:0<=n):T*low c T n<=c*n/\c*n<=T*low c T n+T*(if low c T n<n then 1 else 0)/\0<=low c T n/\low c T n<=n:=by
 unfold low;have e:=Int.mul_ediv_add_emod (c*n) T;have h:=N9 (c*n) (show T≠0 by lia);have i:=N8 (c*n) (show 0<T by lia);have b:0<=c*n/T:=Int.ediv_nonneg (Int.mul_nonneg a hn) ∅;have d:c*n/T<=n:=by
  have:c*n<=T*n:=Int.mul_le_mul_of_nonneg_right ∅ hn;exact Int.ediv_le_of_le_mul ∅ (by rw[Int.mul_comm n T];exact this)
 refine#v[by lia,?_,b,d];split
 ·lia
 ·next g=>
  have e2:c*n/T=n:=by lia
  rw[e2];have:c*n<=T*n:=Int.mul_le_mul_of_nonneg_right ∅ hn
  lia
theorem DW{c T}(a:0<=c)(b:c<T):∀ ns,(∀ x∈ns,0<=x)->T*(ns.map<|low c T).sum<=c*ns.sum/\c*ns.sum<=T*(ns.map<|low c T).sum+T*gE c T ns
 | [],_=>by simp[show gE c T []=0 from rfl]
 | n::ns,h=>by
  have i:=DW a b ns<|λx hx=>h x (by simp[hx]);have j:=DV a b<|h n (by simp);simp only[L5,List.sum_cons,t6,Int.mul_add]
  lia
def Re{c}{ns}(d:0<=c)(e:c<ns.sum)(h:∀ x∈ns,0<=x):
  0<=c-(ns.map<|low c ns.sum).sum/\(fill c ns.sum ns<|c-(ns.map<|low c ns.sum).sum).1.sum=c:=by
 have b:=DW d e ns h;have f:(ns.map<|low c ns.sum).sum<=c:=by
  refine Int.le_of_mul_le_mul_left (a:=ns.sum) ?_ ∅;rw[Int.mul_comm ns.sum c];exact b.1
 have g:c<=(ns.map<|low c ns.sum).sum+gE c ns.sum ns:=by
  refine Int.le_of_mul_le_mul_left (a:=ns.sum) ?_ ∅;rw[Int.mul_add,Int.mul_comm ns.sum c];exact b.2
 have l:=Yi c ns.sum ns (c-(ns.map<|low c ns.sum).sum) ∅ ∅;have s:=z4 c ns.sum ns<|c-(ns.map<|low c ns.sum).sum;exact#v[by lia,by lia]
theorem DX{b}:∀(ns:List Int),(∀ x∈ns,0<=x/\x<=b)->0<=ns.sum/\ns.sum<=b* -ns
 | [],_=>by simp
 | n::ns,h=>by
  have i:=DX ns<|λx hx=>h x (by simp[hx]);have j:=h n (by simp);simp only[List.sum_cons,M1];have:b*((-ns+1:Nat):Int)=b* -ns+b:=by push_cast;rw[Int.mul_add];lia
  lia
def VI{ns}{c}:-(ya ns c)=-ns:=by
 unfold ya;split
 ·rfl
 ·exact QM _ _ _ _
structure ig(p:W2):Prop where
 lo:1<=p.2
 hi:p.2<=10
def ts(P:List W2):List Int:=P.map (·.2)
def f7(c:Int)(P:List W2):List Int:=P.map λp=>(c*p.2+9)/10
def Vo(c:Int)(P:List W2):List Int:=P.map λp=>c*p.2/10
def gF(odd:Int):Nat->List Int->List Int
 | _,[]=>[]
 | k,x::l=>(if(k:Int)<odd then x+1 else x)::gF odd (k+1) l
def wx{a k x l}:gF a k (x::l)=(if(k:Int)<a then x+1 else x)::gF a (k+1) l:=rfl
theorem DY(a):∀ k l,-(gF a k l)=-l
 | _,[]=>rfl
 | k,x::l=>by rw[wx,M1,M1,DY]
theorem wq(a:Int):∀(k:Nat) l,a<=k->gF a k l=l
 | _,[],_=>rfl
 | k,x::l,h=>by rw[wx,if_neg ∅,wq a (k+1) l ∅]
theorem DZ(a):∀(k:Nat) l,(k:Int)<=a->a<=k+-l->(gF a k l).sum=l.sum+(a-k)
 | k,[],h,b=>by show 0=0+(a-k);rw[List.length_nil] at b;lia
 | k,x::l,h,b=>by
  rw[M1] at b;by_cases g:k<a
  ·have:=DZ a (k+1) l ∅ ∅;rw[wx,if_pos g,List.sum_cons,List.sum_cons,this]
   lia
  ·rw[wq a k (x::l) ∅]
   lia
theorem D0(a):∀ k l,(∀ x∈l,0<=x)->∀ x∈gF a k l,0<=x
 | _,[],_,x,hx=>nomatch hx
 | k,y::l,h,x,hx=>by
  have c:=h y (by simp);rcases M4.mp hx with rfl | hx
  ·split<;>lia
  ·exact D0 a (k+1) l (λz b=>h z<|by simp[b]) x hx
def jR(P:List W2)(c:Int):List Int×Int:=if 10<(ts P).sum then(f7 c P,(f7 c P).sum-c) else(gF (c*(ts P).sum/10-(Vo c P).sum) 0<|Vo c P,0)
def Rf{P}(h:∀ p∈P,ig p):0<=(ts P).sum/\(ts P).sum<=10* -P:=by
 induction P with
 | nil=>simp[ts]
 | cons p P c=>
  have a:=c λx hx=>h x (by simp[hx]);have b:=h p (by simp);have d:=b.lo;have e:=b.hi;simp only[ts,L5,List.sum_cons,M1] at a ⊢
  lia
def Rg{P}{c}:10*(Vo c P).sum<=c*(ts P).sum/\c*(ts P).sum<=10*(Vo c P).sum+9* -P:=by
 induction P with
 | nil=>simp[ts,Vo]
 | cons p P a=>
  simp only[ts,Vo,L5,List.sum_cons,M1,Int.mul_add] at a ⊢
  lia
def Ri{P}{c}:c*(ts P).sum<=10*(f7 c P).sum/\10*(f7 c P).sum<=c*(ts P).sum+9* -P:=by
 induction P with
 | nil=>simp[ts,f7]
 | cons p P a=>
  simp only[ts,f7,L5,List.sum_cons,M1,Int.mul_add] at a ⊢
  lia
def xt(P:List W2):frzs (P.map e2)=true/\bV (P.map e2)=P.map e2:=by
 refine#v[yd λd hd=>?_,kr λd hd=>?_]
 all_goals let[p,a,rfl]:=M5.mp hd;rfl
theorem wo(a):∀ l k o0 o1,jE (0&&&1) qT (fq (ji<|p2 gV !0<|pV 2) (p2 jr !1<|pI 1)<|pF !1) (jO k<|l.map D.int) [o0,o1,some<|.int a]\((gF a k l).map D.int)
 | [],k,o0,o1=>rfl
 | x::l,k,o0,o1=>by
  have c:(0&&&1) (.tup [.int k,.int x]) [o0,o1,some<|.int a]=some %[.int k,.int x,.int a|0]:=rfl;have b:=wo a l (k+1) (some<|.int k)<|some<|.int x;rw[L5,jO,jM,c,L4];by_cases h:k<a
  ·simp[h,b,wx]
  ·simp[h,b,wx]
def Rj{P}{c}(n:-P<=10)(b:∀ p∈P,ig p)(h0:0<=c)(h1:c<=2 ^ 900):VP [.lst false<|P.map e2,.int c]\(.tup [.lst true<|(jR P c).1.map D.int,.int (jR P c).2]):=by
 have k:vk [.lst false<|P.map e2]\(.int (ts P).sum):=by 
   have a:jE (jc [] 0) qT (pF<|0|||1) (P.map e2) (jv [none] [‹P.map e2›])\(P.map λp=>D.int p.2):=by
    refine jV rfl (λρ=>∃ o,ρ=[o]) ?_ #v[none,rfl];rintro x hx ρ ⟨o,rfl⟩;exact#v[_,rfl,rfl,_,rfl]
   have e:(P.map λp=>D.int p.2)=(ts P).map D.int:=by unfold ts;rw[U0];rfl
   rw[e] at a;simp(disch:=lia) [vk,jK,J6,(xt P).1,a,jb,-List.map_map]
 have q:=Rf b;have d:=xt P;by_cases h:10<(ts P).sum
 ·have a:jE (jc [] 0) qT (p2 jw (p2 jr (p2 yA !1<|0|||1)<|pI 9)<|pI 10) (P.map e2) (jv %[_,1|0] %[‹P.map e2›,.int c,.int (ts P).sum,_,_|0])\(P.map λp=>D.int<|(c*p.2+9)/10):=by
   refine jV rfl (λρ=>∃ o,ρ=[o,some<|.int c]) ?_ #v[none,rfl];rintro x hx ρ ⟨o,rfl⟩;refine#v[%[e2 x,.int c|0],rfl,?_,_,rfl];have f:jd (e2 x) (.int 1)\(.int x.2):=rfl;have l:=(b x hx).lo;have m:=(b x hx).hi;simp(disch:=lia) [f,vE,jx]
  have e:(P.map λp=>D.int<|(c*p.2+9)/10)=(f7 c P).map D.int:=by unfold f7;rw[U0];rfl
  rw[e] at a;have g:jR P c=(f7 c P,(f7 c P).sum-c):=if_pos h;rw[g];simp(disch:=lia) [VP,jK,uI,d.1,d.2,k,h,a,jb,-List.map_map]
 ·have a:jE (jc [] 0) qT (p2 jw (p2 yA !1<|0|||1)<|pI 10) (P.map e2) (jv %[_,1|0] %[‹P.map e2›,.int c,.int (ts P).sum,_,_|0])\(P.map λp=>D.int<|c*p.2/10):=by
   refine jV rfl (λρ=>∃ o,ρ=[o,some<|.int c]) ?_ #v[none,rfl];rintro x hx ρ ⟨o,rfl⟩;refine#v[%[e2 x,.int c|0],rfl,?_,_,rfl];have f:jd (e2 x) (.int 1)\(.int x.2):=rfl;have l:=(b x hx).lo;have m:=(b x hx).hi;simp(disch:=lia) [f,vE,jx]
  have e:(P.map λp=>D.int<|c*p.2/10)=(Vo c P).map D.int:=by unfold Vo;rw[U0];rfl
  rw[e] at a;have g:jR P c=(gF (c*(ts P).sum/10-(Vo c P).sum) 0<|Vo c P,0):=if_neg h;rw[g];have i:jv %[_,_,4|0] %[‹P.map e2›,.int c,.int (ts P).sum,‹(Vo c P).map D.int›,.int<|c*(ts P).sum/10-(Vo c P).sum|0]=%[_,_,.int<|c*(ts P).sum/10-(Vo c P).sum|0]:=rfl;have j:cb (-(jO 0<|(Vo c P).map D.int))=true:=jb (by rw[yt];simp[Vo];lia);simp(disch:=lia) [VP,jK,uI,d.1,d.2,k,h,a,jb,vE,jx,i,wo (c*(ts P).sum/10-(Vo c P).sum) (Vo c P) 0 none none,j,-List.map_map]
def D3{P}{c}:(jR P c).1.length=-P:=by
 unfold jR;split
 ·simp[f7]
 ·rw[DY];simp[Vo]
def u4{P}{c}(b:∀ p∈P,ig p)(h0:0<=c):∀ x∈(jR P c).1,0<=x:=by
 have a:∀ p∈P,0<=c*p.2:=λp h=>Int.mul_nonneg h0 (by have:=(b p h).lo;lia);unfold jR;split
 ·intro x hx;let[p,h,rfl]:=M5.mp hx;have:=a p h
  lia
 ·refine D0 _ _ _ λx hx=>?_;let[p,h,rfl]:=M5.mp hx;have:=a p h
  lia
def dE.len{p}{b}(h:ce p)(k:dE p b):-b.S<=10/\ -b.W<=10/\ -b.R<=10/\ -b.L<=10:=by
 have f:=h.told2;have g:=h.marks2;have a:=congrArg List.length k.S;have c:=congrArg List.length k.W;have d:=congrArg List.length k.R;have e:=congrArg List.length k.L;simp only[L1] at a c d e
 lia
theorem uo{c T}(a:0<=c)(d:c<T):∀ ns left,(∀ x∈ns,0<=x)->∀(i:Nat) g n,(fill c T ns left).1[i]?\g->ns[i]?\n->0<=g/\g<=n
 | [],left,_,i,g,n,_,h=>by simp at h
 | m::ns,left,hp,i,g,n,h1,h2=>by
  have b:=DV a d<|hp m (by simp);rw[K7] at h1;cases i with
  | zero=>
   simp at h2;split at h1<;>simp at h1<;>subst h1<;>lia
  | succ i=>
   simp at h2;split at h1
   ·simp at h1;exact uo a d ns _ (λx hx=>hp x<|by simp[hx]) i g n h1 h2
   ·simp at h1;exact uo a d ns _ (λx hx=>hp x<|by simp[hx]) i g n h1 h2
def Rk{ns}{c}(a:0<=c)(h:∀ x∈ns,0<=x){i:Nat}{g n}(h1:(ya ns c)[i]?\g)(h2:ns[i]?\n):0<=g/\g<=n:=by
 unfold ya at h1;split at h1
 ·rw[h2] at h1;cases h1;exact#v[h _<|List.mem_of_getElem? h2,Int.le_refl _]
 ·exact uo a ∅ ns _ h i g n h1 h2
def Qe{ns}{c}(a:0<=c)(h:∀ x∈ns,0<=x):(ya ns c=ns/\ns.sum<=c)\/(ya ns c).sum=c:=by
 unfold ya;split
 ·rename_i q;exact .inl #v[rfl,q]
 ·exact .inr (Re a ∅ h).2
def put(f:List Nat->Int)(w:List Nat)(v:Int):List Nat->Int:=λn=>if n=w then v else f n
def NS:List Str:=["pool_name","marks","sizes","owed","levels","loans","cash","served","entries","moves"]
abbrev dh(o:Bool)(a0 a1 a2 a3 a4 a5 a6 a7 a8 a9:D):D:=.ins o 1 NS [a0,a1,a2,a3,a4,a5,a6,a7,a8,a9]
def D4:Jh NS [a0,a1,a2,a3,a4,a5,a6,a7,a8,a9] "pool_name" = some a0:=rfl
def ni:Jh NS [a0,a1,a2,a3,a4,a5,a6,a7,a8,a9] "marks" = some a1:=rfl
def t7:Jh NS [a0,a1,a2,a3,a4,a5,a6,a7,a8,a9] "sizes" = some a2:=rfl
def D5:Jh NS [a0,a1,a2,a3,a4,a5,a6,a7,a8,a9] "owed" = some a3:=rfl
def Rm:Jh NS [a0,a1,a2,a3,a4,a5,a6,a7,a8,a9] "levels" = some a4:=rfl
def D6:Jh NS [a0,a1,a2,a3,a4,a5,a6,a7,a8,a9] "loans" = some a5:=rfl
def D7:Jh NS [a0,a1,a2,a3,a4,a5,a6,a7,a8,a9] "cash" = some a6:=rfl
def Ro:Jh NS [a0,a1,a2,a3,a4,a5,a6,a7,a8,a9] "entries" = some a8:=rfl
def Rp:Jh NS [a0,a1,a2,a3,a4,a5,a6,a7,a8,a9] "moves" = some a9:=rfl
def dj:k8 1 "sizes" vW (dh true a0 a1 a2 a3 a4 a5 a6 a7 a8 a9)\(a2,λz=>dh true a0 a1 z a3 a4 a5 a6 a7 a8 a9):=rfl
def D8:k8 1 "owed" vW (dh true a0 a1 a2 a3 a4 a5 a6 a7 a8 a9)\(a3,λz=>dh true a0 a1 a2 z a4 a5 a6 a7 a8 a9):=rfl
def D9:k8 1 "levels" vW (dh true a0 a1 a2 a3 a4 a5 a6 a7 a8 a9)\(a4,λz=>dh true a0 a1 a2 a3 z a5 a6 a7 a8 a9):=rfl
def Rq:k8 1 "served" vW (dh true a0 a1 a2 a3 a4 a5 a6 a7 a8 a9)\(a7,λz=>dh true a0 a1 a2 a3 a4 a5 a6 z a8 a9):=rfl
def Rr:k8 1 "entries" vW (dh true a0 a1 a2 a3 a4 a5 a6 a7 a8 a9)\(a8,λz=>dh true a0 a1 a2 a3 a4 a5 a6 a7 z a9):=rfl
def Rs:k8 1 "moves" vW (dh true a0 a1 a2 a3 a4 a5 a6 a7 a8 a9)\(a9,λz=>dh true a0 a1 a2 a3 a4 a5 a6 a7 a8 z):=rfl
def Rt{z}:qF NS [a0,a1,a2,a3,a4,a5,a6,a7,a8,a9] "cash" z=(NS,[a0,a1,a2,a3,a4,a5,z,a7,a8,a9]):=rfl
def Rv{pv}{m n}(h0:pV i s\(dh true a0 a1 a2 a3 a4 a5 (.int m) a7 a8 a9))(a:pv s\(.int n)):
  V1 i vW 1 "cash" (λm n=>m-n) pv s\(.nx<|s.set i<|some<|dh true a0 a1 a2 a3 a4 a5 (.int<|m-n) a7 a8 a9):=by
 have e:(NS.length<=900)=True:=by simp[NS]
 unfold V1;rw[h0];simp[vW,D7,Rt,a,e]
def QV{L}{pk pv}{t}{N}{f}{a}{g}{n}(h0:pV i s\t)(c:L t\(bY true N f,a))(d:pk s\(.str w))(e:pv s\(.int n))(b:w∈N)(h:-N<=1000):
  ku i L pk g pv s\(.nx<|s.set i<|some<|a<|bY true N<|put f w<|g (f w) n):=by
 rw[ku,d,L4,show kZ (.str w)\(.str w) from rfl,L4,h0,L4,c,L4,show fZ (bY true N f,a).1\(N.map KA.str,N.map λn=>D.int<|f n) from rfl,L4,YC f b,L4,show kn (.int<|f w)\(f w) from rfl,L4,e,L4,show kn (.int n)\n from rfl,L4,jb<|by rw[L1];lia,cond_true,zy b];rfl
def f8(o:Bool)(l:W1):D:=.dK o (l.map KA.str)<|l.map λ_=>D.bl true
def Vi(l:W1)(w:List Nat):List (List Nat):=if w∈l then l else l++[w]
def Rw(l)(w):qp (l.map KA.str) (l.map λ_=>D.bl true) (.str w) (.bl true)=((Vi l w).map KA.str,(Vi l w).map λ_=>D.bl true):=by
 have b:(KA.str w∈l.map KA.str)↔w∈l:=by simp
 have c:∀ l:List (List Nat),h5 (l.map KA.str) (l.map λ_=>D.bl true) (.str w) (.bl true)=l.map λ_=>D.bl true:=λl=>by
  induction l with
  | nil=>rfl
  | cons a l d=>rw[L5,L5,Qo,d];split<;>rfl
 unfold qp Vi;by_cases h:w∈l
 ·rw[if_pos h,if_pos<|b.mpr h,c]
 ·rw[if_neg h,if_neg λz=>h<|b.mp z];simp
def Rx{pk}{l}(h0:pV i s\(dh true a0 a1 a2 a3 a4 a5 a6 (f8 true l) a8 a9))(a:pk s\(.str w))(b:-l<=1000):
  v7 i (k8 1 "served" vW) pk (pC<|.bl true) s\(.nx<|s.set i<|some<|dh true a0 a1 a2 a3 a4 a5 a6 (f8 true<|Vi l w) a8 a9):=by
 unfold v7;rw[show(pC<|D.bl true) s\(.bl true) from rfl,L4,h0,L4,Rq,L4];show((pk s).bind λq=>_)=_;rw[a,L4];show(bif cb (-(l.map KA.str))&&(true||_) then some (cq.nx<|s.set i<|some<|dh true a0 a1 a2 a3 a4 a5 a6 (.dK true (qp (l.map KA.str) (l.map λ_=>D.bl true) (.str w)<|.bl true).1 (qp (l.map KA.str) (l.map λ_=>D.bl true) (.str w)<|.bl true).2) a8 a9) else none)=_;rw[jb<|by rw[L1];lia,Rw];rfl
def Ry(h:jX a3 (.str w)\(.int v)):jl [dh false a0 a1 a2 a3 a4 a5 a6 a7 a8 a9,.tup [.str Qa,.str w]]\(.int v):=by
 simp[jl,jK,ym,D5,h,xp]
def Rz(h:jX a3 (.str w)\(.int v))(h2:jX a2 (.str w)\(.int u)):jl [dh false a0 a1 a2 a3 a4 a5 a6 a7 a8 a9,.tup [.str yD,.str w]]\(.int<|v+u):=by
 simp[jl,jK,ym,D5,t7,h,h2,xp]
def RA(h:jX a1 (.str w)\(.int v))(h2:jX a4 (.str w)\(.int u)):jl [dh false a0 a1 a2 a3 a4 a5 a6 a7 a8 a9,.tup [.str kH,.str w]]\(.int<|if v-u<0 then 0 else v-u):=by
 have a:gv [.int<|v-u,.int 0]\(.int<|if v-u<0 then 0 else v-u):=rfl;simp[jl,jK,ym,ni,Rm,h,h2,xp,a,-J2]
def RB{nm}{l}{j}:jl [dh false (.str nm) a1 a2 a3 a4 (dA false l) a6 a7 a8 a9,.tup [.str qd,.str w,.int j]]\(.int<|if j-(qx l (nm,w)).getD 0<0 then 0 else j-(qx l (nm,w)).getD 0):=by
 have hx:xA (dA false l) [.str nm,.str w] (.int 0)\(.int<|(qx l (nm,w)).getD 0):=by
  show some ((um (l.map kL) (l.map vL) [.str nm,.str w]).getD (.int 0))=_;rw[Kx (nm,w) l];cases qx l (nm,w)<;>rfl
 generalize(qx l (nm,w)).getD 0=u at *;have a:gv [.int<|j-u,.int 0]\(.int<|if j-u<0 then 0 else j-u):=rfl;simp[jl,jK,ym,D6,D4,hx,xp,a,-J2]
def RD{nm}{l}:jl [dh false (.str nm) a1 a2 a3 a4 (dA false l) a6 a7 a8 a9,.tup [.str vO,.str w]]\(.int<|(qx l (w,nm)).getD 0):=by
 have hx:xA (dA false l) [.str w,.str nm] (.int 0)\(.int<|(qx l (w,nm)).getD 0):=by
  show some ((um (l.map kL) (l.map vL) [.str w,.str nm]).getD (.int 0))=_;rw[Kx (w,nm) l];cases qx l (w,nm)<;>rfl
 simp[jl,jK,ym,D6,D4,hx,xp]
def RE:jl [dh false a0 a1 a2 a3 a4 a5 (.int v) a7 a8 a9,.tup [.str Vj,.str w]]\(.int v):=by
 simp[jl,jK,ym,D7,xp]
noncomputable abbrev MV:=List Nat×List Nat×Int
def eM(m:MV):D:=.tup [.str m.1,.str m.2.1,.int m.2.2]
def dQ(nm:List Nat)(l:LN)(m:MV):LN:=if m.1=qd then fD l (nm,m.2.1) ((qx l (nm,m.2.1)).getD 0+m.2.2) else fD l (m.2.1,nm) ((qx l (m.2.1,nm)).getD 0-m.2.2)
structure gG(nm:List Nat)(N:W1)(c:Int)(l:LN)(m:MV):Prop where
 kd:m.1=qd\/(m.1=vO/\m.2.2<=(qx l (m.2.1,nm)).getD 0)
 ot:m.2.1∈N
 po:0<m.2.2
 hi:m.2.2<=c
def RF{l}{k}{c}(h:0<c)(h2:c<=(qx l k).getD 0):∃ v,qx l k\v:=by
 cases e:qx l k with
 | some v=>exact#v[v,rfl]
 | none=>rw[e] at h2;simp at h2;lia
def D_{nm}{N}{l}{m}{c}(g:-l<=100)(k:gG nm N c l m):vi [dA true l,.str nm,.str m.1,.str m.2.1,.int m.2.2]\(.non,dA true<|dQ nm l m):=by
 have a:cb (-l)=true:=jb ∅;rcases k.kd with e | ⟨e,e2⟩
 ·have b:=Kx (nm,m.2.1) l;have p1:=u9 (nm,m.2.1) ((qx l (nm,m.2.1)).getD 0+m.2.2) l;have hx:xA (dA true l) [.str nm,.str m.2.1] (.int 0)\(.int<|(qx l (nm,m.2.1)).getD 0):=by
   show some ((um (l.map kL) (l.map vL) [.str nm,.str m.2.1]).getD (.int 0))=_;rw[b];cases qx l (nm,m.2.1)<;>rfl
  have d:dQ nm l m=fD l (nm,m.2.1) ((qx l (nm,m.2.1)).getD 0+m.2.2):=if_pos e;rw[d];simp only[dA] at *;simp[vi,qw,Yd,e,hx,p1,a,Y4]
 ·let[v,f]:=RF k.po e2;have b:=Kx (m.2.1,nm) l;rw[f] at b;have d:dQ nm l m=fD l (m.2.1,nm) (v-m.2.2):=by unfold dQ;rw[if_neg<|by rw[e];decide,f];rfl
  rw[d];simp only[dA] at *;simp[vi,qw,Yd,tz,e,b,u9 (m.2.1,nm) (v-m.2.2) l,a,Y4]
def RG(l)(k)(v):-(fD l k v)<=-l+1:=by
 unfold fD f6;split<;>simp
structure En where
 pl:Int
 kd:List Nat
 nm:List Nat
 nd:Int
 gt:Int
def e5(e:En):D:=.tup [.int e.pl,.str e.kd,.str e.nm,.int e.nd,.int e.gt]
structure Fl where
 sz:List Nat->Int
 ow:List Nat->Int
 lv:List Nat->Int
 ln:LN
 cash:Int
 sv:List (List Nat)
 en:List En
 mv:List MV
def fF(l:W1):List (List Nat):=l.foldl Vi []
def RH(l)(w):fF (l++[w])=Vi (fF l) w:=by unfold fF;rw[List.foldl_append];rfl
theorem Ea{w}:∀(l acc:W1),w∈l.foldl Vi acc↔w∈acc\/w∈l
 | [],acc=>by simp
 | a::l,acc=>by
  rw[U9,Ea l];unfold Vi;by_cases h:a∈acc
  ·rw[if_pos h,M4];exact#v[λz=>z.imp id .inr,λz=>z.elim .inl λz=>z.elim (λq=>.inl<|q▸h) .inr]
  ·rw[if_neg h,N1,M7,M4,or_assoc]
def RI{w}{l}:w∈fF l↔w∈l:=by unfold fF;rw[Ea];simp
theorem Eb:∀(l acc:W1),-(l.foldl Vi acc)<=-acc+-l
 | [],acc=>by simp
 | a::l,acc=>by
  have:=Eb l<|Vi acc a;have h:-(Vi acc a)<=-acc+1:=by unfold Vi;split<;>simp
  rw[U9,M1];lia
def jI(p:bZ)(o:Bool)(x:Fl):D:=dh o (.str p.nm) (bY o p.P<|fnOf p.marks) (bY o p.C x.sz) (bY o p.C x.ow) (bY o p.P x.lv) (dA o x.ln) (.int x.cash) (f8 o<|fF x.sv) (.lst o<|x.en.map e5)<|.lst o<|x.mv.map eM
def RJ(o)(N)(f):fz (bY o N f)=bY false N f:=by
 have:bV (N.map λn=>D.int<|f n)=N.map λn=>D.int (f n):=kr λd hd=>by let[p,_,rfl]:=M5.mp hd;rfl
 simp[bY,oJ,this]
def RK(o)(l):fz (dA o l)=dA false l:=by
 have:bV (l.map vL)=l.map vL:=kr λd hd=>by let[p,_,rfl]:=M5.mp hd;rfl
 simp[dA,Mi,this]
def RL(o)(l):fz (f8 o l)=f8 false l:=by
 have:bV (l.map λ_=>D.bl true)=l.map λ_=>D.bl true:=kr λd hd=>by let[p,_,rfl]:=M5.mp hd;rfl
 unfold f8;rw[oJ,this]
def Ec(l:List En):bV (l.map e5)=l.map e5:=kr λd hd=>by let[p,_,rfl]:=M5.mp hd;rfl
def Ed(l:List En):frzs (l.map e5)=true:=yd λd hd=>by let[p,_,rfl]:=M5.mp hd;rfl
def xN(l:List MV):bV (l.map eM)=l.map eM:=kr λd hd=>by let[p,_,rfl]:=M5.mp hd;rfl
def zm(l:List MV):frzs (l.map eM)=true:=yd λd hd=>by let[p,_,rfl]:=M5.mp hd;rfl
def RM(p)(o)(x):fz (jI p o x)=jI p false x:=by
 unfold jI dh;simp[RJ,RK,RL,Mj,Ec,xN]
def uZ{i}{pv}{n}(h0:pV i ρ\(jI p true x))(a:pv ρ\(.int n)):
  V1 i vW 1 "cash" (λm n=>m-n) pv ρ\(.nx<|ρ.set i<|some<|jI p true {x with cash:=x.cash-n}):=Rv h0 a
def wB{i}{pv}{e}(h0:pV i ρ\(jI p true x))(a:pv ρ\(e5 e))(b:-x.en<=1000):
  qV i (k8 1 "entries" vW) pv ρ\(.nx<|ρ.set i<|some<|jI p true {x with en:=x.en++[e]}):=by
 rw[qV,a,L4,h0,L4];unfold jI;rw[Rr,L4,Kw,L4,jb<|by rw[L1];lia,cond_true,N4];rfl
def RN{i}{pv}{m}(h0:pV i ρ\(jI p true x))(a:pv ρ\(eM m))(b:-x.mv<=1000):
  qV i (k8 1 "moves" vW) pv ρ\(.nx<|ρ.set i<|some<|jI p true {x with mv:=x.mv++[m]}):=by
 rw[qV,a,L4,h0,L4];unfold jI;rw[Rs,L4,Kw,L4,jb<|by rw[L1];lia,cond_true,N4];rfl
def pJ{i}{pk pv}{n}(h0:pV i ρ\(jI p true x))(a:pk ρ\(.str w))(b:pv ρ\(.int n))(c:w∈p.C)(d:-p.C<=1000):
  ku i (k8 1 "owed" vW) pk (λm n=>m-n) pv ρ\(.nx<|ρ.set i<|some<|jI p true {x with ow:=put x.ow w (x.ow w-n)}):=QV h0 D8 a b c d
def RO{i}{pk pv}{n}(h0:pV i ρ\(jI p true x))(a:pk ρ\(.str w))(b:pv ρ\(.int n))(c:w∈p.C)(d:-p.C<=1000):
  ku i (k8 1 "sizes" vW) pk (λm n=>m-n) pv ρ\(.nx<|ρ.set i<|some<|jI p true {x with sz:=put x.sz w (x.sz w-n)}):=QV h0 dj a b c d
def RP{i}{pk pv}{n}(h0:pV i ρ\(jI p true x))(a:pk ρ\(.str w))(b:pv ρ\(.int n))(c:w∈p.P)(d:-p.P<=1000):
  ku i (k8 1 "levels" vW) pk (λm n=>m+n) pv ρ\(.nx<|ρ.set i<|some<|jI p true {x with lv:=put x.lv w (x.lv w+n)}):=QV h0 D9 a b c d
def RQ{i}{pk pv}{n}(h0:pV i ρ\(jI p true x))(a:pk ρ\(.str w))(b:pv ρ\(.int n))(c:w∈p.P)(d:-p.P<=1000):
  ku i (k8 1 "levels" vW) pk (λm n=>m-n) pv ρ\(.nx<|ρ.set i<|some<|jI p true {x with lv:=put x.lv w (x.lv w-n)}):=QV h0 D9 a b c d
def Ee{i}{pk}(h0:pV i ρ\(jI p true x))(a:pk ρ\(.str w))(b:-x.sv<=1000):
  v7 i (k8 1 "served" vW) pk (pC<|.bl true) ρ\(.nx<|ρ.set i<|some<|jI p true {x with sv:=x.sv++[w]}):=by
 rw[Rx h0 a<|by have:=Eb x.sv [];unfold fF;simp at this;lia,<- RH];rfl
def RS{o}:Jq 1 "pool_name" (jI p o x)\(.str p.nm):=rfl
def t8{o}:Jq 1 "owed" (jI p o x)\(bY o p.C x.ow):=rfl
def xa{o}:Jq 1 "cash" (jI p o x)\(.int x.cash):=rfl
def RT{o}:Jq 1 "served" (jI p o x)\(f8 o<|fF x.sv):=rfl
def b_(L s:Int):Int:=if s<L then s else L
def c7(N:W1)(f:List Nat->Int):List W2:=N.map λn=>(n,f n)
noncomputable abbrev Ef:List Nat:=[103,117,97,114,100]
noncomputable abbrev RU:List Nat:=[112,97,114,116]
noncomputable abbrev Eg:List Nat:=[116,119,105,99,101]
def RV(l:List W2):jW (l.map e2)=true:=P8 λd hd=>by let[p,_,rfl]:=M5.mp hd;rfl
def vg(b):frz (jS false b)=true:=by simp[jS,yz]
def Kh(k:Nat)(q:W2)(a:Int)(x:Fl):Fl:={x with cash:=x.cash-b_ a x.cash,en:=x.en++[#v[k,RU,q.1,a,b_ a x.cash]]}
def vq:Nat->List W2->List Int->Fl->Fl
 | _,[],_,x=>x
 | _,_::_,[],x=>x
 | k,q::Q,a::A,x=>vq (k+1) Q A<|Kh k q a x
def uL{k q Q a A x}:vq k (q::Q) (a::A) x=vq (k+1) Q A (Kh k q a x):=rfl
def twiceF(Q:List W2)(c:Int)(x:Fl):Fl:=if 0<(jR Q c).2 then{x with en:=x.en++[#v[Neg.neg 1,Eg,[],(jR Q c).1.sum,c]]} else x
def eg(b:Bool)(g nd:Int)(w:List Nat)(y:Fl):Fl:=if b=true/\g=nd/\0<nd then{y with sv:=y.sv++[w]} else y
abbrev eT:=e3
def t9(pl:Int)(t:W3):En:=#v[pl,Ki,t.1,t.2.1,t.2.2]
def sh1(pl:Int)(t:W3)(x:Fl):Fl:={x with cash:=x.cash-t.2.2,ow:=put x.ow t.1<|x.ow t.1-t.2.2,en:=x.en++[t9 pl t]}
def shL(pl:Int):List W3->Fl->Fl
 | [],x=>x
 | t::T,x=>shL pl T<|sh1 pl t x
def lZ{pl t T x}:shL pl (t::T) x=shL pl T (sh1 pl t x):=rfl
def pK(pl:Int)(b:Bool):List W3->Fl->Fl
 | [],x=>x
 | t::T,x=>pK pl b T (if b=true then{sh1 pl t x with sv:=x.sv++[t.1]} else sh1 pl t x)
def cJ(ws:W1)(x:Fl):List W3:=ws.zip<|(ws.map x.ow).zip (ya (ws.map x.ow) x.cash)
def fG(ws:W1)(x:Fl):Bool:=decide (0<(ws.map x.ow).sum)&&decide (ya (ws.map x.ow) x.cash=ws.map x.ow)
def xg(pl:Int)(ws:W1)(x:Fl):Fl:={shL pl (cJ ws x) x with sv:=if fG ws x=true then x.sv++ws else x.sv}
theorem Eh(pl):∀ T x s,shL pl T {x with sv:=s}={shL pl T x with sv:=s}
 | [],x,s=>rfl
 | t::T,x,s=>by rw[lZ,lZ,<- Eh pl T];rfl
theorem Ei(pl)(b):∀ T x,pK pl b T x={shL pl T x with sv:=if b=true then x.sv++T.map (·.1) else x.sv}
 | [],x=>by
  show x={x with sv:=if b=true then x.sv++[] else x.sv};cases b<;>simp
 | t::T,x=>by
  refine(Ei pl b T<|if b=true then{sh1 pl t x with sv:=x.sv++[t.1]} else sh1 pl t x).trans ?_;rw[lZ];cases b with
  | false=>
   rfl
  | true=>
   simp only[if_true];rw[Eh];simp
theorem t_(pl):∀ T x,(shL pl T x).en.length=-x.en+-T/\(shL pl T x).mv=x.mv/\(shL pl T x).ln=x.ln
 | [],x=>#v[rfl,rfl,rfl]
 | t::T,x=>by
  have:=t_ pl T<|sh1 pl t x;have e:(sh1 pl t x).en.length=-x.en+1:=by simp[sh1]
  rw[lZ,M1];exact#v[by lia,this.2]
def Ej(ws)(x):-(cJ ws x)=-ws:=by
 unfold cJ;rw[List.length_zip,List.length_zip,VI];simp
def dq:Ru->List Nat
 | .one k _=>k
 | .lend _ _=>qd
 | .many _=>Ki
def c_:Ru->List Nat
 | .one _ w=>w
 | .lend w _=>w
 | .many _=>[]
def gH(x:Fl)(k:EN):Int:=(qx x.ln k).getD 0
def ii(n:Int):Int:=if n<0 then 0 else n
def cO(p:bZ)(r:Ru)(x:Fl):Int:=match r with
 | .lend w j=>ii<|j-gH x (p.nm,w)
 | .one k w=>if k=Qa then x.ow w else if k=yD then x.ow w+x.sz w else if k=kH then ii (fnOf p.marks w-x.lv w) else if k=vO then gH x (w,p.nm) else x.cash
 | .many _=>0
def qD(p:bZ)(k w:List Nat)(g:Int)(x:Fl):Fl:=if k=Qa then{x with ow:=put x.ow w (x.ow w-g)} else if k=yD then{x with ow:=put x.ow w<|x.ow w-b_ g (x.ow w),sz:=put x.sz w (x.sz w-(g-b_ g (x.ow w)))} else if k=kH then{x with lv:=put x.lv w (x.lv w+g)} else if(k=qd\/k=vO)/\0<g then{x with ln:=dQ p.nm x.ln (k,w,g),mv:=x.mv++[(k,w,g)]} else x
def g0(k:List Nat):Bool:=decide<|k=Qa\/k=yD
def i_(p:bZ)(pl:Int)(r:Ru)(x:Fl):En:=#v[pl,dq r,c_ r,cO p r x,b_ (cO p r x) x.cash]
def KC(p:bZ)(pl:Int)(r:Ru)(x:Fl):Fl:=qD p (dq r) (c_ r) (b_ (cO p r x) x.cash) {x with cash:=x.cash-b_ (cO p r x) x.cash,en:=x.en++[i_ p pl r x]}
def qK(p:bZ)(pl:Int)(r:Ru)(x:Fl):Fl:=eg (g0<|dq r) (b_ (cO p r x) x.cash) (cO p r x) (c_ r)<|KC p pl r x
def vN(p:bZ)(pl:Int)(r:Ru)(x:Fl):Fl:=match r with
 | .one k w=>qK p pl (.one k w) x
 | .lend w j=>qK p pl (.lend w j) x
 | .many ws=>xg pl ws x
def v8(p:bZ):Int->List Ru->Fl->Fl
 | _,[],x=>x
 | k,r::R,x=>v8 p (k+1) R<|vN p k r x
def RW{p k r R x}:v8 p k (r::R) x=v8 p (k+1) R (vN p k r x):=rfl
def Ek(b)(g nd)(w)(y):(eg b g nd w y).en=y.en/\(eg b g nd w y).mv=y.mv/\(eg b g nd w y).lv=y.lv/\(eg b g nd w y).sv.length<=-y.sv+1:=by
 unfold eg;split
 ·exact#v[rfl,rfl,rfl,by simp]
 ·exact#v[rfl,rfl,rfl,by lia]
structure ij(n:Nat)(x:Fl):Prop where
 en:-x.en+10*n<=800
 sv:-x.sv+10*n<=900
 mv:-x.mv+n<=100
 ln:-x.ln+n<=100
def VY(p)(k w)(g)(x):(qD p k w g x).en=x.en/\(qD p k w g x).sv=x.sv/\(qD p k w g x).cash=x.cash/\(qD p k w g x).mv.length<=-x.mv+1/\(qD p k w g x).ln.length<=-x.ln+1:=by
 unfold qD;split
 ·exact#v[rfl,rfl,rfl,by simp,by simp]
 split
 ·exact#v[rfl,rfl,rfl,by simp,by simp]
 split
 ·exact#v[rfl,rfl,rfl,by simp,by simp]
 split
 ·exact#v[rfl,rfl,rfl,by simp,(by unfold dQ;split<;>exact RG _ _ _)]
 ·exact#v[rfl,rfl,rfl,by simp,by simp]
def RX(p)(pl)(r){x}{n}(k:ij (n+1) x):ij n (qK p pl r x):=by
 have a:=VY p (dq r) (c_ r) (b_ (cO p r x) x.cash) {x with cash:=x.cash-b_ (cO p r x) x.cash,en:=x.en++[i_ p pl r x]};have l:(qK p pl r x).ln=(KC p pl r x).ln:=by unfold qK eg;split<;>rfl
 have b:=Ek (g0<|dq r) (b_ (cO p r x) x.cash) (cO p r x) (c_ r)<|KC p pl r x;have e:(KC p pl r x).en.length=-x.en+1:=by unfold KC;rw[a.1];simp
 have g:=k.en;have h:=k.sv;have i:=k.mv;have j:=k.ln;have c:=congrArg List.length a.2.1;have d:=a.2.2.2.1;have f:=a.2.2.2.2;dsimp only at c d f;refine#v[?_,?_,?_,?_]
 ·unfold qK;rw[b.1];lia
 ·have:=b.2.2.2;unfold KC at this;unfold qK KC;lia
 ·unfold qK;rw[b.2.1];unfold KC;lia
 ·rw[l];unfold KC;lia
def xh{C P O}(p)(pl){r}(d:cw C P O r){x}{n}(k:ij (n+1) x):ij n (vN p pl r x):=by
 cases d with
 | share e f g=>
  rename_i c;have a:=t_ pl (cJ c x) x;have b:=Ej c x;have h:=k.en;have i:=k.sv;refine#v[?_,?_,?_,?_]
  ·show(shL pl (cJ c x) x).en.length+_<=_;lia
  ·show(if fG c x=true then x.sv++c else x.sv).length+_<=_;split
   ·simp;lia
   ·lia
  ·show(shL pl (cJ c x) x).mv.length+_<=_;rw[a.2.1];have:=k.mv;lia
  ·show(shL pl (cJ c x) x).ln.length+_<=_;rw[a.2.2];have:=k.ln;lia
 | _=>exact RX p pl _ k
theorem YR{C P O}(p):∀ k R {x},(∀ r∈R,cw C P O r)->ij R.length x->ij 0 (v8 p k R x)
 | _,[],x,_,h=>h
 | k,r::R,x,a,h=>YR p (k+1) R (λq b=>a q<|by simp[b])<|xh p k (a r<|by simp) h
theorem wG{k k'}{v}:∀{l},qx (f6 l k v) k'=if k=k'/\k∈l.map (·.1) then some v else qx l k'
 | []=>by simp[f6,qx]
 | r::l=>by
  show qx ((r.1,if r.1=k then v else r.2)::f6 l k v) k'=_;rw[qx,qx,wG (k:=k) (k':=k') (v:=v) (l:=l)];by_cases e:r.1=k'
  ·by_cases q:k=k'
   ·subst q;simp[e]
   ·have n:¬ r.1=k:=λz=>q<|z.symm.trans e;have b:¬ k'=k:=λz=>q z.symm;simp[e,q,b]
  ·by_cases q:k=k'
   ·subst q;rw[if_neg e,if_neg e];by_cases a:k∈l.map (·.1)
    ·rw[if_pos #v[rfl,a],if_pos #v[rfl,L6 _ a]]
    ·rw[if_neg λz=>a z.2,if_neg λz=>(M4.mp z.2).elim (λy=>e y.symm) a]
   ·simp[e,q]
theorem El{k k'}{v}:∀{l},k∉l.map (·.1)->qx (l++[(k,v)]) k'=if k=k' then some v else qx l k'
 | [],_=>by simp[qx]
 | r::l,h=>by
  rw[L5,M4,not_or] at h;rw[List.cons_append,qx,qx,El h.2];by_cases e:r.1=k'
  ·rw[if_pos e,if_pos e,if_neg λz=>h.1<|z.trans e.symm]
  ·rw[if_neg e,if_neg e]
def wE(l)(k k')(v):(qx (fD l k v) k').getD 0=if k=k' then v else(qx l k').getD 0:=by
 unfold fD;by_cases h:k∈l.map (·.1)
 ·rw[if_pos h,wG];by_cases q:k=k'
  ·rw[if_pos #v[q,h],if_pos q];rfl
  ·rw[if_neg λz=>q z.1,if_neg q]
 ·rw[if_neg h,El h];split<;>rfl
def Jr(k:Nat)(g:WG)(x:Fl):Fl:={x with lv:=put x.lv g.1<|x.lv g.1-b_ (x.ow g.2) (x.lv g.1),ow:=put x.ow g.2<|x.ow g.2-b_ (x.ow g.2) (x.lv g.1),en:=x.en++[#v[k,Ef,g.2,x.ow g.2,b_ (x.ow g.2)<|x.lv g.1]]}
def yO:Nat->List WG->Fl->Fl
 | _,[],x=>x
 | k,g::G,x=>yO (k+1) G<|Jr k g x
def vG(b:dH)(c:Int)(ln:LN):Fl:=#v[fnOf b.S,fnOf b.W,fnOf b.L,ln,c,[],[],[]]
def V0(p:bZ)(o:dD)(b:dH)(c:Int)(ln:LN):Fl:=yO 0 p.grds<|v8 p o.parts.length o.rules<|twiceF o.parts c<|vq 0 o.parts (jR o.parts c).1 (vG b c ln)
def zu(S:List W2)(sv:W1)(R:List W2):List W2:=R.map λq=>(q.1,if 0<fnOf S q.1/\q.1∉sv then q.2+1 else 0)
def qu(p:bZ)(b:dH)(x:Fl):dH:=#v[c7 p.C x.sz,c7 p.C x.ow,zu b.S x.sv b.R,c7 p.P x.lv,b.z]
theorem Kc:∀ k Q A x,(vq k Q A x).en.length<=-x.en+-Q
 | _,[],_,x=>M8 _
 | _,_::_,[],x=>Nat.le_add_right _ _
 | k,q::Q,a::A,x=>by
  have:=Kc (k+1) Q A<|Kh k q a x;have e:(Kh k q a x).en.length=-x.en+1:=by simp[Kh]
  rw[uL,M1];lia
def twiceF_en(Q)(c)(x):(twiceF Q c x).en.length<=-x.en+1:=by
 unfold twiceF;split
 ·simp
 ·lia
section
variable {p:bZ}{x:Fl}{w:List Nat}
def Jm{m}{mn}{pa}{ρ}{i}{ds}(h0:pV i ρ\(jI p true x))(a:pa ρ\ds)(b:frzs ds=true)
  (hn:∀ a0 a1 a2 a3 a4 a5 a6 a7 a8 a9:D,Jh NS [a0,a1,a2,a3,a4,a5,a6,a7,a8,a9] mn=none):y6 m i 1 mn pa ρ=(m<|jI p true x::ds).bind λr=>some (r.1,ρ.set i<|some r.2):=by
 rw[y6,a,L4,h0,L4];show(bif true&&(frzs ds&&(Jh NS _ mn).isNone) then _ else none)=_;rw[hn,b];rfl
def Em{m}{mn}{po}{pa}{ρ}{ds}{o}{r}(h0:po ρ\(jI p o x))(a:pa ρ\ds)
  (hn:∀ a0 a1 a2 a3 a4 a5 a6 a7 a8 a9:D,Jh NS [a0,a1,a2,a3,a4,a5,a6,a7,a8,a9] mn=none) (b:m (jI p false x::bV ds)\r) (c:kJ r=true):yf m 1 mn po pa ρ\r:=by
 rw[yf,h0,L4];show(bif true&&(Jh NS _ mn).isNone then(pa ρ).bind λds=>(m<|bV<|jI p o x::ds).bind λd=>bif frzs (jI p o x::ds)||kJ d then some d else none else none)=_;rw[hn,a,L4,JG,RM,b,L4,c,Bool.or_true];rfl
theorem KR{ts}{a1 a2}{B:List Int}(c:jd ts (.int 0)=↑(B.map D.int)):∀{Q}{A}{s}{x}{o4 o5 o6 o7},A=B.drop s->-A=-Q->-x.en+-Q<=900 ->
  gP λ(o4' o5' o6' o7':Option D)=>yC (gT 2<|gC (jc [0] 4)<|gC (jc [0] 5) gN) kQ (jO s<|Q.map e2) [some<|jI p true x,a1,a2,some ts,o4,o5,o6,o7]\(.nx [some<|jI p true<|vq s Q A x,a1,a2,some ts,o4',o5',o6',o7'])
 | [],A,s,x,o4,o5,o6,o7,_,_,_=>#v[o4,o5,o6,o7,rfl]
 | r::Q,[],s,x,o4,o5,o6,o7,_,f,_=>by simp at f
 | r::Q,a::A,s,x,o4,o5,o6,o7,b,f,g=>by
  rw[M1] at g;simp only[M1] at f;have d:s< -B:=by
   by_cases h:s< -B
   ·exact h
   ·rw[List.drop_eq_nil_of_le ∅] at b;cases b
  rw[List.drop_eq_getElem_cons d] at b;injection b with ha b;have i:jd (.lst true<|B.map D.int) (.int s)\(.int a):=by
   rw[lF ∅ (by rw[L1];lia),N7,List.getElem?_map,X5 d,ha];rfl
  have j:zN [.int a,.int x.cash]\(.int<|b_ a x.cash):=rfl;have k:(Kh s r a x).en.length=-x.en+1:=by simp[Kh]
  let[o4',o5',o6',o7',e]:=KR c (Q:=Q) (x:=Kh s r a x) b ∅ ∅;refine#v[o4',o5',o6',o7',?_];have l:jd (e2 r) (.int 0)\(.str r.1):=rfl;have m:=xa (p:=p) (x:=x) (o:=true);rw[L5,jO,nh ?_,e];rfl;apply ql (ρ':=%[jI p true x,(a1),(a2),ts,.int s,e2 r,.int a,(o7)|0]) (by generalize jI p true x=X at *;simp[c,i]);apply ql (ρ':=%[jI p true x,(a1),(a2),ts,.int s,e2 r,.int a,.int<|b_ a x.cash|0]) (by generalize jI p true x=X at *;simp[m,j,-J2]);apply ql<|uZ rfl rfl;exact wB (x:={x with cash:=x.cash-b_ a x.cash}) rfl (by simp[jb,e5,l]) (by show x.en.length<=1000;lia)
def RY{Q}(d:0<=x.cash)(n:x.cash<=2 ^ 900)(r:∀ q∈Q,ig q)(f:-Q<=10)(t:-x.en<=100):
  ye [jI p true x,.lst false<|Q.map e2]\(.non,jI p true<|twiceF Q x.cash<|vq 0 Q (jR Q x.cash).1 x):=by
 have g:=Rj f r d n;let[h,j,k,l,e]:=KR (p:=p) (ts:=.tup [.lst true<|(jR Q x.cash).1.map D.int,.int (jR Q x.cash).2]) (a1:=‹Q.map e2›) (a2:=some<|.int x.cash) rfl (s:=0) (x:=x) (o4:=none) (o5:=none) (o6:=none) (o7:=none) rfl (D3 (P:=Q) (c:=x.cash)) ∅;have a:=xa (p:=p) (x:=x) (o:=true);have u:jd (.tup [.lst true<|(jR Q x.cash).1.map D.int,.int (jR Q x.cash).2]) (.int 0)=↑((jR Q x.cash).1.map D.int):=rfl;have m:jd (.tup [.lst true<|(jR Q x.cash).1.map D.int,.int (jR Q x.cash).2]) (.int 1)\(.int (jR Q x.cash).2):=rfl;have v:=Kc 0 Q (jR Q x.cash).1 x;have fy:=yz Q;have wb:=Jx Q;by_cases b:0<(jR Q x.cash).2
 ·have w:=wB (ρ:=%[jI p true<|vq 0 Q (jR Q x.cash).1 x,‹Q.map e2›,.int x.cash,.tup [.lst true<|(jR Q x.cash).1.map D.int,.int (jR Q x.cash).2],(h),(j),(k),(l)|0]) (i:=0) (pv:=yk #[p1 ur<|pI 1,pS [116,119,105,99,101],pS [],bW gu #[3|||0],pF !2]) (e:=#v[Neg.neg 1,Eg,[],(jR Q x.cash).1.sum,x.cash]) rfl (by simp[jb,e5,u]) ∅;rw[twiceF,if_pos b];simp[ye,qw,vJ,a,g,fy,wb,e,m,b,w,Y4,-qV]
 ·rw[twiceF,if_neg b];simp[ye,qw,vJ,a,g,fy,wb,e,m,b,Y4,-qV]
def RZ{c}(a:w∈p.C)(b:-p.C<=1000):jB [jI p true x,.str Qa,.str w,.int c]\(.non,jI p true {x with ow:=put x.ow w (x.ow w-c)}):=by
 simp[jB,qw,yP,pJ (ρ:=%[jI p true x,.str Qa,.str w,.int c,_|0]) (i:=0) (pk:=pV 2) (pv:=pV 3) rfl rfl rfl a b,Y4]
def R0{c}(a:w∈p.C)(b:-p.C<=1000):jB [jI p true x,.str yD,.str w,.int c]\(.non,jI p true {x with ow:=put x.ow w<|x.ow w-b_ c (x.ow w),sz:=put x.sz w (x.sz w-(c-b_ c (x.ow w)))}):=by
 have d:zN [.int c,.int<|x.ow w]\(.int<|b_ c<|x.ow w):=rfl;simp[jB,qw,yP,pJ (ρ:=%[jI p true x,.str yD,.str w,.int c,.int<|b_ c<|x.ow w|0]) (i:=0) (pk:=pV 2) (pv:=pV 4) rfl rfl rfl a b,RO (ρ:=%[jI p true {x with ow:=put x.ow w (x.ow w-b_ c (x.ow w))},.str yD,.str w,.int c,.int<|b_ c<|x.ow w|0]) (i:=0) (pk:=pV 2) (pv:=p2 Ku !3<|pV 4) (n:=c-b_ c (x.ow w)) rfl rfl (by simp) a b,t8 (p:=p) (x:=x) (o:=true),yE (o:=true) (f:=x.ow) a,d,Y4,-J2]
def R1{c}(a:w∈p.P)(b:-p.P<=1000):jB [jI p true x,.str kH,.str w,.int c]\(.non,jI p true {x with lv:=put x.lv w (x.lv w+c)}):=by
 simp[jB,qw,yP,RP (ρ:=%[jI p true x,.str kH,.str w,.int c,_|0]) (i:=0) (pk:=pV 2) (pv:=pV 3) rfl rfl rfl a b,Y4]
def uf{kw}(h:kw=qd\/kw=vO):Vh false (.str kw) (.tup [.str [108,101,110,100],.str [98,97,99,107]])\(.bl true):=by
 rcases h with rfl | rfl<;>rfl
def R3{m}{N}{c}(k:gG p.nm N c x.ln m)(f:-x.ln<=100)(g:-x.mv<=1000):jB [jI p true x,.str m.1,.str m.2.1,.int m.2.2]\(.non,jI p true {x with ln:=dQ p.nm x.ln m,mv:=x.mv++[m]}):=by
 have b:=k.kd.imp id (·.1);have a:∀ r:Rh,YG vi 0 (k8 1 "loans" vW) #[pF<|v9 1 "pool_name" !0,pF !1,pF !2,pF !3] (some (jI p true x)::some (.str m.1)::some (.str m.2.1)::some (.int m.2.2)::r)\(.non,some (jI p true {x with ln:=dQ p.nm x.ln m})::some (.str m.1)::some (.str m.2.1)::some (.int m.2.2)::r):=by
  intro r;have h:k8 1 "loans" vW (jI p true x)\(dA true x.ln,λz=>dh true (.str p.nm) (bY true p.P<|fnOf p.marks) (bY true p.C x.sz) (bY true p.C x.ow) (bY true p.P x.lv) z (.int x.cash) (f8 true<|fF x.sv) (.lst true<|x.en.map e5)<|.lst true<|x.mv.map eM):=rfl;have d:jI p true {x with ln:=dQ p.nm x.ln m}=dh true (.str p.nm) (bY true p.P<|fnOf p.marks) (bY true p.C x.sz) (bY true p.C x.ow) (bY true p.P x.lv) (dA true<|dQ p.nm x.ln m) (.int x.cash) (f8 true<|fF x.sv) (.lst true<|x.en.map e5) (.lst true<|x.mv.map eM):=rfl;rw[d];unfold YG;simp[RS (p:=p) (x:=x) (o:=true),h,D_ f k]
 have j:(m.1==Qa)=false:=by rcases b with e | e<;>rw[e]<;>rfl
 have l:(m.1==yD)=false:=by rcases b with e | e<;>rw[e]<;>rfl
 have n:(m.1==kH)=false:=by rcases b with e | e<;>rw[e]<;>rfl
 simp[jB,qw,yP,a,RN (ρ:=%[jI p true {x with ln:=dQ p.nm x.ln m},.str m.1,.str m.2.1,.int m.2.2,_|0]) (i:=0) (pv:=yk #[pF !1,pF !2,pF !3]) (m:=m) rfl (by simp[jb,eM]) g,uf b,k.po,j,l,n,Y4,jb,-qV]
def xi{kw}{c}(h:kw=Vj\/((kw=qd\/kw=vO)/\¬ 0<c)):jB [jI p true x,.str kw,.str w,.int c]\(.non,jI p true x):=by
 rcases h with rfl | ⟨rfl | rfl,h⟩
 ·have a:Vh false (.str Vj) (.tup [.str [108,101,110,100],.str [98,97,99,107]])\(.bl false):=rfl;simp[jB,qw,yP,a,Y4,jb]
 ·have a:=uf<|.inl rfl;simp[jB,qw,yP,a,h,Y4,jb]
 ·have a:=uf<|.inr rfl;simp[jB,qw,yP,a,h,Y4,jb]
def R4{d}{kw}{pl nd}{y}{b}(k:jd d (.int 0)\(.str kw))(l:jd d (.int 1)\(.str w))(fd:fz d=d)
  (j:jl [jI p false x,d]\(.int nd))
  (give:jB [jI p true {x with cash:=x.cash-b_ nd x.cash,en:=x.en++[#v[pl,kw,w,nd,b_ nd x.cash]]},.str kw,.str w,.int<|b_ nd x.cash]\(.non,jI p true y))
  (h:Vh false (.str kw) (.tup [.str [112,97,121],.str [114,101,112,97,121]])\(.bl b)) (q:-x.en<=1000) (t:-y.sv<=1000):
  jF [jI p true x,.int pl,d]\(.non,jI p true<|if b=true/\b_ nd x.cash=nd/\0<nd then{y with sv:=y.sv++[w]} else y):=by
 have m:zN [.int nd,.int x.cash]\(.int<|b_ nd x.cash):=rfl;generalize A:b_ nd x.cash=g at *;have n:=xa (p:=p) (x:=x) (o:=true);have a:∀ r:Rh,yf jl 1 "need_of" (!0) #[!2] (some (jI p true x)::some (.int pl)::some d::r)\(.int nd):=λr=>Em rfl (ds:=[d]) (by simp) (λ_ _ _ _ _ _ _ _ _ _=>rfl) (by rw[show bV [d]=[d] by rw[JG,fd];rfl];exact j) rfl;have c:=uZ (ρ:=%[jI p true x,.int pl,d,.str kw,.str w,.int nd,.int g|0]) (i:=0) (pv:=pV 6) rfl rfl;have e:=wB (ρ:=%[jI p true {x with cash:=x.cash-g},.int pl,d,.str kw,.str w,.int nd,.int g|0]) (i:=0) (pv:=yk #[pF !1,pF !3,pF !4,pF !5,pF !6]) (e:=#v[pl,kw,w,nd,g]) rfl (by simp[jb,e5]) q;have f:y6 jB 0 1 "give" #[pF !3,pF !4,pF !6] %[jI p true {x with cash:=x.cash-g,en:=x.en++[#v[pl,kw,w,nd,g]]},.int pl,d,.str kw,.str w,.int nd,.int g|0]\(.non,%[jI p true y,.int pl,d,.str kw,.str w,.int nd,.int g|0]):=by
  rw[Jm rfl (ds:=[.str kw,.str w,.int g]) (by simp) rfl<|λ_ _ _ _ _ _ _ _ _ _=>rfl,give];rfl
 have s:=Ee (ρ:=%[jI p true y,.int pl,d,.str kw,.str w,.int nd,.int g|0]) (i:=0) (pk:=pV 4) rfl rfl t;have z:jI p true (if b=true/\g=nd/\0<nd then{y with sv:=y.sv++[w]} else y)=if b=true/\g=nd/\0<nd then jI p true {y with sv:=y.sv++[w]} else jI p true y:=by split<;>rfl
 rw[z];cases b with
 | false=>simp[jF,qw,yI,k,l,a,n,m,c,e,f,s,h,Y4,jb,-J2,-qV,-yf,-y6]
 | true=>
  by_cases u:g=nd
  ·subst u;by_cases v:0<g
   ·simp[jF,qw,yI,k,l,a,n,m,c,e,f,s,h,v,Y4,jb,-J2,-qV,-yf,-y6]
   ·simp[jF,qw,yI,k,l,a,n,m,c,e,f,s,h,v,Y4,jb,-J2,-qV,-yf,-y6]
  ·simp[jF,qw,yI,k,l,a,n,m,c,e,f,s,h,u,Y4,jb,-J2,-qV,-yf,-y6]
structure cP(p:bZ)(x:Fl):Prop where
 c0:0<=x.cash
 c1:x.cash<=10 ^ 60
 ow:∀ w,0<=x.ow w/\x.ow w<=10 ^ 60
 sz:∀ w,0<=x.sz w
 lv:∀ w,0<=x.lv w/\x.lv w<=fnOf p.marks w
 ln:∀ k,0<=gH x k
def qA{L s}(h:0<=L)(h':0<=s):0<=b_ L s/\b_ L s<=L/\b_ L s<=s:=by unfold b_;split<;>lia
def kz{f}{c d}{u}(h:d≠c):put f c u d=f d:=if_neg h
def pL{f}{v B}{w}(h:∀ n,0<=f n/\f n<=B)(h0:0<=v)(h1:v<=B)(n):0<=put f w v n/\put f w v n<=B:=by
 unfold put;split
 ·exact#v[h0,h1]
 ·exact h n
def qr{S:List W2}(h:∀ q∈S,0<=q.2)(n):0<=fnOf S n:=by
 unfold fnOf
 induction S with
 | nil=>exact Int.le_refl _
 | cons q S a=>
  rw[YV];by_cases e:q.1=n
  ·rw[if_pos e];exact h q (by simp)
  ·rw[if_neg e];exact a λr b=>h r (by simp[b])
def Y1{B}{S:List W2}(a:0<=B)(h:∀ q∈S,q.2<=B)(n):fnOf S n<=B:=by
 unfold fnOf
 induction S with
 | nil=>exact a
 | cons q S b=>
  rw[YV];by_cases e:q.1=n
  ·rw[if_pos e];exact h q (by simp)
  ·rw[if_neg e];exact b λr c=>h r (by simp[c])
def JH(l:List Int):frzs (l.map D.int)=true:=yd λd hd=>by let[p,_,rfl]:=M5.mp hd;rfl
def YO(l:List Int):bV (l.map D.int)=l.map D.int:=kr λd hd=>by let[p,_,rfl]:=M5.mp hd;rfl
def Qb(l:List Int):jW (l.map D.int)=true:=by
 rw[yw,List.all_map,List.all_eq_true];intro x _;rfl
theorem VG:∀{a:List s}{b:List u},-a=-b->(a.zip b).map (·.2)=b
 | [],[],_=>rfl
 | [],_::_,h=>by simp at h
 | _::_,[],h=>by simp at h
 | a::l,b::m,h=>by simp at h;simp[VG h]
theorem uE:∀{a:List s}{b:List u},-a=-b->(a.zip b).map (·.1)=a
 | [],[],_=>rfl
 | [],_::_,h=>by simp at h
 | _::_,[],h=>by simp at h
 | a::l,b::m,h=>by simp at h;simp[uE h]
theorem Eo:∀(ws:W1) (ns gs:List Int),lN (!ws) (ns.map D.int) (gs.map D.int)=(ws.zip<|ns.zip gs).map eT
 | [],_,_=>rfl
 | _::_,[],_=>rfl
 | _::_,_::_,[]=>rfl
 | w::ws,n::ns,g::gs=>by
  rw[L5,L5,L5,CH,Eo ws ns gs];rfl
structure fT(x:Fl)(T:List W3):Prop where
 nd:(T.map (·.1)).Nodup
 eq:∀ t∈T,t.2.1=x.ow t.1/\0<=t.2.2/\t.2.2<=t.2.1
 sum:(T.map (·.2.2)).sum<=x.cash
theorem ug:∀(T:List W3),(∀ t∈T,0<=t.2.2)->0<=(T.map (·.2.2)).sum
 | [],_=>by simp
 | a::T,q=>by
  have:=ug T λt b=>q t (by simp[b]);have:=q a (by simp);rw[L5,List.sum_cons];lia
def fT.next{pl}{x}{t}{T}(h:fT x<|t::T):fT (sh1 pl t x) T:=by
 have nd:=h.nd;rw[L5,List.nodup_cons] at nd;have s:=h.sum;rw[L5,List.sum_cons] at s;refine#v[nd.2,λa c=>?_,by show _<=x.cash-t.2.2;lia];have:=h.eq a (by simp[c]);have b:a.1≠t.1:=λz=>nd.1<|z▸M5.mpr #v[a,c,rfl];show a.2.1=put x.ow t.1 (x.ow t.1-t.2.2) a.1/\_;rw[kz b];exact this
theorem Ep{pl}:∀{T}{x},cP p x->fT x T->cP p (shL pl T x)
 | [],x,k,_=>k
 | t::T,x,k,h=>by
  rw[lZ];have e:=h.eq t (by simp);have s:=h.sum;have n:=ug T λa b=>(h.eq a<|by simp[b]).2.1;rw[L5,List.sum_cons] at s;have c1:=k.c1;have o:=k.ow t.1;exact Ep #v[by show 0<=x.cash-t.2.2;lia,by show x.cash-t.2.2<=_;lia,pL k.ow ∅ ∅,k.sz,k.lv,k.ln] h.next
structure ul(ws:W1)(x:Fl):Prop where
 ns:∀ v∈ws.map x.ow,0<=v/\v<=10 ^ 60
 sum:(ws.map x.ow).sum<=10 ^ 80
 gl:-(ya (ws.map x.ow) x.cash)=-ws
 t1:(cJ ws x).map (·.1)=ws
 ok:fT x (cJ ws x)
def ik{ws}{x}(k:cP p x)(y:-ws<=10)(nd:ws.Nodup):ul ws x:=by
 have c0:=k.c0;have c:∀ v∈ws.map x.ow,0<=v/\v<=10 ^ 60:=λv h=>by
  let[w,_,rfl]:=M5.mp h;exact k.ow w
 have e:=λv h=>(c v h).1;have a:-(ws.map x.ow)=-ws:=L1 ..;have f:(ws.map x.ow).sum<=10 ^ 80:=by
  have:=DX _ c
  lia
 have b:-(ya (ws.map x.ow) x.cash)=-ws:=by rw[VI,a]
 have g:(cJ ws x).map (·.1)=ws:=uE (by rw[List.length_zip,a,b];simp);have j:(cJ ws x).map (·.2)=(ws.map x.ow).zip (ya (ws.map x.ow) x.cash):=VG (by rw[List.length_zip,a,b];simp);have l:(cJ ws x).map (·.2.2)=ya (ws.map x.ow) x.cash:=by
  have:(cJ ws x).map (·.2.2)=((cJ ws x).map (·.2)).map (·.2):=by rw[U0];rfl
  rw[this,j];exact VG (by rw[a,b])
 refine#v[c,f,b,g,by rw[g];exact nd,?_,?_]
 ·intro t m;let[i,hi]:=List.mem_iff_getElem?.mp m;unfold cJ at hi;rw[List.getElem?_zip_eq_some] at hi;let[n,d]:=hi;rw[List.getElem?_zip_eq_some] at d;let[d,o]:=d;have r:=Rk c0 e o d;rw[List.getElem?_map,n] at d;simp at d;exact#v[d.symm,r]
 ·rw[l];rcases Qe c0 e with⟨s,u⟩ | q
  ·rw[s];exact u
  ·lia
theorem K3(h:ce p){pl}{a2 a3 a4}{b}:∀{T}{x}{o6 o7 o8},-x.en+-T<=950->-x.sv+-T<=950->(∀ t∈T,t.1∈p.C) ->
  dL λ(o6' o7' o8':Option D)=>yC (gT 3<|gC (jc [0] 6)<|gC (jc [0] 7)<|gC (jc [0] 8) gN) vj (T.map eT) %[jI p true x,.int pl,(a2),(a3),(a4),.bl b,(o6),(o7),(o8)|0]\(.nx %[jI p true<|pK pl b T x,.int pl,(a2),(a3),(a4),.bl b,(o6'),(o7'),(o8')|0])
 | [],x,o6,o7,o8,_,_,_=>#v[o6,o7,o8,rfl]
 | t::T,x,o6,o7,o8,d,a,c=>by
  rw[M1] at d a;have f:-p.C<=1000:=by have:=h.told2;rw[L1];lia
  let x1:Fl:={x with cash:=x.cash-t.2.2}
  let k:Fl:={x1 with ow:=put x.ow t.1 (x.ow t.1-t.2.2)}
  have l:(if b=true then{sh1 pl t x with sv:=x.sv++[t.1]} else sh1 pl t x).en.length=-x.en+1:=by cases b<;>simp[sh1]
  have m:(if b=true then{sh1 pl t x with sv:=x.sv++[t.1]} else sh1 pl t x).sv.length<=-x.sv+1:=by cases b<;>simp[sh1]
  let[o6',o7',o8',e]:=K3 h (T:=T) (x:=if b=true then{sh1 pl t x with sv:=x.sv++[t.1]} else sh1 pl t x) ∅ ∅ (λg j=>c g<|by simp[j]);refine#v[o6',o7',o8',?_];rw[L5,nh ?_,e];rfl;show vj %[jI p true x,.int pl,(a2),(a3),(a4),.bl b,.str t.1,.int t.2.1,.int t.2.2|0]=_;apply ql<|uZ rfl rfl;apply ql (by exact pJ rfl rfl rfl (c t<|by simp) f);apply ql (by exact wB (e:=t9 pl t) rfl (by simp[jb,e5,t9])<|by show x.en.length<=1000;lia);cases b with
  | false=>rfl
  | true=>exact Ee (pk:=pV 6) (ρ:=%[jI p true<|sh1 pl t x,.int pl,(a2),(a3),(a4),.bl true,.str t.1,.int t.2.1,.int t.2.2|0]) (i:=0) rfl rfl (by show x.sv.length<=1000;lia)
def R5(h:ce p)(k:cP p x){pl}{ws}(u:-ws<=10)(l:∀ w∈ws,w∈p.C)(nd:ws.Nodup)(v:-x.en<=900)(y:-x.sv<=900):jQ [jI p true x,.int pl,.tup<|!ws]\(.non,jI p true<|xg pl ws x):=by
 have c1:=k.c1;have q:=ik k u nd;have m:=Rc (by rw[L1];lia) q.ns k.c0 ∅ q.sum;have H:=Ej ws x;let[z,A,B,e]:=K3 h (a2:=some<|.tup<|!ws) (a3:=‹(ws.map x.ow).map D.int›) (a4:=‹(ya (ws.map x.ow) x.cash).map D.int›) (T:=cJ ws x) (x:=x) (o6:=none) (o7:=none) (o8:=none) ∅ ∅ (λt E=>l _<|by rw[<- q.t1];exact M5.mpr #v[t,E,rfl]);have F:pK pl (fG ws x) (cJ ws x) x=xg pl ws x:=by rw[Ei,q.t1];rfl
 rw[F] at e;have n:jE (jc [] 0) qT (pF<|p2 jX (v9 1 "owed" !1) !0) (!ws) %[_,jI p true x|0]\((ws.map x.ow).map D.int):=by
  rw[U0];refine jV rfl (λρ=>∃ o,ρ=[o,some<|jI p true x]) ?_ #v[none,rfl];rintro r G ρ ⟨o,rfl⟩;refine#v[%[.str r,jI p true x|0],rfl,?_,_,rfl];simp[t8 (p:=p) (x:=x) (o:=true),yE (o:=true) (f:=x.ow)<|l r G]
 have c:=xa (p:=p) (x:=x) (o:=true);have d:cb (-ws)=true:=jb ∅;have g:=Mn true true (ya (ws.map x.ow) x.cash)<|ws.map x.ow;have i:o_ 3 [.tup<|!ws,.lst false<|(ws.map x.ow).map D.int,.lst false<|(ya (ws.map x.ow) x.cash).map D.int]\((cJ ws x).map eT):=by
  have gl:=q.gl;rw[Oq rfl rfl rfl (by simp)<|by rw[L1,L1];lia,yg,YO,YO,Eo];rfl
 have s:fG ws x=(decide (0<(ws.map x.ow).sum)&&decide (ya (ws.map x.ow) x.cash=ws.map x.ow)):=rfl;generalize fG ws x=b,ya (ws.map x.ow) x.cash=gs at *;generalize ws.map x.ow=ns at *;by_cases j:0<ns.sum
 ·have a:b=decide (gs=ns):=by rw[s,X0 j,Bool.true_and]
  rw[a] at e;simp[jQ,qw,vI,jv,n,c,d,m,g,JH,YO,Qb,j,i,e,Y4,jn,yg]
 ·have a:b=false:=by rw[s,X1 j,Bool.false_and]
  rw[a] at e;simp[jQ,qw,vI,jv,n,c,d,m,g,JH,YO,Qb,j,i,e,Y4,jn,yg]
def R6(h:ce p){r}(f:cw p.C p.P p.oth r)(i:∀ ws,r≠.many ws){g}(j:dq r=vO->g<=gH x (c_ r,p.nm))(h1:-x.ln<=100)(h2:-x.mv<=1000):jB [jI p true x,.str<|dq r,.str<|c_ r,.int g]\(.non,jI p true<|qD p (dq r) (c_ r) g x):=by
 have c:-p.C<=1000:=by have:=h.told2;rw[L1];lia
 have k:-p.P<=1000:=by have:=h.marks2;rw[L1];lia
 have mv:∀{kd w},(kd=qd\/(kd=vO/\g<=gH x (w,p.nm)))->jB [jI p true x,.str kd,.str w,.int g]\(.non,jI p true<|qD p kd w g x):=λ{kd w} d=>by
  have b:=d.imp id (·.1);have e:qD p kd w g x=if 0<g then{x with ln:=dQ p.nm x.ln (kd,w,g),mv:=x.mv++[(kd,w,g)]} else x:=by
   rcases b with rfl | rfl<;>simp[qD]
  rw[e];by_cases q:0<g
  ·rw[if_pos q];exact R3 (N:=[w]) (m:=(kd,w,g)) #v[d,by simp,q,Int.le_refl _] h1 h2
  ·rw[if_neg q];exact xi<|.inr #v[b,q]
 cases f with
 | rest a=>exact xi<|.inl rfl
 | pay a=>exact RZ a c
 | repay a=>exact R0 a c
 | fill a=>exact R1 a k
 | back a=>exact mv<|.inr #v[rfl,j rfl]
 | lend a=>exact mv<|.inl rfl
 | share _ _ _=>exact absurd rfl<|i _
def Er(n):0<=ii n:=by unfold ii;split<;>lia
def wP{r}(k:cP p x):0<=cO p r x:=by
 cases r with
 | lend w j=>exact Er _
 | many c=>exact Int.le_refl _
 | one kd w=>
  unfold cO;dsimp only;have a:=(k.ow w).1;have b:=k.sz w;split
  ·exact a
  split
  ·lia
  split
  ·exact Er _
  split
  ·exact k.ln _
  ·exact k.c0
def R7{nm}{l}{m}(h:∀ k,0<=(qx l k).getD 0)(c:m.1=qd\/(m.1=vO/\m.2.2<=(qx l (m.2.1,nm)).getD 0))(h0:0<m.2.2)(k):0<=(qx (dQ nm l m) k).getD 0:=by
 unfold dQ;have a:=h (nm,m.2.1);split
 ·rw[wE];split
  ·lia
  ·exact h k
 ·rename_i q;have b:=(c.resolve_left q).2;rw[wE];split
  ·lia
  ·exact h k
def R8{pl}{r}(k:cP p x):cP p (qK p pl r x):=by
 have g:=qA (wP (r:=r) k) k.c0;have c1:=k.c1;have s:∀{y},cP p y->cP p (eg (g0<|dq r) (b_ (cO p r x) x.cash) (cO p r x) (c_ r) y):=λ{y} q=>by
  unfold eg;split<;>exact#v[q.c0,q.c1,q.ow,q.sz,q.lv,q.ln]
 refine s ?_;have c:cP p {x with cash:=x.cash-b_ (cO p r x) x.cash,en:=x.en++[i_ p pl r x]}:=#v[by show 0<=x.cash-_;lia,by show x.cash-_<=_;lia,k.ow,k.sz,k.lv,k.ln];have h:∀{kd},dq r=kd->r=.one kd (c_ r)\/kd=qd\/kd=Ki:=λ{kd} e=>by cases r<;>first | exact .inl (e▸rfl) | exact .inr (.inl e.symm) | exact .inr<|.inr e.symm
 have d:∀{kd},dq r=kd->kd≠qd->kd≠Ki->cO p r x=cO p (.one kd<|c_ r) x:=λe a b=>congrArg (cO p · x)<|(h e).resolve_right λz=>z.elim a b;have o:=k.ow<|c_ r;have z:=k.sz<|c_ r;have v:=k.lv<|c_ r;unfold KC qD;split
 ·rename_i e;have e2:cO p r x=x.ow (c_ r):=d e (by decide) (by decide);rw[e2] at g;exact#v[c.c0,c.c1,pL k.ow (by rw[e2];dsimp only;lia)<|by rw[e2];dsimp only;lia,k.sz,k.lv,k.ln]
 split
 ·rename_i e;have e2:cO p r x=x.ow (c_ r)+x.sz (c_ r):=d e (by decide) (by decide);have dj:=qA g.1 o.1;have D8:b_ (cO p r x) x.cash-b_ (b_ (cO p r x) x.cash) (x.ow<|c_ r)<=x.sz (c_ r):=by
   unfold b_;split<;>lia
  refine#v[c.c0,c.c1,pL k.ow (by dsimp only;lia)<|by dsimp only;lia,λw=>?_,k.lv,k.ln];unfold put;dsimp only;split
  ·lia
  ·exact k.sz w
 split
 ·rename_i e;have e2:cO p r x=ii (fnOf p.marks (c_ r)-x.lv (c_ r)):=d e (by decide) (by decide);refine#v[c.c0,c.c1,k.ow,k.sz,λw=>?_,k.ln];have:ii (fnOf p.marks (c_ r)-x.lv (c_ r))=fnOf p.marks (c_ r)-x.lv (c_ r):=by unfold ii;split<;>lia
  unfold put;dsimp only;split
  ·rename_i q;rw[q];lia
  ·exact k.lv w
 split
 ·rename_i e;refine#v[c.c0,c.c1,k.ow,k.sz,k.lv,R7 k.ln (e.1.imp id λf=>#v[f,?_]) e.2];have e2:cO p r x=gH x (c_ r,p.nm):=d f (by decide) (by decide);show b_ (cO p r x) x.cash<=gH x (c_ r,p.nm)
  lia
 ·exact c
def JL{pl}{r}(a:cw p.C p.P p.oth r)(k:cP p x):cP p (vN p pl r x):=by
 cases a with
 | share c e d=>
  rename_i f;have b:=Ep (pl:=pl) k (ik k d c).ok;exact#v[b.c0,b.c1,b.ow,b.sz,b.lv,b.ln]
 | _=>exact R8 k
def R9(h:ce p)(f:cP p x){pl}{r}(b:cw p.C p.P p.oth r)(c:∀ ws,r≠.many ws){n}(kl:ij n x):jF [jI p true x,.int pl,dw r]\(.non,jI p true<|qK p pl r x):=by
 have l:=kl.en;have m:=kl.sv;have o:=kl.mv;have q:=kl.ln;have g:=qA (wP (r:=r) f) f.c0;have i:jd (dw r) (.int 0)\(.str<|dq r):=by cases r<;>rfl
 have j:jd (dw r) (.int 1)\(.str<|c_ r):=by cases r<;>first | rfl | exact absurd rfl<|c _
 have d:Vh false (.str<|dq r) (.tup [.str [112,97,121],.str [114,101,112,97,121]])\(.bl<|g0<|dq r):=by cases b<;>rfl
 have k:=R6 h b c (x:={x with cash:=x.cash-b_ (cO p r x) x.cash,en:=x.en++[i_ p pl r x]}) (g:=b_ (cO p r x) x.cash) (λe=>by
  have:cO p r x=gH x (c_ r,p.nm):=by cases r<;>first | (cases e;rfl) | (exact absurd (show qd=vO from e)<|by decide) | (exact absurd (show Ki=vO from e)<|by decide)
  show _<=gH x (c_ r,p.nm)
  lia) (by show x.ln.length<=100;lia) (by show x.mv.length<=1000;lia)
 exact R4 i j (yb _<|Q9 r) ((by
   cases b with
   | rest a=>exact RE
   | pay a=>exact Ry<|yE a
   | repay a=>exact Rz (yE a)<|yE a
   | fill a=>exact RA (yE a)<|yE a
   | back a=>exact RD
   | lend a=>exact RB
   | share _ _ _=>exact absurd rfl<|c _)) k d ∅ (by unfold KC;rw[(VY p (dq r) (c_ r) (b_ (cO p r x) x.cash) {x with cash:=x.cash-b_ (cO p r x) x.cash,en:=x.en++[i_ p pl r x]}).2.1];show x.sv.length<=1000;lia)
theorem Qg(h:ce p){a0 a1 a2 a3 a4 a5 a9}:∀{R}{s}{x}{o7 o8},(∀ r∈R,cw p.C p.P p.oth r)->cP p x->ij R.length x ->
  ∃ o7' o8':Option D,yC (7&&&8) JJ (Vg s<|R.map dw) [a0,a1,a2,a3,a4,a5,some<|jI p true x,o7,o8,a9]\(.nx [a0,a1,a2,a3,a4,a5,some<|jI p true<|v8 p s R x,o7',o8',a9])
 | [],s,x,o7,o8,_,_,_=>#v[o7,o8,rfl]
 | r::R,s,x,o7,o8,l,f,c=>by
  have b:=l r (by simp);let[o7',o8',e]:=Qg h (a0:=a0) (a1:=a1) (a2:=a2) (a3:=a3) (a4:=a4) (a5:=a5) (a9:=a9) (s:=s+1) (o7:=some<|.int s) (o8:=some<|dw r) (λd hd=>l d<|by simp[hd]) (JL b f)<|xh p s b c;refine#v[o7',o8',?_];have A:=c.en;have B:=c.sv;have o:JJ %[(a0),(a1),(a2),(a3),(a4),(a5),jI p true x,.int s,dw r,(a9)|0]\(.nx %[(a0),(a1),(a2),(a3),(a4),(a5),jI p true<|vN p s r x,.int s,dw r,(a9)|0]):=by
   have one:(∀ a,r≠.many a)->vN p s r x=qK p s r x->JJ %[(a0),(a1),(a2),(a3),(a4),(a5),jI p true x,.int s,dw r,(a9)|0]\(.nx %[(a0),(a1),(a2),(a3),(a4),(a5),jI p true<|vN p s r x,.int s,dw r,(a9)|0]):=λn q=>by
    have ex:=R9 h f (pl:=s) b n c;have g:jd (dw r) (.int 0)\(.str<|dq r):=by cases r<;>rfl
    have ns:(dq r==[115,104,97,114,101])=false:=by cases b<;>first | rfl | exact absurd rfl<|n _
    have fr:=Q9 r;have m:=Jm (m:=jF) (mn:="take_rule") (pa:=#[pF !7,pF !8]) (ρ:=%[(a0),(a1),(a2),(a3),(a4),(a5),jI p true x,.int s,dw r,(a9)|0]) (i:=6) (ds:=[.int s,dw r]) rfl (by simp[fr]) (by simp[fr])<|λ_ _ _ _ _ _ _ _ _ _=>rfl;rw[ex,L4] at m;rw[q];simp[JJ,g,ns,m,-y6]
   cases r with
   | one k w=>exact one (λ_ z=>by cases z) rfl
   | lend w j=>exact one (λ_ z=>by cases z) rfl
   | many a=>
    cases b with
    | share t u v=>
     have ex:jQ [jI p true x,.int s,.tup<|!a]\(.non,jI p true<|vN p s (.many a) x):=R5 h f v u t ∅ ∅;have g:jd (dw<|.many a) (.int 0)\(.str Ki):=rfl;have y:jd (dw<|.many a) (.int 1)\(.tup<|!a):=rfl;have fr:=jn a;have m:=Jm (m:=jQ) (mn:="take_share") (pa:=#[pF !7,pF<|8|||1]) (ρ:=%[(a0),(a1),(a2),(a3),(a4),(a5),jI p true x,.int s,dw<|.many a,(a9)|0]) (i:=6) (ds:=[.int s,.tup<|!a]) rfl (by simp[y,fr]) (by simp[fr])<|λ_ _ _ _ _ _ _ _ _ _=>rfl;rw[ex,L4] at m;simp[JJ,g,m,-y6]
  rw[L5,Vg,i9 ?_ o,e]<;>rfl
def R'(h:ce p){pl:Nat}{g}(h1:g.1∈p.P)(h2:g.2∈p.C)(b:-x.en<=900):
  yX [jI p true x,.int pl,.str g.1,.str g.2]\(.non,jI p true<|Jr pl g x):=by
 have c:-p.C<=1000:=by have:=h.told2;rw[L1];lia
 have d:-p.P<=1000:=by have:=h.marks2;rw[L1];lia
 have i:zN [.int<|x.ow g.2,.int<|x.lv g.1]\(.int<|b_ (x.ow g.2)<|x.lv g.1):=rfl;unfold Jr;generalize b_ (x.ow g.2) (x.lv g.1)=y at *;let[po,a]:=g
 let x1:Fl:={x with lv:=put x.lv po (x.lv po-y)}
 let j:Fl:={x1 with ow:=put x.ow a (x.ow a-y)}
 let k:Fl:={j with en:=x.en++[#v[pl,Ef,a,x.ow a,y]]}
 have l:=t8 (p:=p) (x:=x) (o:=true);have m:=yE (o:=true) (f:=x.ow) h2;have n:Jq 1 "levels" (jI p true x)\(bY true p.P x.lv):=rfl;have q:=yE (o:=true) (f:=x.lv) h1;show((vK %[jI p true x,.int pl,.str po,.str a,_,_|0]).bind (Y4 0))=_;have e:vK %[jI p true x,.int pl,.str po,.str a,_,_|0]\(.nx %[jI p true k,.int pl,.str po,.str a,.int<|x.ow a,.int y|0]):=by
  apply ql (ρ':=%[jI p true x,.int pl,.str po,.str a,.int<|x.ow a,_|0]) (by generalize jI p true x=X at *;generalize bY true p.C x.ow=D1 at *;simp[l,m]);apply ql (ρ':=%[jI p true x,.int pl,.str po,.str a,.int<|x.ow a,.int y|0]) (by generalize jI p true x=X at *;generalize bY true p.P x.lv=D2 at *;simp[n,q,i,-J2]);apply ql<|RQ rfl rfl rfl h1 d;apply ql<|pJ rfl rfl rfl h2 c;exact wB rfl (by simp[jb,e5]) (by show x.en.length<=1000;lia)
 rw[e];rfl
theorem Ky(h:ce p){a0 a1 a2 a3 a4 a5 a8}:∀{G}{s}{x}{o7 o9},(∀ g∈G,g.1∈p.P/\g.2∈p.C)->-x.en+-G<=900 ->
  ∃ o7' o9':Option D,yC (7&&&9) zM (jO s<|G.map eG) [a0,a1,a2,a3,a4,a5,some<|jI p true x,o7,a8,o9]\(.nx [a0,a1,a2,a3,a4,a5,some<|jI p true<|yO s G x,o7',a8,o9'])
 | [],s,x,o7,o9,_,_=>#v[o7,o9,rfl]
 | g::G,s,x,o7,o9,a,b=>by
  rw[M1] at b;have c:(Jr s g x).en.length=-x.en+1:=by simp[Jr]
  let[o7',o9',e]:=Ky h (G:=G) (x:=Jr s g x) (o7:=some<|.int s) (o9:=some<|eG g) (λg d=>a g<|by simp[d]) ∅;refine#v[o7',o9',?_];have f:jd (eG g) (.int 0)\(.str g.1):=rfl;have j:jd (eG g) (.int 1)\(.str g.2):=rfl;have m:=Jm (m:=yX) (mn:="take_guard") (pa:=#[pF !7,pF<|9|||0,pF<|9|||1]) (ρ:=%[(a0),(a1),(a2),(a3),(a4),(a5),jI p true x,.int s,(a8),eG g|0]) (i:=6) (ds:=[.int s,.str g.1,.str g.2]) rfl (by simp[f,j]) rfl<|λ_ _ _ _ _ _ _ _ _ _=>rfl;rw[R' h (x:=x) (pl:=s) (a g<|by simp).1 (a g<|by simp).2 ∅,L4] at m;rw[L5,jO,nh ?_,e];rfl;simp[zM,m,-y6]
theorem xz{f}{v}:∀{ns}{l},f∉ns->-ns=-l->qF ns l f v=(ns++[f],l++[v])
 | [],[],_,_=>rfl
 | [],_::_,_,e=>by simp at e
 | _::_,[],_,e=>by simp at e
 | n::ns,x::l,h,e=>by rw[Co,if_neg λz=>h<|by simp[z],xz (λz=>h<|by simp[z]) ⇑e];rfl
def vU{f}{pv}{ns}{l}{v}(a:pv (some (.ins true 1 ns l)::r)\v)(h:f∉ns/\ -ns<=900:=by decide)(e:-ns=-l:=by rfl):kD 0 1 f pv (some (.ins true 1 ns l)::r)\(.nx<|some (.ins true 1 (ns++[f])<|l++[v])::r):=by
 rw[kD,a,L4];show(bif (1==1)&&decide (-ns<=900) then some (cq.nx<|some (D.ins true 1 (qF ns l f v).1 (qF ns l f v).2)::r) else none)=_;rw[xz h.1 e,X0 h.2];rfl
def R_(h:ce p){b}{c}{ln}(k:dE p b)(g:(ln.map (·.1)).Nodup)(a:-ln<=1000):
  vD [.ins true 1 [] [],y9 false p,jS false b,.int c,.lst false<|ln.map eR]\(.non,jI p true #v[fnOf b.S,fnOf b.W,fnOf b.L,ln,c,[],[],[]]):=by
 have w:=h.marks2;let[x,y,_,z]:=k.len h;have d:=k.S;have e:=k.W;have f:=k.L;have i:vB [.lst false<|p.marks.map e2]\(bY true p.P<|fnOf p.marks):=yV h.marksn ∅;have j:vB [.lst false<|b.S.map e2]\(bY true p.C<|fnOf b.S):=by rw[<- d];exact yV (by rw[d];exact h.toldn) ∅
 have l:vB [.lst false<|b.W.map e2]\(bY true p.C<|fnOf b.W):=by rw[<- e];exact yV (by rw[e];exact h.toldn) ∅
 have m:vB [.lst false<|b.L.map e2]\(bY true p.P<|fnOf b.L):=by rw[<- f];exact yV (by rw[f];exact h.marksn) ∅
 have eL:=DO g a;have n:=wt ln;have o:jd (jS false b) (.int 0)=‹b.S.map e2›:=rfl;have q:jd (jS false b) (.int 1)=‹b.W.map e2›:=rfl;have r:jd (jS false b) (.int 3)=‹b.L.map e2›:=rfl;have s:jd (y9 false p) (.int 0)\(.str p.nm):=rfl;have t:jd (y9 false p) (.int 2)=‹p.marks.map e2›:=rfl;generalize jS false b=BK,y9 false p=PP at *;show _\(D.non,D.ins true 1 NS [.str p.nm,bY true p.P<|fnOf p.marks,bY true p.C<|fnOf b.S,bY true p.C<|fnOf b.W,bY true p.P<|fnOf b.L,dA true ln,.int c,.dK true [] [],.lst true [],.lst true []]);generalize bY true p.P (fnOf p.marks)=a1,bY true p.C (fnOf b.S)=a2,bY true p.C (fnOf b.W)=a3,bY true p.P (fnOf b.L)=a4,dA true ln=a5 at *;have u:Jv %[.ins true 1 [] [],PP,BK,.int c,‹ln.map eR›|0]\(.nx %[.ins true 1 NS [.str p.nm,a1,a2,a3,a4,a5,.int c,.dK true [] [],.lst true [],.lst true []],PP,BK,.int c,‹ln.map eR›|0]):=by
  apply ql<|vU (v:=.str p.nm) (by simp[s]);apply ql<|vU (v:=a1) (by simp[t,i]);apply ql<|vU (v:=a2) (by simp[o,j]);apply ql<|vU (v:=a3) (by simp[q,l]);apply ql<|vU (v:=a4) (by simp[r,m]);apply ql<|vU (v:=a5) (by simp[eL,n,Y5]);apply ql<|vU (v:=.int c) (by simp);apply ql<|vU rfl;apply ql<|vU (v:=.lst true []) (by simp[cb]);exact vU (by simp[cb])
 exact congrArg (Option.bind · (Y4 0)) u
end
theorem Kz{a0}{o}:∀{os:List dD}{o2},(os.map (·.nm)).Nodup->o∈os ->
  ∃ r,yC (jc [] 2) yN (os.map vx) [a0,some<|.str o.nm,o2]\(.rt (vx o) r)
 | [],o2,_,h=>by simp at h
 | q::os,o2,a,h=>by
  have c:jd (vx q) (.int 0)\(.str q.nm):=rfl;rw[L5,List.nodup_cons] at a;by_cases z:q.nm=o.nm
  ·have e:q=o:=by
    rcases M4.mp h with h | h
    ·exact h.symm
    ·exact absurd (M5.mpr #v[o,h,z.symm]) a.1
   refine#v[%[(a0),.str o.nm,vx q|0],?_];have b:(q.nm==o.nm)=true:=by simp[z]
   rw[L5,j7,<- e];simp[yN,c,b,Vm q]
  ·have b:=U1.mpr z;let[r,e]:=Kz a.2<|(M4.mp h).resolve_left λy=>z (by rw[y]);refine#v[r,?_];have d:yN %[(a0),.str o.nm,vx q|0]\(.nx %[(a0),.str o.nm,vx q|0]):=by
    simp[yN,c,b]
   rw[L5,i9 ?_ d,e];rfl
def Sa(l:List dD):bV (l.map vx)=l.map vx:=kr λd hd=>by let[p,_,rfl]:=M5.mp hd;exact yb _<|Vm p
def Es(h:ce p){o}(a:o∈p.ords):yY [y9 false p,.str o.nm]\(vx o):=by
 let[r,e]:=Kz (a0:=some<|y9 false p) (o2:=none) h.ordn a;have b:jd (y9 false p) (.int 4)=‹p.ords.map vx›:=rfl;simp[yY,jK,Yg,b,wz p.ords,Sa p.ords,e]
def Sb(o)(w)(l):Ko true (.str w) (f8 o l)\(.bl<|not (decide (w∈l))):=by
 show some (D.bl<|true != (Y6 (l.map KA.str) (l.map λ_=>D.bl true)<|.str w).isSome)=_;have:(Y6 (l.map KA.str) (l.map λ_=>D.bl true)<|.str w).isSome=decide (w∈l):=by
  induction l with
  | nil=>rfl
  | cons a l b=>
   rw[L5,L5,Y7];by_cases e:a=w
   ·rw[if_pos<|by rw[e]];simp[e]
   ·rw[if_neg λz=>e (by cases z;rfl),b];simp[Ne.symm e]
 rw[this];cases decide (w∈l)<;>rfl
theorem VM{NC}{S:List W2}(d:-NC<=1000){a1}{X}{sv}(b:Jq 1 "served" X\(f8 false<|fF sv)):∀{R}{acc}{o4 o5 o6},(∀ q∈R,q.1∈NC)->-acc+-R<=1000 ->
  dL λ(o4' o5' o6':Option D)=>yC (4&&&5) jN (R.map e2) [some X,a1,some<|bY true NC<|fnOf S,↑(acc.map e2),o4,o5,o6]\(.nx [some X,a1,some<|bY true NC<|fnOf S,↑((acc++zu S sv R).map e2),o4',o5',o6'])
 | [],acc,o4,o5,o6,_,_=>#v[o4,o5,o6,by simp[zu]]
 | q::R,acc,o4,o5,o6,i,k=>by
  rw[M1] at k;have c:=Sb false q.1<|fF sv;rw[show decide (q.1∈fF sv)=decide (q.1∈sv) from decide_eq_decide.mpr RI] at c;have hx:=yE (o:=true) (f:=fnOf S)<|i q (by simp);have key:∃ o6':Option D,jN %[X,(a1),bY true NC<|fnOf S,↑(acc.map e2),.str q.1,.int q.2,(o6)|0]\(.nx %[X,(a1),bY true NC<|fnOf S,↑((acc++[(q.1,if 0<fnOf S q.1/\q.1∉sv then q.2+1 else 0)]).map e2),.str q.1,.int q.2,(o6')|0]):=by
   by_cases g:0<fnOf S q.1
   ·by_cases j:q.1∈sv
    ·exact#v[some<|.bl false,by simp(disch:=first | lia | (simp;done) | (simp;lia)) [jN,hx,b,c,g,j,jb,e2]]
    ·exact#v[some<|.bl true,by simp(disch:=first | lia | (simp;done) | (simp;lia)) [jN,hx,b,c,g,j,jb,e2]]
   ·exact#v[some<|.bl false,by simp(disch:=first | lia | (simp;done) | (simp;lia)) [jN,hx,b,c,g,jb,e2]]
  let[o6',h]:=key;let[o4',o5',a,e]:=VM d b (R:=R) (acc:=acc++[(q.1,if 0<fnOf S q.1/\q.1∉sv then q.2+1 else 0)]) (λr l=>i r<|by simp[l]) (by simp;lia);refine#v[o4',o5',a,?_];rw[L5,i9 ?_ h,e]
  ·rw[List.append_assoc];rfl
  ·rfl
def YW{o}{M}{f}{po}{s}(h:po s\(bY o M f)):vp po s=↑((c7 M f).map e2):=by
 unfold vp;rw[h];show(bif frzs (M.map λn=>D.int<|f n) then some (D.lst true<|((M.map KA.str).zip (M.map λn=>D.int<|f n)).map λp=>D.tup [eQ p.1,p.2]) else none)=_;rw[Vp,wL];simp[c7,e2]
def Sc(h:ce p){b}(k:dE p b):j8 [jI p false x,jS false b]\(jS true<|qu p b x):=by
 have t:=h.told2;let[u,v,w,y]:=k.len h;have a:=k.S;have c:vB [.lst false<|b.S.map e2]\(bY true p.C<|fnOf b.S):=by rw[<- a];exact yV (by rw[a];exact h.toldn) ∅
 let[d,f,g,e]:=VM (NC:=p.C) (S:=b.S) (X:=jI p false x) (by rw[L1];lia) RT (a1:=some<|jS false b) (acc:=[]) (o4:=none) (o5:=none) (o6:=none) (λq i=>by rw[<- k.R];exact M5.mpr #v[q,i,rfl]) (by simp;lia);rw[X4,List.map_nil] at e;have j:jd (jS false b) (.int 0)=‹b.S.map e2›:=rfl;have l:jd (jS false b) (.int 2)=‹b.R.map e2›:=rfl;have m:jd (jS false b) (.int 4)\(.int b.z):=rfl;have n:∀ r:Rh,vp (v9 1 "sizes" !0) (some (jI p false x)::r)=↑((c7 p.C x.sz).map e2):=λr=>YW rfl;have o:∀ r:Rh,vp (v9 1 "owed" !0) (some (jI p false x)::r)=↑((c7 p.C x.ow).map e2):=λr=>YW rfl;have s:∀ r:Rh,vp (v9 1 "levels" !0) (some (jI p false x)::r)=↑((c7 p.P x.lv).map e2):=λr=>YW rfl;show _\(D.tup [.lst true<|(c7 p.C x.sz).map e2,.lst true<|(c7 p.C x.ow).map e2,.lst true<|(zu b.S x.sv b.R).map e2,.lst true<|(c7 p.P x.lv).map e2,.int b.z]);simp(disch:=first | lia | (simp;done) | (simp;lia)) [j8,jK,qe,j,l,m,c,yz,Jx,e,n,o,s,jb,-vp]
def Sd{x}{i}{pe}{ρ}{r}(h0:pV i ρ\(jI p true x))(a:pe ρ\r):lO i 1 "entries" "moves" pe ρ\(.tup [.lst true<|x.en.map e5,r,.lst true<|x.mv.map eM],ρ.set i none):=by
 rw[lO,h0,L4];have b:xx (jI p true x)\(1,NS,[.str p.nm,bY true p.P<|fnOf p.marks,bY true p.C x.sz,bY true p.C x.ow,bY true p.P x.lv,dA true x.ln,.int x.cash,f8 true<|fF x.sv,.lst true<|x.en.map e5,.lst true<|x.mv.map eM]):=rfl;rw[b,L4,Ro,Rp,a];rfl
def JR(p):frz (y9 false p)=true:=by
 simp[y9,uz p.told,yz p.marks,DI p.grds,wz p.ords,jn p.eats,ut p.lks]
theorem Et{k}:∀{l},(∀ r∈l,0<=r.2)->0<=(qx l k).getD 0
 | [],_=>Int.le_refl _
 | r::l,h=>by
  rw[qx];split
  ·exact h r (by simp)
  ·exact Et λq a=>h q (by simp[a])
def twiceF_bd{Q}(h:cP p x):cP p (twiceF Q c x):=by unfold twiceF;split<;>exact#v[h.c0,h.c1,h.ow,h.sz,h.lv,h.ln]
theorem xW:∀{Q}{k}{A}{x},cP p x->(∀ a∈A,0<=a)->cP p (vq k Q A x)
 | [],_,_,x,h,_=>h
 | _::_,_,[],x,h,_=>h
 | q::Q,k,a::A,x,h,c=>by
  have c1:=h.c1;have g:=qA (c a<|by simp) h.c0;rw[uL];exact xW #v[by show 0<=x.cash-b_ a x.cash;lia,by show x.cash-b_ a x.cash<=10 ^ 60;lia,h.ow,h.sz,h.lv,h.ln] λb d=>c b (by simp[d])
theorem wC:∀ k Q A x,(vq k Q A x).sv=x.sv/\(vq k Q A x).mv=x.mv/\(vq k Q A x).ln=x.ln
 | _,[],_,x=>#v[rfl,rfl,rfl]
 | _,_::_,[],x=>#v[rfl,rfl,rfl]
 | k,q::Q,a::A,x=>wC (k+1) Q A<|Kh k q a x
def twiceF_sv(Q)(c)(x):(twiceF Q c x).sv=x.sv/\(twiceF Q c x).mv=x.mv/\(twiceF Q c x).ln=x.ln:=by unfold twiceF;split<;>exact#v[rfl,rfl,rfl]
def KQ(o:dD)(b:dH)(c:Int)(ln:LN):Fl:=twiceF o.parts c<|vq 0 o.parts (jR o.parts c).1 (vG b c ln)
def Km(h:ce p){o}(i:o∈p.ords){b}(k:dE p b){ln}(j:-ln<=50)(f:∀ r∈ln,0<=r.2)(d:0<=c)(m:c<=10 ^ 60):cP p (KQ o b c ln)/\ij o.rules.length (KQ o b c ln)/\(KQ o b c ln).sv=[]/\(KQ o b c ln).mv=[]/\(KQ o b c ln).ln=ln:=by
 have e:=h.ords o i;have n:(vG b c ln).en.length=0:=rfl;have l2:=Kc 0 o.parts (jR o.parts c).1 (vG b c ln);have t:=twiceF_en o.parts c<|vq 0 o.parts (jR o.parts c).1 (vG b c ln);have v:=twiceF_sv o.parts c<|vq 0 o.parts (jR o.parts c).1 (vG b c ln);have u:=wC 0 o.parts (jR o.parts c).1 (vG b c ln);have pl:=e.parts2;have x:=e.rules2;unfold KQ;have g:=v.1.trans u.1;have e2:=v.2.1.trans u.2.1;have e3:=v.2.2.trans u.2.2;refine#v[twiceF_bd<|xW ((#v[d,m,λw=>#v[qr (λq a=>(k.w q a).1) w,Int.le_trans (Y1 (by decide) (λq a=>(k.w q a).2) w)<|by decide],(qr<|λq a=>(k.s q a).1),λw=>#v[qr (λq a=>(k.l q a).1) w,k.lm w],λ_=>Et f]))<|u4 (λq a=>#v[(e.parts q a).2.1,(e.parts q a).2.2]) d,#v[by lia,?_,?_,?_],g,e2,e3]
 ·rw[g];show 0+_<=_;lia
 ·rw[e2];show 0+_<=_;lia
 ·rw[e3];show ln.length+_<=_;lia
def Se(h:ce p)  (u:o∈p.ords)  (k:dE p b)  (K:(ln.map (·.1)).Nodup) (v:-ln<=50) (w:∀ r∈ln,0<=r.2) (j:0<=c) (M:c<=10 ^ 60):
  pw [y9 false p,.str o.nm,jS false b,.int c,.lst false<|ln.map eR]\(.tup [.lst true<|(V0 p o b c ln).en.map e5,jS true<|qu p b<|V0 p o b c ln,.lst true<|(V0 p o b c ln).mv.map eM]):=by
 have g:=h.ords o u;have C:=R_ h k (c:=c) K ∅;have D:=RY (p:=p) (x:=vG b c ln) j (by show c<=2 ^ 900;lia) (λq E=>#v[(g.parts q E).2.1,(g.parts q E).2.2]) g.parts2<|U4 _;have N:(vG b c ln).cash=c:=rfl;rw[N] at D;have pl:=g.parts2;have gl:=h.grds2;have O:(#v[fnOf b.S,fnOf b.W,fnOf b.L,ln,c,[],[],[]]:Fl)=vG b c ln:=rfl;rw[O] at C;unfold V0;generalize y:twiceF o.parts c (vq 0 o.parts (jR o.parts c).1 (vG b c ln))=x1 at *;have l:=Km h u k v w j M;unfold KQ at l;rw[y] at l;let[z,t,A]:=Qg h (a0:=some<|y9 false p) (a1:=some<|.str o.nm) (a2:=some<|jS false b) (a3:=some<|.int c) (a4:=‹ln.map eR›) (a5:=some<|vx o) (a9:=none) (R:=o.rules) (s:=-o.parts) (x:=x1) (o7:=none) (o8:=none) g.rules l.1 l.2.1;have Y:=(YR p o.parts.length o.rules g.rules l.2.1).en;generalize v8 p o.parts.length o.rules x1=x2,vG b c ln=x0 at *;let[F,H,B]:=Ky h (a0:=some<|y9 false p) (a1:=some<|.str o.nm) (a2:=some<|jS false b) (a3:=some<|.int c) (a4:=‹ln.map eR›) (a5:=some<|vx o) (a8:=t) (G:=p.grds) (s:=0) (x:=x2) (o7:=z) (o9:=none) h.grds ∅;generalize yO 0 p.grds x2=x3 at *;have I:jd (vx o) (.int 1)=‹o.parts.map e2›:=rfl;have P:jd (vx o) (.int 2)=‹o.rules.map dw›:=rfl;have Q:jd (y9 false p) (.int 6)=‹p.grds.map eG›:=rfl;have a:=JR p;have e:=vg b;have J:=Jm (p:=p) (x:=x0) (m:=ye) (mn:="take_parts") (pa:=#[pF<|5|||1]) (ρ:=%[y9 false p,.str o.nm,jS false b,.int c,‹ln.map eR›,vx o,jI p true x0,_,_,_|0]) (i:=6) (ds:=[.lst false<|o.parts.map e2]) rfl (by simp[I,yz]) (by simp[yz])<|λ_ _ _ _ _ _ _ _ _ _=>rfl;rw[D,L4] at J;have n:∀ ρ:Rh,#[pF<|5|||2] ρ\[.lst false<|o.rules.map dw]->bW kF #[5|||1] ρ\(.int (-o.parts))->mR #[pF<|5|||2] (bW kF #[5|||1]) ρ\(Vg (-o.parts)<|o.rules.map dw):=by
  intro ρ T U;unfold mR;rw[T,U];show(bif K1 (-o.parts) then some (Vg _<|bV<|o.rules.map dw) else none)=_;rw[xl ∅ ∅,(show bV (o.rules.map dw)=o.rules.map dw from kr λd hd=>by let[p,_,rfl]:=M5.mp hd;exact yb _<|Q9 p)];rfl
 have V:=n %[y9 false p,.str o.nm,jS false b,.int c,‹ln.map eR›,vx o,jI p true x1,_,_,_|0] (by simp[P,DJ o.rules]) (by simp[I]);have X:=Em (p:=p) (x:=x3) (o:=true) (m:=j8) (mn:="book_behind") (po:=pV 6) (pa:=#[!2]) (ρ:=%[y9 false p,.str o.nm,jS false b,.int c,‹ln.map eR›,vx o,jI p true x3,(F),(t),(H)|0]) (ds:=[jS false b]) rfl (by simp) (λ_ _ _ _ _ _ _ _ _ _=>rfl) (by rw[show bV [jS false b]=[jS false b] by rw[JG,yb _ e];rfl];exact(Sc (x:=x3) h k))<|(by simp[jS,RV]);have f:Vk vD 1 #[pF !0,pF !2,pF !3,pF !4] %[y9 false p,.str o.nm,jS false b,.int c,‹ln.map eR›,vx o,_,_,_,_|0]\(jI p true x0):=by
  rw[Vk];have:#[pF !0,pF !2,pF !3,pF !4] %[y9 false p,.str o.nm,jS false b,.int c,‹ln.map eR›,vx o,_,_,_,_|0]\[y9 false p,jS false b,.int c,.lst false<|ln.map eR]:=by simp[a,e,vM]
  rw[this,L4,C];simp[a,e,vM]
 simp[pw,jK,CV,Es h u,yb _ a,a,Vm o,f,J,V,A,Q,DI,P7,B,Sd (p:=p) (x:=x3) (i:=6) (pe:=yf j8 1 "book_behind" (!6) #[!2]) (ρ:=%[y9 false p,.str o.nm,jS false b,.int c,‹ln.map eR›,vx o,jI p true x3,(F),(t),(H)|0]) rfl X,-y6,-Vk,-lO,-yf]
def Sf{l:W1}:∀{m:W1},l.Nodup->(∀ x∈l,x∈m)->-l<=-m:=by
 induction l with
 | nil=>intro m _ _;exact U4 _
 | cons a l d=>
  intro m h k;have b:=k a (by simp);have c:=List.nodup_cons.mp h;have:=d c.2 λx hx=>(List.mem_erase_of_ne<|λz:x=a=>c.1<|by rw[<- z];exact hx).mpr (k x<|by simp[hx]);rw[List.length_erase_of_mem b] at this;have p:=List.length_pos_of_mem b;rw[M1]
  lia
def wm:Rl->Ru
 | .two kw x=>.one kw x
 | .many ws=>.many ws
 | .lend _ x v=>.lend x v
def qN(x:Od):dD:=#v[x.1,x.2.1,x.2.2.map wm]
def kj(O:W1)(p:Pl):bZ:=#v[p.nm,p.C,p.P,p.E,p.X.map qN,p.L,p.G,O]
def Sg{C P}{r}(h:xc C P r):dw (wm r)=yh r:=by
 cases r with
 | two kw x=>rfl
 | many a=>rfl
 | lend kw x v=>
  have:=h.2.2.2;subst this;rfl
def Sh{C P O}{r}(h:xc C P r)(k:lX C O r):cw C P O (wm r):=by
 cases r with
 | two kw x=>
  rcases h.2.2.2 with⟨rfl | rfl,m⟩ | ⟨rfl,m⟩ | rfl | rfl
  ·exact .pay m
  ·exact .repay m
  ·exact .fill m
  ·exact .back<|k.1 rfl
  ·exact .rest<|k.2 rfl
 | many a=>exact .share k h.2.2<|N6 h.1 (by decide)
 | lend kw x v=>exact .lend k
def nl{w}(h:Nm w):Wd w:=#v[N6 h.l<|by decide,λc a=>by have:=h.r c a;lia]
def Eu{C P}{x}(h:dz C P x):vx (qN x)=kC false x:=by
 show D.tup [.str x.1,.lst false<|x.2.1.map e2,.lst false<|(x.2.2.map wm).map dw]=D.tup [.str x.1,.lst false<|x.2.1.map yW,.lst false<|x.2.2.map yh];rw[U0,show x.2.2.map (dw ∘ wm)=x.2.2.map yh from List.map_congr_left λr a=>Sg<|h.k r a];rfl
def Kn{O}{p}(h:cF p):y9 false (kj O p)=jH false p:=by
 show D.tup [.str p.nm,.lst false<|p.C.map e3,.lst false<|p.P.map e2,.lst false<|!p.E,.lst false<|(p.X.map qN).map vx,.lst false<|p.L.map eL,.lst false<|p.G.map eG]=D.tup [.str p.nm,.lst false<|p.C.map Vn,.lst false<|p.P.map yW,.lst false<|!p.E,.lst false<|p.X.map<|kC false,.lst false<|p.L.map KD,.lst false<|p.G.map VC];rw[U0,show p.X.map (vx ∘ qN)=p.X.map (kC false) from List.map_congr_left λx hx=>Eu<|h.x x hx];rfl
def Sj{C P O}{x}(d:-C<=6)(h:dz C P x)(k:m7 C O x):iL C P O (qN x) where
 w:=nl h.nm
 parts:=k.t
 parts2:=by
  have:=Sf k.u λw b=>by
   let[q,a,rfl]:=M5.mp b;exact(k.t q a).1
  rw[L1] at this;show x.2.1.length<=10
  lia
 rules:=λr c=>by
  let[q,a,rfl]:=M5.mp c;exact Sh (h.k q a) (k.v q a)
 rules2:=by show(x.2.2.map wm).length<=10;rw[L1];exact N6 h.r (by decide)
 last:=by
  let[Z,w,e,_]:=k.last;exact#v[Z.map wm,w,by show x.2.2.map wm=_;rw[e,N4];rfl]
def Sk{O}{p}(h:cF p)(k:iK O p)(f:∀ w∈O,Nm w):ce (kj O p) where
 nm:=nl h.nm
 told:=λt a=>#v[nl<|h.nC t a,h.c1 t a,(k.b t a).1,(k.b t a).2.1,(k.b t a).2.2]
 toldn:=h.cN
 told1:=k.c0
 told2:=N6 h.c (by decide)
 marks:=λc d=>#v[nl<|h.nP c d,h.p1 c d,k.m c d]
 marksn:=h.pN
 marks2:=N6 h.p6 (by decide)
 ords:=λx hx=>by
  let[y,e,rfl]:=M5.mp hx;exact Sj (by rw[L1];exact h.c) (h.x y e) (k.x y e)
 ordn:=by show((p.X.map qN).map (·.nm)).Nodup;rw[U0];exact k.n
 grds:=λg i=>(h.g g i).2
 grds2:=N6 h.g6 (by decide)
 otw:=λw j=>nl<|f w j
def np:List Nat:=[101,97,116]
def cB:List (List Nat)->(List Nat->Int)->Int->(List Nat->Int)×Int
 | [],f,L=>(f,L)
 | c::E,f,L=>cB E (put f c<|f c-b_ L (f c))<|L-b_ L (f c)
def u_{c E f L}:cB (c::E) f L=cB E (put f c<|f c-b_ L (f c)) (L-b_ L (f c)):=rfl
def jj:Nat->List (List Nat)->(List Nat->Int)->Int->List D
 | _,[],_,_=>[]
 | k,c::E,f,L=>.tup [.int k,.str np,.str c,.int L,.int<|b_ L<|f c]::jj (k+1) E (put f c<|f c-b_ L (f c)) (L-b_ L (f c))
def Ev{k c E f L}:jj k (c::E) f L=.tup [.int k,.str np,.str c,.int L,.int<|b_ L<|f c]::jj (k+1) E (put f c<|f c-b_ L (f c)) (L-b_ L (f c)):=rfl
def vc(h:∀ n,0<=f n)(a:0<=v)(n):0<=put f c v n:=by
 unfold put;by_cases e:n=c
 ·lia
 ·rw[if_neg e];exact h n
theorem vd:∀{E}{f}{L},(∀ n,0<=f n)->0<=L->(∀ n,0<=(cB E f L).1 n/\(cB E f L).1 n<=f n)/\0<=(cB E f L).2
 | [],f,L,h,a=>#v[λn=>#v[h n,Int.le_refl _],a]
 | c::E,f,L,h,a=>by
  have g:=qA a<|h c;have q:=vd (E:=E) (f:=put f c<|f c-b_ L (f c)) (L:=L-b_ L (f c)) (vc h ∅) ∅;refine#v[λn=>#v[(q.1 n).1,Int.le_trans (q.1 n).2 ?_],q.2];unfold put;split
  ·lia
  ·lia
def da(o:Bool)(S W Rn Lv:List W2)(x:Int):D:=.tup [.lst o<|S.map e2,.lst o<|W.map e2,.lst o<|Rn.map e2,.lst o<|Lv.map e2,.int x]
def Sl(o)(S W Rn Lv)(x):fz (da o S W Rn Lv x)=da false S W Rn Lv x:=by simp[da,Jx]
def So(S W Rn Lv)(x):frz (da false S W Rn Lv x)=true:=by simp[da,yz]
theorem KO(g:-N<=1000):∀{E}{s}{f}{L}{acc}{o6 o7 o8},(∀ c∈E,c∈N)->-acc+-E<=1000 ->
  dL λo6' o7' o8'=>yC (6&&&7) Kb (jO s<|!E) [a0,a1,a2,some<|bY true N f,some<|.int L,↑acc,o6,o7,o8,o9] =
   some (.nx [a0,a1,a2,some<|bY true N (cB E f L).1,some<|.int (cB E f L).2,↑(acc++jj s E f L),o6',o7',o8',o9])
 | [],s,f,L,acc,o6,o7,o8,_,_=>#v[o6,o7,o8,by rw[show jj s [] f L=[] from rfl,M9];rfl]
 | c::E,s,f,L,acc,o6,o7,o8,b,h=>by
  rw[M1] at h;have a:=b c (by simp);let[o6',o7',o8',e]:=KO (a0:=a0) (a1:=a1) (a2:=a2) (o9:=o9) g (E:=E) (f:=put f c<|f c-b_ L (f c)) (L:=L-b_ L (f c)) (acc:=acc++[.tup [.int s,.str np,.str c,.int L,.int<|b_ L<|f c]]) (o6:=some<|.int s) (o7:=some<|.str c) (o8:=some<|.int<|b_ L<|f c) (λd hd=>b d<|by simp[hd]) (by rw[N3];simp only[M1,List.length_nil];lia);refine#v[o6',o7',o8',?_];have i:zN [.int L,.int<|f c]\(.int<|b_ L<|f c):=rfl;rw[L5,jO,nh ?_,e,Ev,u_];simp;simp(disch:=first | lia | (simp;done) | (simp;lia)) [Kb,yE a,i,YC f a,zy a,jb,np];simp[bY,put]
def d8(W:List W2)(f:List Nat->Int):List W2:=W.map λq=>(q.1,if 0<f q.1 then q.2 else 0)
def Sq(c:∀ q∈W,q.1∈N):jE (0&&&1) qT (yk #[pF !0,fq (ji<|p2 Yz (p2 jX !2<|pV 0)<|pI 0) (pF !1)<|pI 0]) (W.map e2) %[_,_,bY true N f|0]\((d8 W f).map e2):=by
 unfold d8;rw[U0];refine jV rfl (λs=>∃ o a,s=[o,a,some<|bY true N f]) ?_ #v[none,none,rfl];rintro q d s ⟨o,a,rfl⟩;have hx:=yE (o:=true) (f:=f)<|c q d;refine#v[%[.str q.1,.int q.2,bY true N f|0],rfl,?_,_,_,rfl];by_cases b:0<f q.1
 ·simp[hx,b,jb,e2]
 ·simp[hx,b,jb,e2]
def Sr{p}{S W Rn Lv}{x L}(h:ce p)(k:-p.eats<=10)(a:∀ c∈p.eats,c∈p.told.map (·.1))(b:S.map (·.1)=p.told.map (·.1))(i:W.map (·.1)=p.told.map (·.1))(G:-Rn<=10)(H:-Lv<=10):
  zq [y9 false p,da false S W Rn Lv x,.int L]\(.tup [.lst true<|jj 0 p.eats (fnOf S) L,da true (c7 (p.told.map (·.1)) (cB p.eats (fnOf S) L).1) (d8 W (cB p.eats (fnOf S) L).1) Rn Lv<|x+(cB p.eats (fnOf S) L).2]):=by
 have I:=h.told2;have nd:(S.map (·.1)).Nodup:=by rw[b];exact h.toldn
 have l:S.length<=10:=by
  have:=congrArg List.length b;rw[L1,L1] at this
  lia
 have m:-W<=10:=by
  have:=congrArg List.length i;rw[L1,L1] at this
  lia
 have o:jd (da false S W Rn Lv x) (.int 0)=‹S.map e2›:=rfl;have r:jd (da false S W Rn Lv x) (.int 1)=‹W.map e2›:=rfl;have t:jd (da false S W Rn Lv x) (.int 2)=‹Rn.map e2›:=rfl;have u:jd (da false S W Rn Lv x) (.int 3)=‹Lv.map e2›:=rfl;have v:jd (da false S W Rn Lv x) (.int 4)\(.int x):=rfl;have w:jd (y9 false p) (.int 3)=‹!p.eats›:=rfl;have y:vB [.lst false<|S.map e2]\(bY true (p.told.map (·.1))<|fnOf S):=by rw[<- b];exact yV nd ∅
 let[z,A,B,e]:=KO (a0:=some<|y9 false p) (a1:=some<|da false S W Rn Lv x) (a2:=some<|.int L) (o9:=none) (by rw[L1];lia) (s:=0) (f:=fnOf S) (L:=L) (acc:=[]) (o6:=none) (o7:=none) (o8:=none) a (by simp;lia);have C:=Sq (N:=p.told.map (·.1)) (f:=(cB p.eats (fnOf S) L).1) (λq E=>by rw[<- i];exact M5.mpr #v[q,E,rfl]);have j:=wL (p.told.map (·.1)) (cB p.eats (fnOf S) L).1;have d:((p.told.map (·.1)).map λn=>D.tup [.str n,.int<|(cB p.eats (fnOf S) L).1 n])=(c7 (p.told.map (·.1)) (cB p.eats (fnOf S) L).1).map e2:=by simp[c7,e2]
 rw[d] at j;have g:∀ U,pV 3 U\(bY true (p.told.map (·.1)) (cB p.eats (fnOf S) L).1)->vp (!3) U=↑((c7 (p.told.map (·.1)) (cB p.eats (fnOf S) L).1).map e2):=by
  intro U F;rw[vp,F];show(bif frzs ((p.told.map (·.1)).map λn=>D.int<|(cB p.eats (fnOf S) L).1 n) then _ else _)=_;rw[Vp,<- j];rfl
 generalize da false S W Rn Lv x=BK at *;simp(disch:=first | lia | (simp;done) | (simp;lia)) [zq,jK,CU,o,r,t,u,v,w,y,e,jv,yz,C,g,jb,da,-vp]
structure dt(p:bZ):Prop where
 ok:ce p
 eats2:-p.eats<=10
 eatsm:∀ c∈p.eats,c∈p.told.map (·.1)
 orders1:1<=-p.ords
 looks:∀ x∈p.lks,x.1∈p.told.map (·.1)
 looksm:∀ x∈p.lks,x.2.2∈p.ords.map (·.nm)
def Ew{O}{p}(h:cF p)(k:iK O p)(a:∀ w∈O,Nm w):dt (kj O p) where
 ok:=Sk h k a
 eats2:=N6 h.e (by decide)
 eatsm:=h.me
 orders1:=by show 1<=-(p.X.map qN);rw[L1];exact h.x1
 looks:=λx hx=>(h.l x hx).m
 looksm:=λx hx=>by
  let[y,b,e]:=(h.l x hx).n;show x.2.2∈(p.X.map qN).map (·.nm);rw[U0];exact M5.mpr #v[y,b,e]
def hit(rn:List W2):List nb->Option (List Nat)
 | []=>none
 | x::l=>if x.2.1<=(fR x.1 rn).getD 0 then some x.2.2 else hit rn l
def nq{a x l}:hit a (x::l)=if x.2.1<=(fR x.1 a).getD 0 then some x.2.2 else hit a l:=rfl
def Ss:∀{L}{o2 o3 o4},(∀ x∈L,x.1∈rn.map (·.1)) ->
  dL λo2' o3' o4'=>yC ((2,3)&&&4) vX (L.map eL) %[y9 false p,.dK false (rn.map λq=>KA.str q.1)<|rn.map λq=>D.int q.2,(o2),(o3),(o4)|0] =
   match hit rn L with
   | some w=>some<|.rt (.str w) %[y9 false p,.dK false (rn.map λq=>KA.str q.1)<|rn.map λq=>D.int q.2,(o2'),(o3'),(o4')|0]
   | none=>some (.nx %[y9 false p,.dK false (rn.map λq=>KA.str q.1)<|rn.map λq=>D.int q.2,(o2'),(o3'),(o4')|0]):=by
 intro L
 induction L with
 | nil=>
  intro o2 o3 o4 _;exact#v[o2,o3,o4,rfl]
 | cons x L i=>
  intro o2 o3 o4 h;let[r,c,_]:=Cf<|h x (by simp);have j:Y6 (rn.map λq=>KA.str q.1) (rn.map λq=>D.int q.2) (.str x.1)\(.int r):=by
   have a:=xq x.1<|rn.map λq=>(q.1,D.int q.2);rw[U0,U0,Ce D.int x.1 rn,c] at a;exact a
  have f:=j;have g:((2,3)&&&4) (eL x) %[y9 false p,.dK false (rn.map λq=>KA.str q.1)<|rn.map λq=>D.int q.2,(o2),(o3),(o4)|0]=some %[y9 false p,.dK false (rn.map λq=>KA.str q.1)<|rn.map λq=>D.int q.2,.str x.1,.int x.2.1,.str x.2.2|0]:=rfl;by_cases b:x.2.1<=r
  ·have d:hit rn (x::L)\x.2.2:=by rw[nq,c];exact if_pos b
   refine#v[some<|.str x.1,some<|.int x.2.1,some<|.str x.2.2,?_];rw[d,L5,j7,g,L4];simp[vX,f,b]
  ·have d:hit rn (x::L)=hit rn L:=by rw[nq,c];exact if_neg b
   let[o2',o3',o4',e]:=i (o2:=some<|.str x.1) (o3:=some<|.int x.2.1) (o4:=some<|.str x.2.2) λy k=>h y (by simp[k]);refine#v[o2',o3',o4',?_];rw[d,<- e,L5,j7,g,L4];simp[vX,f,b]
def l4(p:bZ):List Nat:=(p.ords.map (·.nm)).headD []
def Ex(h:dt p)  (c:∀ x∈p.lks,x.1∈rn.map (·.1)):
  vt [y9 false p,.dK false (rn.map λq=>KA.str q.1)<|rn.map λq=>D.int q.2]\(.str<|(hit rn p.lks).getD (l4 p)):=by
 let[f,g,i,e]:=Ss (p:=p) (o2:=none) (o3:=none) (o4:=none) c;let[d,ni,t7]:=(show ∃ d,jd (.lst false<|p.ords.map vx) (.int 0)\d/\jd d (.int 0)\(.str<|l4 p) from by 
   have a:=h.orders1;unfold l4;cases e:p.ords with
   | nil=>rw[e] at a;simp at a
   | cons x l=>exact#v[vx x,by rw[lF (by decide)<|by simp];rfl,rfl])
 have b:jd (y9 false p) (.int 5)=‹p.lks.map eL›:=rfl;have j:jd (y9 false p) (.int 4)=‹p.ords.map vx›:=rfl;cases hh:hit rn p.lks with
 | none=>
  rw[hh] at e;simp[vt,jK,JC,b,j,ut,DK,e,ni,t7]
 | some w=>
  rw[hh] at e;simp[vt,jK,JC,b,ut,DK,e]
def Su{p}(h:dt p){sz ow b lv:List W2}{x}(c:b.map (·.1)=p.told.map (·.1)):
  kI [y9 false p,.tup [.lst false<|sz.map e2,.lst false<|ow.map e2,.lst false<|b.map e2,.lst false<|lv.map e2,.int x]]\(.str<|(hit b p.lks).getD (l4 p)):=by
 have j:-b<=10:=by
  have:=congrArg List.length c;rw[L1,L1] at this;have:=h.ok.told2
  lia
 have f:jd (.tup [.lst false<|sz.map e2,.lst false<|ow.map e2,.lst false<|b.map e2,.lst false<|lv.map e2,.int x]) (.int 2)=‹b.map e2›:=rfl;have g:vB [.lst false<|b.map e2]\(.dK true (b.map λq=>KA.str q.1)<|b.map λq=>D.int q.2):=by
  have:=YL (o:=false) (l:=b.map λq=>(q.1,D.int q.2)) (by rw[U0];have:(p.told.map (·.1)).Nodup:=h.ok.toldn;rw[<- c] at this;exact this) (by intro q i;let[a,_,rfl]:=M5.mp i;rfl) (by rw[L1];lia);rw[U0,U0,U0] at this;exact this
 have d:bV (b.map λq=>D.int q.2)=b.map λq=>D.int q.2:=oR (λ_=>rfl) _;have e:fz (.dK true (b.map λq=>KA.str q.1)<|b.map λq=>D.int q.2)=.dK false (b.map λq=>KA.str q.1) (b.map λq=>D.int q.2):=by rw[oJ,d]
 simp[kI,jK,VW,f,g,yb _<|JR p,e,Ex h<|by rw[c];exact h.looks]
def f9(p:bZ)(rn:List W2):List Nat:=(hit rn p.lks).getD (l4 p)
theorem Ey:∀{L},hit rn L\w->∃ x∈L,x.2.2=w
 | [],h=>nomatch h
 | x::L,h=>by
  rw[nq] at h;split at h
  ·cases h;exact#v[x,by simp,rfl]
  ·let[y,a,e]:=Ey h;exact#v[y,by simp[a],e]
def Sv(h:dt p)(a):f9 p a∈p.ords.map (·.nm):=by
 unfold f9;cases e:hit a p.lks with
 | some w=>
  let[x,hx,rfl]:=Ey e;exact h.looksm x hx
 | none=>
  have b:=h.orders1;unfold l4;cases e:p.ords with
  | nil=>rw[e] at b;simp at b
  | cons x l=>simp
def gI(p:bZ):List Nat->Int:=fnOf<|p.told.map λc=>(c.1,c.2.2)
def gJ(p:bZ)(f:List Nat->Int)(W:List W2):List W2:=W.map λq=>(q.1,if 0<f q.1 then q.2+gI p q.1 else q.2)
def Sw(l:List W3):jE (jc [] 0) qT (yk #[pF<|0|||0,pF<|0|||2]) (l.map e3) [none]\((l.map λc=>((c.1,c.2.2):W2)).map e2):=by
 rw[U0];refine jV rfl (λs=>∃ o,s=[o]) ?_ #v[none,rfl];rintro c d s ⟨o,rfl⟩;refine#v[[some<|e3 c],rfl,?_,_,rfl];have a:jd (e3 c) (.int 0)\(.str c.1):=rfl;have b:jd (e3 c) (.int 2)\(.int c.2.2):=rfl;simp[a,b,jb,e2]
def wl{p}(h:dt p){S W Rn Lv}{x}(b:S.map (·.1)=p.told.map (·.1))(e:W.map (·.1)=p.told.map (·.1)):
  kK [y9 false p,da false S W Rn Lv x]\(da false S (gJ p (fnOf S) W) Rn Lv x):=by
 have A:=h.ok.told2;have nd:(S.map (·.1)).Nodup:=by rw[b];exact h.ok.toldn
 have l:S.length<=10:=by
  have:=congrArg List.length b;rw[L1,L1] at this
  lia
 have m:-W<=10:=by
  have:=congrArg List.length e;rw[L1,L1] at this
  lia
 have g:jd (da false S W Rn Lv x) (.int 0)=‹S.map e2›:=rfl;have n:jd (da false S W Rn Lv x) (.int 1)=‹W.map e2›:=rfl;have r:jd (da false S W Rn Lv x) (.int 2)=‹Rn.map e2›:=rfl;have s:jd (da false S W Rn Lv x) (.int 3)=‹Lv.map e2›:=rfl;have t:jd (da false S W Rn Lv x) (.int 4)\(.int x):=rfl;have u:jd (y9 false p) (.int 1)=‹p.told.map e3›:=rfl;have v:vB [.lst false<|S.map e2]\(bY true (p.told.map (·.1))<|fnOf S):=by rw[<- b];exact yV nd ∅
 have a:(p.told.map λc=>((c.1,c.2.2):W2)).map (·.1)=p.told.map (·.1):=by simp
 have d:vB [.lst true<|(p.told.map λc=>((c.1,c.2.2):W2)).map e2]\(bY true (p.told.map (·.1))<|gI p):=by
  have:=yV (o:=true) (by rw[a];exact h.ok.toldn) (by rw[L1];lia);rw[a] at this;exact this
 have w:jE (0&&&1) qT (yk #[pF !0,fq (ji<|p2 Yz (p2 jX !2<|pV 0)<|pI 0) (p2 jr !1<|p2 jX !3<|pV 0)<|pF !1]) (W.map e2) %[_,_,bY true (p.told.map (·.1))<|fnOf S,bY true (p.told.map (·.1))<|gI p|0]\((gJ p (fnOf S) W).map e2):=by
  unfold gJ;rw[U0];refine jV rfl (λU=>∃ o i,U=%[(o),(i),bY true (p.told.map (·.1))<|fnOf S,bY true (p.told.map (·.1))<|gI p|0]) ?_ #v[none,none,rfl];rintro q y U ⟨o,i,rfl⟩;have j:q.1∈p.told.map (·.1):=by rw[<- e];exact M5.mpr #v[q,y,rfl]
  have hx:=yE (o:=true) (f:=fnOf S) j;refine#v[%[.str q.1,.int q.2,bY true (p.told.map (·.1))<|fnOf S,bY true (p.told.map (·.1))<|gI p|0],rfl,?_,_,_,rfl];by_cases k:0<fnOf S q.1
  ·simp[hx,yE (o:=true) (f:=gI p) j,k,jb,e2]
  ·simp[hx,k,jb,e2]
 have z:cb (-p.told)=true:=jb ∅;have l2:cb (-W)=true:=jb ∅;generalize B:da false S W Rn Lv x=BK at *;simp(disch:=first | lia | (simp;done) | (simp;lia)) [kK,jK,V9,g,n,u,v,d,Sw p.told,w,jv,yz,Jx,uz,DH,z,l2,jb,da,-yk,-fq,-List.map_map];simp(disch:=first | lia | (simp;done) | (simp;lia)) [g,r,s,t,yz,jb]
def Ez(h:cx N l)  (h1:k.1∈N) (h2:k.2∈N) (f:0<=v):cx N (fD l k v):=by
 unfold fD;by_cases e:k∈l.map (·.1)
 ·rw[if_pos e];refine#v[by rw[P_];exact h.nd,λr c=>?_];let[q,g,rfl]:=M5.mp c;have:=h.mem q g;refine#v[this.1,this.2.1,?_];split
  ·lia
  ·lia
 ·rw[if_neg e];refine#v[?_,λr c=>?_]
  ·rw[N4,U8];exact#v[h.nd,by simp,λa i b d=>by simp at d;rintro rfl;exact e<|d▸i]
  ·rcases N1.mp c with c | c
   ·exact h.mem r c
   ·rw[M7.mp c];exact#v[h1,h2,f]
theorem EA{N:W1}  : ∀{l},(∀ r∈l,r.1.1∈N/\r.1.2∈N/\0<=r.2)->0<=(qx l k).getD 0
 | [],_=>Int.le_refl _
 | r::l,h=>by
  rw[qx];split
  ·exact(h r<|by simp).2.2
  ·exact EA λq a=>h q (by simp[a])
theorem VT [DecidableEq s]:∀{l m:List s},l.Nodup->(∀ x∈l,x∈m)->-l<=-m
 | [],m,_,_=>by simp
 | a::l,m,b,d=>by
  have e:=d a (by simp);rw[List.nodup_cons] at b;have:=VT b.2 λx hx=>by
   have c:x≠a:=λz=>b.1<|z▸hx;exact(List.mem_erase_of_ne c).mpr (d x<|by simp[hx])
  rw[List.length_erase_of_mem e] at this;have f:=List.length_pos_of_mem e;simp only[M1]
  lia
def cx.len(h:cx N l)(c:-N<=6):-l<=36:=by
 have:=VT (m:=N.flatMap λa=>N.map λb=>(a,b)) h.nd λx hx=>by
  let[r,d,rfl]:=M5.mp hx;have:=h.mem r d;exact List.mem_flatMap.mpr #v[r.1.1,this.1,M5.mpr #v[r.1.2,this.2.1,rfl]]
 rw[L1,List.length_flatMap] at this;have e:(N.map λa=>-(N.map λb=>((a,b):EN)))=N.map λ_=>-N:=by simp
 have e2:∀ n (M:W1),(M.map λ_=>n).sum=-M*n:=λn M=>by
  induction M with
  | nil=>simp
  | cons a M f=>simp only[L5,List.sum_cons,M1,Nat.succ_mul];lia
 rw[e,e2] at this;have g:=Nat.mul_le_mul c c
 lia
def EB(h:cx N l)(hn:nm∈N)(k:gG nm N c l m):cx N (dQ nm l m):=by
 unfold dQ;have po:=k.po;rcases k.kd with e | ⟨e,e2⟩
 ·rw[if_pos e];have:=EA (k:=(nm,m.2.1)) h.mem;exact Ez h hn k.ot ∅
 ·rw[if_neg ∅];exact Ez h k.ot hn ∅
def et(nm:List Nat)(l:LN)(ms:List MV):LN:=ms.foldl (dQ nm) l
def cX(nm:List Nat)(N:W1)(c:Int):LN->List MV->Prop
 | _,[]=>True
 | l,m::ms=>gG nm N c l m/\cX nm N c (dQ nm l m) ms
theorem cX.snoc:∀{ms}{l},cX nm N c l ms->gG nm N c (et nm l ms) m->cX nm N c l (ms++[m])
 | [],l,_,h=>#v[h,trivial]
 | a::ms,l,h,k=>#v[h.1,cX.snoc h.2 k]
def Sx(nm)(l)(a)(m):et nm l (a++[m])=dQ nm (et nm l a) m:=by simp[et]
theorem EC(hn:nm∈N):∀{ms}{l},cx N l->cX nm N c l ms->cx N (et nm l ms)
 | [],l,h,_=>h
 | m::ms,l,h,k=>EC hn (l:=dQ nm l m) (EB h hn k.1) k.2
theorem Kt(hn:nm∈N)(a:-N<=6)  : ∀{ms}{l}{o4 o5 o6},cx N l->cX nm N c l ms ->
  dL λo4' o5' o6'=>yC ((4,5)&&&6) km (ms.map eM) [a0,some<|.str nm,a2,some<|dA true l,o4,o5,o6]\(.nx [a0,some<|.str nm,a2,some<|dA true<|et nm l ms,o4',o5',o6'])
 | [],l,o4,o5,o6,_,_=>#v[o4,o5,o6,rfl]
 | m::ms,l,o4,o5,o6,h,k=>by
  let[o4',o5',o6',e]:=Kt hn a (o4:=some<|.str m.1) (o5:=some<|.str m.2.1) (o6:=some<|.int m.2.2) (EB h hn k.1) k.2;refine#v[o4',o5',o6',?_];have b:=D_ (by have:=h.len a;lia) k.1;rw[L5,nh ?_,e];rfl;show(some _).bind _=_;simp[km,b,YG,vW]
theorem KS:∀ l:LN,CF (l.map kL) (l.map vL)\((l.filter λr=>decide<|0<r.2).map eR)
 | []=>rfl
 | r::l=>by
  show(CF (l.map kL)<|l.map vL).bind _=_;rw[KS l,L4,List.filter_cons];by_cases h:0<r.2
  ·simp[h];rfl
  ·simp[h]
def Sz(h:cx N l)  : ∃ l',cM (xE rs (l.map eR)=l'.map eR) (cx N l') (-l'=-l):=by
 have p:=Qd (rs:=rs) (l:=l.map eR);let[l',e,b]:=YA λy c=>by
  let[r,a,rfl]:=M5.mp<|p.mem_iff.mp c;exact#v[r,rfl,a]
 refine#v[l',e,#v[?_,λr a=>h.mem r<|b r a],?_]
 ·rw[e] at p;have p2:=p.map t4;rw[U0,U0] at p2;exact p2.nodup_iff.mpr h.nd
 ·have:=p.length_eq;rw[e,L1,L1] at this;exact this
def SA(h:cx N l):cx N (l.filter λr=>decide<|0<r.2):=
 ⟨h.nd.sublist<|List.Sublist.map _<|List.filter_sublist,λr a=>h.mem r (List.mem_filter.mp a).1⟩
def SB(hn:nm∈N)(b:-N<=6)  (h:cx N l) (k:cX nm N c l ms):
  ∃ l':LN,vY [.lst false<|l.map eR,.str nm,.lst false<|ms.map eM]=↑(l'.map eR)/\cx N l':=by
 have u:=h.len b;have j:=EC hn h k;have n:=j.len b;let[o,p,q,e]:=Kt hn b (a0:=‹l.map eR›) (a2:=‹ms.map eM›) (o4:=none) (o5:=none) (o6:=none) h k;let[m,e3]:=QH<|(et nm l ms).filter λr=>decide<|0<r.2;let[l',s,t,_]:=Sz (rs:=m)<|SA j;have d:-(((et nm l ms).filter λr=>decide<|0<r.2).map eR)<64:=by
  rw[L1];have:=List.length_filter_le (λr:EN×Int=>decide<|0<r.2)<|et nm l ms
  lia
 have f:frzs (ms.map eM)=true:=Ca (λ_=>rfl) _;have a:bV (ms.map eM)=ms.map eM:=oR (λ_=>rfl) _;have g:kW (dA true<|et nm l ms)\((et nm l ms).map kL,(et nm l ms).map vL):=rfl;have i:cb (-((et nm l ms).map kL))=true:=jb (by rw[L1];exact∅);refine#v[l',?_,t];simp[vY,jK,JZ,DO h.nd ∅,wt l,vM,Y5,f,a,e,g,KS<|et nm l ms,e3,s,iA,-List.length_map,i,d]
structure eF(B:Int)(p:bZ)(b:dH):Prop where
 S:b.S.map (·.1)=p.C
 W:b.W.map (·.1)=p.C
 R:b.R.map (·.1)=p.C
 L:b.L.map (·.1)=p.P
 s:In b.S B
 w:In b.W B
 r:In b.R B
 l:In b.L B
 lm:∀ w,fnOf b.L w<=fnOf p.marks w
def In.mono{l}{m n}(h:In l m)(k:m<=n):In l n:=λp a=>#v[(h p a).1,Int.le_trans (h p a).2 k]
def eF.ok{B}{p}{b}(h:eF B p b)(k:B<=10 ^ 50):dE p b:=#v[h.S,h.W,h.R,h.L,h.s.mono k,h.w.mono k,h.r.mono k,h.l.mono k,h.lm]
def SD{T:List W3}{i}{x}(hx:(jO 0<|T.map e3)[i]?\x):∃ h:i< -T,x=.tup [.int (i:Int),e3 T[i]]:=by
 let[y,a,b]:=kg _ _ _ _ hx;rw[List.getElem?_map] at a;have hi:i< -T:=by
  by_cases h:i< -T
  ·exact h
  ·rw[List.getElem?_eq_none ∅] at a;cases a
 rw[X5 hi] at a;cases a;exact#v[hi,by rw[b,Nat.zero_add]]
def SE{T:List W2}{i}{x}(hx:(jO 0<|T.map e2)[i]?\x):∃ h:i< -T,x=.tup [.int (i:Int),e2 T[i]]:=by
 let[y,a,b]:=kg _ _ _ _ hx;rw[List.getElem?_map] at a;have hi:i< -T:=by
  by_cases h:i< -T
  ·exact h
  ·rw[List.getElem?_eq_none ∅] at a;cases a
 rw[X5 hi] at a;cases a;exact#v[hi,by rw[b,Nat.zero_add]]
def ED:xQ (.int 10) (.int 14)\(.int 100000000000000):=rfl
def Vw{T:List (List Nat×s)}{M}{i}(hi:i< -T)(h:M=(T.map (·.1)).take i):M++[T[i].1]=(T.map (·.1)).take (i+1):=by
 rw[h,List.take_succ_eq_append_getElem<|by rw[L1];exact hi,List.getElem_map]
def SF{x0}{c}(A:Builtin.Int.intBits c<=2 ^ 20){T:List W3}(B:∀ t∈T,na t)(M:-T<=10):pT λS W R o5 o6 o7 o8=>pX (yC (5&&&6) kc (jO 0<|T.map e3) %[x0,.int c,.lst true [],.lst true [],.lst true [],_,_,_,_,_|0] =
  some (.nx %[x0,.int c,↑(S.map e2),↑(W.map e2),↑(R.map e2),(o5),(o6),(o7),(o8),_|0])) (S.map (·.1)=T.map (·.1)) (W.map (·.1)=T.map (·.1)) (R.map (·.1)=T.map (·.1)) (In S<|10 ^ 45) (In W<|10 ^ 45) (In R<|10 ^ 45):=by
 let[N,e,S,W,R,o5,o6,o7,o8,rfl,b,d,g,j,l,m]:=va (G:=5&&&6) (f:=kc) (λi Y=>pT λS W R o5 o6 o7 o8=>pX (Y=%[x0,.int c,↑(S.map e2),↑(W.map e2),↑(R.map e2),(o5),(o6),(o7),(o8),_|0]) (S.map (·.1)=(T.map (·.1)).take i) (W.map (·.1)=(T.map (·.1)).take i) (R.map (·.1)=(T.map (·.1)).take i) (In S<|10 ^ 45) (In W<|10 ^ 45)<|In R<|10 ^ 45) (by
  rintro i x Y hx ⟨S,W,R,o5,o6,o7,o8,rfl,b,d,g,j,l,m⟩;let[hi,rfl]:=SD hx;have C:=B _<|List.getElem_mem hi;have D:=Vw hi b;have E:=Vw hi d;have F:=Vw hi g;have O:-(S.map e2)<=10:=by have:=congrArg List.length b;simp only[L1,X6] at this ⊢;lia
  have P:-(W.map e2)<=10:=by have:=congrArg List.length d;simp only[L1,X6] at this ⊢;lia
  have Q:-(R.map e2)<=10:=by have:=congrArg List.length g;simp only[L1,X6] at this ⊢;lia
  generalize T[i]=t at *;let[a,ts,td]:=t;let[_,s0,s1,d0,d1]:=C;simp only at s0 s1 d0 d1;let[n,u,U,V]:=vT (k:=i+60) A ∅ ∅;have H:=N9 (n/4) (show ts≠0 by lia);have I:=N8 (n/4) (show 0<ts by lia);have o:jk (.int<|n/4) (.int ts)\(.int<|n/4%ts):=jo ∅;generalize n/4%ts=y1 at H I o;have p:yA (.int n) (.int n)\(.int<|n*n):=vE ∅ ∅;generalize n*n=nn at p;have v:jd (e3 (a,ts,td)) (.int 0)\(.str a):=rfl;have w:jd (e3 (a,ts,td)) (.int 1)\(.int ts):=rfl;have q:=N9 nn (show 100000000000000≠0 by decide);have J:=N8 nn (show 0<100000000000000 by decide);have r:jk (.int nn) (.int 100000000000000)\(.int<|nn%100000000000000):=jo ∅;generalize nn%100000000000000=y2 at q J r;have y:0<=n/8%3/\n/8%3<3:=by lia
  have p2:jk (.int<|n/8) (.int 3)\(.int<|n/8%3):=jo ∅;generalize n/8%3=y3 at y p2;have s:yA (.int y3) (.int y2)\(.int<|y3*y2):=vE ∅ ∅;have K:=Int.mul_nonneg y.1 q;have L:y3*y2<=3*100000000000000:=Int.mul_le_mul ∅ ∅ q ∅;generalize y3*y2=y4 at s K L;refine#v[_,_,rfl,.inl ?_,S++[(a,if 0<n%4 then 1+y1 else 0)],W++[(a,if 0<n%4 then y4 else 0)],R++[(a,if 0<n%4 then n/24%5 else 0)],some<|.int i,some<|e3 (a,ts,td),some<|.int n,some<|.bl<|decide<|0<n%4,rfl,by simpa using D,by simpa using E,by simpa using F,?_,?_,?_]
  ·rw[N4,N4,N4];generalize S.map e2=SS,W.map e2=WW,R.map e2=RR at *;by_cases z:0<n%4
   ·simp(disch:=first | lia | (simp;done) | (simp;lia)) [kc,u,jo,jx,v,w,o,p,ED,r,p2,s,z,jb,e2]
   ·simp(disch:=first | lia | (simp;done) | (simp;lia)) [kc,u,jo,jx,v,w,o,p,ED,r,p2,s,z,jb,e2]
  ·exact j.snoc (by split<;>lia) (by split<;>lia)
  ·exact l.snoc (by split<;>lia) (by split<;>lia)
  ·exact m.snoc (by split<;>lia)<|by split<;>omega) #v[[],[],[],none,none,none,none,rfl,rfl,rfl,rfl,λ_ h=>by simp at h,λ_ h=>by simp at h,λ_ h=>by simp at h]
 rw[yt,List.take_of_length_le<|by simp] at b d g;exact#v[S,W,R,o5,o6,o7,o8,e,b,d,g,j,l,m]
inductive il:List W2->List W2->Prop
 | nil:il [] []
 | cons {w:List Nat}{a b:Int}{l m:List W2}:a<=b->il l m->il ((w,a)::l) ((w,b)::m)
def il.snoc{l m}{w}{a b}(h:il l m)(k:a<=b):il (l++[(w,a)]) (m++[(w,b)]):=by
 induction h with
 | nil=>exact .cons k .nil
 | cons h _ c=>exact .cons h c
def il.le{l m}(h:il l m)(n):fnOf l n<=fnOf m n:=by
 unfold fnOf
 induction h with
 | nil=>exact Int.le_refl _
 | cons k _ a=>
  rw[YV,YV];split
  ·exact k
  ·exact a
def SG{x0 x2 x3 x4}{o5 o6 o7 o8}{c}(q:Builtin.Int.intBits c<=2 ^ 20)  (r:∀ t∈M,Wd t.1/\1<=t.2/\t.2<=10 ^ 40) (z:-M<=10):gP λL o5' o6' o7'=>dY (yC (5&&&6) kh (jO 0<|M.map e2) %[x0,.int c,x2,x3,x4,(o5),(o6),(o7),(o8),.lst true []|0] =
  some (.nx %[x0,.int c,x2,x3,x4,(o5'),(o6'),(o7'),(o8),↑(L.map e2)|0])) (L.map (·.1)=M.map (·.1)) (In L<|10 ^ 45) (∀ w,fnOf L w<=fnOf M w):=by
 let[A,e,L,o5',o6',o7',rfl,b,kL,d]:=va (G:=5&&&6) (f:=kh) (λi U=>gP λL o5' o6' o7'=>dY (U=%[x0,.int c,x2,x3,x4,(o5'),(o6'),(o7'),(o8),↑(L.map e2)|0]) (L.map (·.1)=(M.map (·.1)).take i) (In L<|10 ^ 45)<|il L<|M.take i) (by
  rintro i x U hx ⟨L,o5',o6',o7',rfl,b,kL,d⟩;let[hi,rfl]:=SE hx;have s:=r _<|List.getElem_mem hi;have u:=Vw hi b;have B:-(L.map e2)<=10:=by have:=congrArg List.length b;simp only[L1,X6] at this ⊢;lia
  have g:=List.take_succ_eq_append_getElem hi;generalize M[i]=t at *;let[a,ts]:=t;let[_,s0,s1]:=s;let[n,l,C,D]:=vT (k:=i+70) q ∅ ∅;have v:=N9 (n/2) (show ts≠0 by lia);have y:=N8 (n/2) (show 0<ts by lia);have j:jk (.int<|n/2) (.int ts)\(.int<|n/2%ts):=jo ∅;generalize n/2%ts=y2 at v y j;have m:jd (e2 (a,ts)) (.int 0)\(.str a):=rfl;have o:jd (e2 (a,ts)) (.int 1)\(.int ts):=rfl;refine#v[_,_,rfl,.inl ?_,L++[(a,if n%2=0 then ts else y2)],some<|.int i,some<|e2 (a,ts),some<|.int n,rfl,by simpa using u,kL.snoc (by split<;>lia)<|by split<;>lia,by rw[g];exact d.snoc<|by split<;>lia];rw[N4,L5,List.map_nil];show _\(cq.nx [_,_,_,_,_,_,_,_,_,↑(L.map e2++[.tup [.str a,.int<|if n%2=0 then ts else y2]])]);generalize L.map e2=LL at *;by_cases p:n%2=0
  ·simp(disch:=first | omega | (simp;done) | (simp;lia)) [kh,l,jo,jx,m,o,j,p,jb]
  ·simp(disch:=first | lia | (simp;done) | (simp;lia)) [kh,l,jo,jx,m,o,j,p,jb]) #v[[],o5,o6,o7,rfl,rfl,λ_ h=>by simp at h,.nil]
 rw[yt,List.take_of_length_le<|by simp] at b d;exact#v[L,o5',o6',o7',e,b,kL,d.le]
def SH{c}(d:Builtin.Int.intBits c<=2 ^ 20){p}(h:ce p):∃ b:dH,JS [y9 false p,.int c]\(jS false b)/\eF (10 ^ 45) p b:=by
 let[S,W,R,e,f,g,i,k,l,m,n,o,q,r]:=SF (x0:=y9 false p) d h.told h.told2;let[L,s,t,u,a,v,kL,w]:=SG (x0:=y9 false p) (x2:=.lst true<|S.map e2) (x3:=.lst true<|W.map e2) (x4:=.lst true<|R.map e2) (o5:=e) (o6:=f) (o7:=g) (o8:=i) d h.marks h.marks2;have x:jd (y9 false p) (.int 1)=‹p.told.map e3›:=rfl;have y:jd (y9 false p) (.int 2)=‹p.marks.map e2›:=rfl;have j:cb (-(p.told.map e3))=true:=jb (by rw[L1];have:=h.told2;lia);have l2:cb (-(p.marks.map e2))=true:=jb (by rw[L1];have:=h.marks2;lia);have z:cb (-(jO 0<|p.told.map e3))=true:=by rw[yt];exact j
 have A:cb (-(jO 0<|p.marks.map e2))=true:=by rw[yt];exact l2
 refine#v[#v[S,W,R,L,0],?_,#v[l,m,n,v,o,q,r,kL,w]];simp only[jS];simp(disch:=first | lia | (simp;done) | (simp;lia)) [JS,jK,Qm,x,y,uz p.told,yz p.marks,DH p.told,Jx p.marks,j,l2,z,A,k,a,Jx S,Jx W,Jx R,Jx L,yz S,yz W,yz R,yz L,fz,bV,frz,frzs,jb]
def SI{i7 i8}{a b}{m}(u:a≠b)(o:jd i7 (.int 0)\(.str a))(p:jd i8 (.int 0)\(.str b))(F:0<=m)(G:m<10 ^ 15):∃ l:LN,yF [i7,i8,.int m]=↑(l.map eR)/\cx [a,b] l/\ -l<=2/\∀ r∈l,r.2<=10 ^ 40:=by
 let[j,y,H,A]:=kX (m:=m/9) ∅ ∅;let[k,e2,l2,B]:=kX (m:=m/10) ∅ ∅;have key:∀ l:LN,(l.map (·.1)).Nodup->-l<=2->(∀ r∈l,r=((a,b),j)\/r=((b,a),k))->(∀ c,y8 [.lst true<|l.map eR]\c->yF [i7,i8,.int m]\c)->∃ l:LN,yF [i7,i8,.int m]=↑(l.map eR)/\cx [a,b] l/\ -l<=2/\∀ r∈l,r.2<=10 ^ 40:=by
  intro l C I v D;let[f,e,q,n]:=(show ∃ f:LN,y8 [.lst true<|l.map eR]=↑(f.map eR)/\(f.map (·.1)).Nodup/\∀ r∈f,r∈l from by 
    let[z,E]:=QH l;let[f,e,q,n,_]:=Ra (rs:=z) C;refine#v[f,?_,q,n];have w:-(l.map eR)<64:=by rw[L1];exact∅
    generalize l.map eR=c at *;simp[E,e,w])
  refine#v[f,D _ e,#v[q,λr d=>?_],?_,λr d=>?_]
  ·rcases v r (n r d) with rfl | rfl
   ·exact#v[by simp,by simp,by lia]
   ·exact#v[by simp,by simp,by lia]
  ·have:∀ x∈f.map (·.1),x∈[(a,b),(b,a)]:=λx hx=>by
    let[r,d,rfl]:=M5.mp hx;rcases v r (n r d) with rfl | rfl<;>simp
   have:=VT q this;rw[L1] at this;exact this
  ·rcases v r (n r d) with rfl | rfl
   ·exact A
   ·exact B
 by_cases s:0<m%3<;>by_cases t:0<m/3%3
 ·refine key [((a,b),j),((b,a),k)] (by simp[u]) (by simp) (by simp) λc h=>?_;have g:y8 [.lst true [.tup [.str a,.str b,.int j],.tup [.str b,.str a,.int k]]]\c:=h;generalize i:y8=FS at *;simp(disch:=omega) [yF,jK,kU,i,o,p,jo,jx,s,t,y,e2,jb,g]
 ·refine key [((a,b),j)] (by simp) (by simp) (by simp) λc h=>?_;have g:y8 [.lst true [.tup [.str a,.str b,.int j]]]\c:=h;generalize i:y8=FS at *;simp(disch:=omega) [yF,jK,kU,i,o,p,jo,jx,s,t,y,jb,g]
 ·refine key [((b,a),k)] (by simp) (by simp) (by simp) λc h=>?_;have g:y8 [.lst true [.tup [.str b,.str a,.int k]]]\c:=h;generalize i:y8=FS at *;simp(disch:=omega) [yF,jK,kU,i,o,p,jo,jx,s,t,e2,jb,g]
 ·refine key [] (by simp) (by simp) (by simp) λc h=>?_;have g:y8 [.lst true []]\c:=h;generalize i:y8=FS at *;simp(disch:=lia) [yF,jK,kU,i,o,p,jo,jx,s,t,jb,g]
def Vr{m}(h0:0<=m)(h1:m<10 ^ 15):∃(v:Int),cM (yH [.int m]\(.int v)) (0<=v) (v<=10 ^ 40):=by
 by_cases a:m%4=0
 ·exact#v[0,by simp(disch:=lia) [yH,jK,Jd,jo,a],by decide,by decide]
 by_cases b:m%4=1
 ·exact#v[m/4%12,by simp(disch:=lia) [yH,jK,Jd,jo,jx,b],by lia,by lia]
 ·let[v,e,l,u]:=kX (m:=m/4) ∅ ∅;exact#v[v,by simp(disch:=lia) [yH,jK,Jd,jo,jx,a,b,e],by lia,u]
structure eZ(p:bZ)(N:W1)(B:Int)(ln0:LN)(x:Fl):Prop where
 ok:cX p.nm N B ln0 x.mv
 ln:x.ln=et p.nm ln0 x.mv
def SJ{k w}{g}(h:eZ p N B ln0 y)(a:k=qd\/k=vO->w∈N)(b:g<=B)(c:k=vO->g<=gH y (w,p.nm)):eZ p N B ln0 (qD p k w g y):=by
 unfold qD;split
 ·exact#v[h.ok,h.ln]
 split
 ·exact#v[h.ok,h.ln]
 split
 ·exact#v[h.ok,h.ln]
 split
 ·rename_i q;refine#v[h.ok.snoc #v[?_,a q.1,q.2,b],?_]
  ·rcases q.1 with e | e
   ·exact .inl e
   ·exact .inr #v[e,by have:=c e;unfold gH at this;rw[h.ln] at this;exact this]
  ·show dQ p.nm y.ln (k,w,g)=et p.nm ln0 (y.mv++[(k,w,g)]);rw[Sx,h.ln]
 ·exact h
def SK{b}{g nd}{w}(h:eZ p N B ln0 y):eZ p N B ln0 (eg b g nd w y):=by
 unfold eg;split<;>exact#v[h.ok,h.ln]
def EF(L s):b_ L s<=s/\b_ L s<=L:=by unfold b_;split<;>lia
def EG{pl}{r}(e:cw p.C p.P p.oth r)(f:∀ ws,r≠.many ws)(g:∀ w∈p.oth,w∈N)(h:eZ p N B ln0 x)(c1:x.cash<=B):eZ p N B ln0 (qK p pl r x):=by
 refine SK<|SJ #v[h.ok,h.ln] ?_ (Int.le_trans (EF _ _).1 c1) ?_
 ·intro z;cases e with
  | rest _=>exact absurd (show Vj=qd\/Vj=vO from z) (by decide)
  | pay _=>exact absurd (show Qa=qd\/Qa=vO from z) (by decide)
  | repay _=>exact absurd (show yD=qd\/yD=vO from z) (by decide)
  | fill _=>exact absurd (show kH=qd\/kH=vO from z) (by decide)
  | back d=>exact g _ d
  | lend d=>exact g _ d
  | share a b c=>exact absurd rfl<|f _
 ·intro z;cases e with
  | rest _=>exact absurd (show Vj=vO from z) (by decide)
  | pay _=>exact absurd (show Qa=vO from z) (by decide)
  | repay _=>exact absurd (show yD=vO from z) (by decide)
  | fill _=>exact absurd (show kH=vO from z) (by decide)
  | back d=>exact(EF _ _).2
  | lend d=>exact absurd (show qd=vO from z) (by decide)
  | share a b c=>exact absurd rfl<|f _
theorem EH{pl}:∀{T}{x},eZ p N B ln0 x->eZ p N B ln0 (shL pl T x)
 | [],_,h=>h
 | _::T,_,h=>EH (T:=T) #v[h.ok,h.ln]
def SL{pl}{r}(a:cw p.C p.P p.oth r)(b:∀ w∈p.oth,w∈N)(h:eZ p N B ln0 x)(c1:x.cash<=B):eZ p N B ln0 (vN p pl r x):=by
 cases r with
 | one k w=>exact EG a (λ_ z=>by cases z) b h c1
 | lend w j=>exact EG a (λ_ z=>by cases z) b h c1
 | many c=>
  have:=EH (pl:=pl) (T:=cJ c x) h;exact#v[this.ok,this.ln]
theorem xF(b:∀ w∈p.oth,w∈N):∀{R}{k}{x},(∀ r∈R,cw p.C p.P p.oth r)->cP p x->eZ p N (10 ^ 60) ln0 x->eZ p N (10 ^ 60) ln0 (v8 p k R x)
 | [],_,_,_,_,h=>h
 | r::R,_,_,a,c,h=>xF b (R:=R) (λq d=>a q<|by simp[d]) (JL (a r<|by simp) c)<|SL (a r<|by simp) b h c.c1
theorem Qj:∀{G}{k}{x},eZ p N B ln0 x->eZ p N B ln0 (yO k G x)
 | [],_,_,h=>h
 | _::G,_,_,h=>Qj (G:=G) #v[h.ok,h.ln]
def pM:Nat->List (List Nat)->(List Nat->Int)->Int->List En
 | _,[],_,_=>[]
 | k,c::E,f,L=>#v[k,np,c,L,b_ L<|f c]::pM (k+1) E (put f c<|f c-b_ L (f c)) (L-b_ L (f c))
theorem EI:∀ E k f L,jj k E f L=(pM k E f L).map e5
 | [],_,_,_=>rfl
 | c::E,k,f,L=>by rw[Ev,EI E];rfl
theorem EJ:∀ E k f L,-(pM k E f L)=-E
 | [],_,_,_=>rfl
 | c::E,k,f,L=>by rw[M1,<- EJ E];rfl
noncomputable abbrev LG:=List Nat×List Nat×En
def e7(q:LG):D:=.tup [.str q.1,.str q.2.1,.int q.2.2.pl,.str q.2.2.kd,.str q.2.2.nm,.int q.2.2.nd,.int q.2.2.gt]
def YH(l:List LG):frzs (l.map e7)=true:=Ca (λ_=>rfl) _
def pO(l:List LG):bV (l.map e7)=l.map e7:=oR (λ_=>rfl) _
def JN(M)(f):(c7 M f).map (·.1)=M:=by unfold c7;rw[U0];exact List.map_id _
theorem Kr:∀{ms}{l},cX nm N c l ms->∀ m∈ms,m.2.1∈N/\0<=m.2.2/\m.2.2<=c
 | [],_,_,m,h=>by cases h
 | a::ms,l,k,m,h=>by
  rcases M4.mp h with rfl | h
  ·exact#v[k.1.ot,Int.le_of_lt k.1.po,k.1.hi]
  ·exact Kr k.2 m h
def SM(h:ce p)(n):0<=gI p n/\gI p n<=10 ^ 40:=by
 refine#v[qr (λq b=>?_) n,Y1 (by decide) (λq b=>?_) n]
 all_goals
  let[a,c,rfl]:=M5.mp b;have:=h.told a c;let[_,_,_,_,_]:=this
  lia
def SN{nm ord}{PP}(j:jd PP (.int 0)\(.str nm))(es:List En):jE (jc [] 0) qT (p2 jr (yk #[pF<|1|||0,pF !2]) !0) (es.map e5) %[_,PP,.str ord|0]\((es.map λe=>((nm,ord,e):LG)).map e7):=by
 rw[U0];refine jV rfl (λs=>∃ o,s=%[(o),PP,.str ord|0]) ?_ #v[none,rfl];rintro e b s ⟨o,rfl⟩;refine#v[%[e5 e,PP,.str ord|0],rfl,?_,_,rfl];have a:jr (.tup [.str nm,.str ord]) (e5 e)\(e7 (nm,ord,e)):=rfl;simp[j,a,jb]
def Dn(x y:Fl):Prop:=∀ w,y.sz w<=x.sz w/\y.ow w<=x.ow w
def Dn.rfl':Dn x x:=λw=>#v[Int.le_refl _,Int.le_refl _]
def Dn.trans{z}(h:Dn x y)(k:Dn y z):Dn x z:=λw=>#v[Int.le_trans (k w).1 (h w).1,Int.le_trans (k w).2 (h w).2]
def xO{f}{w}{v}(h:v<=f w)(n):put f w v n<=f n:=by
 unfold put;by_cases e:n=w
 ·rw[if_pos e,e];exact h
 ·rw[if_neg e];exact Int.le_refl _
def SO{k w}{g}(a:0<=g)(b:0<=y.ow w):Dn y (qD p k w g y):=by
 unfold qD;have q:=qA a b;split
 ·exact λn=>#v[Int.le_refl _,xO ∅ n]
 split
 ·exact λn=>#v[xO ∅ n,xO ∅ n]
 split
 ·exact λn=>#v[Int.le_refl _,Int.le_refl _]
 split
 ·exact λn=>#v[Int.le_refl _,Int.le_refl _]
 ·exact Dn.rfl'
def SQ{b}{g nd}{w}:Dn y (eg b g nd w y):=by
 unfold eg;split<;>exact λn=>#v[Int.le_refl _,Int.le_refl _]
def SR{pl}{r}(k:cP p x):Dn x (qK p pl r x):=by
 refine Dn.trans (y:={x with cash:=x.cash-b_ (cO p r x) x.cash,en:=x.en++[i_ p pl r x]}) (λn=>#v[Int.le_refl _,Int.le_refl _])<|Dn.trans (SO (qA (wP k) k.c0).1 (k.ow _).1) SQ
theorem Qw:∀{G}{i}{x},(∀ w,0<=x.ow w)->(∀ w,0<=x.lv w)->Dn x (yO i G x)
 | [],_,_,_,_=>Dn.rfl'
 | g::G,i,x,h,a=>by
  have q:=qA (h g.2)<|a g.1;refine Dn.trans (y:=Jr i g x) (λn=>#v[Int.le_refl _,xO ∅ n])<|Qw (λw=>?_) λw=>?_
  ·show 0<=put _ _ _ w;unfold put;split
   ·lia
   ·exact h w
  ·show 0<=put _ _ _ w;unfold put;split
   ·lia
   ·exact a w
theorem EK{pl}:∀{T}{x},fT x T->Dn x (shL pl T x)
 | [],_,_=>Dn.rfl'
 | t::T,x,h=>by
  have e:=h.eq t (by simp);exact Dn.trans (y:=sh1 pl t x) (λn=>#v[Int.le_refl _,xO ∅ n])<|EK h.next
def SU{pl}{r}(a:cw p.C p.P p.oth r)(k:cP p x):Dn x (vN p pl r x):=by
 cases a with
 | share b d c=>
  rename_i e;exact(EK (pl:=pl) (ik k c b).ok)
 | _=>exact SR k
theorem YE:∀{R}{k}{x},(∀ r∈R,cw p.C p.P p.oth r)->cP p x->Dn x (v8 p k R x)/\cP p (v8 p k R x)
 | [],_,_,_,a=>#v[Dn.rfl',a]
 | r::R,k,x,b,a=>by
  have q:=YE (R:=R) (k:=k+1) (x:=vN p k r x) (λq c=>b q<|by simp[c])<|JL (b r<|by simp) a;exact#v[(SU (b r<|by simp) a).trans q.1,q.2]
theorem xB:∀{Q}{k}{A}{x},Dn x<|vq k Q A x
 | [],_,_,_=>Dn.rfl'
 | _::_,_,[],_=>Dn.rfl'
 | q::Q,k,a::A,x=>Dn.trans (λn=>#v[Int.le_refl _,Int.le_refl _])<|xB (Q:=Q)
structure cY(x x':Fl):Prop where
 sz:x'.sz=x.sz
 ow:x'.ow=x.ow
 lv:x'.lv=x.lv
 sv:x'.sv=x.sv
structure Sm(M:List W2)(x:Fl)(y:Sy):Prop where
 sz:∀ n,0<x.sz n↔y.al n=true/\n∉y.rp
 fu:∀ n,y.fu n=true↔x.lv n=fnOf M n
 sv:∀ n,y.al n=true->(n∈x.sv↔n∈y.sv)
 ow:∀ n,0<x.ow n↔y.al n=true/\n∉y.sv
 rp:∀ n,n∈y.rp->n∈y.sv
structure Fn(M:List W2)(G:List WG)(x:Fl)(y:Sy):Prop where
 sz:∀ n,0<x.sz n↔y.al n=true/\n∉y.rp
 fu:∀ n,y.fu n=true↔x.lv n=fnOf M n
 sv:∀ n,y.al n=true->(n∈x.sv↔n∈y.sv)
 ow:∀ g∈G,0<x.ow g.2↔y.al g.2=true/\g.2∉y.sv
def Sm.fn{M}{G}(h:Sm M x y):Fn M G x y:=#v[h.sz,h.fu,h.sv,λg _=>h.ow g.2]
def Sm.same{M}(h:Sm M x y)(k:cY x x'):Sm M x' y:=#v[by rw[k.sz];exact h.sz,by rw[k.lv];exact h.fu,by rw[k.sv];exact h.sv,by rw[k.ow];exact h.ow,h.rp]
def Fn.same{M}{G}(h:Fn M G x y)(k:cY x x'):Fn M G x' y:=#v[by rw[k.sz];exact h.sz,by rw[k.lv];exact h.fu,by rw[k.sv];exact h.sv,by rw[k.ow];exact h.ow]
def JM{f}{w}{v}(h:v=f w):put f w v=f:=by
 funext n
 unfold put;split
 ·rename_i e;rw[e,h]
 ·rfl
def Jw{f}{w}{v}:put f w v w=v:=if_pos rfl
def JI{s}(h:0<=s):b_ 0 s=0:=by unfold b_;split<;>lia
def SV{L}(h:0<=L):b_ L 0=0:=by unfold b_;split<;>lia
def SW{k w}(h:0<=x.ow w):cY x (qD p k w 0 x):=by
 unfold qD;split
 ·exact#v[rfl,JM ∅,rfl,rfl]
 split
 ·rw[JI h];exact#v[JM ∅,JM ∅,rfl,rfl]
 split
 ·exact#v[rfl,rfl,JM ∅,rfl]
 split
 ·rename_i q;exact absurd q.2 ∅
 ·exact#v[rfl,rfl,rfl,rfl]
def SX{b}{g n}{w}:(eg b g n w x).cash=x.cash:=by unfold eg;split<;>rfl
def qG(pl)(r):(qK p pl r x).cash=x.cash-b_ (cO p r x) x.cash:=by
 unfold qK KC;rw[SX,(VY ..).2.2.1]
def Ju{pl}{r}(h:0<=x.ow (c_ r))(b:b_ (cO p r x) x.cash=0):cY x (qK p pl r x):=by
 unfold qK KC;rw[b];have a:=SW (p:=p) (k:=dq r) (x:={x with cash:=x.cash-0,en:=x.en++[i_ p pl r x]}) h;unfold eg;split
 ·rename_i q;exact absurd q.2.2 (by have:=q.2.1;lia)
 ·exact#v[a.sz,a.ow,a.lv,a.sv]
def xv{pl}{r}(h1:dq r≠Qa)(h2:dq r≠yD)(a:dq r≠kH):cY x (qK p pl r x):=by
 unfold qK KC qD;rw[if_neg h1,if_neg h2,if_neg a];have e:g0 (dq r)=false:=X1 λz=>z.elim h1 h2;rw[e];split<;>exact#v[rfl,rfl,rfl,rfl]
def Kv{L s}(h:s<L):b_ L s=s:=if_pos h
def vo{L s}(h:¬ s<L):b_ L s=L:=if_neg h
def pP{b}{g n}{w}(h:¬ (b=true/\g=n/\0<n)):eg b g n w x=x:=if_neg h
def EL{b}{g n}{w}(h:b=true/\g=n/\0<n):eg b g n w x={x with sv:=x.sv++[w]}:=if_pos h
def SY:g0 Qa=true:=X0<|.inl rfl
def SZ:g0 yD=true:=X0<|.inr rfl
def EM:g0 kH=false:=X1 (by decide)
def S0(v:p.marks=M)(k:cP p x)(h:Sm M x y)(r:∀ g∈G,g.2≠w):(nd y (.two yZ w)=false/\Sm M (vN p pl (.one yD w) x) y)\/(nd y (.two yZ w)=true/\(Sm M (vN p pl (.one yD w) x) (fl y<|.two yZ w)\/(Fn M G (vN p pl (.one yD w) x) y/\(vN p pl (.one yD w) x).cash=0))):=by
 have o:=k.ow w;have s:=k.sz w;have en:cO p (.one yD w) x=x.ow w+x.sz w:=rfl;have t:nd y (.two yZ w)=(y.al w&&not (decide (w∈y.rp))):=rfl;have j:=h.ow w;have l:=h.sz w;rw[t];by_cases m:0<x.sz w
 ·have c:=l.mp m;refine .inr #v[by simp[c.1,c.2],?_];show Sm M (qK p pl _ x) _\/(Fn M G (qK p pl _ x) y/\_);by_cases d:x.cash<x.ow w+x.sz w
  ·right
   refine#v[?_,?_]
   ·unfold qK KC;rw[en,Kv d,pP<|by rintro⟨_,q,_⟩;lia];refine#v[λn=>?_,h.fu,h.sv,λg u=>?_]
    ·show 0<put x.sz w (x.sz w-(x.cash-b_ x.cash (x.ow w))) n↔_;by_cases e:n=w
     ·subst e;rw[Jw];refine#v[λ_=>c,λ_=>?_];unfold b_;split<;>lia
     ·rw[kz e];exact h.sz n
    ·show 0<put x.ow w _ g.2↔_;rw[kz<|r g u];exact h.ow _
   ·show(qK p pl _ x).cash=0;rw[qG,en,Kv d];lia
  ·left
   unfold qK KC;rw[en,vo d,EL (b:=g0<|dq<|.one yD w) #v[SZ,rfl,by lia]];show Sm M {x with cash:=_,ow:=put x.ow w<|x.ow w-b_ (x.ow w+x.sz w) (x.ow w),sz:=put x.sz w<|x.sz w-(x.ow w+x.sz w-b_ (x.ow w+x.sz w) (x.ow w)),en:=_,sv:=x.sv++[w]} {y with sv:=qo y.sv w,rp:=if yZ=yZ then qo y.rp w else y.rp};rw[if_pos rfl,Kv ∅];refine#v[λn=>?_,h.fu,λn f=>?_,λn=>?_,λn f=>?_]
   ·show 0<put x.sz w _ n↔y.al n=true/\n∉qo y.rp w;rw[cA];by_cases e:n=w
    ·subst e;rw[Jw];exact#v[λz=>absurd z ∅,λz=>absurd (.inr rfl) z.2]
    ·rw[kz e,h.sz n];exact#v[λz=>#v[z.1,λq=>q.elim z.2 e],λz=>#v[z.1,λq=>z.2<|.inl q]]
   ·show n∈x.sv++[w]↔n∈qo y.sv w;rw[cA,N1,M7,h.sv n f]
   ·show 0<put x.ow w _ n↔y.al n=true/\n∉qo y.sv w;rw[cA];by_cases e:n=w
    ·subst e;rw[Jw];exact#v[λz=>absurd z ∅,λz=>absurd (.inr rfl) z.2]
    ·rw[kz e,h.ow n];exact#v[λz=>#v[z.1,λq=>q.elim z.2 e],λz=>#v[z.1,λq=>z.2<|.inl q]]
   ·show n∈qo y.sv w;have a:=f;rw[cA] at a ⊢;exact a.imp (h.rp n) id
 ·have q:=λi=>Classical.byContradiction λq=>m<|l.mpr #v[i,q];have z:x.ow w=0:=by
   have:¬ 0<x.ow w:=λz=>(j.mp z).2 (h.rp w<|q (j.mp z).1)
   lia
  refine .inl #v[?_,h.same<|Ju o.1<|by rw[en,show x.ow w+x.sz w=0 by lia];exact JI k.c0];cases i:y.al w with
  | false=>rfl
  | true=>simp[q i]
theorem pQ(pl):∀{T}{x},(T.map (·.1)).Nodup->(∀ t∈T,(shL pl T x).ow t.1=x.ow t.1-t.2.2)/\(∀ n,n∉T.map (·.1)->(shL pl T x).ow n=x.ow n)/\(shL pl T x).sz=x.sz/\(shL pl T x).lv=x.lv/\(shL pl T x).cash=x.cash-(T.map (·.2.2)).sum
 | [],x,_=>#v[λt a=>(nomatch a),λ_ _=>rfl,rfl,rfl,by show x.cash=x.cash-0;lia]
 | t::T,x,h=>by
  rw[L5,List.nodup_cons] at h;have i:=pQ pl (x:=sh1 pl t x) h.2;rw[lZ,L5,L5,List.sum_cons];have c:(sh1 pl t x).cash=x.cash-t.2.2:=rfl;refine#v[λb a=>?_,λn d=>?_,i.2.2.1,i.2.2.2.1,by rw[i.2.2.2.2,c];lia]
  ·rcases M4.mp a with rfl | a
   ·rw[i.2.1 _ h.1];exact Jw
   ·rw[i.1 b a];have:b.1≠t.1:=λz=>h.1<|z▸M5.mpr #v[b,a,rfl];show put x.ow t.1 _ b.1-_=_;rw[kz this]
  ·rw[M4,not_or] at d;rw[i.2.1 n d.2];exact kz d.1
def EQ{ws}(k:cP p x)(d:-ws<=10)(nd:ws.Nodup):(cJ ws x).map (·.2.2)=ya (ws.map x.ow) x.cash/\(cJ ws x).map (·.2.1)=ws.map x.ow:=by
 have a:-(ws.map x.ow)=-ws:=L1 ..;have b:=(ik k d nd).gl;have c:(cJ ws x).map (·.2)=(ws.map x.ow).zip (ya (ws.map x.ow) x.cash):=VG (by rw[List.length_zip,a,b];simp);constructor
 ·have:(cJ ws x).map (·.2.2)=((cJ ws x).map (·.2)).map (·.2):=by rw[U0];rfl
  rw[this,c];exact VG (by rw[a,b])
 ·have:(cJ ws x).map (·.2.1)=((cJ ws x).map (·.2)).map (·.1):=by rw[U0];rfl
  rw[this,c];exact uE (by rw[a,b])
theorem vr:∀{l:List Int},(∀ v∈l,0<=v)->0<=l.sum
 | [],_=>Int.le_refl _
 | a::l,h=>by
  have:=vr (l:=l) λv b=>h v (by simp[b]);have:=h a (by simp);rw[List.sum_cons];lia
theorem z6:∀{l:List Int},(∀ v∈l,0<=v)->∀ v∈l,v<=l.sum
 | [],_,_,b=>nomatch b
 | a::l,h,v,b=>by
  have n:=vr (l:=l) λv b=>h v (by simp[b]);have m:=h a (by simp);rw[List.sum_cons];rcases M4.mp b with rfl | b
  ·lia
  ·have:=z6 (λv b=>h v<|by simp[b]) v b;lia
theorem ER:∀{l:List Int},(∀ v∈l,v=0)->l.sum=0
 | [],_=>rfl
 | a::l,h=>by rw[List.sum_cons,h a<|by simp,ER λv b=>h v<|by simp[b]];rfl
def Kj{ws}(k:cP p x)(c:-ws<=10)(nd:ws.Nodup)(h:∀ t∈cJ ws x,t.2.2=0):cY x (xg pl ws x)/\(xg pl ws x).cash=x.cash:=by
 have a:=pQ pl (x:=x) (by rw[(ik k c nd).t1];exact nd);have z:=ER λv e=>by
  let[t,b,rfl]:=M5.mp e;exact h t b
 have f:fG ws x=false:=by
  unfold fG;cases q:decide (ya (ws.map x.ow) x.cash=ws.map x.ow) with
  | false=>rw[Bool.and_false]
  | true=>
   have:=X2 q;rw[<- (EQ k c nd).1] at this;rw[<- this,z];rfl
 refine#v[#v[a.2.2.1,?_,a.2.2.2.1,?_],by show(shL pl (cJ ws x) x).cash=_;rw[a.2.2.2.2,z];lia]
 ·funext n
  show(shL pl (cJ ws x) x).ow n=_;by_cases d:n∈(cJ ws x).map (·.1)
  ·let[t,b,rfl]:=M5.mp d;rw[a.1 t b,h t b];lia
  ·exact a.2.1 n d
 ·show(if fG ws x=true then x.sv++ws else x.sv)=_;rw[f];rfl
theorem Vt:∀{ws l:W1},n∈ws.foldl qo l↔n∈l\/n∈ws
 | [],l=>by simp
 | w::ws,l=>by
  rw[U9,Vt,cA,M4,or_assoc]
def S1{ws}(k:cP p x)(l:-ws<=10)(hd:ws.Nodup)(h:Sm M x y)(B:∀ g∈G,g.2∉ws):(nd y (.many ws)=false/\Sm M (vN p pl (.many ws) x) y)\/(nd y (.many ws)=true/\(Sm M (vN p pl (.many ws) x) (fl y<|.many ws)\/(Fn M G (vN p pl (.many ws) x) y/\(vN p pl (.many ws) x).cash=0))):=by
 have s:=ik k l hd;have o:=EQ k l hd;have d:=λv C=>(s.ns v C).1;have a:=pQ pl (x:=x) (by rw[s.t1];exact hd);have D:nd y (.many ws)=ws.any (dv y):=rfl;rw[D];cases hq:ws.any (dv y) with
 | false=>
  refine .inl #v[rfl,h.same (Kj k l hd λt c=>?_).1];have e:=s.ok.eq t c;have r:t.1∈ws:=by rw[<- s.t1];exact M5.mpr #v[t,c,rfl]
  have F:¬ 0<x.ow t.1:=λz=>by
   have m:=(h.ow t.1).mp z;have:ws.any (dv y)=true:=List.any_eq_true.mpr #v[t.1,r,by unfold dv;simp[m.1,m.2]];rw[hq] at this;cases this
  lia
 | true=>
  refine .inr #v[rfl,?_];let[w,r,A]:=List.any_eq_true.mp hq;have f:=(h.ow w).mpr (by unfold dv at A;simpa using A);by_cases j:ya (ws.map x.ow) x.cash=ws.map x.ow
  ·left
   have u:fG ws x=true:=by
    unfold fG;rw[X0<|Int.lt_of_lt_of_le f<|z6 d _<|M5.mpr #v[w,r,rfl],X0 j];rfl
   have i:∀ t∈cJ ws x,t.2.2=t.2.1:=by
    have e:(cJ ws x).map (·.2.2)=(cJ ws x).map (·.2.1):=by rw[o.1,o.2,j]
    intro t c;exact List.map_inj_left.mp e t c
   refine#v[λn=>?_,λn=>?_,λn b=>?_,λn=>?_,λn b=>?_]
   ·show 0<(shL pl (cJ ws x) x).sz n↔_;rw[a.2.2.1];exact h.sz n
   ·show _↔(shL pl (cJ ws x) x).lv n=_;rw[a.2.2.2.1];exact h.fu n
   ·show n∈(if fG ws x=true then x.sv++ws else x.sv)↔n∈ws.foldl qo y.sv;rw[u,if_pos rfl,Vt,N1,h.sv n b]
   ·show 0<(shL pl (cJ ws x) x).ow n↔y.al n=true/\n∉ws.foldl qo y.sv;rw[Vt];by_cases b:n∈ws
    ·rw[<- s.t1] at b;let[t,c,rfl]:=M5.mp b;have e:=s.ok.eq t c;rw[a.1 t c,i t c];exact#v[λz=>absurd z ∅,λz=>absurd (.inr<|by rw[<- s.t1];exact b) z.2]
    ·rw[a.2.1 n<|by rw[s.t1];exact b,h.ow n];exact#v[λz=>#v[z.1,λq=>q.elim z.2 b],λz=>#v[z.1,λq=>z.2<|.inl q]]
   ·show n∈ws.foldl qo y.sv;rw[Vt];exact .inl<|h.rp n b
  ·right
   have q:=(Qe k.c0 d).elim (λz=>absurd z.1 j) id;have u:fG ws x=false:=by
    unfold fG;rw[X1 j,Bool.and_false]
   refine#v[#v[λn=>?_,λn=>?_,λn b=>?_,λg E=>?_],?_]
   ·show 0<(shL pl (cJ ws x) x).sz n↔_;rw[a.2.2.1];exact h.sz n
   ·show _↔(shL pl (cJ ws x) x).lv n=_;rw[a.2.2.2.1];exact h.fu n
   ·show n∈(if fG ws x=true then x.sv++ws else x.sv)↔_;rw[u];exact h.sv n b
   ·show 0<(shL pl (cJ ws x) x).ow g.2↔_;rw[a.2.1 _<|by rw[s.t1];exact B g E];exact h.ow _
   ·show(shL pl (cJ ws x) x).cash=0;rw[a.2.2.2.2,o.1,q];lia
def cY.trans{z}(h:cY x x')(k:cY x' z):cY x z:=#v[k.sz.trans h.sz,k.ow.trans h.ow,k.lv.trans h.lv,k.sv.trans h.sv]
def z5{r}{q}(e:q=wm r)(h1:dq q≠Qa)(h2:dq q≠yD)(a:dq q≠kH)(b:∀ ws,q≠.many ws)(en:nd y r=false)(h:Sm M x y):nd y r=false/\Sm M (vN p pl q x) y:=by
 refine#v[en,h.same ?_];cases q with
 | one k w=>exact xv h1 h2 a
 | lend w j=>exact xv h1 h2 a
 | many ws=>exact absurd rfl<|b ws
def S2{r}(s:cw p.C p.P p.oth<|wm r)(t:p.marks=M)(k:cP p x)(h:Sm M x y)(u:∀ g∈G,g.2∉eU r):(nd y r=false/\Sm M (vN p pl (wm r) x) y)\/(nd y r=true/\(Sm M (vN p pl (wm r) x) (fl y r)\/(Fn M G (vN p pl (wm r) x) y/\(vN p pl (wm r) x).cash=0))):=by
 cases r with
 | two kw w=>
  rcases(by cases s<;>simp:kw=Vj\/kw=Qa\/kw=yD\/kw=kH\/kw=vO) with rfl | rfl | rfl | rfl | rfl
  ·exact .inl<|z5 rfl (by decide:Vj≠Qa) (by decide:Vj≠yD) (by decide:Vj≠kH) (λ_ z=>by cases z) rfl h
  ·have o:=k.ow w;have en:cO p (.one Qa w) x=x.ow w:=rfl;have j:nd y (.two h9 w)=dv y w:=rfl;have A:=h.ow w;rw[j];by_cases f:0<x.ow w
   ·have i:=A.mp f;refine .inr #v[by unfold dv;simp[i.1,i.2],?_];show Sm M (qK p pl _ x) _\/(Fn M G (qK p pl _ x) y/\_);by_cases d:x.cash<x.ow w
    ·right
     refine#v[?_,?_]
     ·unfold qK KC;rw[en,Kv d,pP<|by rintro⟨_,q,_⟩;lia];refine#v[h.sz,h.fu,h.sv,λg _=>?_];show 0<put x.ow w _ g.2↔_;by_cases e:g.2=w
      ·rw[e,Jw];exact#v[λ_=>i,λ_=>by show 0<x.ow w-x.cash;lia]
      ·rw[kz e];exact h.ow _
     ·show(qK p pl _ x).cash=0;rw[qG,en,Kv d];lia
    ·left
     unfold qK KC;rw[en,vo d,EL (b:=g0<|dq<|.one Qa w) #v[SY,rfl,f]];show Sm M {x with cash:=_,ow:=put x.ow w _,en:=_,sv:=x.sv++[w]} {y with sv:=qo y.sv w,rp:=if h9=yZ then qo y.rp w else y.rp};refine#v[h.sz,h.fu,λn m=>?_,λn=>?_,λn m=>cA.mpr<|.inl<|h.rp n m]
     ·show n∈x.sv++[w]↔n∈qo y.sv w;rw[cA,N1,M7,h.sv n m]
     ·show 0<put x.ow w _ n↔y.al n=true/\n∉qo y.sv w;rw[cA];by_cases e:n=w
      ·subst e;rw[Jw];exact#v[λz=>absurd z<|by show ¬ 0<x.ow n-x.ow n;lia,λz=>absurd (.inr rfl) z.2]
      ·rw[kz e,h.ow n];exact#v[λz=>#v[z.1,λq=>q.elim z.2 e],λz=>#v[z.1,λq=>z.2<|.inl q]]
   ·refine .inl #v[?_,h.same<|Ju o.1<|by rw[en,show x.ow w=0 by lia];exact JI k.c0];unfold dv;cases ha:y.al w with
    | false=>rfl
    | true=>
     have:=Classical.byContradiction λq=>f<|A.mpr #v[ha,q];simp[this]
  ·exact S0 t k h λg E z=>u g E (by rw[show eU (.two yD w)=[w] from rfl,z];simp)
  ·subst t;have l:=k.lv w;have en:cO p (.one kH w) x=ii (fnOf p.marks w-x.lv w):=rfl;have j:nd y (.two uO w) = not (y.fu w):=rfl;have B:=h.fu w;rw[j];by_cases f:x.lv w=fnOf p.marks w
   ·refine .inl #v[by rw[B.mpr f];rfl,h.same<|Ju (k.ow w).1 (by rw[en,show fnOf p.marks w-x.lv w=0 by lia];exact JI k.c0)]
   ·have i:y.fu w=false:=by
     cases q:y.fu w with
     | false=>rfl
     | true=>exact absurd (B.mp q) f
    have e2:cO p (.one kH w) x=fnOf p.marks w-x.lv w:=by rw[en];unfold ii;rw[if_neg ∅]
    refine .inr #v[by rw[i];rfl,?_];show Sm _ (qK p pl _ x) _\/(Fn _ G (qK p pl _ x) y/\_);by_cases d:x.cash<fnOf p.marks w-x.lv w
    ·right
     refine#v[?_,?_]
     ·unfold qK KC;rw[e2,Kv d,pP<|by rintro⟨q,_⟩;exact absurd q<|by rw[show dq (.one kH w)=kH from rfl,EM];decide];refine#v[h.sz,λn=>?_,h.sv,λg _=>h.ow _];show _↔put x.lv w (x.lv w+x.cash) n=_;by_cases e:n=w
      ·subst e;rw[Jw,i];exact#v[λz=>absurd z<|by decide,λz=>absurd z ∅]
      ·rw[kz e];exact h.fu n
     ·show(qK p pl _ x).cash=0;rw[qG,e2,Kv d];lia
    ·left
     unfold qK KC;rw[e2,vo d,pP<|by rintro⟨q,_⟩;exact absurd q<|by rw[show dq (.one kH w)=kH from rfl,EM];decide];show Sm _ {x with cash:=_,lv:=put x.lv w<|x.lv w+(fnOf p.marks w-x.lv w),en:=_} {y with fu:=λq=>if q=w then true else y.fu q};refine#v[h.sz,λn=>?_,h.sv,h.ow,h.rp];show(if n=w then true else y.fu n)=true↔put x.lv w _ n=_;by_cases e:n=w
     ·subst e;rw[Jw,if_pos rfl];exact#v[λ_=>by lia,λ_=>rfl]
     ·rw[kz e,if_neg e];exact h.fu n
  ·exact .inl<|z5 rfl (by decide:vO≠Qa) (by decide:vO≠yD) (by decide:vO≠kH) (λ_ z=>by cases z) rfl h
 | many D=>
  have q:D.Nodup/\D.length<=10:=by
   cases s with
   | share a b c=>exact#v[a,c]
  exact S1 k q.2 q.1 h u
 | lend kw w v=>exact .inl<|z5 rfl (by decide:qd≠Qa) (by decide:qd≠yD) (by decide:qd≠kH) (λ_ z=>by cases z) rfl h
def S3{r}(f:cw p.C p.P p.oth r)(k:cP p x)(c:x.cash=0):cY x (vN p pl r x)/\(vN p pl r x).cash=0:=by
 have one:∀ r:Ru,b_ (cO p r x) x.cash=0:=λr=>by rw[c];exact SV<|wP k
 cases r with
 | one kw w=>exact#v[Ju (k.ow _).1 (one _),by show(qK p pl _ x).cash=0;rw[qG,one,c];rfl]
 | lend w j=>exact#v[Ju (k.ow _).1 (one _),by show(qK p pl _ x).cash=0;rw[qG,one,c];rfl]
 | many e=>
  have q:e.Nodup/\ -e<=10:=by
   cases f with
   | share a b c=>exact#v[a,c]
  have s:=(ik k q.2 q.1).ok;have:=Kj (pl:=pl) k q.2 q.1 λt d=>by
   have l:=s.sum;have m:=z6 (λv g=>by let[t,d,rfl]:=M5.mp g;exact(s.eq t d).2.1) t.2.2<|M5.mpr #v[t,d,rfl];have:=(s.eq t d).2.1
   lia
  exact#v[this.1,this.2.trans c]
theorem Y0:∀{R}{k}{x},(∀ r∈R,cw p.C p.P p.oth r)->cP p x->x.cash=0->cY x (v8 p k R x)
 | [],_,_,_,_,_=>#v[rfl,rfl,rfl,rfl]
 | r::R,k,x,b,d,c=>by
  have a:=S3 (pl:=k) (b r<|by simp) d c;exact a.1.trans<|Y0 (λq e=>b q<|by simp[e]) (JL (b r<|by simp) d) a.2
theorem Ks{P}{kl}(n:p.marks=M):∀{rs}{k}{i}{x}{y},(∀ r∈rs,cw p.C p.P p.oth<|wm r)->(∀ g∈G,g.2∉rs.flatMap eU)->cP p x->Sm M x y ->
  ∃ y',cM (Fn M G (v8 p k (rs.map wm) x) y') (y'.al=y.al)<|(∃ c,c9 kl c (ob P L y')∈(run P L kl rs i y).1)\/y'=(run P L kl rs i y).2
 | [],k,i,x,y,_,_,_,h=>#v[y,h.fn,rfl,.inr rfl]
 | r::rs,k,i,x,y,u,A,B,h=>by
  have D:=u r (by simp);have b:∀ q∈rs,cw p.C p.P p.oth (wm q):=λq o=>u q (by simp[o]);have j:=λg t z=>A g t (by rw[List.flatMap_cons,N1];exact .inr z);have d:=JL (pl:=k) D B;rw[L5,RW,m9];rcases S2 D n B h λg t z=>A g t (by rw[List.flatMap_cons,N1];exact .inl z) with⟨e,l⟩ | ⟨e,l | ⟨l,c⟩⟩
  ·rw[e];exact Ks n b j d l
  ·rw[e];let[y',f,a,m]:=Ks n b j d l;exact#v[y',f,a.trans ((by
     cases r with
     | two kw w=>unfold fl;dsimp only;split<;>rfl
     | many F=>rfl
     | lend kw w v=>rfl)),m.imp (λ⟨c,z⟩=>#v[c,L6 _ z]) id]
  ·rw[e];exact#v[y,l.same<|Y0 (λq o=>by let[s,E,rfl]:=M5.mp o;exact b s E) d c,rfl,.inl #v[_,L7]]
theorem ES:∀{E}{f},(∀ n,0<=f n)->(cB E f 0).1=f
 | [],_,_=>rfl
 | c::E,f,h=>by
  rw[u_,JI<|h c,JM ∅];exact ES h
theorem uu{al}:∀{E}{f}{L},(∀ n,0<=f n)->0<=L->(∀ n,0<f n->al n=true)->∃ k,∀ n,(0<(cB E f L).1 n↔0<f n/\n∉(E.filter al).take k)
 | [],f,L,_,_,_=>#v[0,λn=>by show 0<f n↔_;simp]
 | c::E,f,L,h,i,b=>by
  rw[u_,List.filter_cons];by_cases a:al c=true
  ·rw[if_pos a];by_cases j:f c<=L
   ·have g:b_ L (f c)=f c:=by unfold b_;split<;>lia
    rw[g];let[k,e]:=uu (al:=al) (f:=put f c<|f c-f c) (L:=L-f c) (vc h ∅) ∅ λn d=>by
     by_cases q:n=c
     ·rw[q];exact a
     ·rw[kz q] at d;exact b n d
    refine#v[k+1,λn=>?_];rw[e n,List.take_succ_cons,M4,not_or];by_cases q:n=c
    ·subst q;rw[Jw];exact#v[λz=>absurd z.1 ∅,λz=>absurd rfl z.2.1]
    ·rw[kz q];exact#v[λz=>#v[z.1,q,z.2],λz=>#v[z.1,z.2.2]]
   ·have g:b_ L (f c)=L:=by unfold b_;split<;>lia
    rw[g,show L-L=0 by lia,ES<|vc h ∅];refine#v[0,λn=>?_];by_cases q:n=c
    ·subst q;rw[Jw];exact#v[λ_=>#v[by lia,by simp],λ_=>by lia]
    ·rw[kz q];simp
  ·rw[if_neg a];have z:f c=0:=by
    have:=h c;have:¬ 0<f c:=λz=>a<|b c z
    lia
   have g:b_ L (f c)=0:=by rw[z];unfold b_;split<;>lia
   rw[g,JM ∅,show L-0=L by lia];exact uu h i b
theorem V6:∀{Q}{k}{A}{x},cY x<|vq k Q A x
 | [],_,_,_=>#v[rfl,rfl,rfl,rfl]
 | _::_,_,[],_=>#v[rfl,rfl,rfl,rfl]
 | q::Q,k,a::A,x=>cY.trans (x':=Kh k q a x) #v[rfl,rfl,rfl,rfl]<|V6
def S4{o}{b}{c}{ln}:cY (vG b c ln) (KQ o b c ln):=by
 have a:=V6 (Q:=o.parts) (k:=0) (A:=(jR o.parts c).1) (x:=vG b c ln);unfold KQ twiceF;split
 ·exact#v[a.sz,a.ow,a.lv,a.sv]
 ·exact a
theorem Qc:∀{Q}{k}{A}{x},-A=-Q->(∀ a∈A,0<=a)->0<=x.cash->x.cash<=A.sum->(vq k Q A x).cash=0
 | [],_,A,x,h,_,f,b=>by
  rw[List.eq_nil_of_length_eq_zero h] at b;show x.cash=0;simp at b;lia
 | _::_,_,[],_,h,_,_,_=>nomatch h
 | q::Q,k,a::A,x,h,c,f,b=>by
  rw[List.sum_cons] at b;have n:=vr (l:=A) λv d=>c v (by simp[d]);rw[uL];have e:(Kh k q a x).cash=x.cash-b_ a x.cash:=rfl;refine Qc ⇑h (λv d=>c v<|by simp[d]) ?_ ?_
  ·rw[e];have:=qA (c a<|by simp) f;lia
  ·rw[e];unfold b_;split<;>lia
def S5{P}{c}(h:10<=(ts P).sum)(h0:0<=c):c<=(jR P c).1.sum:=by
 unfold jR;split
 ·have:=(Ri (P:=P) (c:=c)).1;have m:=Int.mul_le_mul_of_nonneg_left h h0;show c<=(f7 c P).sum
  lia
 ·have e:(ts P).sum=10:=by lia
  have b:=Rg (P:=P) (c:=c);rw[e] at b ⊢;have a:(-(Vo c P):Int)=-P:=by unfold Vo;rw[L1]
  have s:=DZ (c*10/10-(Vo c P).sum) 0 (Vo c P) ∅ ∅;show c<=(gF (c*10/10-(Vo c P).sum) 0<|Vo c P).sum
  lia
theorem wW:∀{G}{k}{x},(yO k G x).sz=x.sz/\(yO k G x).sv=x.sv
 | [],_,_=>#v[rfl,rfl]
 | g::G,k,x=>wW (x:=Jr k g x)
theorem xr:∀{G}{k}{x},(G.map (·.2)).Nodup->(∀ n,0<=x.ow n)->(∀ n,0<=x.lv n/\x.lv n<=fnOf M n)->(∀ g∈G,1<=fnOf M g.1)->∀ q,((yO k G x).lv q=fnOf M q↔x.lv q=fnOf M q/\∀ g∈G,g.1=q->¬ 0<x.ow g.2)
 | [],_,_,_,_,_,_,q=>#v[λz=>#v[z,λg s=>(nomatch s)],λz=>z.1]
 | g::G,k,x,h,i,j,o,q=>by
  rw[L5,List.nodup_cons] at h;have l:=j g.1;have m:=o g (by simp);have t:=qA (i g.2) l.1;rw[yO,xr h.2 (λn=>by
    show 0<=put x.ow g.2 _ n;unfold put;split
    ·lia
    ·exact i n) (λn=>by
    show 0<=put x.lv g.1 _ n/\put x.lv g.1 _ n<=_;by_cases e:n=g.1
    ·rw[e,Jw];lia
    ·rw[kz e];exact j n) (λb c=>o b<|by simp[c]) q]
  have ne:∀ b∈G,(Jr k g x).ow b.2=x.ow b.2:=λb c=>kz λz=>h.1<|z▸M5.mpr #v[b,c,rfl];have p:(Jr k g x).lv q=if q=g.1 then x.lv g.1-b_ (x.ow g.2) (x.lv g.1) else x.lv q:=rfl
  constructor
  ·rintro⟨d,f⟩;rw[p] at d;have a:∀ b∈G,b.1=q->¬ 0<x.ow b.2:=λb c e=>by rw[<- ne b c];exact f b c e
   by_cases e:q=g.1
   ·subst e;rw[if_pos rfl] at d;refine#v[by lia,λb c e=>?_];rcases M4.mp c with rfl | c
    ·intro z;have:0<b_ (x.ow b.2) (x.lv b.1):=by unfold b_;split<;>lia
     lia
    ·exact a b c e
   ·rw[if_neg e] at d;refine#v[d,λb c r=>?_];rcases M4.mp c with rfl | c
    ·exact absurd r.symm e
    ·exact a b c r
  ·rintro⟨d,f⟩;refine#v[?_,λb c e=>by rw[ne b c];exact f b (by simp[c]) e];rw[p];by_cases e:q=g.1
   ·subst e;have z:=f g (by simp) rfl;have:x.ow g.2=0:=by lia
    rw[this,JI l.1];lia
   ·rw[if_neg e];exact d
def Q6{S:List W2}{n}(h:n∉S.map (·.1)):fnOf S n=0:=by
 unfold fnOf
 induction S with
 | nil=>rfl
 | cons q S a=>
  rw[L5,M4,not_or] at h;rw[YV,if_neg λz=>h.1 z.symm];exact a h.2
def VR{g:List Nat->Int->Int}{S:List W2}{n}(h:n∈S.map (·.1)):fnOf (S.map λq=>(q.1,g q.1 q.2)) n=g n (fnOf S n):=by
 unfold fnOf
 induction S with
 | nil=>cases h
 | cons q S a=>
  rw[L5,YV,YV];by_cases e:q.1=n
  ·rw[if_pos e,if_pos e,<- e];rfl
  ·rw[if_neg e,if_neg e];rw[L5,M4] at h;exact a<|h.elim (λz=>absurd z.symm e) id
def QN{N}{f}{n}:fnOf (c7 N f) n=if n∈N then f n else 0:=by
 by_cases h:n∈N
 ·rw[if_pos h];exact Ch N f h
 ·rw[if_neg h];exact Q6 (by rw[JN];exact h)
def ck(P:Pl)(b:dH):Ol:=#v[(gr P).1.map λc=>(c,mn (fnOf b.R c)<|(gr P).2 c),λn=>decide<|0<fnOf b.S n,λn=>decide<|fnOf b.L n=fnOf P.P n]
def db(p:bZ)(b:dH)(loss:Int):dH:=#v[c7 p.C (cB p.eats (fnOf b.S) loss).1,gJ p (fnOf<|c7 p.C (cB p.eats (fnOf b.S) loss).1)<|d8 b.W (cB p.eats (fnOf b.S) loss).1,b.R,b.L,b.z+(cB p.eats (fnOf b.S) loss).2]
def ET(P):∀ l∈P.L,l.2.1<=(gr P).2 l.1:=by
 have key:∀(L:List Lk) S,(∀ c∈S.1,c∈(L.foldl grow S).1/\S.2 c<=(L.foldl grow S).2 c)/\∀ l∈L,l.2.1<=(L.foldl grow S).2 l.1:=by
  intro L
  induction L with
  | nil=>intro S;exact#v[λc a=>#v[a,Int.le_refl _],λl b=>nomatch b]
  | cons x L d=>
   intro S;have k:=d<|grow S x;have m:∀ c,c∈S.1\/c=x.1->c∈(grow S x).1:=λc a=>by
    unfold grow;by_cases q:x.1∈S.1
    ·rw[if_pos q];rcases a with a | rfl
     ·exact a
     ·exact q
    ·rw[if_neg q];simpa using a
   have v:(grow S x).2 x.1=big x.2.1 (gD S x.1):=if_pos rfl;refine#v[λc a=>#v[(k.1 c<|m c<|.inl a).1,Int.le_trans ?_ (k.1 c<|m c<|.inl a).2],λl b=>?_]
   ·by_cases e:c=x.1
    ·rw[e,v];have:gD S x.1=S.2 x.1:=if_pos<|e▸a;unfold big;split<;>lia
    ·show _<=if c=x.1 then _ else S.2 c
     rw[if_neg e];exact Int.le_refl _
   ·rcases M4.mp b with rfl | b
    ·refine Int.le_trans ?_ (k.1 _<|m _<|.inr rfl).2;rw[v];unfold big;split<;>lia
    ·exact k.2 l b
 exact(key P.L _).2
def EU(h:cF P){c}(e:c∈(gr P).1):0<=(gr P).2 c/\c∈nC P:=by
 let[l,b,rfl]:=(pB h).i c e;have a:=(h.l l b).d;have:=ET P l b;exact#v[by lia,(h.l l b).m]
def S6(h:ce p){n}(hn:n∈p.C):1<=gI p n:=by
 let[t,a,rfl]:=M5.mp hn;have e:gI p t.1=t.2.2:=by
  have:=qJ (S:=p.told.map λc=>(c.1,c.2.2)) (by rw[U0];exact h.toldn)<|M5.mpr #v[t,a,rfl];exact this
 rw[e];exact(h.told t a).d0
def S7{O:W1}{f c:Int}(h:ce<|kj O P)(x:∀ c∈P.E,c∈nC P)(j:dE (kj O P) b)(o:0<=f):∃ k,k<=-(cU P<|ck P b)/\Sm P.P (vG (db (kj O P) b f) c ln) (fC P (ck P b) k):=by
 have p:=qr λq l=>(j.s q l).1;let[m,r]:=uu (al:=(ck P b).al) p o λn i=>X0 i;obtain⟨k,y,e⟩:∃ k,k<=-(cU P<|ck P b)/\∀ n,(0<(cB P.E (fnOf b.S) f).1 n↔0<fnOf b.S n/\n∉(cU P<|ck P b).take k):=by
  by_cases q:m<=-(cU P<|ck P b)
  ·exact#v[m,q,r]
  ·refine#v[_,M8 _,λn=>?_];rw[r n,List.take_length,show List.take m (P.E.filter (ck P b).al)=cU P (ck P b) from List.take_of_length_le (by have:-(cU P<|ck P b)=-(P.E.filter (ck P b).al):=rfl;lia)]
 refine#v[k,y,?_];have al:∀ n,(fC P (ck P b) k).al n=true↔0<(cB P.E (fnOf b.S) f).1 n:=λn=>by
  rw[e n];show d6 (ck P b).al _ n=true↔_;unfold d6;rw[M0,show(ck P b).al n=decide (0<fnOf b.S n) from rfl,decide_eq_true_iff];simp
 have out:∀ n,n∉nC P->(cB P.E (fnOf b.S) f).1 n=0:=λn i=>by
  have z:=Q6 (by rw[j.S];exact i);have:=(vd (E:=P.E) p o).1 n
  lia
 have sz:∀ n,fnOf (db (kj O P) b f).S n=(cB P.E (fnOf b.S) f).1 n:=λn=>by
  show fnOf (c7 (nC P) _) n=_;rw[QN];split
  ·rfl
  ·rename_i q;exact(out n q).symm
 refine#v[λn=>?_,λn=>?_,λn _=>Iff.rfl,λn=>?_,λn i=>(nomatch i)]
 ·show 0<fnOf (db (kj O P) b f).S n↔_/\n∉[];rw[sz,al];simp
 ·show decide (fnOf b.L n=fnOf P.P n)=true↔_;rw[decide_eq_true_iff];rfl
 ·show 0<fnOf (gJ (kj O P) (fnOf (db (kj O P) b f).S)<|d8 b.W (cB P.E (fnOf b.S) f).1) n↔_/\n∉[];rw[al];by_cases i:n∈nC P
  ·have t:n∈b.W.map (·.1):=by rw[j.W];exact i
   have A:n∈(d8 b.W (cB P.E (fnOf b.S) f).1).map (·.1):=by unfold d8;rw[U0];exact t
   have a:=VR (g:=λn v=>if 0<fnOf (db (kj O P) b f).S n then v+gI (kj O P) n else v) A;have u:=VR (g:=λn v=>if 0<(cB P.E (fnOf b.S) f).1 n then v else 0) t;have d:=S6 h i;have w:=qr (λq l=>(j.w q l).1) n;change fnOf (gJ _ _ _) n=_ at a;change fnOf (d8 _ _) n=_ at u;rw[a,u,sz n];by_cases q:0<(cB P.E (fnOf b.S) f).1 n
   ·rw[if_pos q,if_pos q];exact#v[λ_=>#v[q,by simp],λ_=>by lia]
   ·rw[if_neg q,if_neg q];exact#v[λz=>absurd z ∅,λz=>absurd z.1 q]
  ·have z:fnOf (gJ (kj O P) (fnOf (db (kj O P) b f).S)<|d8 b.W (cB P.E (fnOf b.S) f).1) n=0:=Q6 (by unfold gJ d8;rw[U0,U0];exact λq=>i (by have e:b.W.map (·.1)=nC P:=j.W;rw[<- e];exact q));rw[z,out n i];simp
def im(p:bZ)(o:dD)(b:dH)(loss c:Int)(ln:LN):dH:=qu p (db p b loss)<|V0 p o (db p b loss) c ln
def EV{N:W1}{f g:List Nat->Bool}(h:∀ n∈N,f n=g n):(N.map λn=>D.bl<|f n)=N.map λn=>D.bl (g n):=List.map_congr_left λn a=>by rw[h n a]
def S8(h:cF P)(H:ce<|kj O P)(gn:(P.G.map (·.2)).Nodup)(u:dE (kj O P) b){x}{y}{k}(j:cP (kj O P) x)(f:Fn P.P P.G x y)(l:y.al=(fC P (ck P b) k).al)
  (o:∀ n,0<fnOf (db (kj O P) b loss).S n↔(fC P (ck P b) k).al n=true):yK P (ck P<|qu (kj O P) (db (kj O P) b loss)<|yO 0 P.G x)=ob P (ck P b).R y:=by
 have p:=wW (G:=P.G) (k:=0) (x:=x);have gl:=xr (M:=P.P) (k:=0) gn (λn=>(j.ow n).1) j.lv λg d=>by
  let[q,r,e]:=M5.mp (h.g g d).2.1;rw[<- e,qJ h.pN r];exact h.p1 q r
 generalize yO 0 P.G x=x3 at *;have w:∀ n∈nC P,dv y n=decide (0<fnOf (db (kj O P) b loss).S n/\n∉x3.sv):=λn i=>by
  unfold dv;rw[p.2];by_cases a:y.al n=true
  ·have:=f.sv n a;rw[a];by_cases q:n∈y.sv
   ·rw[X0 q,X1 λz=>z.2<|this.mpr q];rfl
   ·rw[X1 q,X0 #v[((o n).mpr (l▸a)),λz=>q<|this.mp z]];rfl
  ·rw[Bool.eq_false_iff.mpr a,Bool.false_and];exact(X1 λz=>a<|by rw[l];exact(o n).mp z.1).symm
 show D.tup [.tup<|((gr P).1.map λc=>(c,mn (fnOf (zu (db (kj O P) b loss).S x3.sv b.R) c)<|(gr P).2 c)).map yW,.tup<|(nC P).map λn=>.bl<|decide<|0<fnOf (c7 (nC P) x3.sz) n,.tup<|(nP P).map λn=>.bl<|decide<|fnOf (c7 (nP P) x3.lv) n=fnOf P.P n]=.tup [.tup<|(((gr P).1.map _).map (pE P y)).map yW,.tup<|gY P y,.tup<|gZ P y];have A:((gr P).1.map λc=>(c,mn (fnOf (zu (db (kj O P) b loss).S x3.sv b.R) c)<|(gr P).2 c))=((gr P).1.map λc=>(c,mn (fnOf b.R c)<|(gr P).2 c)).map (pE P y):=by
  rw[U0];refine List.map_congr_left λc B=>?_;have s:=EU h B;have C:c∈b.R.map (·.1):=by rw[u.R];exact s.2
  have a:=VR (g:=λn v=>if 0<fnOf (db (kj O P) b loss).S n/\n∉x3.sv then v+1 else 0) C;change fnOf (zu _ _ _) c=_ at a;show _=(c,if dv y c then mn (mn (fnOf b.R c) ((gr P).2 c)+1) ((gr P).2 c) else 0);rw[a,w c s.2];by_cases q:0<fnOf (db (kj O P) b loss).S c/\c∉x3.sv
  ·rw[if_pos q,if_pos<|X0 q];unfold mn;refine congrArg (Prod.mk c) ?_;split<;>split<;>(try split)<;>lia
  ·rw[if_neg q,if_neg<|by rw[X1 q];decide];unfold mn;rw[if_neg ∅]
 have e2:((nC P).map λn=>D.bl<|decide<|0<fnOf (c7 (nC P) x3.sz) n)=gY P y:=EV λn i=>by
  rw[QN,if_pos i,p.1];have:=f.sz n;by_cases q:0<x.sz n
  ·rw[X0 q,(this.mp q).1,X1 (this.mp q).2];rfl
  ·rw[X1 q];cases a:y.al n with
   | false=>rfl
   | true=>
    have:=Classical.byContradiction λz=>q<|this.mpr #v[a,z];rw[X0 this];rfl
 have e3:((nP P).map λn=>D.bl<|decide<|fnOf (c7 (nP P) x3.lv) n=fnOf P.P n)=gZ P y:=EV λn i=>by
  rw[QN,if_pos i];have t:n∈ia P.G y↔∃ g∈P.G,g.1=n/\0<x.ow g.2:=by
   unfold ia;rw[M5];constructor
   ·rintro⟨g,d,e⟩;let[d,m]:=List.mem_filter.mp d;refine#v[g,d,e,(f.ow g d).mpr ?_];unfold dv at m;simpa using m
   ·rintro⟨g,d,e,m⟩;refine#v[g,List.mem_filter.mpr #v[d,?_],e];have:=(f.ow g d).mp m;unfold dv;simp[this.1,this.2]
  have fu:=f.fu n;by_cases q:x3.lv n=fnOf P.P n
  ·let[E,F]:=(gl n).mp q;rw[X0 q,fu.mpr E,X1 λz=>by let[g,d,e,m]:=t.mp z;exact F g d e m];rfl
  ·rw[X1 q];cases a:y.fu n with
   | false=>rfl
   | true=>
    have:=Classical.byContradiction λz=>q<|(gl n).mpr #v[fu.mp a,λg d e m=>z<|t.mpr #v[g,d,e,m]];rw[X0 this];rfl
 rw[A,e2,e3]
def S9(h:cF P)(hx:iK O P)(i:ce<|kj O P)(w:dE (kj O P) b)(C:0<=loss)(D:dE (kj O P)<|db (kj O P) b loss)(d:0<=c)(E:c<=10 ^ 60)(l:-ln<=50)(p:∀ r∈ln,0<=r.2){X}(y:X∈P.X):
  ∃ k j,c9 k j (yK P<|ck P<|im (kj O P) (qN X) b loss c ln)∈QA P (ck P b) X (-(cU P<|ck P b)+1):=by
 let[k,I,s0]:=S7 (c:=c) (ln:=ln) i h.me w C;have F:∀ n,0<fnOf (db (kj O P) b loss).S n↔(fC P (ck P b) k).al n=true:=λn=>by
  have:0<fnOf (db (kj O P) b loss).S n↔_/\n∉[]:=s0.sz n;rw[this];simp
 have s:qN X∈(kj O P).ords:=M5.mpr #v[X,y,rfl];let[t,_,_,_,_]:=Km i s D l p d E;have s1:=s0.same<|S4 (o:=qN X);have u:=(i.ords _ s).rules;have key:∃ e,Fn P.P P.G (v8 (kj O P) ((qN X).parts.length:Int) (qN X).rules (KQ (qN X) (db (kj O P) b loss) c ln)) e/\e.al=(fC P (ck P b) k).al/\∃ j,c9 k j (ob P (ck P b).R e)∈eY P (ck P b).R (ten X) k X.2.2 (fC P (ck P b) k):=by
  unfold eY;cases ht:ten X with
  | true=>
   exact#v[_,s1.fn.same (Y0 u t ((by
     have A:=i.ords (qN X) s;unfold KQ twiceF;split<;>exact(Qc (k:=0) (x:=vG (db (kj O P) b loss) c ln) D3 (u4 (λq B=>#v[(A.parts q B).2.1,(A.parts q B).2.2]) d) d<|S5 (X2 ht) d)))),rfl,_,M7.mpr rfl]
  | false=>
   let[e,f,a,m]:=Ks rfl (λr v=>u _<|M5.mpr #v[r,v,rfl]) (λg H z=>hx.gb g H<|List.mem_flatMap.mpr #v[X,y,z]) t s1;refine#v[e,f,a,?_];rcases m with⟨j,m⟩ | rfl
   ·exact#v[j,N1.mpr<|.inl m]
   ·exact#v[_,N1.mpr<|.inr<|M7.mpr rfl]
 let[e,f,a,j,m]:=key;refine#v[k,j,List.mem_flatMap.mpr #v[k,List.mem_range.mpr ∅,?_]];rw[<- S8 h i hx.gn w ((YE (k:=((qN X).parts.length:Int)) u t).2) f a F] at m;exact m
theorem xS:∀{G}{k}{x},(∀ g∈G,0<=fnOf p.marks g.1)->cP p x->cP p (yO k G x)
 | [],_,_,_,h=>h
 | g::G,k,x,a,h=>by
  have o:=h.ow g.2;have l:=h.lv g.1;have q:=qA o.1 l.1;refine xS (G:=G) (λg b=>a g<|by simp[b]) #v[h.c0,h.c1,pL h.ow ∅ ∅,h.sz,λw=>?_,h.ln];show 0<=put x.lv g.1 _ w/\put x.lv g.1 _ w<=_;unfold put;split
  ·rename_i e;rw[e];lia
  ·exact h.lv w
theorem xD:∀{G}{k}{x},(yO k G x).en.length=-x.en+-G/\(yO k G x).mv=x.mv
 | [],_,_=>#v[rfl,rfl]
 | g::G,k,x=>by
  have:=xD (G:=G) (k:=k+1) (x:=Jr k g x);refine#v[this.1.trans ?_,this.2];show(x.en++[_]).length+_=_;simp;lia
def Cs(c:Int)(x:Fl):Prop:=x.cash+(x.mv.map (·.2.2)).sum<=c
def S'{c}{r}(k:cP p x)(h:Cs c x):Cs c (qK p pl r x):=by
 have e:=qG (p:=p) (x:=x) pl r;have g:=qA (wP (r:=r) k) k.c0;unfold Cs at *;have m:(qK p pl r x).mv=x.mv \/ ∃ a b,(qK p pl r x).mv=x.mv++[(a,b,b_ (cO p r x) x.cash)]:=by
  unfold qK;rw[(Ek ..).2.1];unfold KC qD;split
  ·exact .inl rfl
  split
  ·exact .inl rfl
  split
  ·exact .inl rfl
  split
  ·exact .inr #v[_,_,rfl]
  ·exact .inl rfl
 rcases m with m | ⟨a,b,m⟩
 ·rw[m];lia
 ·rw[m,N4,List.sum_append,L5,List.map_nil,List.sum_cons,List.sum_nil];dsimp only;lia
def S_{c}{r}(e:cw p.C p.P p.oth r)(k:cP p x)(h:Cs c x):Cs c (vN p pl r x):=by
 cases e with
 | share b g d=>
  rename_i a;have n:=ug _ λt f=>((ik k d b).ok.eq t f).2.1;unfold Cs at *;show(shL pl (cJ a x) x).cash+((shL pl (cJ a x) x).mv.map (·.2.2)).sum<=c;rw[(pQ pl (x:=x) (ik k d b).ok.nd).2.2.2.2,(t_ pl (cJ a x) x).2.1];lia
 | _=>exact S' k h
theorem xw{c}:∀{R}{k}{x},(∀ r∈R,cw p.C p.P p.oth r)->cP p x->Cs c x->Cs c (v8 p k R x)
 | [],_,_,_,_,h=>h
 | r::R,k,x,a,b,h=>xw (R:=R) (λq d=>a q<|by simp[d]) (JL (a r<|by simp) b)<|S_ (a r<|by simp) b h
theorem wA{c}:∀{Q}{k}{A}{x},(∀ a∈A,0<=a)->0<=x.cash->Cs c x->Cs c (vq k Q A x)
 | [],_,_,_,_,_,h=>h
 | _::_,_,[],_,_,_,h=>h
 | q::Q,k,a::A,x,d,c0,h=>by
  have g:=qA (d a<|by simp) c0;refine wA (Q:=Q) (λb e=>d b<|by simp[e]) ?_ ?_
  ·show 0<=x.cash-b_ a x.cash;lia
  ·unfold Cs at *;show x.cash-b_ a x.cash+(x.mv.map (·.2.2)).sum<=c
   lia
structure v6(p:bZ)(b:dH)(c:Int)(ln:LN)(x:Fl):Prop where
 bd:cP p x
 dn:Dn (vG b c ln) x
 en:-x.en<=820
 mv:(x.mv.map (·.2.2)).sum<=c
def EW(h:ce p){o}(s:o∈p.ords){b}(k:dE p b){c}{ln}(f:-ln<=50)(i:∀ r∈ln,0<=r.2)(d:0<=c)(v:c<=10 ^ 60):v6 p b c ln (V0 p o b c ln):=by
 have j:=h.ords o s;let[t,y,_,C,_]:=Km h s k f i d v;have r:=(YE (k:=-o.parts) j.rules t).2;have l:=(YR p o.parts.length o.rules j.rules y).en;have z:Cs c (KQ o b c ln):=by
  have a:=wA (Q:=o.parts) (k:=0) (x:=vG b c ln) (u4 (λq m=>#v[(j.parts q m).2.1,(j.parts q m).2.2]) d) d (by unfold Cs;show c+0<=c;lia);unfold KQ twiceF;split<;>exact a
 have u:=xw (k:=-o.parts) j.rules t z;have g:=xD (G:=p.grds) (k:=0) (x:=v8 p o.parts.length o.rules<|KQ o b c ln);have gl:=h.grds2;have gb:=xS (k:=0) (λg B=>by
  let[q,m,e]:=M5.mp (h.grds g B).1;exact qr (λq m=>by have:=(h.marks q m).2.1;lia) _) r
 refine#v[gb,(by
   let[t,_,_,_,_]:=Km h s k f i d v;have r:=YE (k:=-o.parts) (h.ords o s).rules t;refine Dn.trans ?_<|r.1.trans<|Qw (λw=>(r.2.ow w).1) λw=>(r.2.lv w).1;unfold KQ;refine Dn.trans (xB (Q:=o.parts) (k:=0) (A:=(jR o.parts c).1)) ?_;unfold twiceF;split<;>exact λn=>#v[Int.le_refl _,Int.le_refl _]),?_,?_]
 ·show(yO 0 p.grds<|v8 p o.parts.length o.rules<|KQ o b c ln).en.length<=_;rw[g.1];lia
 ·show((yO 0 p.grds<|v8 p o.parts.length o.rules<|KQ o b c ln).mv.map _).sum<=_;rw[g.2];have:=r.c0;unfold Cs at u
  lia
def EY(h:dt p)(k:eF B p b)(j:0<=loss):eF (B+10 ^ 40) p (db p b loss):=by
 refine#v[JN _ _,?_,k.R,k.L,λq c=>?_,λq c=>?_,k.r.mono ∅,k.l.mono ∅,k.lm]
 ·show(gJ _ _<|d8 _ _).map _=_;unfold gJ d8;rw[U0,U0];exact k.W
 ·let[n,m,rfl]:=M5.mp c;have a:=(vd (E:=p.eats) (qr λq c=>(k.s q c).1) j).1 n;have t:fnOf b.S n<=B:=by
   have g:n∈b.S.map (·.1):=by rw[k.S];exact m
   let[r,f,e]:=M5.mp g;rw[<- e,qJ (by rw[k.S];exact h.ok.toldn) f];exact(k.s r f).2
  constructor
  ·exact a.1
  ·show(cB p.eats (fnOf b.S) loss).1 n<=_
   lia
 ·have i:=c;let[r,f,rfl]:=M5.mp i;let[t,o,rfl]:=M5.mp f;have w:=k.w t o;have d:=SM h.ok t.1;constructor
  ·lia
  ·lia
structure v_(p:bZ)(N:W1)(B c:Int)(b':dH)(ln':LN)(mv:List MV)(sg:List LG):Prop where
 b:eF B p b'
 l:cx N ln'
 m:∀ m∈mv,m.2.1∈N/\0<=m.2.2
 s:(mv.map (·.2.2)).sum<=c
 g:-sg<=900
def uC(h:dt p)(hO:∀ w∈p.oth,w∈N)(hn:p.nm∈N)(hN:-N<=6)(V:cx N L0)(hB0:10 ^ 40<=B)(hB:B+10 ^ 40<=10 ^ 50)(u:0<=c)(X:c<=10 ^ 60)  (k:eF B p b)  (G:0<=loss)  (H:o∈p.ords) (Z:o.nm=f9 p b.R):
  dL λ(ln':LN) (mv:List MV) (sg:List LG)=>j4 (JQ [y9 false p,jS false b,.lst false<|L0.map eR,.int c,.int loss]\(.tup [jS false<|im p o b loss c L0,.lst true<|ln'.map eR,.lst false<|mv.map eM,.lst false<|sg.map e7])) (v_ p N (B+10 ^ 40+1) c (im p o b loss c L0) ln' mv sg):=by
 have t2:=h.ok.told2;have m2:=h.ok.marks2;have lR:-b.R<=10:=by have:=congrArg List.length k.R;rw[L1,L1] at this;lia
 have lV:-b.L<=10:=by have:=congrArg List.length k.L;rw[L1,L1] at this;lia
 have v:-L0<=50:=N6 (V.len hN) (by decide);have y:∀ r∈L0,0<=r.2:=λr hr=>(V.mem r hr).2.2;have A:=EY h k G;have k2:eF ((B+10 ^ 40)+1) p (im p o b loss c L0):=by 
   have f:=EW h.ok H (A.ok ∅) v y u X;have e:im p o b loss c L0=qu p (db p b loss) (V0 p o (db p b loss) c L0):=rfl;rw[e];generalize db p b loss=b1 at *;generalize V0 p o b1 c L0=x at *;refine#v[JN _ _,JN _ _,?_,JN _ _,λq g=>?_,λq g=>?_,λq g=>?_,λq g=>?_,λw=>?_]
   ·show(zu _ _ _).map _=_;unfold zu;rw[U0];exact A.R
   ·let[n,_,rfl]:=M5.mp g;have a:=f.bd.sz n;have d:x.sz n<=fnOf b1.S n:=(f.dn n).1;have:=(Y1 ∅ (λq g=>(A.s q g).2)) n;exact#v[a,by lia]
   ·let[n,_,rfl]:=M5.mp g;have a:=f.bd.ow n;have d:x.ow n<=fnOf b1.W n:=(f.dn n).2;have:=(Y1 ∅ (λq g=>(A.w q g).2)) n;exact#v[a.1,by lia]
   ·let[r,hr,rfl]:=M5.mp g;have:=A.r r hr;constructor
    ·lia
    ·lia
   ·let[n,hn,rfl]:=M5.mp g;have a:=f.bd.lv n;have m:=Y1 (by decide) (λq g=>(h.ok.marks q g).2.2) n;exact#v[a.1,by lia]
   ·show fnOf (c7 p.P x.lv) w<=_;rw[QN];split
    ·exact(f.bd.lv w).2
    ·exact qr (λq g=>by have:=(h.ok.marks q g).2.1;lia) w
 have ko:=A.ok hB;have fo:=EW h.ok H ko v y u X;have fm:eZ p N (10 ^ 60) L0 (V0 p o (db p b loss) c L0):=by 
   let[A,_,_,k4,k5]:=Km h.ok H ko v y u X;refine Qj<|xF hO (h.ok.ords o H).rules A #v[?_,?_]
   ·show cX _ _ _ _ (KQ o (db p b loss) c L0).mv;rw[k4];trivial
   ·show(KQ o (db p b loss) c L0).ln=et _ _ (KQ o (db p b loss) c L0).mv;rw[k4,k5];rfl
 have ef:=Se h.ok H ko V.nd v y u X;have Y:=Sr (x:=b.z) (L:=loss) h.ok h.eats2 h.eatsm k.S k.W lR lV;rw[EI] at Y;have lgl:=EJ p.eats 0 (fnOf b.S) loss;generalize pM 0 p.eats (fnOf b.S) loss=lg at Y lgl;have no:kI [y9 false p,da false b.S b.W b.R b.L b.z]\(.str<|f9 p b.R):=Su h k.R;rw[<- Z] at no;have hs1:(c7 p.C (cB p.eats (fnOf b.S) loss).1).map (·.1)=p.C:=JN _ _;have hw1:(d8 b.W (cB p.eats (fnOf b.S) loss).1).map (·.1)=p.C:=by unfold d8;rw[U0];exact k.W
 have wd:=wl h (Rn:=b.R) (Lv:=b.L) (x:=b.z+(cB p.eats (fnOf b.S) loss).2) hs1 hw1;let[ln',eb,I]:=SB hn hN V fm.ok;have j:jd (y9 false p) (.int 0)\(.str p.nm):=rfl;have lc1:jE (jc [] 0) qT (p2 jr (yk #[pF<|1|||0,pS []]) !0) (lg.map e5) %[_,y9 false p|0]\((lg.map λe=>((p.nm,[],e):LG)).map e7):=by 
   rw[U0];refine jV rfl (λρ=>∃ o,ρ=[o,some<|y9 false p]) ?_ #v[none,rfl];rintro e he ρ ⟨o,rfl⟩;refine#v[%[e5 e,y9 false p|0],rfl,?_,_,rfl];have ha:jr (.tup [.str p.nm,.str []]) (e5 e)\(e7 (p.nm,[],e)):=rfl;simp[j,ha,jb]
 have fe:=fo.en;rw[show im p o b loss c L0=qu p (db p b loss) (V0 p o (db p b loss) c L0) from rfl] at k2 ⊢;generalize hb1:db p b loss=b1 at *;generalize V0 p o b1 c L0=x at *;have J:=SN (ord:=o.nm) (PP:=y9 false p) j x.en;have q1:da false (c7 p.C (cB p.eats (fnOf b.S) loss).1) (gJ p (fnOf<|c7 p.C (cB p.eats (fnOf b.S) loss).1)<|d8 b.W (cB p.eats (fnOf b.S) loss).1) b.R b.L (b.z+(cB p.eats (fnOf b.S) loss).2)=jS false b1:=by rw[<- hb1];rfl
 change kK [_,_]=_ at wd;rw[q1] at wd;have hl1:cb (-lg)=true:=jb (by have:=h.eats2;lia);have K:cb (-x.en)=true:=jb ∅;refine#v[ln',x.mv,(lg.map λe=>((p.nm,[],e):LG))++x.en.map λe=>((p.nm,o.nm,e):LG),?_,k2,I,(λm hm=>#v[(Kr fm.ok m hm).1,(Kr fm.ok m hm).2.1]),fo.mv,by have:=h.eats2;simp;lia];have M:=JR p;have hc1:fz (da true (c7 p.C (cB p.eats (fnOf b.S) loss).1) (d8 b.W (cB p.eats (fnOf b.S) loss).1) b.R b.L<|b.z+(cB p.eats (fnOf b.S) loss).2)=da false (c7 p.C (cB p.eats (fnOf b.S) loss).1) (d8 b.W (cB p.eats (fnOf b.S) loss).1) b.R b.L (b.z+(cB p.eats (fnOf b.S) loss).2):=Sl ..;have O:frz (da false (c7 p.C (cB p.eats (fnOf b.S) loss).1) (d8 b.W (cB p.eats (fnOf b.S) loss).1) b.R b.L<|b.z+(cB p.eats (fnOf b.S) loss).2)=true:=So ..;rw[show da false b.S b.W b.R b.L b.z=jS false b from rfl] at Y no;have Q:=vg b;have T:=vg b1;have hb8:fz (jS true<|qu p b1 x)=jS false (qu p b1 x):=by simp[jS,Jx]
 have U:=vg<|qu p b1 x;generalize hG1:(lg.map λe=>((p.nm,[],e):LG))=G1 at *;generalize hG2:(x.en.map λe=>((p.nm,o.nm,e):LG))=G2 at *;have g1l:-G1<=10:=by rw[<- hG1,L1];have:=h.eats2;lia
 have g2l:-G2<=820:=by rw[<- hG2,L1];lia
 have hl3:cb (-G1+-G2)=true:=jb ∅;generalize da false (c7 p.C (cB p.eats (fnOf b.S) loss).1) (d8 b.W (cB p.eats (fnOf b.S) loss).1) b.R b.L (b.z+(cB p.eats (fnOf b.S) loss).2)=B2,jS true (qu p b1 x)=B4,jS false b=B0,y9 false p=PP at *;have t0:∀{a b:D},jd (.tup [a,b]) (.int 0)\a:=rfl;have t1:∀{a b:D},jd (.tup [a,b]) (.int 1)\b:=rfl;have t:∀{a b c:D},jd (.tup [a,b,c]) (.int 0)\a:=rfl;have E:∀{a b c:D},jd (.tup [a,b,c]) (.int 1)\b:=rfl;have F:∀{a b c:D},jd (.tup [a,b,c]) (.int 2)\c:=rfl;have ha1:bV (G1.map e7++G2.map e7)=G1.map e7++G2.map e7:=by rw[<- N4,pO]
 have ha2:frzs (G1.map e7++G2.map e7)=true:=by rw[<- N4,YH]
 have hx:=pA (i:=8) (p:=yq (JT<|7|||0) (jc [] 0) qT (p2 jr (yk #[pF<|1|||0,pF !2]) !0) %[_,0,6|0]) (ρ:=%[PP,B0,‹L0.map eR›,.int c,.int loss,.tup [.lst false<|lg.map e5,B2],.str o.nm,.tup [.lst true<|x.en.map e5,B4,.lst true<|x.mv.map eM],↑(G1.map e7)|0]) (e:=.lst true<|G2.map e7) (m:=G2.map e7) (l:=G1.map e7) (by simp[ -p2];simp[t,Ed,K,jv,J,-yk]) (by show(bif frzs (G2.map e7) then _ else _)=_;rw[YH];rfl) rfl (by rw[L1,L1];lia);simp[JQ,jK,Qv,hx,Y,yb _ M,M,Q,yb _ Q,hc1,O,yb _ O,T,yb _ T,hb8,U,no,t0,t1,wd,Ec,Ed,Y5,vM,ef,jv,lc1,J,hl1,K,t,E,F,xN,zm,j,eb,jb,pO,YH,hl3,ha1,-yk,-List.map_map];simp[t,E,F,U,Y5,vM,xN,zm,j,eb,ha2,jb]
structure dR(K:Int)(ws:List Int):Prop where
 len:-ws=2
 ok:∀ v∈ws,0<=v
 sm:ws.sum<=K
def dR.set{K v}{ws}(h:dR K ws){j}(c:j< -ws)(h0:0<=v):dR (K+(v-ws[j])) (ws.set j v):=by
 have s:=h.sm;have o:=h.ok
 match ws,h.len with
 | [a,b],_=>
  simp only[List.sum_cons,List.sum_nil,M4,List.not_mem_nil,or_false,forall_eq_or_imp,forall_eq] at s o;have q:j=0\/j=1:=by simp at c;lia
  rcases q with rfl | rfl
  ·exact#v[rfl,by simp;lia,by simp;lia]
  ·exact#v[rfl,by simp;lia,by simp;lia]
def Ta{N}{f}(p:∀ w,0<=f w/\f w<2){a0 a1 a2 a3 a4 a5 a7 a9 a b c}:∀{ms:List MV}{ws}{K}{o13 o14 o15},dR K ws->(∀ m∈ms,m.2.1∈N/\0<=m.2.2) ->
  gP λws' o13' o14' o15'=>j4 (yC ((13,14)&&&15) qh (ms.map eM) [a0,a1,a2,a3,a4,a5,↑(ws.map D.int),a7,some<|bY true N f,a9,a,b,c,o13,o14,o15]\(.nx [a0,a1,a2,a3,a4,a5,↑(ws'.map D.int),a7,some<|bY true N f,a9,a,b,c,o13',o14',o15'])) (dR (K+(ms.map (·.2.2)).sum) ws'):=by
 intro ms
 induction ms with
 | nil=>
  intro ws K o13 o14 o15 h _;exact#v[ws,o13,o14,o15,rfl,by simpa using h]
 | cons m ms q=>
  intro ws K o13 o14 o15 h o;let[r,u]:=o m (by simp);have j:=p m.2.1;have k:(f m.2.1).toNat< -ws:=by rw[h.len];lia
  have x:=h.ok _<|List.getElem_mem k;have l:dU (ws.map D.int).length (f m.2.1)=some (f m.2.1).toNat:=by
   have:=t5 (n:=-(ws.map D.int)) (by rw[L1];exact k);rw[Int.toNat_of_nonneg j.1] at this;exact this
  have d:(ws.map D.int)[(f m.2.1).toNat]?\(.int ws[(f m.2.1).toNat]):=by simp
  have g:(ws.map D.int).set (f m.2.1).toNat (.int<|ws[(f m.2.1).toNat]+m.2.2)=(ws.set (f m.2.1).toNat (ws[(f m.2.1).toNat]+m.2.2)).map D.int:=by simp
  let[ws',o13',o14',o15',e,i]:=q (h.set k (v:=ws[(f m.2.1).toNat]+m.2.2) ∅)<|λs i=>o s (by simp[i]);refine#v[ws',o13',o14',o15',?_,i.len,i.ok,?_]
  ·have t:qh [a0,a1,a2,a3,a4,a5,↑(ws.map D.int),a7,some<|bY true N f,a9,a,b,c,some<|.str m.1,some<|.str m.2.1,some<|.int m.2.2]\(.nx [a0,a1,a2,a3,a4,a5,↑((ws.set (f m.2.1).toNat (ws[(f m.2.1).toNat]+m.2.2)).map D.int),a7,some<|bY true N f,a9,a,b,c,some<|.str m.1,some<|.str m.2.1,some<|.int m.2.2]):=by
    rw[<- g];simp only[qh,oy,p2,Mc,Md,L4,yE r,HV,Kw,l,d];rfl
   rw[L5,i9 ?_ t,e];rfl
  ·have:=i.sm;rw[L5,List.sum_cons];lia
structure gL(p:bZ)(o:dD)(B lo:Int)(b b':dH):Prop where
 g:eF B p b'
 e:∃(c:Int) (ln:LN),0<=c/\c<=10 ^ 60/\ -ln<=50/\(∀ r∈ln,0<=r.2)/\b'=im p o b lo c ln
def EZ{N}{f}{B K}{p}(h:dt p)(X:∀ w∈p.oth,w∈N)(hn:p.nm∈N)(U:-N<=6)(Y:∀ w,0<=f w/\f w<2)(z:10 ^ 40<=B)(Z:B+10 ^ 40<=10 ^ 50)(hK:K<=10 ^ 50)
  {st bs inc los:D}{s:Nat}(hs:s<2) {b:dH}(A:jd st (.int 0)\bs) (C:jd bs (.int s)\(jS false b)) (E:eF B p b) {j lo:Int}(F:jd inc (.int s)\(.int j)) (hi0:0<=j) (hi1:j<=10 ^ 40) (G:jd los (.int s)\(.int lo)) (H:0<=lo) {o:dD}(ho:o∈p.ords) (I:o.nm=f9 p b.R)
  {acc:List D}(V:-acc<=10) {ln:LN}(J:cx N ln) {ob:Bool}{ws:List Int}(q:dR K ws) {log:List LG}(W:-log<=2000) {a0 L o12 M O P:Option D}:
  pU λb' ln' ws' seg o11' o12' o13' o14' o15'=>fI (JD %[(a0),st,inc,los,↑acc,.lst ob<|ln.map eR,↑(ws.map D.int),↑(log.map e7),bY true N f,.int s,y9 false p,(L),(o12),(M),(O),(P)|0] =
    some (.nx %[(a0),st,inc,los,↑(acc++[jS false b']),‹ln'.map eR›,↑(ws'.map D.int),↑((log++seg).map e7),bY true N f,.int s,y9 false p,(o11'),(o12'),(o13'),(o14'),(o15')|0])) (gL p o (B+10 ^ 40+1) lo b b') (cx N ln') (dR (K+j) ws') (-seg<=900):=by
 have e:s< -ws:=by rw[q.len];exact hs
 have hwv:=q.ok _<|List.getElem_mem e;have hwm:=z6 q.ok _<|List.getElem_mem e;have hws:=q.sm;let[ln',mv,seg,ep,n]:=uC (c:=j+ws[s]) h X hn U J z Z ∅ ∅ E H ho I;have Q:-ln<=50:=N6 (J.len U) (by decide);have dg:gL p o (B+10 ^ 40+1) lo b (im p o b lo (j+ws[s]) ln):=#v[n.b,j+ws[s],ln,by lia,by lia,Q,λr hr=>(J.mem r hr).2.2,rfl];generalize im p o b lo (j+ws[s]) ln=b' at *;let[ws',o13',o14',o15',ew,k]:=Ta Y (q.set e<|Int.le_refl 0) n.m;refine#v[b',ln',ws',seg,some<|.int<|j+ws[s],some<|.tup [jS false b',.lst false<|ln'.map eR,.lst false<|mv.map eM,.lst false<|seg.map e7],o13',o14',o15',?_,dg,n.l,#v[k.len,k.ok,by have:=k.sm;have:=n.s;lia],n.g];have pg:=n.g;have S:jd (.lst true<|ws.map D.int) (.int s)\(.int ws[s]):=by
  rw[lF ∅ (by rw[L1];lia),N7,List.getElem?_map,X5 e];rfl
 have t:dU (ws.map D.int).length s\s:=t5 (by rw[L1];exact e);have u:(ws.map D.int).set s (.int 0)=(ws.set s 0).map D.int:=by rw[List.map_set]
 have v:frz (jS false b)=true:=vg _;have x:frz (jS false b')=true:=vg _;have y:=JR p;have T:cb (-acc)=true:=jb ∅;have hx:=pA (i:=7) (p:=12|||3) (ρ:=%[(a0),st,inc,los,↑(acc++[jS false b']),‹ln'.map eR›,↑(ws'.map D.int),↑(log.map e7),bY true N f,.int s,y9 false p,.int<|j+ws[s],.tup [jS false b',.lst false<|ln'.map eR,.lst false<|mv.map eM,.lst false<|seg.map e7],(o13'),(o14'),(o15')|0]) rfl (by show(bif frzs (seg.map e7) then _ else _)=_;rw[YH];rfl) rfl (by rw[L1,L1];lia);have em:(log++seg).map e7=log.map e7++seg.map e7:=N4;rw[em];have v0:∀{a b c d},jd (.tup [a,b,c,d]) (.int 0)\a:=rfl;have v1:∀{a b c d},jd (.tup [a,b,c,d]) (.int 1)\b:=rfl;have v2:∀{a b c d},jd (.tup [a,b,c,d]) (.int 2)\c:=rfl;apply ql (by simp[F,S];rfl);apply ql (by simp[t,-List.length_map];rw[u]);apply ql (by simp[A,C,G,ep,yb _ y,y,yb _ v,v,Y5,vM,-List.map_set];rfl);apply ql (by simp[yb _ x,x,v0,Y5,vM,xN,zm,pO,YH,T,-List.map_set];rfl);apply ql (by simp[v1,vM,-List.map_set];rfl);apply ql (by rw[Jt];simp[v2,zm,xN,-List.map_set];exact ew);exact hx
def fU(p q:bZ):List W2:=[(p.nm,0),(q.nm,1)]
def l5(b c:D)(ln:LN)(ws:List Int):D:=.tup [.lst false [b,c],.lst false<|ln.map eR,.lst false<|ws.map D.int]
def E1 {p q} {B K} (U : dt p) (d : dt q) (m : p.nm ≠ q.nm) (n : ∀ w ∈ p.oth, w ∈ [p.nm, q.nm]) (o : ∀ w ∈ q.oth, w ∈ [p.nm, q.nm]) (f : 10 ^ 40 <= B) (P : B + 10 ^ 40 <= 10 ^ 50) (hK : K + 10 ^ 40 <= 10 ^ 50)
     (r:eF B p b) (t:eF B q c)  (V:cx [p.nm,q.nm] ln)  (W:dR K ws)  (g:0<=i0/\i0<=10 ^ 40) (h:0<=i1/\i1<=10 ^ 40) (u:0<=l0) (v:0<=l1)
     (x:o1∈p.ords) (y:o1.nm=f9 p b.R) (z:o2∈q.ords) (A:o2.nm=f9 q c.R):
  pR λ(b' c':dH) (ln':LN) (ws':List Int) (log:List LG)=>fI (qB [.lst false [y9 false p,y9 false q],l5 (jS false b) (jS false c) ln ws,.lst false [.int i0,.int i1],.lst false [.int l0,.int l1]] =
    some (.tup [.tup [.lst true [jS false b',jS false c'],.lst false<|ln'.map eR,.lst true<|ws'.map D.int],.lst true<|log.map e7])) (gL p o1 (B+10 ^ 40+1) l0 b b') (gL q o2 (B+10 ^ 40+1) l1 c c') (cx [p.nm,q.nm] ln') (dR (K+i0+i1) ws'):=by
 have Q:∀ w,0<=fnOf (fU p q) w/\fnOf (fU p q) w<2:=λw=>by
  have a:=qr (S:=fU p q) (λq d=>by simp[fU] at d;rcases d with rfl | rfl<;>simp) w;have b:=Y1 (B:=1) (S:=fU p q) ∅ (λq d=>by simp[fU] at d;rcases d with rfl | rfl<;>simp) w
  lia
 have i:jd (l5 (jS false b) (jS false c) ln ws) (.int 0)\(.lst false [jS false b,jS false c]):=rfl;have nN:-[p.nm,q.nm]<=6:=by simp
 let[b',X,Y,e,Z,p12,p13,p14,p15,e1,g1,C,E,s1]:=EZ U n (by simp) nN Q f P ∅ (s:=0) (by decide) i rfl r (inc:=.lst false [.int i0,.int i1]) rfl g.1 g.2 (los:=.lst false [.int l0,.int l1]) rfl u x y (acc:=[]) (by simp) V W (log:=[]) (by simp);let[c',j,k,l,F,G,H,I,J,L,dj,M,N,s2]:=EZ d o (by simp) nN Q f P ∅ (s:=1) (by decide) i rfl t (inc:=.lst false [.int i0,.int i1]) rfl h.1 h.2 (los:=.lst false [.int l0,.int l1]) rfl v z A (acc:=[jS false b']) (by simp) C E (log:=[]++e) (by simp;lia);refine#v[b',c',j,k,[]++e++l,?_,g1,dj,M,N];have j1:jd (l5 (jS false b) (jS false c) ln ws) (.int 1)=‹ln.map eR›:=rfl;have j2:jd (l5 (jS false b) (jS false c) ln ws) (.int 2)=‹ws.map D.int›:=rfl;have ni:Q4 [.lst false<|ln.map eR]=↑(ln.map eR):=by
  show(bif frzs (ln.map eR) then _ else _)=_;rw[vM];rfl
 have hd:vB [.lst true<|(fU p q).map e2]\(bY true [p.nm,q.nm]<|fnOf<|fU p q):=yV (by simp[fU,m]) (by simp[fU]);have fy:=JR p;have wb:=JR q;have ac:jE (0&&&1) qT (yk #[pF<|1|||0,pF !0]) (jO 0 [y9 false p,y9 false q]) %[_,_|0]\((fU p q).map e2):=by 
   have r:(yk #[pF<|1|||0,pF !0]) %[.int 0,y9 false p|0]\(e2 (p.nm,0)):=by rfl
   have t:(yk #[pF<|1|||0,pF !0]) %[.int 1,y9 false q|0]\(e2 (q.nm,1)):=by rfl
   rw[jO,DP ?_ r,jO,DP ?_ t]
   all_goals rfl
 have el:yC (9&&&10) JD (jO 0 [y9 false p,y9 false q]) %[.lst false [y9 false p,y9 false q],l5 (jS false b) (jS false c) ln ws,.lst false [.int i0,.int i1],.lst false [.int l0,.int l1],.lst true [],↑(ln.map eR),↑(ws.map D.int),.lst true [],bY true [p.nm,q.nm]<|fnOf<|fU p q,_,_,_,_,_,_,_|0]\(.nx %[.lst false [y9 false p,y9 false q],l5 (jS false b) (jS false c) ln ws,.lst false [.int i0,.int i1],.lst false [.int l0,.int l1],.lst true [jS false b',jS false c'],‹j.map eR›,↑(k.map D.int),↑(([]++e++l).map e7),bY true [p.nm,q.nm]<|fnOf<|fU p q,.int 1,y9 false q,(F),(G),(H),(I),(J)|0]):=by
  rw[jO,i9 ?_ e1,jO,i9 ?_ L]
  all_goals rfl
 generalize T:jO 0 [y9 false p,y9 false q]=EE at *;have O:cb (-EE)=true:=by rw[<- T,yt];rfl
 simp[qB,jK,Qy,j1,j2,ni,ac,hd,fy,wb,yb _ fy,yb _ wb,T,O,jv,el,jb]
def Tb{a0 a1 a5 a6 a7 a8 a9}{S}(f:-S.1<=1000){x}:yQ %[(a0),(a1),bY true S.1 S.2,.str x.1,.int x.2.1,(a5),(a6),(a7),(a8),(a9)|0]\(.nx %[(a0),(a1),bY true (grow S x).1 (grow S x).2,.str x.1,.int x.2.1,(a5),(a6),(a7),(a8),(a9)|0]):=by
 have d:cb (-(S.1.map KA.str))=true:=jb (by rw[L1];lia);have a:gv [.int<|gD S x.1,.int x.2.1]\(.int<|big x.2.1<|gD S x.1):=rfl;have b:fZ (bY true S.1 S.2)\(S.1.map KA.str,S.1.map λn=>D.int<|S.2 n):=rfl;have e:=Df (S:=S) (x:=x);show _\(cq.nx [a0,a1,some<|.dK true ((grow S x).1.map KA.str)<|(grow S x).1.map λn=>D.int<|(grow S x).2 n,_,_,_,_,_,_,_]);generalize S.1.map KA.str=ks at *;simp[yQ,De (o:=true) (S:=S) (c:=x.1),a,b,d,e]
theorem E2{A}{a0 a1 a6 a7 a8 a9}:∀{L:List Lk}{S}{m}{o3 o4 o5},m+-L<=1000->(∀ x∈L,x∈A)->eV A m S ->
  dL λ(r3 r4 r5:Option D)=>yC ((3,4)&&&5) yQ (L.map KD) [a0,a1,some<|bY true S.1 S.2,o3,o4,o5,a6,a7,a8,a9]\(.nx [a0,a1,some<|bY true (L.foldl grow S).1 (L.foldl grow S).2,r3,r4,r5,a6,a7,a8,a9])
 | [],S,m,o3,o4,o5,_,_,h=>#v[o3,o4,o5,rfl]
 | x::L,S,m,o3,o4,o5,b,a,h=>by
  rw[M1] at b;let[r3,r4,r5,e2]:=E2 (L:=L) ∅ (λy c=>a y<|by simp[c]) (h.grow<|a x<|by simp);refine#v[r3,r4,r5,?_];rw[L5,i9 ?_<|Tb (S:=S)<|by have:=h.l;lia,e2,U9];rfl
def Tc{N C M:W1}{f g}(b:∀ n∈N,n∈C):jE (jc [] 0) qT (yk #[pF !0,bW zN #[p2 jX !1<|pV 0,p2 jX !2<|pV 0]]) (!N) %[_,bY true C f,bY false N g|0]\((N.map λc=>((c,mn (f c)<|g c):W2)).map e2):=by
 rw[U0];refine jV rfl (λs=>∃ o,s=%[(o),bY true C f,bY false N g|0]) ?_ #v[none,rfl];rintro n a s ⟨o,rfl⟩;refine#v[%[.str n,bY true C f,bY false N g|0],rfl,?_,_,rfl];have d:zN [.int<|f n,.int<|g n]\(.int<|mn (f n)<|g n):=rfl;simp[yE (o:=true) (f:=f)<|b n a,yE (o:=false) (f:=g) a,d,jb,e2]
def Td{C}{f}{M:List W2}(b:∀ q∈M,q.1∈C):jE (0&&&1) qT (p2 ki (p2 jX !2<|pV 0) !1) (M.map e2) %[_,_,bY true C f|0]\(M.map λq=>D.bl<|decide<|f q.1=q.2):=by
 refine jV rfl (λs=>∃ o a,s=[o,a,some<|bY true C f]) ?_ #v[none,none,rfl];rintro q c s ⟨o,a,rfl⟩;refine#v[%[.str q.1,.int q.2,bY true C f|0],rfl,?_,_,_,rfl];simp[yE (o:=true) (f:=f)<|b q c];rfl
def E3{S:List W2}(hn:(S.map (·.1)).Nodup)(g:List Nat->Int->Bool):(S.map λq=>D.bl<|g q.1 q.2)=(S.map (·.1)).map λn=>D.bl (g n<|fnOf S n):=by
 rw[U0];exact List.map_congr_left λq a=>by show _=D.bl (g q.1<|fnOf S q.1);rw[qJ hn a]
def KU{P:Pl}{b:dH}{B:Int}{O:W1}(h:cF P)(k:eF B (kj O P) b):vA [jH false P,jS false b]\(yK P<|ck P b):=by
 have J:=pB h;have hC:-P.C<=6:=h.c;have w:b.S.map (·.1)=nC P:=k.S;have y:b.R.map (·.1)=nC P:=k.R;have z:b.L.map (·.1)=nP P:=k.L;have lS:-b.S<=6:=by have:=congrArg List.length w;rw[L1] at this;unfold nC at this;rw[L1] at this;lia
 have lR:-b.R<=6:=by have:=congrArg List.length y;rw[L1] at this;unfold nC at this;rw[L1] at this;lia
 have X:-P.P<=6:=h.p6;have lL:-b.L<=6:=by have:=congrArg List.length z;rw[L1] at this;unfold nP at this;rw[L1] at this;lia
 let[Y,Z,r5,e]:=E2 (L:=P.L) (S:=([],λ_=>0)) (m:=0) (o3:=none) (o4:=none) (o5:=none) (by have:=h.l2;lia) (λx hx=>hx) #v[List.nodup_nil,U4 _,λc hc=>(nomatch hc)];have e':yC ((3,4)&&&5) yQ (P.L.map KD) %[jH false P,jS false b,.dK true [] [],_,_,_,_,_,_,_|0]\(.nx %[jH false P,jS false b,bY true (gr P).1 (gr P).2,(Y),(Z),(r5),_,_,_,_|0]):=e;have i2:=i8 false P;have K:=Ys P.L;have Q:jd (jS false b) (.int 0)=‹b.S.map e2›:=rfl;have j2:jd (jS false b) (.int 2)=‹b.R.map e2›:=rfl;have j3:jd (jS false b) (.int 3)=‹b.L.map e2›:=rfl;have d2:vB [.lst false<|b.R.map e2]\(bY true (nC P)<|fnOf b.R):=by rw[<- y];exact yV (by rw[y];exact h.cN) ∅
 have d3:vB [.lst false<|b.L.map e2]\(bY true (nP P)<|fnOf b.L):=by rw[<- z];exact yV (by rw[z];exact h.pN) ∅
 have c1:=Tc (N:=(gr P).1) (C:=nC P) (f:=fnOf b.R) (g:=(gr P).2) (M:=[]) λn hn=>by
  let[x,hx,rfl]:=J.i n hn;exact(h.l x hx).m
 have T:=Td (C:=nP P) (f:=fnOf b.L) (M:=P.P) λq U=>M5.mpr #v[q,U,rfl];have A:jE (0&&&1) qT (p2 Yz !1<|pI 0) (b.S.map e2) %[_,_|0]\(b.S.map λq=>D.bl<|decide<|0<q.2):=by 
   refine jV rfl (λρ=>∃ o V,ρ=[o,V]) ?_ #v[none,none,rfl];rintro q U ρ ⟨o,V,rfl⟩;exact#v[%[.str q.1,.int q.2|0],rfl,by simp,_,_,rfl]
 have W:=E3 (S:=b.S) (by rw[w];exact h.cN) λ_ v=>decide<|0<v;rw[w] at W;rw[W] at A;rw[E3 (S:=P.P) h.pN λn v=>decide<|fnOf b.L n=v] at T;have E:fZ (bY true (gr P).1 (gr P).2)\((gr P).1.map KA.str,(gr P).1.map λn=>D.int<|(gr P).2 n):=rfl;have fv:frzs ((gr P).1.map λn=>D.int<|(gr P).2 n)=true:=Vp _ _;have kd:((gr P).1.map KA.str).map eQ=(gr P).1.map D.str:=by rw[U0];rfl
 have lG:cb (-((gr P).1.map D.str))=true:=jb (by rw[L1];have:=J.l;lia);have j:cb (-(b.S.map e2))=true:=jb (by rw[L1];lia);have F:cb (-(P.P.map yW))=true:=jb (by rw[L1];lia);have p:=yz b.S;have G:=jY P.P;have r:=yz<|(gr P).1.map λc=>((c,mn (fnOf b.R c)<|(gr P).2 c):W2);have s:=Jx<|(gr P).1.map λc=>((c,mn (fnOf b.R c)<|(gr P).2 c):W2);have a:=vP (nP P) λn=>decide<|fnOf b.L n=fnOf P.P n;have d:=vP (nC P) λn=>decide<|0<fnOf b.S n;have t:=je _ a;have u:=je _ d;have H:jE (0&&&1) qT (p2 ki (p2 jX !2<|pV 0) !1) (P.P.map yW) %[_,_,bY true (nP P)<|fnOf b.L|0]\((nP P).map λn=>D.bl<|decide<|fnOf b.L n=fnOf P.P n):=T;have I:jE (jc [] 0) qT (yk #[pF !0,bW zN #[p2 jX !1<|pV 0,p2 jX !2<|pV 0]]) ((gr P).1.map D.str) %[_,bY true (nC P)<|fnOf b.R,.dK false ((gr P).1.map KA.str)<|(gr P).1.map λn=>D.int<|(gr P).2 n|0]\(((gr P).1.map λc=>((c,mn (fnOf b.R c)<|(gr P).2 c):W2)).map e2):=c1;show _\(D.tup [.tup<|((gr P).1.map λc=>((c,mn (fnOf b.R c)<|(gr P).2 c):W2)).map e2,.tup<|(nC P).map λn=>.bl<|decide<|0<fnOf b.S n,.tup<|(nP P).map λn=>.bl<|decide<|fnOf b.L n=fnOf P.P n]);generalize((gr P).1.map λc=>((c,mn (fnOf b.R c)<|(gr P).2 c):W2)).map e2=RR at *;generalize((nC P).map λn=>D.bl<|decide<|0<fnOf b.S n)=AA at *;generalize((nP P).map λn=>D.bl<|decide<|fnOf b.L n=fnOf P.P n)=FF at *;generalize(gr P).1.map D.str=GS at *;generalize b.S.map e2=SS,P.P.map yW=PQ at *;simp[vA,jK,YD,Dg false P,i2,K,je _ K,e',Q,j2,j3,d2,d3,p,yz b.R,yz b.L,G,r,s,a,d,t,u,E,fv,kd,lG,j,F,I,H,A,jv,-yk];simp[Q,p,j,A,r,s,a,t,d,u,jv,jb]
theorem E4{f:List Nat->Int}:∀{L},(∀ l∈L,l.1∈(gr P).1/\l.2.1<=(gr P).2 l.1)->hit ((gr P).1.map λc=>(c,mn (f c)<|(gr P).2 c)) L=(L.find? λl=>decide<|l.2.1<=f l.1).map (·.2.2)
 | [],_=>rfl
 | x::L,h=>by
  have q:=h x (by simp);have e:(fR x.1<|(gr P).1.map λc=>((c,mn (f c)<|(gr P).2 c):W2)).getD 0=mn (f x.1) ((gr P).2 x.1):=Ch (gr P).1 (λc=>mn (f c)<|(gr P).2 c) q.1;rw[nq,e,E4 λl a=>h l<|by simp[a],List.find?_cons];by_cases z:x.2.1<=f x.1
  ·rw[if_pos<|by unfold mn;split<;>lia,X0 z];rfl
  ·rw[if_neg<|by unfold mn;split<;>lia,X1 z]
theorem fH{a}:∀{L},hit a L=(L.find? λl=>decide<|l.2.1<=fnOf a l.1).map (·.2.2)
 | []=>rfl
 | x::L=>by
  rw[nq,fH,List.find?_cons,show(fR x.1 a).getD 0=fnOf a x.1 from rfl];by_cases z:x.2.1<=fnOf a x.1
  ·rw[if_pos z,X0 z];rfl
  ·rw[if_neg z,X1 z]
def zS:(ck P b).R.map (·.1)=(gr P).1:=by
 show((gr P).1.map λc=>_).map _=_;rw[U0];exact List.map_id _
def Te(h:cF P)(d:dt<|kj O P):qE [jH false P,yK P<|ck P b]\(.str<|f9 (kj O P) b.R):=by
 have j:=pB h;have c:=zS (P:=P) (b:=b);have r:(ck P b).R.length<=2:=by have:=congrArg List.length c;rw[L1] at this;have:=j.l;lia
 have f:=Ex d λx hx=>by rw[c];exact DB h x hx
 change _\(D.str<|f9 (kj O P) (ck P b).R) at f;rw[(show f9 (kj O P) (ck P b).R=f9 (kj O P) b.R from by 
   have e:hit (ck P b).R P.L=hit b.R P.L:=(E4 λl k=>#v[DB h l k,ET P l k]).trans fH.symm;show(hit (ck P b).R P.L).getD _=(hit b.R P.L).getD _;rw[e]),Kn h] at f
 have hd:xC [.tup<|(ck P b).R.map yW]\(.dK true ((ck P b).R.map λq=>KA.str q.1)<|(ck P b).R.map λq=>D.int q.2):=by
  have:=YL (o:=false) (l:=(ck P b).R.map λq=>(q.1,D.int q.2)) (by rw[U0];show((ck P b).R.map (·.1)).Nodup;rw[c];exact j.n) (by intro q m;let[a,_,rfl]:=M5.mp m;rfl) (by rw[L1];lia);rw[U0,U0,U0,MC] at this;exact this
 have g:bV ((ck P b).R.map λq=>D.int q.2)=(ck P b).R.map λq=>D.int q.2:=oR (λ_=>rfl) _;have i:fz (.dK true ((ck P b).R.map λq=>KA.str q.1)<|(ck P b).R.map λq=>D.int q.2)=.dK false ((ck P b).R.map λq=>KA.str q.1) ((ck P b).R.map λq=>D.int q.2):=by rw[oJ,g]
 have p:=yb _<|vz P;simp[qE,jK,K8,Do P<|ck P b,hd,p,i,f,-Nl]
def E5(d:dt<|kj O P)(a):∃ X∈P.X,X.1=f9 (kj O P) a:=by
 let[o,b,e]:=M5.mp<|Sv d a;let[X,c,rfl]:=M5.mp b;exact#v[X,c,e]
theorem wh{kl}:∀{rs}{k}{y},∀ s∈(run P R kl rs k y).1,∃ c y',s=c9 kl c (ob P R y')
 | [],_,_,_,h=>nomatch h
 | r::rs,k,y,s,h=>by
  rw[m9] at h;cases q:nd y r with
  | false=>rw[q] at h;exact wh s h
  | true=>
   rw[q] at h;rcases M4.mp h with rfl | h
   ·exact#v[_,_,rfl]
   ·exact wh s h
def Tf{o}{X}{n}:∀ s∈QA P o X n,∃ t:Int×Int×Sy,s=c9 t.1 t.2.1 (ob P o.R t.2.2)/\True:=λs a=>by
 let[k,_,a]:=List.mem_flatMap.mp a;cases q:ten X with
 | true=>
  rw[q] at a;rw[M7.mp a];exact#v[(_,_,_),rfl,trivial]
 | false=>
  rw[q] at a;rcases N1.mp a with a | a
  ·let[c,b,e]:=wh s a;exact#v[(_,_,_),e,trivial]
  ·rw[M7.mp a];exact#v[(_,_,_),rfl,trivial]
def E6(n)(N:W1)(f:List Nat->Bool):YF (n+1) (N.map λn=>D.bl<|f n)=true:=uj λd hd=>by let[x,_,rfl]:=M5.mp hd;rfl
def E7(a:∀ q∈R,Nm q.1)(y):du 19 (ob P R y)=true:=by
 have i n v:du (n+1) (.int v)=true:=rfl;have b:du 18 (.tup<|ib P R y)=true:=uj λd hd=>by
  let[x,hx,rfl]:=M5.mp hd;let[q,e,rfl]:=M5.mp hx;have:du 16 (.str q.1)=true:=List.all_eq_true.mpr λc f=>X0 (by have:=((a q e).r) c f;lia);show YF 16 [.str q.1,.int _]=true;simp only[YF,this,i 15];rfl
 have g:du 18 (.tup<|gY P y)=true:=E6 _ _ _;have h:du 18 (.tup<|gZ P y)=true:=E6 _ _ _;show YF 18 [.tup<|ib P R y,.tup<|gY P y,.tup<|gZ P y]=true;simp only[YF,b,g,h];rfl
def Tg(p)(R)(T:List<|Int×Int×Sy):jE (jc [] 0) qT (pF<|0|||2) (T.map λt=>c9 t.1 t.2.1<|ob p R t.2.2) [none]\(T.map λt=>ob p R t.2.2):=by
 refine jV rfl (λs=>∃ o,s=[o]) ?_ #v[none,rfl];rintro t c s ⟨o,rfl⟩;refine#v[[some<|c9 t.1 t.2.1<|ob p R t.2.2],rfl,?_,_,rfl];have b:jd (c9 t.1 t.2.1<|ob p R t.2.2) (.int 2)\(ob p R t.2.2):=rfl;have a:=Dt p R t.2.2;simp[b,yb _ a,a]
def Th(a:∀ q∈R,Nm q.1){L}(c:∀ s∈L,∃ t:Int×Int×Sy,s=c9 t.1 t.2.1 (ob P R t.2.2)/\True){k j}{x}(hx:c9 k j x∈L):∃ M,jE (jc [] 0) qT (pF<|0|||2) L [none]\M/\tq true x (.lst true M)\(.bl false):=by
 let[T,rfl,_]:=YA c;refine#v[_,Tg P R T,?_];let[t,f,e]:=M5.mp hx;have ex:ob P R t.2.2=x:=by
  injection e with e;injection e with _ e;injection e with _ e;injection e
 have b:du 19 x=true:=by rw[<- ex];exact E7 a _
 have g:YF 19 (T.map λt=>ob P R t.2.2)=true:=uj λd hd=>by let[t,_,rfl]:=M5.mp hd;exact E7 a _
 have h:(T.map λt=>ob P R t.2.2).any (λe=>fQ e x)=true:=List.any_eq_true.mpr #v[x,M5.mpr #v[t,f,ex],B_ _ _ b];show(bif du 19 x&&YF 19 (T.map λt=>ob P R t.2.2) then some (D.bl<|true != (T.map λt=>ob P R t.2.2).any λe=>fQ e x) else none)=_;rw[b,g,h];rfl
def Ti{w c x a}(i:Nm w)(f:Nm c)(hx:Nm x)(h:Nm a):cF (fS w c x a a c) where
 nm:=i
 c:=Nat.le_of_ble_eq_true rfl
 nC:=λq b=>by rw[M7.mp b];exact f
 p6:=Nat.le_of_ble_eq_true rfl
 nP:=λq b=>nomatch b
 e:=Nat.le_of_ble_eq_true rfl
 nE:=λq b=>nomatch b
 x1:=Nat.le_of_ble_eq_true rfl
 x5:=Nat.le_of_ble_eq_true rfl
 x:=λy j=>by
  rw[M7.mp j];refine#v[hx,Nat.le_of_ble_eq_true rfl,λq b=>(nomatch b),Nat.le_of_ble_eq_true rfl,λr d=>?_];rcases M4.mp d with rfl | d
  ·exact#v[#v[by decide,by decide],by decide,h,rfl]
  rcases M4.mp d with rfl | d
  ·exact#v[by decide,by decide,h,.inr<|.inr<|.inl rfl]
  ·rw[M7.mp d];exact#v[by decide,by decide,f,.inr<|.inr<|.inr rfl]
 l2:=Nat.le_of_ble_eq_true rfl
 l:=λq b=>nomatch b
 cN:=by simp[fS]
 c1:=λq b=>by rw[M7.mp b];exact Int.le_refl 1
 pN:=List.nodup_nil
 p1:=λq b=>nomatch b
 g6:=Nat.le_of_ble_eq_true rfl
 g:=λq b=>nomatch b
 me:=λq b=>nomatch b
def Tj{w c x a}:iK [a] (fS w c x a a c) where
 b:=λq d=>by rw[M7.mp d];exact#v[by show 1<=_;lia,Int.le_refl 1,by show 1<=_;lia]
 m:=λq d=>nomatch d
 x:=λy f=>by
  rw[M7.mp f];refine#v[λq d=>(nomatch d),List.nodup_nil,λr e=>?_,[.lend [108,101,110,100] a 1000000,.two [98,97,99,107] a],c,rfl,(M7.mpr rfl)]
  ·rcases M4.mp e with rfl | e
   ·exact M7.mpr rfl
   rcases M4.mp e with rfl | e
   ·exact#v[λ_=>M7.mpr rfl,λz=>absurd z<|by decide]
   ·rw[M7.mp e];exact#v[λz=>absurd z<|by decide,λ_=>M7.mpr rfl]
 n:=by simp[fS]
 c0:=Nat.le_of_ble_eq_true rfl
 gn:=List.nodup_nil
 gb:=λq d=>nomatch d
def jm(c:List Nat):dH:=#v[[(c,1)],[(c,0)],[(c,0)],[],0]
def Tk{w c x a}{O}:eF (10 ^ 45) (kj O<|fS w c x a a c) (jm c) where
 S:=rfl
 W:=rfl
 R:=rfl
 L:=rfl
 s:=λq b=>by rw[M7.mp b];exact#v[by lia,by lia]
 w:=λq b=>by rw[M7.mp b];exact#v[Int.le_refl 0,by lia]
 r:=λq b=>by rw[M7.mp b];exact#v[Int.le_refl 0,by lia]
 l:=λq b=>nomatch b
 lm:=λn=>Int.le_refl _
def pr(t:Bool)(x y:D):List D:=bif t then [y,x] else [x,y]
def e9(t:Bool)(x y:D)(ln:LN)(ws:List Int):D:=.tup [.lst false<|pr t x y,.lst false<|ln.map eR,.lst false<|ws.map D.int]
def cx.swap{a b}{l}(h:cx [a,b] l):cx [b,a] l:=#v[h.nd,λr c=>by
 have q:=h.mem r c;refine#v[?_,?_,q.2.2]
 ·have:=q.1;simp at this ⊢;exact this.symm
 ·have:=q.2.1;simp at this ⊢;exact this.symm]
structure iM(P Q:Pl):Prop where
 h:cF P
 hx:iK [Q.nm] P
 k:cF Q
 kx:iK [P.nm] Q
 ne:P.nm≠Q.nm
def iM.d(T:iM P Q):dt (kj [Q.nm] P):=Ew T.h T.hx λw a=>by rw[M7.mp a];exact T.k.nm
def iM.e(T:iM P Q):dt (kj [P.nm] Q):=Ew T.k T.kx λw a=>by rw[M7.mp a];exact T.h.nm
structure ez(P Q:Pl)(B K:Int)(b c:dH)(ln:LN)(ws:List Int):Prop where
 b:eF B (kj [Q.nm] P) b
 c:eF B (kj [P.nm] Q) c
 l:cx [P.nm,Q.nm] ln
 w:dR K ws
def Tl(T:iM P Q){B K}{b c}{ln}{ws}(I:ez P Q B K b c ln ws)(p:10 ^ 40<=B)(A:B+10 ^ 40<=10 ^ 50)(F:K+10 ^ 40<=10 ^ 50){u v G H}(q:0<=u/\u<=10 ^ 40)(r:0<=v/\v<=10 ^ 40)(f:0<=G)(i:0<=H)(t):
  nr λ(b' c':dH) (ln':LN) (ws':List Int) (log:List LG) (X:Od) (k j:Int)=>fI (qB [.lst false<|pr t (jH false P)<|jH false Q,e9 t (jS false b) (jS false c) ln ws,.lst false [.int u,.int v],.lst false [.int G,.int H]] =
    some (.tup [.tup [.lst true<|pr t (jS false b')<|jS false c',.lst false<|ln'.map eR,.lst true<|ws'.map D.int],.lst true<|log.map e7])) (ez P Q (B+10 ^ 40+1) (K+u+v) b' c' ln' ws') (kG [jH false P,yK P<|ck P b]=↑(QA P (ck P b) X<|(cU P<|ck P b).length+1)) (X∈P.X) (c9 k j (yK P<|ck P b')∈QA P (ck P b) X (-(cU P<|ck P b)+1)):=by
 let[X,n,C]:=E5 T.d b.R;let[Y,W,J]:=E5 T.e c.R;have L:qN X∈(kj [Q.nm] P).ords:=M5.mpr #v[X,n,rfl];have M:qN Y∈(kj [P.nm] Q).ords:=M5.mpr #v[Y,W,rfl];have N:kG [jH false P,yK P<|ck P b]=↑(QA P (ck P b) X<|(cU P<|ck P b).length+1):=by 
   have a:=Es T.d.ok<|M5.mpr #v[X,n,rfl];rw[Kn T.h,Eu<|T.h.x X n] at a;exact uU T.h #v[zS] n (Te T.h T.d) (by rw[<- C];exact a)
 have S:=Kn (O:=[Q.nm]) T.h;have U:=Kn (O:=[P.nm]) T.k;have s:∀{lo}{b'},0<=lo->gL (kj [Q.nm] P) (qN X) (B+10 ^ 40+1) lo b b'->∃ k j,c9 k j (yK P<|ck P b')∈QA P (ck P b) X (-(cU P<|ck P b)+1):=λV g=>by
  let[c,ln,c0,c1,Z,lp,rfl]:=g.e;exact S9 T.h T.hx T.d.ok (I.b.ok ∅) V ((EY T.d I.b V).ok A) c0 c1 Z lp n
 cases t with
 | false=>
  let[b',c',ln',ws',log,e,y,dj,gl,E]:=E1 T.d T.e T.ne (λw o=>by rw[M7.mp o];exact L6 _ L7) (λw o=>by rw[M7.mp o];exact L7) p A F I.b I.c I.l I.w q r f i L C M J;rw[S,U] at e;let[k,j,m]:=s f y;exact#v[b',c',ln',ws',log,X,k,j,e,#v[y.g,dj.g,gl,E],N,n,m]
 | true=>
  let[c',b',ln',ws',log,e,y,dj,gl,E]:=E1 T.e T.d (λz=>T.ne z.symm) (λw o=>by rw[M7.mp o];exact L6 _ L7) (λw o=>by rw[M7.mp o];exact L7) p A F I.c I.b I.l.swap I.w q r f i M J L C;rw[S,U] at e;let[k,j,m]:=s i dj;exact#v[b',c',ln',ws',log,X,k,j,e,#v[dj.g,y.g,gl.swap,E],N,n,m]
def one(t:Bool):Int:=bif t then 1 else 0
def Tm(T:iM P Q)  (I:ez P Q B K b c ln ws) (J:10 ^ 40<=B) (W:B+10 ^ 40<=10 ^ 50) (Y:K+10 ^ 40<=10 ^ 50) (t:Bool)  (Z:0<=i) (hi:i<=100)  (hz:Builtin.Int.intBits z<=2 ^ 20) :
  pU λ(b' c':dH) (ln':LN) (ws':List Int) (r13 r14 r15 r16 r17:Option D)=>j4 (Q3 %[(a0),jH false P,(a2),(a3),(a4),(a5),(a6),.int<|one t,‹pr t (jH false P) (jH false Q)›,e9 t (jS false b) (jS false c) ln ws,yK P<|ck P b,.int i,.int z,(o13),(o14),(o15),(o16),(o17)|0] =
   some (.nx %[(a0),jH false P,(a2),(a3),(a4),(a5),(a6),.int<|one t,‹pr t (jH false P) (jH false Q)›,e9 t (jS false b') (jS false c') ln' ws',yK P<|ck P b',.int i,.int z,(r13),(r14),(r15),(r16),(r17)|0])) (ez P Q (B+10 ^ 40+1) (K+2*10 ^ 40) b' c' ln' ws'):=by
 let[m,em,m0,m1]:=vT (k:=i+100) hz ∅ ∅;let[p,e0,p0,q0]:=Vr m0 ∅;let[s,e1,p1,q1]:=Vr (m:=m/40) ∅ ∅;let[u,L,N,q2]:=Vr (m:=m/4) ∅ ∅;let[v,O,p3,q3]:=Vr (m:=m/5) ∅ ∅;let[b',c',ln',ws',d,X,k,j,ed,o,es,hX,hm]:=Tl T I J W Y #v[p0,q0] #v[p1,q1] N p3 t;have eo:=KU T.h o.b;have ao:=ue P (ck P b) X (T.h.x X hX).r (-(cU P<|ck P b)+1);have dl:-(cU P<|ck P b)<=6:=N6 (List.length_filter_le ..) T.h.e;let[M,eM,eI]:=Th ((λq hq=>by
   have a:q.1∈(gr P).1:=by rw[<- zS];exact M5.mpr #v[q,hq,rfl]
   let[x,hx,e]:=M5.mp (EU T.h a).2;rw[<- e];exact T.h.nC x hx)) Tf hm
 have I2:ez P Q (B+10 ^ 40+1) (K+2*10 ^ 40) b' c' ln' ws':=#v[o.b,o.c,o.l,o.w.len,o.w.ok,by have:=o.w.sm;lia];have g:=vg b';have A:=vg c';have G:=vz P;have S:=yb _ G;have U:=pG P<|ck P b;have C:=pG P<|ck P b';have H:∀{x y:D},frz x=true->frz y=true->frzs (pr t x y)=true:=λ{x y} hx hy=>by cases t<;>simp[pr,hx,hy]
 have E:=H G<|vz Q;have F:frz (e9 t (jS false b) (jS false c) ln ws)=true:=by
  have a:=H (vg b)<|vg c;simp[e9,a,vM,JH]
 have f:frz (e9 t (jS false b') (jS false c') ln' ws')=true:=by
  have a:=H g A;simp[e9,a,vM,JH]
 have n:=yb _ f;have zR:fz (.tup [.tup [.lst true<|pr t (jS false b')<|jS false c',.lst false<|ln'.map eR,.lst true<|ws'.map D.int],.lst true<|d.map e7])=.tup [e9 t (jS false b') (jS false c') ln' ws',.lst false<|d.map e7]:=by
  simp[e9,je _<|H g A,Y5,YO,pO]
 have x0:jd (e9 t (jS false b') (jS false c') ln' ws') (.int 0)=‹pr t (jS false b') (jS false c')›:=rfl;have x1:jd (.lst false<|pr t (jS false b')<|jS false c') (.int<|one t)\(jS false b'):=by cases t<;>rfl
 have lA:cb (-(QA P (ck P b) X<|(cU P<|ck P b).length+1))=true:=jb ∅;refine#v[b',c',ln',ws',some<|.int m,some<|.lst false [.int p,.int s],some<|.lst false [.int u,.int v],‹d.map e7›,some<|yK P<|ck P b',?_,I2];let[aC,V,_]:=ao;generalize yK P (ck P b')=OB',yK P (ck P b)=OB,jH false P=PP,jH false Q=QQ,e9 t (jS false b') (jS false c') ln' ws'=ST',e9 t (jS false b) (jS false c) ln ws=ST at *;generalize pr t PP QQ=PL at *;have R:frzs (d.map e7)=true:=YH d;generalize d.map e7=LGD,one t=tt at *;refine ql (ρ':=%[(a0),PP,(a2),(a3),(a4),(a5),(a6),.int tt,‹PL›,ST,OB,.int i,.int z,.int m,(o14),(o15),(o16),(o17)|0]) (by simp[em])<|ql (ρ':=%[(a0),PP,(a2),(a3),(a4),(a5),(a6),.int tt,‹PL›,ST,OB,.int i,.int z,.int m,.lst true [.int p,.int s],(o15),(o16),(o17)|0]) (by simp(disch:=lia) [jx,e0,e1,jb])<|ql (ρ':=%[(a0),PP,(a2),(a3),(a4),(a5),(a6),.int tt,‹PL›,ST,OB,.int i,.int z,.int m,.lst true [.int p,.int s],.lst true [.int u,.int v],(o16),(o17)|0]) (by simp(disch:=lia) [jx,L,O,jb])<|ql (ρ':=%[(a0),PP,(a2),(a3),(a4),(a5),(a6),.int tt,‹PL›,ST',OB,.int i,.int z,.int m,.lst false [.int p,.int s],.lst false [.int u,.int v],‹LGD›,(o17)|0]) (by simp[ed,zR,E,je _ E,F,yb _ F,f,n,R])<|ql (ρ':=%[(a0),PP,(a2),(a3),(a4),(a5),(a6),.int tt,‹PL›,ST',OB,.int i,.int z,.int m,.lst false [.int p,.int s],.lst false [.int u,.int v],‹LGD›,OB'|0]) (by simp[n,f,x0,x1,G,S,g,yb _ g,eo])<|ql (ρ':=%[(a0),PP,(a2),(a3),(a4),(a5),(a6),.int tt,‹PL›,ST',OB,.int i,.int z,.int m,.lst false [.int p,.int s],.lst false [.int u,.int v],‹LGD›,OB'|0]) (by simp[G,S,U,yb _ U,es,aC,V,je _ V,lA,jv,eM,eI]) ?_;simp[C,yb _ C]
def Tn{P Q}(T:iM P Q){b c}{ln}{ws}(I:ez P Q (10 ^ 45) (10 ^ 42) b c ln ws)(t){zs:List Int}(w:∀ z∈zs,Builtin.Int.intBits z<=2 ^ 20)(E:-zs<=64){a0 a2 a3 a4 a5 a6}:
  ∃ U,yC (11&&&12) Q3 (jO 0<|zs.map D.int) %[(a0),jH false P,(a2),(a3),(a4),(a5),(a6),.int<|one t,‹pr t (jH false P) (jH false Q)›,e9 t (jS false b) (jS false c) ln ws,yK P<|ck P b,_,_,_,_,_,_,_|0]\(.nx U):=by
 let[U,e,_]:=va (G:=11&&&12) (xs:=jO 0<|zs.map D.int) (λi U=>l6 λb c ln ws a d f g j k l=>j4 (U=[a0,some<|jH false P,a2,a3,a4,a5,a6,some<|.int<|one t,‹pr t (jH false P) (jH false Q)›,some<|e9 t (jS false b) (jS false c) ln ws,some<|yK P<|ck P b,a,d,f,g,j,k,l])<|ez P Q (10 ^ 45+i*(10 ^ 40+1)) (10 ^ 42+i*(2*10 ^ 40)) b c ln ws) (by
  rintro i x U hx ⟨b,c,ln,ws,a,d,f,g,j,k,l,rfl,I⟩;let[y,m,rfl]:=kg _ _ _ _ hx;rw[List.getElem?_map] at m;have hi:i< -zs:=by
   by_cases h:i< -zs
   ·exact h
   ·rw[List.getElem?_eq_none ∅] at m;cases m
  rw[X5 hi] at m;cases m;let[b',A,n,o,p,q,r,s,u,e,v]:=Tm T I ∅ ∅ ∅ t (i:=((0+i:Nat):Int)) ∅ ∅ (w _<|List.getElem_mem hi);have B:10 ^ 45+i*(10 ^ 40+1)+10 ^ 40+1=10 ^ 45+((i+1:Nat):Int)*(10 ^ 40+1):=by push_cast;lia
  have C:10 ^ 42+i*(2*10 ^ 40)+2*10 ^ 40=10 ^ 42+((i+1:Nat):Int)*(2*10 ^ 40):=by push_cast;lia
  rw[B,C] at v;exact#v[_,_,rfl,.inl e,b',A,n,o,_,_,p,q,r,s,u,rfl,v]) #v[b,c,ln,ws,none,none,none,none,none,none,none,rfl,by simpa using I]
 exact#v[U,e]
def gO(ns:List Int)(hl:-ns<=63)(G:∀ x∈ns,Builtin.Int.intBits x<=2 ^ 20):mZ [.lst false<|ns.map D.int]\(.bl true):=by
 let[P,W,x,e1,H,J,K,hW,U,dW,hx]:=two_ok (ns:=ns) G;have w6:Nm (W.getD 6 []):=U _<|vh ∅;have w7:Nm (W.getD 7 []):=U _<|vh ∅;have ne:W.getD 0 []≠W.getD 6 []:=λz=>absurd (C7 dW ∅ ∅ z) (by decide);rw[<- K] at ne;generalize W.getD 7 []=w,W.getD 6 []=u at *;have T:iM P (fS u w x P.nm P.nm w):=#v[H,J,Ti w6 w7 hx H.nm,Tj,ne];let[z,V,l]:=VU (ns:=ns) G (k:=16) (by decide);let[n,em,n0,n1]:=vT l (k:=90) (by decide) (by decide);let[b,X,Y]:=SH l T.d.ok;rw[Kn H] at X;have L:jd (jH false P) (.int 0)\(.str P.nm):=rfl;have M:jd (jH false<|fS u w x P.nm P.nm w) (.int 0)\(.str u):=rfl;let[ln,el,N,hll,_]:=SI (m:=n) ne L M n0 ∅;have Q:jk (.int<|n/18) (.int 3)\(.int<|n/18%3):=jo ∅;have R:jk (.int<|n/54) (.int 3)\(.int<|n/54%3):=jo ∅;have I:ez P (fS u w x P.nm P.nm w) (10 ^ 45) (10 ^ 42) b (jm w) ln [n/18%3,n/54%3]:=#v[Y,Tk (w:=u) (c:=w) (x:=x) (a:=P.nm) (O:=[P.nm]),N,rfl,λv hv=>by simp at hv;lia,by simp;lia];obtain⟨t,ht⟩:∃ t:Bool,jk (.int<|n/9) (.int 2)\(.int<|one t):=by
  have q:n/9%2=0\/n/9%2=1:=by lia
  rcases q with q | q
  ·exact#v[false,by rw[jo ∅,q];rfl]
  ·exact#v[true,by rw[jo ∅,q];rfl]
 have l:∀ z∈(0::vf ns (some 17) (some 45)),Builtin.Int.intBits z<=2 ^ 20:=by
  intro z l;rcases M4.mp l with rfl | l
  ·decide
  ·exact G z<|YQ l
 have Z:-(0::vf ns (some 17) (some 45))<=64:=by
  have:=u8 ns (some 17)<|some 45;simp only[M1];lia
 let[ρ,eL]:=Tn T I t l Z (a0:=‹ns.map D.int›) (a2:=some<|jH false<|fS u w x P.nm P.nm w) (a3:=some<|.str w) (a4:=some<|.int n) (a5:=some<|jS false b) (a6:=some<|jS false<|jm w);have eo:=KU T.h Y;have x1:jd (jH false<|fS u w x P.nm P.nm w) (.int 1)\(.lst false [.tup [.str w,.int 1,.int 1]]):=rfl;have x2:jd (.lst false [.tup [.str w,.int 1,.int 1]]) (.int 0)\(.tup [.str w,.int 1,.int 1]):=rfl;have x3:jd (.tup [.str w,.int 1,.int 1]) (.int 0)\(.str w):=rfl;have r:=Je ns;have s:=YI ns;have i:=vz P;have o:=vz<|fS u w x P.nm P.nm w;have j:=yb _ i;have p:=yb _ o;have y:=vg b;have A:=yb _ y;have B:=vg<|jm w;have g:=yb _ B;have E:=vM ln;have F:=Y5 ln;have sl:=uX false ns (some 17)<|some 45;change ld (some 17) (some 45) (.lst false<|ns.map D.int)=↑((vf ns (some 17)<|some 45).map D.int) at sl;have lc:-(vf ns (some 17)<|some 45)<=64:=by have:=Z;simp at this;lia
 have ad:jr (.lst true [.int 0]) (.lst true<|(vf ns (some 17)<|some 45).map D.int)=↑((0::vf ns (some 17) (some 45)).map D.int):=by
  show(bif cb (1+-((vf ns (some 17)<|some 45).map D.int))&&(true&&frzs ((vf ns (some 17)<|some 45).map D.int)) then _ else none)=_;rw[jb<|by rw[L1];lia,JH];rfl
 have lE:cb (-(jO 0<|(0::vf ns (some 17) (some 45)).map D.int))=true:=jb (by rw[yt,L1];lia);have zE:=YO<|0::vf ns (some 17) (some 45);have eT:e9 t (jS false b) (jS false<|jm w) ln [n/18%3,n/54%3]=.tup [.lst false<|pr t (jS false b)<|jS false<|jm w,.lst false<|ln.map eR,.lst false [.int<|n/18%3,.int<|n/54%3]]:=rfl;rw[eT] at eL;generalize n/18%3=w1,n/54%3=w2 at *;generalize(0::vf ns (some 17) (some 45)).map D.int=Z0 at *;generalize ns.map D.int=NS,ln.map eR=LL,yK P (ck P b)=OO,jH false (fS u w x P.nm P.nm w)=QQ,jH false P=PP,jS false b=BB at *;generalize S:jS false (jm w)=CC at *;have u1:∀{a b c:D},jd (.tup [a,b,c]) (.int 1)\b:=rfl;have u2:∀{a b c:D},jd (.tup [a,b,c]) (.int 2)\c:=rfl;have key:∃ f,tL %[‹NS›,_,_,_,_,_,_,_,_,_,_,_,_,_,_,_,_,_|0]\(.rt (.bl true) f):=by
  refine#v[ρ,(ql (ρ':=%[‹NS›,PP,QQ,_,_,_,_,_,_,_,_,_,_,_,_,_,_,_|0]) (by simp[e1,r,s,i,o,j,p])<|ql (ρ':=%[‹NS›,PP,QQ,.str w,_,_,_,_,_,_,_,_,_,_,_,_,_,_|0]) (by simp[x1,x2,x3,j,p])<|ql (ρ':=%[‹NS›,PP,QQ,.str w,.int n,_,_,_,_,_,_,_,_,_,_,_,_,_|0]) (by simp[V,em,r,s])<|ql (ρ':=%[‹NS›,PP,QQ,.str w,.int n,BB,_,_,_,_,_,_,_,_,_,_,_,_|0]) (by simp[V,X,r,s,i,j])<|ql (ρ':=%[‹NS›,PP,QQ,.str w,.int n,BB,.tup [.lst true [.tup [.str w,.int 1]],.lst true [.tup [.str w,.int 0]],.lst true [.tup [.str w,.int 0]],.lst true [],.int 0],_,_,_,_,_,_,_,_,_,_,_|0]) (by simp[y,A,jb]) ?_)];refine ql (ρ':=%[‹NS›,PP,QQ,.str w,.int n,BB,CC,.int<|one t,_,_,_,_,_,_,_,_,_,_|0]) (by simp(disch:=lia) [jx,ht];exact S) ?_;refine ql (ρ':=%[‹NS›,PP,QQ,.str w,.int n,BB,CC,.int<|one t,.lst true [PP,QQ],_,_,_,_,_,_,_,_,_|0]) (by simp[i,o,j,p,jb])<|ql (ρ':=%[‹NS›,PP,QQ,.str w,.int n,BB,CC,.int<|one t,.lst true [PP,QQ],.tup [.lst true [BB,CC],.lst true LL,.lst true [.int w1,.int w2]],_,_,_,_,_,_,_,_|0]) (by simp(disch:=lia) [y,A,B,g,i,o,j,p,el,jx,Q,R,jb]) ?_;have C:jg (Jt (Jk #[p2 jr (vF #[pI 0])<|eP (!0) (oS<|pI 17)<|oS<|pI 45]) (11&&&12) Q3) (yM<|dP<|pC<|.bl true) %[‹NS›,PP,QQ,.str w,.int n,BB,CC,.int<|one t,‹pr t PP QQ›,.tup [.lst false<|pr t BB CC,.lst false LL,.lst false [.int w1,.int w2]],OO,_,_,_,_,_,_,_|0]\(.rt (.bl true) ρ):=by
   refine ql (ρ':=ρ) ?_ rfl;have pe:Jk #[p2 jr (vF #[pI 0])<|eP (!0) (oS<|pI 17)<|oS<|pI 45] %[‹NS›,PP,QQ,.str w,.int n,BB,CC,.int<|one t,‹pr t PP QQ›,.tup [.lst false<|pr t BB CC,.lst false LL,.lst false [.int w1,.int w2]],OO,_,_,_,_,_,_,_|0]\(jO 0 Z0):=by
    simp[sl,ad,JH<|0::vf ns (some 17) (some 45),zE,lE,jb]
   rw[Jt,pe,L4];exact eL
  cases t with
  | false=>
   refine ql (ρ':=%[‹NS›,PP,QQ,.str w,.int n,BB,CC,.int<|one false,.lst false [PP,QQ],.tup [.lst false [BB,CC],.lst false LL,.lst false [.int w1,.int w2]],_,_,_,_,_,_,_,_|0]) (by simp[i,o,j,p,y,A,B,g,E,F,one])<|ql (ρ':=%[‹NS›,PP,QQ,.str w,.int n,BB,CC,.int<|one false,.lst false [PP,QQ],.tup [.lst false [BB,CC],.lst false LL,.lst false [.int w1,.int w2]],OO,_,_,_,_,_,_,_|0]) (by simp[i,o,j,p,y,A,B,g,E,F,eo]) C
  | true=>
   refine ql (ρ':=%[‹NS›,PP,QQ,.str w,.int n,BB,CC,.int<|one true,.lst true [QQ,PP],.tup [.lst true [CC,BB],.lst false LL,.lst false [.int w1,.int w2]],_,_,_,_,_,_,_,_|0]) (by simp[i,o,j,p,y,A,B,g,E,F,one,jb,u1,u2])<|ql (ρ':=%[‹NS›,PP,QQ,.str w,.int n,BB,CC,.int<|one true,.lst false [QQ,PP],.tup [.lst false [CC,BB],.lst false LL,.lst false [.int w1,.int w2]],OO,_,_,_,_,_,_,_|0]) (by simp[i,o,j,p,y,A,B,g,E,F,eo]) C
 let[f,e]:=key;show(tL %[‹NS›,_,_,_,_,_,_,_,_,_,_,_,_,_,_,_,_,_|0]).bind _=_;rw[e];rfl
end K44
set_option maxHeartbeats 0
namespace K44
open PySem L2 QD
abbrev clF(a b:Addr):Nat->Addr
 | 0=>a
 | _=>b
def jp{l:PySem.W.OpenLaw}{w:World}{K:W4}{mg:W6}{fa a0 a1:Addr}(hfa:mg "law" = some (.ref fa))(_:PySem.W.nsIn K mainGlobals "OutlineDay" = some (some<|.ref a0))(_:PySem.W.nsIn K mainGlobals "Fall" = some (some<|.ref a1))(T:Txt l.prog w K mg<|clF a0 a1):∃ fd:FuncData,(∀(s:Shared) (v:Value),BindsTo s fd #v[[v],[]] [("_law_script",v)])/\∀ base:Heap,K.In base->base.Ns mainGlobals mg->cL l.prog w K mg base eN 7 fa fd ["_law_script"] (λvs H Q E=>∀ cl:Nat->Addr,dX #v[K,cl] mZ 1 vs H Q E):=by
 let[f',fd',F',G']:=(Oz T).2.2.2.2.2.2;cases hfa.symm.trans F'.mgf;obtain⟨⟨oc,od,kV,doc,pm,an,cdv,ct,osl,rfl,_,_⟩,_⟩:=F'.fn;exact#v[_,λs v=>.of_eq rfl,λbase _ _=>(G' base).imp λvs H Q E h=>h<|clF a0 a1]
def walk{l:PySem.W.OpenLaw}{q:Program}{loose:List Str}{XP:(Str->Option Value)->Heap->Prop}{YP:World->Heap->Prop}{d:DefRec}{K:Params->PySem.W.Frag}(hn:l.most\63)(hdf:d.params.defaults=[])
  (hY:∀(w:World) (h:Heap),YP w h->(K w.params).In h)
  (F:∀(w:World) (mg:W6) (fa:Addr) (h:Heap),(K w.params).In h->h.Ns mainGlobals mg->mg d.name=some (.ref fa) ->
   ∃ fd:FuncData,(∀(s:Shared) (u:Value),BindsTo s fd #v[[u],[]] [("_law_script",u)])/\∀ base:Heap,(K w.params).In base->base.Ns mainGlobals mg->cL l.prog w (K w.params) mg base eN 7 fa fd ["_law_script"] (λvs H Q E=>∀ cl:Nat->Addr,dX #v[K w.params,cl] mZ 1 vs H Q E)):
  PySem.W.WalkO q loose XP YP l.row.toRowW d [] (λf vs=>PySem.call f vs):=
 L2.gj (n:=63) (k:=7) (x:="_law_script") (CX:=λ_=>eN) (sp:=λw=>(λvs H Q E=>∀ cl:Nat->Addr,dX #v[K w.params,cl] mZ 1 vs H Q E)) hn (by decide) hdf #v[rfl,by decide,by decide] hY F (λ_ H a ns hl hb _ hS=>λ_=>Mo (K44.gO ns hl hb) hS) λ_ _ _ _ _ z=>z
end K44
namespace PySem.W.Fast
def tw14470723583758636290:=0
def tw13680994665964498629:=0
def tw5129624111419391399:=0
def tw5921107459688445512:=0
def tw2814444900005128936:=0
def tw1054379394940365491:=0
def tw14923033291541734496:=0
def tw1086767616038919115:=0
def tw5292445935282532228:=0
def tw10816835826835571193:=0
def tw14386976756612045350:=0
def tw16614350648268537125:=0
def tw16865573281216974315:=0
def tw18011969706741907522:=0
def tw15412428348585010154:=0
def tw13700736575853087602:=0
def tw11520682707211387876:=0
def tw10443255801792641964:=0
def tw3626415448476545533:=0
def tw6602174336731222961:=0
def tw17015287351389916337:=0
def tw6012129560666690604:=0
def tw2190580614979154789:=0
def tw16051291510846446891:=0
def tw16457695511271641018:=0
def tw4803067180730515520:=0
def tw3209311202865211828:=0
def tw6829520460183970862:=0
def tw18365441540927584834:=0
def tw8939884711527228228:=0
def tw11619382255769391255:=0
def tw2031538750414568933:=0
def tw8080593916314858227:=0
def tw10613476877188485685:=0
def tw13396328654053897979:=0
def tw15150602271520441463:=0
def tw2059611225298386156:=0
def tw15856958014174638278:=0
def tw14905582191167015847:=0
def tw11965333563369403270:=0
def tw41553003795373207:=0
def tw5673415315557253036:=0
def tw1837330935436357213:=0
def tw14329758822259493778:=0
def tw15903594722781868791:=0
def tw12458556072554660783:=0
def tw1484121723777134008:=0
def tw8498013170978758965:=0
def tw5090767404437694350:=0
def tw3762083652635190636:=0
def tw12317399266242472734:=0
def tw8198367855619969255:=0
def tw5523043271244427627:=0
def tw11467456715885169604:=0
def tw7600994546552687396:=0
def tw6826236801539381807:=0
def tw1871892494283825271:=0
def tw13505816588742060246:=0
def tw15086322807050589893:=0
def tw14276008992653123540:=0
def tw18011341460214308754:=0
def tw1649233602113269541:=0
def tw6712577552305980150:=0
def tw981652321937046094:=0
def tw6868156379797290594:=0
def tw4870431240133445440:=0
def tw5021116192480189238:=0
def tw10513548801311073146:=0
def tw737452315758100506:=0
def tw15916644013204799855:=0
def tw17029026386849537674:=0
def tw15865020233744393710:=0
def tw11535875144785867290:=0
def tw8010299817373498807:=0
def tw3736040158285897094:=0
def tw13218257576189091569:=0
def tw17762667570044939611:=0
def tw17170221921769926569:=0
def tw6391220246989266615:=0
def tw2359713399467069596:=0
def tw17638710640864878685:=0
def tw4057208549246431294:=0
def tw15599717022501850558:=0
def tw6765622511324393883:=0
def tw1417625778604550552:=0
def tw500457235649470302:=0
def tw5566815986700799159:=0
def tw14465247925014463798:=0
def tw17052021096014656990:=0
def tw6153775530549437717:=0
def tw6594124068835516054:=0
def tw15908346443080333207:=0
def tw13038682331388287875:=0
def tw10772082481490725530:=0
def tw13471012351909666731:=0
def tw15212121655936155254:=0
def tw1518022253678942734:=0
def tw2927023698818852145:=0
def tw14801789734947974717:=0
def tw13364234436447973921:=0
def tw4663267531213575875:=0
def tw3864130475691891580:=0
def tw2581027723601422409:=0
def tw6064238898473583679:=0
def tw1183142186338788922:=0
def tw15251256793974218175:=0
def tw7284771800728041317:=0
def tw6811184544641862845:=0
def tw12035928741190260609:=0
def tw18420097396121119563:=0
def tw3616266923384535579:=0
def tw6172421195442611840:=0
def tw15998199895990881685:=0
def tw5953216179350629661:=0
def tw6217293152312553602:=0
def tw6566025890054899185:=0
def tw10792718792271239964:=0
def tw12758564314937506134:=0
def tw1368000818463340713:=0
def tw9941208484893215650:=0
def tw7590877399480731081:=0
def tw523265793578942743:=0
def tw3891264640707640715:=0
def tw3563771901982462710:=0
def tw8505618203106944183:=0
def tw1712516868952771458:=0
def tw17010983855772501483:=0
def tw9845603059144836742:=0
def tw2055836944198305461:=0
def tw10975993705931843635:=0
def tw136629345942919739:=0
def tw6665338921070606284:=0
def tw2687563672050934717:=0
def tw2139565916416211754:=0
def tw17636761121444332518:=0
def tw816068243756180847:=0
def tw2970566501013443806:=0
def tw10790395075251457265:=0
def tw1644894473256324744:=0
def tw9625686078959310369:=0
def tw6699714976898555645:=0
end PySem.W.Fast
set_option maxHeartbeats 0
open PySem PySem.W PyProof.Rows
set_option maxRecDepth 100000 in
set_option maxHeartbeats 0 in
theorem PySem.Challenge.cw_tranchefall_k44_whole_each_day_is_a_step_holds : PySem.Challenge.rw_tranchefall_k44_whole_each_day_is_a_step.Holds := by
 w_on;o_law;k_head;(case hw=>w_witness2)
 k_fill
 refine K44.walk (l:=PySem.Challenge.rw_tranchefall_k44_whole_each_day_is_a_step) rfl rfl (λw h Y=>PySem.W.kIn_of Y) ?F
 case F =>
  intro w mg fa h KX G hmg;refine' K44.jp hmg ?c ?c1 ?t
  (case c | c1=>k_is)
  case t =>
   constructor
   all_goals first
    | ((first | refine⟨QD.CN,QD.tG KX G (by k_is) (by k_is) (by k_is) (by k_is) ?_⟩ | refine⟨QD.CN,QD.tH (by k_is) (by k_is) (by k_is) (by k_is) (by k_is) ?_⟩);intro _ _ _ _ _ _;(repeat refine QD.uS λ_=>?_);exact QD.u0 rfl)
    | exact PySem.W.mg_none_of KX G (by k_is) | exact PySem.W.mg_of KX G (by k_is) | exact⟨by k_is,by k_is,by k_is,by k_is⟩ | k_is | (show PySem.W.findIn _ _ _=_;k_is)
