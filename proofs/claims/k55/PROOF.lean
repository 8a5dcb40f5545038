import PyProof.Rows.All
import Wide.All
import OpenK.AllK
import Wide.FinOn
import Lean
import PyProof.EqAt
import PyProof.EqKinds
import PyProof.TupleCall
import KE.KItemsList
import KE.KRevIter
import PyProof.CollectIter
import PyProof.DictWalks
import PyProof.WalksMore
import PyProof.SumWalkG
import KE.KSortTup
import PyProof.Draws
import KE.KTupSum
import PySem.Challenge.RW_tranchefall_k55_losses_in_pieces
set_option Elab.async false
set_option linter.all false
set_option compiler.extract_closed false
set_option genSizeOf false
noncomputable section
local macro_rules|`(↥$x)=>`(($x).heap.objs.size)|`(⇑$x)=>`(by simpa using $x)|`(∅)=>`(by lia)
local macro_rules|`(tactic|let[$x,*]:=$e)=>do
 let y<-x.getElems.mapM λ|`($i:ident)=>`(rcasesPat|$i:ident)|_=>`(rcasesPat|_)
 `(tactic|obtain⟨$[$y:rcasesPat],*⟩:=$e)
local macro_rules|`(#v[$x,*])=>`(⟨$x,*⟩)
local macro_rules|`(tactic|cases $h:ident)=>`(tactic|first|(replace $h:ident:=Option.some.inj $h;subst $h)|cases ($h))
local macro_rules(kind:=Lean.Parser.Command.declaration)|x=>do
 let m<-`(noncomputable def a:=0)
 if x[0].getPos?.isNone&&x[1].isOfKind `Lean.Parser.Command.definition then pure<|x.setArg 0 m.raw[0] else Lean.Macro.throwUnsupported
section
open PySem PySem.Spec PyProof.Rows
abbrev L1:=@List.length_map
abbrev L3:=@wpAny_bind
abbrev L4:=@Option.bind_some
abbrev L5:=@List.map_cons
abbrev L6:=@List.mem_cons_of_mem
abbrev L7:=@List.mem_cons_self
abbrev L8:=@Heap.get?_push_of_some
abbrev L9:=@List.getElem?_eq_some_iff
abbrev M0:=@Bool.and_eq_true
abbrev M3:=@List.length_cons
abbrev M4:=@Bool.false_ne_true
abbrev M5:=@List.mem_cons
abbrev M7:=@List.mem_map
abbrev M8:=@wpAny_pure
abbrev M9:=@List.mem_singleton
abbrev N0:=@Nat.le_refl
abbrev N1:=@List.append_nil
abbrev N2:=@Heap.lt_size
abbrev N3:=@List.mem_append
abbrev N4:=@List.size_toArray
abbrev N5:=@List.length_append
abbrev N6:=@List.map_append
abbrev N7:=@Nat.ne_of_lt
abbrev N8:=@Nat.le_trans
abbrev N9:=@Int.toNat_natCast
abbrev U0:=@Int.emod_lt_of_pos
abbrev U2:=@Int.emod_nonneg
abbrev U3:=@List.map_map
abbrev U4:=@beq_eq_false_iff_ne
abbrev U5:=@List.mem_append_right
abbrev U6:=@Nat.lt_of_lt_of_le
abbrev U7:=@Nat.zero_le
abbrev U8:=@wpAny_field
abbrev U9:=@List.zip_cons_cons
abbrev X0:=@List.count_append
abbrev X3:=@List.nodup_append
abbrev X4:=@List.foldl_cons
abbrev X5:=@decide_eq_true
abbrev X6:=@decide_eq_false
abbrev X7:=@of_decide_eq_true
abbrev X8:=@Option.some.inj
abbrev X9:=@List.nil_append
abbrev E1:=@List.getElem?_eq_getElem
abbrev E2:=@List.length_take
abbrev E3:=@Heap.get?_push_size
abbrev E4:=@Nat.lt_of_le_of_lt
end
abbrev J0:=PySem.Value->PySem.Shared->Prop
abbrev W0:=List (PySem.Addr×PySem.Obj)
abbrev W1:=List (List Nat)
abbrev W4:=PySem.W.Frag
abbrev W5:=List PySem.Addr
abbrev W6:=PySem.Str->Option PySem.Value
namespace L2
inductive dv {s u:Type}(P:s->u->Prop):Prop | mk:∀ x0 x1,P x0 x1->dv P
inductive dF {s u γ:Type}(P:s->u->γ->Prop):Prop | mk:∀ x0 x1 x2,P x0 x1 x2->dF P
inductive fA {s u γ δ:Type}(P:s->u->γ->δ->Prop):Prop | mk:∀ x0 x1 x2 x3,P x0 x1 x2 x3->fA P
inductive lI {s u γ δ ε:Type}(P:s->u->γ->δ->ε->Prop):Prop | mk:∀ x0 x1 x2 x3 x4,P x0 x1 x2 x3 x4->lI P
inductive oT {s u γ δ ε ζ:Type}(P:s->u->γ->δ->ε->ζ->Prop):Prop | mk:∀ x0 x1 x2 x3 x4 x5,P x0 x1 x2 x3 x4 x5->oT P
inductive s9 {s u γ δ ε ζ η:Type}(P:s->u->γ->δ->ε->ζ->η->Prop):Prop | mk:∀ x0 x1 x2 x3 x4 x5 x6,P x0 x1 x2 x3 x4 x5 x6->s9 P
inductive mZ {s u γ δ ε ζ η θ:Type}(P:s->u->γ->δ->ε->ζ->η->θ->Prop):Prop | mk:∀ x0 x1 x2 x3 x4 x5 x6 x7,P x0 x1 x2 x3 x4 x5 x6 x7->mZ P
inductive s_ {s u γ δ ε ζ η θ ι:Type}(P:s->u->γ->δ->ε->ζ->η->θ->ι->Prop):Prop | mk:∀ x0 x1 x2 x3 x4 x5 x6 x7 x8,P x0 x1 x2 x3 x4 x5 x6 x7 x8->s_ P
inductive lJ {u v γ δ ε ζ η θ ι s μ ν:Type}(P:u->v->γ->δ->ε->ζ->η->θ->ι->s->μ->ν->Prop):Prop | mk:∀ x0 x1 x2 x3 x4 x5 x6 x7 x8 x9 x10 x11,P x0 x1 x2 x3 x4 x5 x6 x7 x8 x9 x10 x11->lJ P
inductive eQ (a b:Prop):Prop | mk:a->b->eQ a b
inductive cX (a b c:Prop):Prop | mk:a->b->c->cX a b c
inductive d8 (a b c d:Prop):Prop | mk:a->b->c->d->d8 a b c d
inductive eS (a b c d e:Prop):Prop | mk:a->b->c->d->e->eS a b c d e
inductive oU (a b c d e f:Prop):Prop | mk:a->b->c->d->e->f->oU a b c d e f
inductive tm (a b c d e f g:Prop):Prop | mk:a->b->c->d->e->f->g->tm a b c d e f g
end L2
set_option maxRecDepth 100000
namespace L2
open PySem PySem.Spec PyProof.Rows
noncomputable abbrev cW:=Sum Int Str
def iM:cW->Value->Bool
 | .inl k,v=>Value.isInt k v
 | .inr x,v=>Value.isStrOf x v
def CN(w:World):cW->Int
 | .inl k=>hashInt k
 | .inr x=>hashStr w x
def jX:∀{k}{v},iM k v=true->(∃ i t,k=Sum.inl i/\v=Value.int i t)\/(∃ x t,k=Sum.inr x/\v=Value.str x t)
 | .inl i,v,h=>by
  let[t,e]:=Value.isInt_shape h;exact .inl #v[i,t,rfl,e]
 | .inr x,v,h=>by
  let[t,e]:=Value.isStrOf_shape h;exact .inr #v[x,t,rfl,e]
def CO(i)(t):iM (.inl i) (.int i t)=true:=by simp[iM,Value.isInt]
def CP(x)(t):iM (.inr x) (.str x t)=true:=by simp[iM,Value.isStrOf]
def CQ(a b):decide ((Sum.inl a:cW)=Sum.inl b)=(a==b):=by
 by_cases e:a=b
 ·subst e;simp
 ·have h:¬ (Sum.inl a:cW)=Sum.inl b:=λq=>e<|Sum.inl.inj q;rw[X6 h];exact(U4.mpr e).symm
def CS(a b):decide ((Sum.inr a:cW)=Sum.inr b)=decide (a=b):=by
 by_cases e:a=b
 ·subst e;simp
 ·have h:¬ (Sum.inr a:cW)=Sum.inr b:=λq=>e<|Sum.inr.inj q;rw[X6 h,X6 e]
def CT(a)(b):decide ((Sum.inl a:cW)=Sum.inr b)=false:=X6 (λq=>nomatch q)
def CU(a)(b):decide ((Sum.inr a:cW)=Sum.inl b)=false:=X6 (λq=>nomatch q)
def bT(prog)(w):PySem.KeyKind prog w cW where
 is:=iM
 hash:=CN w
 inj:=λv a b ha hb=>by
  rcases jX ha with⟨i,t,rfl,rfl⟩ | ⟨x,t,rfl,rfl⟩
  ·rcases jX hb with⟨j,u,rfl,e⟩ | ⟨y,u,rfl,e⟩
   ·injection e with e1 _;rw[e1]
   ·exact nomatch e
  ·rcases jX hb with⟨j,u,rfl,e⟩ | ⟨y,u,rfl,e⟩
   ·exact nomatch e
   ·injection e with e1 _;rw[e1]
 byValue:=λk v h=>by
  rcases jX h with⟨i,t,rfl,rfl⟩ | ⟨x,t,rfl,rfl⟩<;>rfl
 pyHash:=λhv h=>by
  rcases jX hv with⟨i,t,rfl,rfl⟩ | ⟨x,t,rfl,rfl⟩
  ·exact wpAny_pyHash_int h
  ·exact wpAny_pyHash_str h
 eqBool:=λhu hv h=>by
  rcases jX hu with⟨i,t,rfl,rfl⟩ | ⟨x,t,rfl,rfl⟩
  ·rcases jX hv with⟨j,u,rfl,rfl⟩ | ⟨y,u,rfl,rfl⟩
   ·rw[CQ] at h;exact wpAny_eqBool_int h
   ·rw[CT] at h;exact SeqAt.EqAt.int_str i t y u _ _ _ _ h
  ·rcases jX hv with⟨j,u,rfl,rfl⟩ | ⟨y,u,rfl,rfl⟩
   ·rw[CU] at h;exact SeqAt.EqAt.str_int x t j u _ _ _ _ h
   ·rw[CS] at h;exact wpAny_eqBool_str h
 «strs»:=λk x t v h=>by
  rcases jX h with⟨i,u,rfl,e⟩ | ⟨y,u,rfl,e⟩
  ·exact nomatch e
  ·injection e with e1 _;subst e1;cases v<;>rfl
def dk(prog)(w)(i)(t):(bT prog w).is (.inl i) (.int i t)=true:=CO i t
def dl(prog)(w)(x)(t):(bT prog w).is (.inr x) (.str x t)=true:=CP x t
inductive V where
 | non | bl (b:Bool) | int (i:Int) | str (x:Str) | byt (b:Array UInt8) | flt (b:UInt64) | ref (a:Addr) | ty (n:String)
 deriving DecidableEq
def bN:V->Value->Prop
 | .non,u=>u=Value.none
 | .bl b,u=>u=Value.bool b
 | .int i,u=>∃ t,u=Value.int i t
 | .str x,u=>∃ t,u=Value.str x t
 | .byt b,u=>∃ t,u=Value.bytes b t
 | .flt b,u=>∃ t,u=Value.float b t
 | .ref a,u=>u=Value.ref a
 | .ty n,u=>u=Value.type n
abbrev bM:List V->List Value->Prop:=Paired bN
def bM.length(r:bM xs us):xs.length=us.length:=Paired.length r
theorem bM.get:∀{xs}{us}{i:Nat}{x},bM xs us->xs[i]?=some x->∃ u,us[i]?=some u/\bN x u
 | _,_,_,_,.nil,e=>by simp at e
 | _,_,0,_,.cons r _,e=>by simp at e;subst e;exact#v[_,rfl,r]
 | _,_,i+1,x,.cons _ t,e=>by
  let[u,a,b]:=bM.get t ⇑e;exact#v[u,by simpa using a,b]
theorem bM.set(r:bN x u):∀{xs}{us} i,bM xs us->bM (xs.set i x) (us.set i u)
 | _,_,_,.nil=>.nil
 | _,_,0,.cons _ t=>.cons r t
 | _,_,i+1,.cons q t=>.cons q<|bM.set r i t
def bM.append{xs ys}{us ws}(h:bM xs us)(s:bM ys ws):bM (xs++ys) (us++ws):=by
 induction h with
 | nil=>exact s
 | cons r _ a=>exact .cons r a
theorem bM.take:∀{xs}{us} n,bM xs us->bM (xs.take n) (us.take n)
 | _,_,0,_=>.nil
 | _,_,_+1,.nil=>.nil
 | _,_,n+1,.cons r t=>.cons r<|bM.take n t
theorem bM.drop:∀{xs}{us} n,bM xs us->bM (xs.drop n) (us.drop n)
 | _,_,0,r=>r
 | _,_,_+1,.nil=>.nil
 | _,_,n+1,.cons _ t=>bM.drop n t
def cQ:Option V->Option Value->Prop
 | some v,some u=>bN v u
 | none,none=>True
 | _,_=>False
def KV{s}:List (s×V)->List (s×Value)->Prop:=Paired λp q=>p.1=q.1/\bN p.2 q.2
def kV:cW->V
 | .inl i=>.int i
 | .inr x=>.str x
inductive HO where
  | lst (xs:List V)
  | tup (xs:List V)
  | dK (kvs:List (cW×V)) | dT (kvs:List (List cW×V))
  | set (S:Int->Bool) (n:Nat)
  | ins (C dx:Addr) (fs:List (Str×V))
  | own (x:Addr)
  | xd (fs:List (Str×V))
  | met (f x:Addr)
  | rng (lo hi:Int)
  | frz (o:Obj) (u:HO)
  | tbl (ps:Array Value)
  | ext (φ:Heap->Prop)
noncomputable abbrev Hp:=Addr->Option HO
def bO(H:Hp)(a:Addr)(o:HO):Hp:=λb=>if b=a then some o else H b
def jj:bO H a o a=some o:=by unfold bO;rw[if_pos rfl]
def je(h:b≠a):bO H a o b=H b:=by unfold bO;rw[if_neg h]
def tp:bO (bO H a o) a u=bO H a u:=by
 funext b;unfold bO;split<;>rfl
def kZ{H:Hp}{a b}{o}(h:H a=some o)(h':H b=none):a≠b:=by
 intro e;subst e;rw[h] at h';cases h'
def cM(h:Heap)(a:Addr)(its:Array Value):Prop:=IsTup h a its/\∃ o,h.get? a=some o/\o.dict=none
def cM.new(h:Heap)(its):cM (h.push {cls:=.type "tuple",data:=.seq its}) h.objs.size its:=#v[IsTup.new h its,_,E3 _ rfl,rfl]
def cM.lt(x:cM h a its):a<h.objs.size:=x.1.lt
section
variable (P:Program)(w:World)
def cj(H:Hp)(h:Heap)(a:Addr):HO->Prop
 | .lst xs=>xs.length<=sizeLine/\∃ its n,bM xs its/\h.get? a=some {cls:=.type "list",data:=.seq its.toArray n}
 | .tup xs=>xs.length<=sizeLine/\∃ its:List Value,bM xs its/\cM h a its.toArray
 | .dK kvs=>kvs.length<=sizeLine/\(a==sysModules)=false/\∃ vs,KV kvs vs/\h.DictOf (bT P w) a vs
 | .dT kvs=>kvs.length<=sizeLine/\(a==sysModules)=false/\∃ xs:List (List cW×Addr×Value),
   Paired (λp q=>p.1=q.1/\H q.2.1=some (.tup<|p.1.map kV)/\bN p.2 q.2.2) kvs xs /\
   ∃ o es ep,h.get? a=some o/\o.ExactDict/\o.data=.dict es ep/\es.toList=xs.map (entryOfKey<|tupleKind<|bT P w)/\(xs.map (·.1)).Nodup
 | .set S n=>h.SetOf (intKind P w) a S n
 | .ins C dx fs=>H dx=some (.own a)/\fs.length<=1000/\dx≠a/\h.get? a=some (PySem.W.instObj C dx) /\
   ∃ mA,h.Ns1 dx mA/\(∀ f,cQ (fs.lookup f)<|mA f)/\PySem.Within mA (fs.map (·.1))
 | .own _=>∃ o,h.get? a=some o
 | .xd fs=>∃ mA,h.Ns1 a mA/\∀ f,cQ (fs.lookup f)<|mA f
 | .rng lo hi=>∃ t u v,h.get? a=some {cls:=.type "range",data:=.fields #[.int lo t,.int hi u,.int 1 v]}
 | .frz o u=>h.get? a=some o/\cj H h a u
 | .tbl ps=>h.get? a=some {cls:=.none,data:=.fields ps}
 | .met f x=>h.get? a=some (PySem.W.methodObj (.ref f)<|.ref x)
 | .ext φ=>φ h/\(∃ o,h.get? a=some o)/\∀ h1 h2:Heap,φ h1->(∀ o,h1.get? a=some o->h2.get? a=some o)->φ h2
def c8(H:Hp)(h:Heap):Prop:=∀ a o,H a=some o->cj P w H h a o
end
section
variable {P:Program}{w:World}{H H':Hp}{h h':Heap}{a:Addr}{o:HO}
def cj.lt(x:cj P w H h a o):a<h.objs.size:=by
 cases o with
 | lst c=>let[_,_,_,_,e]:=x;exact N2 e
 | tup c=>let[_,_,_,p]:=x;exact p.lt
 | dK b=>let[_,_,_,_,o,_,_,e,_]:=x;exact N2 e
 | dT b=>let[_,_,_,_,o,_,_,e,_]:=x;exact N2 e
 | set S n=>let[o,_,_,_,e,_]:=x;exact N2 e
 | ins C d fs=>let[_,_,_,e,_]:=x;exact N2 e
 | own y=>let[_,e]:=x;exact N2 e
 | xd fs=>obtain⟨_,⟨_,_,_,e,_⟩,_⟩:=x;exact N2 e
 | rng lo hi=>let[_,_,_,e]:=x;exact N2 e
 | frz ob u=>let[e,_]:=x;exact N2 e
 | tbl g=>exact N2<|x
 | met f y=>exact N2<|x
 | ext φ=>obtain⟨_,⟨_,e⟩,_⟩:=x;exact N2 e
def Paired.mapP{c}{d}(h:Paired F c d)(f:∀ a b,F a b->G a b):Paired G c d:=by
 induction h with
 | nil=>exact .nil
 | cons r _ e=>exact .cons (f _ _ r) e
def cj.stay(x:cj P w H h a o)(k:∀ b u,(b=a\/H b=some (.own a))->h.get? b=some u->h'.get? b=some u)
  (B:∀ b,H b=some (.own a)->H' b=some (.own a)) (D:∀ b xs,H b=some (.tup xs)->H' b=some (.tup xs)):cj P w H' h' a o:=by
 induction o with
 | lst xs=>let[z,j,n,r,e]:=x;exact#v[z,j,n,r,k _ _ (.inl rfl) e]
 | tup xs=>obtain⟨z,j,r,⟨ob,e,c⟩,l,e2,E⟩:=x;exact#v[z,j,r,#v[ob,k _ _ (.inl rfl) e,c],l,k _ _ (.inl rfl) e2,E]
 | dK m=>let[z,y,vs,r,ob,g,i,e,c]:=x;exact#v[z,y,vs,r,ob,g,i,k _ _ (.inl rfl) e,c]
 | dT m=>
  let[z,y,xs,r,ob,g,i,e,c]:=x;exact#v[z,y,xs,Paired.mapP r λp q z=>#v[z.1,D _ _ z.2.1,z.2.2],ob,g,i,k _ _ (.inl rfl) e,c]
 | set S n=>let[ob,g,i,t,e,c]:=x;exact#v[ob,g,i,t,k _ _ (.inl rfl) e,c]
 | ins C G fs=>
  obtain⟨d,z,ne,e,s,⟨od,g,i,e2,c⟩,r⟩:=x;exact#v[B _ d,z,ne,k _ _ (.inl rfl) e,s,#v[od,g,i,k _ _ (.inr d) e2,c],r]
 | own y=>let[ob,e]:=x;exact#v[ob,k _ _ (.inl rfl) e]
 | xd fs=>obtain⟨s,⟨od,g,i,e,c⟩,r⟩:=x;exact#v[s,#v[od,g,i,k _ _ (.inl rfl) e,c],r]
 | rng lo hi=>let[t,u,v,e]:=x;exact#v[t,u,v,k _ _ (.inl rfl) e]
 | frz ob u F=>let[e,q]:=x;exact#v[k _ _ (.inl rfl) e,F q]
 | tbl I=>
  have e:=x;exact k a _ (.inl rfl) e
 | met f y=>
  have e:=x;exact k a _ (.inl rfl) e
 | ext φ=>obtain⟨p,⟨o,e⟩,A⟩:=x;exact#v[A _ _ p λo q=>k _ _ (.inl rfl) q,#v[o,k _ _ (.inl rfl) e],A]
def c8.lt(x:c8 P w H h)(e:H a=some o):a<h.objs.size:=(x a o e).lt
def c8.fresh(x:c8 P w H h)(e:h.objs.size<=a):H a=none:=by
 cases q:H a with
 | none=>rfl
 | some u=>exact absurd (U6 (x.lt q) e)<|Nat.lt_irrefl _
def c8.kept(x:c8 P w H h)(k:∀ b u,h.get? b=some u->h'.get? b=some u):c8 P w H h':=λa o e=>
 (x a o e).stay (λb u _ q=>k b u q) (λ_ q=>q) λ_ _ q=>q
def c8.laid(x:c8 P w H h)(k:∀ b u,h.get? b=some u->h'.get? b=some u)(g:h.objs.size<=a)(new:cj P w (bO H a o) h' a o):c8 P w (bO H a o) h':=λb u e=>by
 have d:=x.fresh g;by_cases f:b=a
 ·subst f;rw[jj] at e;cases e;exact new
 ·rw[je f] at e;exact(x b u e).stay (λc v _ q=>k c v q) (λc q=>by rw[je<|kZ q d];exact q) λc i q=>by rw[je<|kZ q d];exact q
end
def Rd(H:Hp)(a:Addr)(u:HO):Prop:=H a=some u \/ ∃ o,H a=some (.frz o u)
def Rd.ok(r:Rd H a u)(x:c8 P w H h):cj P w H h a u:=by
 rcases r with r | ⟨o,r⟩
 ·exact x a u r
 ·let[_,q]:=x a _ r;exact q
def lK:Option HO->Prop
 | some (.lst _)=>True
 | some (.dK _)=>True
 | some (.dT _)=>True
 | some (.set _ _)=>True
 | some (.ins _ _ _)=>True
 | some (.ext _)=>True
 | _=>False
section
variable {P:Program}{w:World}{H:Hp}{h h':Heap}{x e:Addr}{o':HO}
def c8.write(ok:c8 P w H h)(g:lK<|H x)(n:e=x\/H e=some (.own x))(k:∀ b u,b≠e->h.get? b=some u->h'.get? b=some u)(m:∃ u,h'.get? e=some u)
  (new:cj P w (bO H x o') h' x o'):c8 P w (bO H x o') h':=λb u q=>by
 have d:∀ c y,H c=some (.own y)->c≠x:=λc y r z=>by subst z;rw[r] at g;exact g
 have f:∀ c i,H c=some (.tup i)->c≠x:=λc i r z=>by subst z;rw[r] at g;exact g
 by_cases j:b=x
 ·subst j;rw[jj] at q;cases q;exact new
 ·rw[je j] at q;by_cases a:b=e
  ·have o:H b=some (.own x):=by
    rcases n with z | z
    ·exact absurd (a.trans z) j
    ·rw[a];exact z
   rw[q] at o;cases o;let[v,p]:=m;exact#v[v,by rw[a];exact p]
  ·refine(ok b u q).stay (λc v l r=>k c v ?_ r) (λc r=>by rw[je<|d c b r];exact r) λc i r=>by rw[je<|f c i r];exact r
   rcases l with rfl | l
   ·exact a
   ·rintro rfl;rcases n with z | z
    ·exact d c b l z
    ·rw[l] at z;cases z;exact j rfl
end
structure Un(fs ex:W5)(H H':Hp)(h h':Heap):Prop where
 keep:∀ b o,h.get? b=some o->H b=none->b∉fs->b∉ex->h'.get? b=some o
 slot:∀ b o,h.get? b=some o->H b=none->b∈fs->b∉ex->∃ sl,h'.get? b=some {o with slots:=sl}
 free:∀ b o,h.get? b=some o->H b=none->b∉ex->H' b=none
 there:∀ b o,h.get? b=some o->b∉ex->∃ o',h'.get? b=some o'
 tups:∀ b xs,H b=some (.tup xs)->H' b=some (.tup xs)
 frzs:∀ b o u,H b=some (.frz o u)->H' b=some (.frz o u)
 tbls:∀ b ps,H b=some (.tbl ps)->∃ more,H' b=some (.tbl<|ps++more)
section
variable {fs fs' ex ex':W5}{H H1 H2:Hp}{h h1 h2 h':Heap}{a x e:Addr}{o:HO}
def Un.any(u:Un fs ex H H1 h h1)  (q:h.get? b=some ob) (n:H b=none) (a:b∉ex):∃ sl,h1.get? b=some {ob with slots:=sl}:=by
 by_cases c:b∈fs
 ·exact u.slot b ob q n c a
 ·exact#v[ob.slots,u.keep b ob q n c a]
def Un.kept(k:∀ b u,h.get? b=some u->h'.get? b=some u):Un fs ex H H h h':=
 ⟨λb ob q _ _ _=>k b ob q,λb ob q _ _ _=>#v[ob.slots,k b ob q],λ_ _ _ n _=>n,λb ob q _=>#v[ob,k b ob q],λ_ _ q=>q,λ_ _ _ q=>q,λ_ a q=>#v[#[],by rw[q];simp]⟩
def Un.refl:Un fs ex H H h h:=Un.kept λ_ _ q=>q
def Un.laid(k:∀ b u,h.get? b=some u->h'.get? b=some u)(d:h.objs.size<=a)(c:H a=none):Un fs ex H (bO H a o) h h' where
 keep:=λb u q _ _ _=>k b u q
 slot:=λb u q _ _ _=>#v[u.slots,k b u q]
 free:=λb u q n _=>by rw[je<|N7<|U6 (N2 q) d];exact n
 there:=λb u q _=>#v[u,k b u q]
 tups:=λb e q=>by rw[je<|kZ q c];exact q
 frzs:=λb u e q=>by rw[je<|kZ q c];exact q
 tbls:=λb f q=>#v[#[],by rw[je<|kZ q c,q];simp]
def Un.write(c:lK<|H x)(j:e=x\/H e=some (.own x))(k:∀ b u,b≠e->h.get? b=some u->h'.get? b=some u)(d:∃ u,h'.get? e=some u):Un fs ex H (bO H x o) h h':=by
 have g:∀ b,H b=none->b≠x:=λb n z=>by subst z;rw[n] at c;exact c
 have i:∀ b,H b=none->b≠e:=λb n z=>by
  subst z;rcases j with r | r
  ·exact g b n r
  ·rw[n] at r;cases r
 have f:∀ b u,H b=some u->¬ lK (some u)->b≠x:=λb u q nm z=>by subst z;rw[q] at c;exact nm c
 refine#v[λb u q n _ _=>k b u (i b n) q,λb u q n _ _=>#v[u.slots,k b u (i b n) q],λb u q n _=>by rw[je<|g b n];exact n,λb u q _=>?_,
  λb l q=>by rw[je<|f b _ q λz=>z];exact q,λb u l q=>by rw[je<|f b _ q λz=>z];exact q,λb m q=>#v[#[],by rw[je<|f b _ q λz=>z,q];simp]]
 by_cases a:b=e
 ·subst a;exact d
 ·exact#v[u,k b u a q]
end
def m4(h:Heap)(H:Hp):List Addr:=(List.range h.objs.size).filter λa=>(H a).isSome
def iN(h:Heap)(H:Hp):Heap:=PySem.W.hideAll h<|m4 h H
def CV(e:h.get? b=some o)(n:H b=none):(iN h H).get? b=some o:=
 PySem.W.hideAll_get _ e λa=>by
  have q:=(List.mem_filter.mp a).2;rw[n] at q;simp at q
def CW(g h:Heap)(L:Addr):List (Addr×Obj):=(List.range h.objs.size).filterMap λa=>if a=L\/(g.get? a).isSome=true then none else(h.get? a).map λo=>(a,o)
def YL(g h:Heap)(L d:Addr):List (Addr×Obj):=(CW g h L).filter λp=>decide<|p.1≠d
structure Mod(K:W4)(mg:W6)(base:Heap):Prop where
 kin:K.In base
 glob:base.Ns mainGlobals mg
 blt:∃ mb,base.Ns builtinsNs mb/\∀ x:Str,x≠"__name__"->mb x=bootBuiltins x
 nolimit:base.NoLimit
structure Cx where
 prog:Program
 w:World
 K:PySem.W.Frag
 mg:Str->Option Value
 base:Heap
 A:Around
 N:List Str
 s₀:Shared
 H₀:Hp
 env:Env
 outer:List Env
 stack:List Env
 ex:List Addr
 fn:Str->Bool
 calm:Bool
 pn:List (Addr×Obj)
 xe:Value->Shared->Prop
def fN(l:List Env):List Addr:=l.filterMap (·.frame)
abbrev Cx.fs(X:Cx):List Addr:=fN X.outer
def lL(sc:Scope)(x:Str):Prop:=sc.names.lookup x=some .local\/sc.names.lookup x=some .cell\/sc.names.lookup x=some .free
def fC(sc:Scope)(x:Str):Prop:=sc.names.lookup x=some .local\/sc.names.lookup x=some .cell
def CY(env:Env)(h:Heap)(m:W6)(x:Str)(u:Value):Prop:=
 (env.kindOf x=some .local/\m x=some u)\/((env.kindOf x=some .cell\/env.kindOf x=some .free)/\∃ c,env.cells.lookup x=some c/\h.IsCell c (some u))
structure Cx.Ok(X:Cx):Prop where
 mod:Mod X.K X.mg X.base
 kind:X.env.scope.kind=.function
 glob:X.env.globals=mainGlobals
 blt:X.env.builtins=builtinsNs
 above:X.s₀.heap.objs.size<=X.env.locals
 inj:∀ x y c,X.env.cells.lookup x=some c->X.env.cells.lookup y=some c->x=y
 has:∀ x,(X.env.kindOf x=some .cell\/X.env.kindOf x=some .free)->∃ c,X.env.cells.lookup x=some c
 cab:∀ x c,X.fn x=true->X.env.cells.lookup x=some c->X.s₀.heap.objs.size<=c
 hd:X.calm=true->X.A.handled=none
 frames:X.A.frames=some X.stack
 stk:X.stack=X.outer\/(X.stack=X.env::X.outer/\X.env.frame=some X.env.locals)
 exf:∀ b∈X.ex,b≠X.env.locals/\∀ x c,X.env.cells.lookup x=some c->c≠b
 bs:∀ b o,X.base.get? b=some o->X.s₀.heap.get? b=some o/\X.H₀ b=none
 bsz:X.base.objs.size<=X.s₀.heap.objs.size
 noex:∀ b o,X.base.get? b=some o->b∉X.ex
 exfs:∀ b∈X.ex,b∉X.fs
 funs:X.s₀.heap.FunFrames X.base X.outer
 frf:∀ b∈X.fs,X.H₀ b=none
structure bL(X:Cx)(pins:W0)(y:List<|Option V)(H:Hp)(s:Shared):Prop where
 ok:X.Ok
 os:s.os=X.s₀.os
 bare:AllBare s.gens
 base:Un X.fs X.ex X.H₀ H X.s₀.heap s.heap
 loc:∃ m,s.heap.Ns X.env.locals m/\∀(i:Nat) (x:Str) (v:V),X.N[i]?=some x->y[i]?=some (some v)->lL X.env.scope x->∃ u,bN v u/\CY X.env s.heap m x u
 cell:∀ x c,X.env.cells.lookup x=some c->∃ v,s.heap.IsCell c v
 free:H X.env.locals=none
 freeC:∀ x c,X.env.cells.lookup x=some c->H c=none
 pin:∀ p∈X.pn++pins,s.heap.get? p.1=some p.2/\H p.1=none/\p.1≠X.env.locals/\p.1∉X.fs/\∀ v,p.2.data≠.cell v
 hok:c8 X.prog X.w H s.heap
 len:y.length=X.N.length
section
variable {X:Cx}{pins:List (Addr×Obj)}{σ:List (Option V)}{H H':Hp}{s:Shared}{h':Heap}
def Cx.Ok.nofr(ok:X.Ok)  {o}(e:X.base.get? b=some o):b∉X.fs:=λa=>by
 have:=(ok.funs.mem a).1;rw[e] at this;cases this
def bL.bs(I:bL X pins σ H s):∀ b o,X.base.get? b=some o->s.heap.get? b=some o/\H b=none:=λb o e=>
 ⟨I.base.keep b o (I.ok.bs b o e).1 (I.ok.bs b o e).2 (I.ok.nofr e) (I.ok.noex b o e),I.base.free b o (I.ok.bs b o e).1 (I.ok.bs b o e).2 (I.ok.noex b o e)⟩
def bL.bk(I:bL X pins σ H s):∀ b o,X.base.get? b=some o->s.heap.get? b=some o:=λb o e=>(I.bs b o e).1
def bL.mod(I:bL X pins σ H s):Mod X.K X.mg X.base:=I.ok.mod
def bL.kIn(I:bL X pins σ H s):X.K.In s.heap:=I.ok.mod.kin.keeps I.bk
def bL.lt(I:bL X pins σ H s):X.env.locals < ↥s:=let ⟨_,hn,_⟩:=I.loc;hn.lt
def bL.sz(I:bL X pins σ H s):X.s₀.heap.objs.size<=↥s:=N8 I.ok.above<|Nat.le_of_lt I.lt
def bL.nofs(I:bL X pins σ H s)  (h:↥s<=a):a∉X.fs:=λb=>by
 let[_,o,c,_]:=I.ok.funs.mem b;exact absurd (U6 (N2 c)<|N8 I.sz h)<|Nat.lt_irrefl _
def bL.cne(I:bL X pins σ H s):∀ x c,X.env.cells.lookup x=some c->c≠X.env.locals:=λx c e z=>by
 let[v,o,d,hd]:=I.cell x c e;obtain⟨m,⟨f,g,h,a,b,_⟩,_⟩:=I.loc;rw[z,a] at d;cases d;rw[b] at hd;cases hd
def bL.funs(I:bL X pins σ H s):s.heap.FunFrames X.base X.outer:=by
 have all:∀ l,(∀ b∈fN l,b∈X.fs)->X.s₀.heap.FunFrames X.base l->s.heap.FunFrames X.base l:=by
  intro l
  induction l with
  | nil=>intro _ _;trivial
  | cons env r g=>
   intro f h;obtain⟨i,⟨L,o,a,j,k,hd⟩,m⟩:=h;have c:=f L (by unfold fN;rw[List.filterMap_cons,a];exact L7);let[n,e]:=I.base.slot L o k (I.ok.frf L c) c λz=>I.ok.exfs L z c;exact#v[i,#v[L,_,a,j,e,hd],g (λb d=>f b<|by unfold fN;rw[List.filterMap_cons,a];exact L6 _ d) m]
 exact all X.outer (λ_ d=>d) I.ok.funs
def bL.stack(I:bL X pins σ H s):s.heap.FunFrames X.base X.stack:=by
 rcases I.ok.stk with e | ⟨e,a⟩
 ·rw[e];exact I.funs
 ·rw[e];let[m,b,_]:=I.loc;refine .cons (by rw[I.ok.kind];decide) a b ?_ I.funs;exact Heap.get?_none_of_le<|N8 I.ok.bsz I.ok.above
def bL.stkSub(I:bL X pins σ H s):∀ b∈fN X.stack,b∈X.env.locals::X.fs:=λb a=>by
 rcases I.ok.stk with e | ⟨e,c⟩
 ·rw[e] at a;exact L6 _ a
 ·rw[e] at a;unfold fN at a;rw[List.filterMap_cons,c] at a;exact a
def bL.stkFree(I:bL X pins σ H s):∀ b∈fN X.stack,H b=none:=λb a=>by
 rcases M5.mp (I.stkSub b a) with e | a
 ·rw[e];exact I.free
 ·let[_,o,c,_]:=I.ok.funs.mem a;exact I.base.free b o c (I.ok.frf b a) λz=>I.ok.exfs b z a
def bL.step{D}{t'}{ch:W5}(I:bL X pins σ H s)
  (f:∀ b∈ch,(b∈X.ex\/X.s₀.heap.objs.size<=b)/\b≠X.env.locals/\(∀ x c,X.env.cells.lookup x=some c->c≠b)/\∀ p∈X.pn++pins,p.1≠b)
  (keep:∀ b o,b≠X.env.locals->b∉X.fs->b∉ch->s.heap.get? b=some o->H b=none->h'.get? b=some o)
  (slot:∀ b o,b≠X.env.locals->b∈X.fs->b∉ch->s.heap.get? b=some o->H b=none->∃ sl,h'.get? b=some {o with slots:=sl}) (free:∀ b o,b∉ch->s.heap.get? b=some o->H b=none->H' b=none)
  (there:∀ b o,b∉ch->s.heap.get? b=some o->∃ o',h'.get? b=some o')
  (tups:∀ b xs,H b=some (.tup xs)->H' b=some (.tup xs)) (frzs:∀ b o u,H b=some (.frz o u)->H' b=some (.frz o u)) (tbls:∀ b ps,H b=some (.tbl ps)->∃ more,H' b=some (.tbl<|ps++more))
  (ns:∀ m,s.heap.Ns X.env.locals m->h'.Ns X.env.locals m) (hok:c8 X.prog X.w H' h') (J:AllBare D):
  bL X pins σ H' {s with heap:=h',gens:=D,drawn:=d',toks:=t'}:=by
 have B:∀ b o,X.s₀.heap.get? b=some o->b≠X.env.locals:=λb o e=>N7<|U6 (N2 e) I.ok.above;have j:∀ b o,X.s₀.heap.get? b=some o->b∉X.ex->b∉ch:=λb o e a y=>by
  rcases(f b y).1 with z | z
  ·exact a z
  ·exact absurd (U6 (N2 e) z)<|Nat.lt_irrefl _
 have g:∀ x c,X.env.cells.lookup x=some c->∀ v,s.heap.IsCell c v->h'.IsCell c v:=λx c e v ⟨o,A,hd⟩=>by
  have h:=λz=>(f c z).2.2.1 x c e rfl;by_cases E:c∈X.fs
  ·let[sl,q]:=slot c o (I.cne x c e) E h A<|I.freeC x c e;exact#v[_,q,hd]
  ·exact#v[o,keep c o (I.cne x c e) E h A<|I.freeC x c e,hd]
 refine#v[I.ok,I.os,J,#v[λb o e n y a=>(keep b o (B b o e) y (j b o e a) (I.base.keep b o e n y a)<|I.base.free b o e n a),λb o e n y a=>?_,λb o e n a=>?_,λb o e a=>?_,λb xs e=>tups b xs<|I.base.tups b xs e,λb o xs e=>frzs b o xs<|I.base.frzs b o xs e,λb ps e=>?_],?_,λx c e=>?_,?_,λx c e=>?_,λp F=>?_,hok,I.len]
 ·let[sl,t]:=I.base.slot b o e n y a;let[C,e2]:=slot b _ (B b o e) y (j b o e a) t<|I.base.free b o e n a;exact#v[C,e2]
 ·let[o',t]:=I.base.there b o e a;exact free b o' (j b o e a) t<|I.base.free b o e n a
 ·let[o',t]:=I.base.there b o e a;exact there b o' (j b o e a) t
 ·let[K,t]:=I.base.tbls b ps e;let[L,e2]:=tbls b _ t;exact#v[K++L,by rw[e2,Array.append_assoc]]
 ·let[m,M,N]:=I.loc;refine#v[m,ns m M,λi x v t e2 e3=>?_];let[u,r,l]:=N i x v t e2 e3;refine#v[u,r,?_];rcases l with l | ⟨k,c,e,z⟩
  ·exact .inl l
  ·exact .inr #v[k,c,e,g x c e _ z]
 ·let[v,z]:=I.cell x c e;exact#v[v,g x c e v z]
 ·obtain⟨m,⟨o,_,_,A,_⟩,_⟩:=I.loc;exact free _ o (λz=>(f _ z).2.1 rfl) A I.free
 ·let[v,o,A,hd]:=I.cell x c e;exact free c o (λz=>(f c z).2.2.1 x c e rfl) A<|I.freeC x c e
 ·let[e,n,ne,G,d]:=I.pin p F;have h:=λz=>(f p.1 z).2.2.2 p F rfl;exact#v[keep p.1 p.2 ne G h e n,free p.1 p.2 h e n,ne,G,d]
def bL.un{t'}(I:bL X pins σ H s)(u:Un X.fs [] H H' s.heap h')(hok:c8 X.prog X.w H' h'):bL X pins σ H' {s with heap:=h',toks:=t'}:=by
 obtain⟨m,⟨o,k,l,g,r⟩,_⟩:=id I.loc;let[p,h]:=u.any g I.free (by simp);exact I.step (ch:=[]) (λ_ z=>nomatch z) (λb o _ c _ e n=>u.keep b o e n c<|by simp) (λb o _ c _ e n=>u.slot b o e n c<|by simp) (λb o _ e n=>u.free b o e n<|by simp) (λb o _ e=>u.there b o e<|by simp) u.tups u.frzs u.tbls (λq i=>by
  let[t,d,f,a,j]:=i;rw[g] at a;cases a;exact#v[_,d,f,h,j]) hok I.bare
def bL.call{j}{t'}{ch}(I:bL X pins σ H s)(u:Un (fN X.stack) ch H H' s.heap h')(hok:c8 X.prog X.w H' h')(l:AllBare j)
  (d:∀ b∈ch,(b∈X.ex\/X.s₀.heap.objs.size<=b)/\b≠X.env.locals/\(∀ x c,X.env.cells.lookup x=some c->c≠b)/\∀ p∈X.pn++pins,p.1≠b):
  bL X pins σ H' {s with heap:=h',gens:=j,drawn:=d',toks:=t'}:=by
 obtain⟨m,⟨o,y,A,k,r⟩,_⟩:=id I.loc;let[B,g]:=u.any k I.free λz=>(d _ z).2.1 rfl;exact I.step d (λb o g q a e n=>u.keep b o e n (λz=>(M5.mp<|I.stkSub b z).elim g q) a) (λb o _ _ a e n=>u.any e n a) (λb o a e n=>u.free b o e n a) (λb o a e=>u.there b o e a) u.tups u.frzs u.tbls (λC t=>by
  let[D,h,i,f,v]:=t;rw[k] at f;cases f;exact#v[_,h,i,g,v]) hok l
def bL.turned{t'}(I:bL X pins σ H s)(k:∀ b o,b≠it->s.heap.get? b=some o->h'.get? b=some o)(g:H it=none)(f:it≠X.env.locals)
  (h1:it∈X.ex\/X.s₀.heap.objs.size<=it) (h2:∀ x c,X.env.cells.lookup x=some c->c≠it) (h:∀ p∈X.pn++pins,p.1≠it):bL X pins σ H {s with heap:=h',toks:=t'}:=by
 have d:∀ b u,H b=some u->b≠it:=λb u e z=>by rw[z,g] at e;cases e
 refine I.step (ch:=[it]) (λb i=>?_) (λb o _ _ a e _=>k b o (λz=>a<|by simp[z]) e) (λb o _ _ a e _=>#v[o.slots,k b o (λz=>a<|by simp[z]) e]) (λ_ _ _ _ n=>n)
  (λb o a e=>#v[o,k b o (λz=>a<|by simp[z]) e]) (λ_ _ e=>e) (λ_ _ _ e=>e) (λb y e=>#v[#[],by rw[e];simp]) (λm j=>?_) (λb u e=>?_) I.bare
 ·have e:b=it:=by simpa using i
  subst e;exact#v[h1,f,h2,h]
 ·let[o,l,t,w,r]:=j;exact#v[o,l,t,k _ o (Ne.symm f) w,r]
 ·refine(I.hok b u e).stay (λc v a q=>k c v ?_ q) (λ_ q=>q) λ_ _ q=>q;rcases a with z | z
  ·rw[z];exact d b u e
  ·exact d c _ z
def bL.tok(I:bL X pins σ H s)(t):bL X pins σ H {s with toks:=t}:=I.un Un.refl I.hok
def bL.kept(I:bL X pins σ H s)(k:∀ b u,s.heap.get? b=some u->h'.get? b=some u):bL X pins σ H {s with heap:=h',toks:=t'}:=I.un (Un.kept k)<|I.hok.kept k
def bL.laid(I:bL X pins σ H s)(k:∀ b u,s.heap.get? b=some u->h'.get? b=some u)(c:↥s<=a)(new:cj X.prog X.w (bO H a o) h' a o):
  bL X pins σ (bO H a o) {s with heap:=h',toks:=t'}:=I.un (Un.laid k c<|I.hok.fresh c)<|I.hok.laid k c new
def bL.write(I:bL X pins σ H s)(c:lK<|H x)(d:e=x\/H e=some (.own x))(k:∀ b u,b≠e->s.heap.get? b=some u->h'.get? b=some u)(a:∃ u,h'.get? e=some u)
  (new:cj X.prog X.w (bO H x o) h' x o):bL X pins σ (bO H x o) {s with heap:=h',toks:=t'}:=I.un (Un.write c d k a)<|I.hok.write c d k a new
def bL.pins_of(I:bL X pins σ H s)(h:∀ p∈pins',s.heap.get? p.1=some p.2/\H p.1=none/\p.1≠X.env.locals/\p.1∉X.fs/\∀ v,p.2.data≠.cell v):bL X pins' σ H s:=
 ⟨I.ok,I.os,I.bare,I.base,I.loc,I.cell,I.free,I.freeC,λp a=>(N3.mp a).elim (λz=>I.pin p<|List.mem_append_left _ z) (h p),I.hok,I.len⟩
def uT{N:List Str}(c:N.Nodup){i j:Nat}(a:N[i]?=some x)(b:N[j]?=some x):i=j:=by
 let[e,d]:=L9.mp a;let[f,e2]:=L9.mp b;exact(List.getElem_inj c).mp (d.trans e2.symm)
def CZ(I:bL X pins σ H s)(hN:X.N.Nodup)(hi:X.N[i]?=some x)(B:fC X.env.scope x)(r:bN v u)
  (h:∀ s',bL X pins (σ.set i<|some v) H s'->(∃ a,Heap.SameBut a s.heap s'.heap/\(a=X.env.locals\/X.env.cells.lookup x=some a))->Q () s') (hf:X.fn x=true\/X.env.scope.names.lookup x=some .local:=by first | exact .inl rfl | exact .inr rfl | assumption):wpAny M A (storeName X.env x u) Q E s:=by
 let[m,W,hl]:=id I.loc;have L:(X.env.scope.kind==.class||(X.env.scope.kind==.module&&X.env.locals != X.env.globals))=false:=by rw[I.ok.kind];rfl
 have O:i<σ.length:=by rw[I.len];exact(L9.mp hi).1
 have cne:=I.cne;have g:∀{a}{K},(∃ o,s.heap.get? a=some o/\H a=none)->Heap.SameBut a s.heap K->c8 X.prog X.w H K:=λ{a K} ha f b ob e=>by
  let[_,_,C]:=ha;refine(I.hok b ob e).stay (λc U t q=>(f.2 c ?_).trans q) (λ_ q=>q) λ_ _ q=>q;rintro rfl;rcases t with rfl | t
  ·rw[C] at e;cases e
  ·rw[C] at t;cases t
 rcases B with D | D
 ·refine wpAny_storeName_local D W (λK Y f=>?_) L;let[oL,_,_,Z,_]:=id W;refine h _ #v[I.ok,I.os,I.bare,#v[λb o e n F B=>((f.2 b<|N7<|U6 (N2 e) I.ok.above).trans (I.base.keep b o e n F B)),λb o e n F B=>?_,I.base.free,λb o e B=>?_,I.base.tups,I.base.frzs,I.base.tbls],#v[_,Y,λj y v' l e2 e3=>?_],λy c e=>?_,I.free,I.freeC,λp hp=>?_,g #v[oL,Z,I.free] f,by simpa using I.len] #v[_,f,.inl rfl]
  ·let[sl,l]:=I.base.slot b o e n F B;exact#v[sl,(f.2 b<|N7<|U6 (N2 e) I.ok.above).trans l]
  ·let[o',l]:=I.base.there b o e B;exact#v[o',(f.2 b<|N7<|U6 (N2 e) I.ok.above).trans l]
  ·by_cases G:j=i
   ·subst G;rw[hi] at l;cases l;rw[List.getElem?_set_self O] at e2;cases e2;exact#v[u,r,.inl #v[D,by simp]]
   ·rw[List.getElem?_set_ne<|Ne.symm G] at e2;let[u',r',q]:=hl j y v' l e2 e3;refine#v[u',r',?_];rcases q with⟨k,e⟩ | ⟨k,c,e,z⟩
    ·refine .inl #v[k,?_];have:y≠x:=λe=>G<|uT hN l<|e▸hi;simp[this,e]
    ·exact .inr #v[k,c,e,z.sameBut f<|cne y c e]
  ·let[U,z]:=I.cell y c e;exact#v[U,z.sameBut f<|cne y c e]
  ·let[e,n,ne,nf,d]:=I.pin p hp;exact#v[(f.2 p.1 ne).trans e,n,ne,nf,d]
 ·have J:X.fn x=true:=by
   rcases hf with z | z
   ·exact z
   ·rw[z] at D;cases D
  let[c,t]:=I.ok.has x<|.inl D;let[U,z]:=I.cell x c t;refine wpAny_storeName_cell I.ok.kind D t z<|λK P f=>?_;let[oc,R,S]:=id z;refine h {s with heap:=K} #v[I.ok,I.os,I.bare,#v[λb o e n F B=>((f.2 b<|N7<|U6 (N2 e)<|I.ok.cab x c J t).trans (I.base.keep b o e n F B)),λb o e n F B=>?_,I.base.free,λb o e B=>?_,I.base.tups,I.base.frzs,I.base.tbls],#v[m,W.sameBut f<|Ne.symm<|cne x c t,λj y v' l e2 e3=>?_],λy V e=>?_,I.free,I.freeC,λp hp=>?_,g #v[oc,R,I.freeC x c t] f,by simpa using I.len] #v[c,f,.inr t]
  ·let[sl,l]:=I.base.slot b o e n F B;exact#v[sl,(f.2 b<|N7<|U6 (N2 e)<|I.ok.cab x c J t).trans l]
  ·let[o',l]:=I.base.there b o e B;exact#v[o',(f.2 b<|N7<|U6 (N2 e)<|I.ok.cab x c J t).trans l]
  ·by_cases G:j=i
   ·subst G;rw[hi] at l;cases l;rw[List.getElem?_set_self O] at e2;cases e2;exact#v[u,r,.inr #v[.inl D,c,t,P]]
   ·rw[List.getElem?_set_ne<|Ne.symm G] at e2;let[u',r',q]:=hl j y v' l e2 e3;refine#v[u',r',?_];rcases q with q | ⟨k,V,e,z'⟩
    ·exact .inl q
    ·refine .inr #v[k,V,e,z'.sameBut f ?_];rintro rfl;exact G<|uT hN l<|I.ok.inj _ _ _ e t▸hi
  ·by_cases T:V=c
   ·subst T;exact#v[_,P]
   ·let[w2,z2]:=I.cell y V e;exact#v[w2,z2.sameBut f T]
  ·let[e,n,ne,nf,d]:=I.pin p hp;refine#v[(f.2 p.1 ?_).trans e,n,ne,nf,d];intro q;rw[q,R] at e;exact d U (by rw[<- (X8 e)];exact S)
def Va(I:bL X pins σ H s)(a:X.N.Nodup)(hi:X.N[i]?=some x)(b:fC X.env.scope x)(r:bN v u)
  (h:∀ s',bL X pins (σ.set i<|some v) H s'->Q () s') (c:X.fn x=true\/X.env.scope.names.lookup x=some .local:=by first | exact .inl rfl | exact .inr rfl | assumption):wpAny M A (storeName X.env x u) Q E s:=
 CZ I a hi b r (λs' d _=>h s' d) c
end
abbrev XK:=Value->Option Addr->Hp->Prop
noncomputable abbrev St:=List<|Option V
abbrev VK:=V->Hp->Prop
abbrev TE:=St->Hp->VK->Prop
abbrev TT:=St->Hp->(Bool->Hp->Prop)->Prop
abbrev TA:=St->Hp->(List V->Hp->Prop)->Prop
structure ig where
 nx:St->Hp->Prop
 rt:VK
 bk:St->Hp->Prop:=λ_ _=>False
 ct:St->Hp->Prop:=λ_ _=>False
abbrev TS:=ig->St->Hp->Prop
def EP(X:Cx)(pins:W0)(s:St)(Q:VK)(u:Value)(s':Shared):Prop:=∃ v H',bL X pins s H' s'/\bN v u/\Q v H'
def TP(X:Cx)(pins:W0)(s:St)(Q:Bool->Hp->Prop)(b:Bool)(s':Shared):Prop:=∃ H',bL X pins s H' s'/\Q b H'
def AP(X:Cx)(pins:W0)(s:St)(Q:List V->Hp->Prop)(us:List Value)(s':Shared):Prop:=∃ vs H',bL X pins s H' s'/\bM vs us/\Q vs H'
def SP(X:Cx)(pins:W0)(D:ig)(f:Flow)(s':Shared):Prop:=
 match f with
 | .next=>∃ σ' H',bL X pins σ' H' s'/\D.nx σ' H'
 | .brk=>∃ σ' H',bL X pins σ' H' s'/\D.bk σ' H'
 | .cont=>∃ σ' H',bL X pins σ' H' s'/\D.ct σ' H'
 | .ret u=>∃ v σ' H',bL X pins σ' H' s'/\bN v u/\D.rt v H'
def PE(X:Cx)(e:Expr)(t:TE):Prop:=
 ∀ pins s (u:St) H Q,bL X pins u H s->t u H Q->wpAny (model X.prog X.w) X.A (eval e X.env) (EP X pins u Q) X.xe s
def PT(X:Cx)(e:Expr)(t:TT):Prop:=
 ∀ pins s (u:St) H (Q:Bool->Hp->Prop),bL X pins u H s->t u H Q->wpAny (model X.prog X.w) X.A (isTrue e X.env<|eval e X.env) (TP X pins u Q) X.xe s
def PW(X:Cx)(e:Expr)(t:TT):Prop:=
 ∀ whole pins s (u:St) H (Q:Bool->Hp->Prop),bL X pins u H s->t u H Q->wpAny (model X.prog X.w) X.A (isTrue e X.env whole) (TP X pins u Q) X.xe s
def PW.pt(h:PW X e t):PT X e t:=h _
def PA(X:Cx)(es:List Expr)(t:TA):Prop:=
 ∀ pos pins s (u:St) H (Q:List V->Hp->Prop),bL X pins u H s->t u H Q->wpAny (model X.prog X.w) X.A (spliced<|backTo pos<|starEach es X.env) (AP X pins u Q) X.xe s
def PS(X:Cx)(st:Stmt)(t:TS):Prop:=
 ∀ pins s (u:St) H D,bL X pins u H s->t D u H->wpAny (model X.prog X.w) X.A (exec st X.env) (SP X pins D) X.xe s
def fD(X:Cx)(st:List Stmt)(t:TS):Prop:=
 ∀ pins s (u:St) H D,bL X pins u H s->t D u H->wpAny (model X.prog X.w) X.A (execs st X.env) (SP X pins D) X.xe s
def thn(h:wpAny M A t Q E s)(b:∀ a s,Q a s->Q' a s):wpAny M A t Q' E s:=wpAny_mono h b λ_ _ x=>x
section
variable {X:Cx}
def yj(i:Nat):TE:=λs H Q=>∃ v,s[i]?=some (some v)/\Q v H
def tC(v:V):TE:=λ_ H Q=>Q v H
abbrev Nd(x:Str):Prop:=(x==("__debug__" : Str))=false
def tq(k:X.N[i]?=some x)(n:lL X.env.scope x)(hd:Nd x:=by decide)(g:(x==("__classdict__" : Str))=false:=by decide):PE X (.Name x pos) (yj i):=by
 intro f s w H Q I h;let[v,e,h]:=h;let[m,o,p]:=I.loc;let[u,r,l]:=p i x v k e n;have b:EP X f w Q u s:=#v[v,H,I,r,h];rcases l with⟨d,q⟩ | ⟨d,c,j,a⟩
 ·exact wpAny_Name (wpAny_loadName_local I.ok.kind d o q b) hd
 ·rcases d with d | d
  ·exact wpAny_Name (wpAny_loadName_cell I.ok.kind d j a b) hd
  ·exact wpAny_Name (wpAny_loadName_free I.ok.kind d j a b g) hd
def Gl(X:Cx)(x:Str):Prop:=X.env.kindOf x=some .globalImplicit
def Qt(I:bL X pins v H s)(a:Gl X x)(b:X.mg x=some u)(h:Q u s)
  (hd:Nd x:=by decide):wpAny (model X.prog X.w) X.A (eval (.Name x pos) X.env) Q E s:=
 Calls.Name_function_global I.ok.kind a (Calls.loadGlobal_global (by rw[I.ok.glob];exact I.mod.glob.keeps I.bk) b h) hd
def qX(I:bL X pins v H s)(a:Gl X x)(b:X.mg x=none)(c:bootBuiltins x=some u)(h:Q u s)
  (d:x≠"__name__":=by decide) (hd:Nd x:=by decide):wpAny (model X.prog X.w) X.A (eval (.Name x pos) X.env) Q E s:=by
 let[g,e,f]:=I.mod.blt;exact Calls.Name_function_global I.ok.kind a (Calls.loadGlobal_builtin (by rw[I.ok.glob];exact I.mod.glob.keeps I.bk) b (by rw[I.ok.blt];exact e.keeps I.bk) ((f x d).trans c) h) hd
variable {a b:Expr}{ta tb:TE}{pos:Pos}
def PC(X:Cx)(op:CmpOp)(a b:Expr)(t:TE):Prop:=
 ∀ pins s (x:St) H Q,bL X pins x H s->t x H Q ->
  wpAny (model X.prog X.w) X.A (eval a X.env) (λv s₁=>wpAny (model X.prog X.w) X.A (eval b X.env) (λu s₂=>wpAny (model X.prog X.w) X.A (compareOp op v u) (EP X pins x Q) X.xe s₂) X.xe s₁) X.xe s
def tB(t:TE):TT:=λs H Q=>t s H λx H1=>∃ c,x=.bl c/\Q c H1
variable {tA tB':TT}{YL:List Expr}
def C1(t u:TT):TT:=λs H Q=>t s H λc H1=>if c=true then u s H1 Q else Q false H1
def oV(t u:TT):TT:=λs H Q=>t s H λc H1=>if c=true then Q true H1 else u s H1 Q
def C2(t:TT):TT:=λs H Q=>t s H λc H1=>Q (!c) H1
def tw(d:PT X a tA):PW X (.BoolOp .Or [a] pos) tA:=by
 intro f b s u H Q I h;refine isTrue_or<|thn (d b s u H Q I h) λc s1 e=>?_;cases c with
 | false=>exact isTrue_or_nil e
 | true=>exact e
def tz(i:PT X a tA)(j:PW X (.BoolOp .Or (b::YL) pos) tB'):PW X (.BoolOp .Or (a::b::YL) pos) (oV tA tB'):=by
 intro k d s u H Q I h;refine isTrue_or<|thn (i d s u H _ I h) λc s1 ⟨e,f,g⟩=>?_;cases c with
 | true=>exact#v[e,f,g]
 | false=>exact j k d s1 u e Q f g
def C3(ta tb:TE):TE:=λs H Q=>ta s H λx H1=>∃ c,x=.bl c/\if c=true then tb s H1 Q else Q (.bl false) H1
def C4(ta:TE):TE:=λs H Q=>ta s H λx H1=>∃ c,x=.bl c/\Q (.bl<|!c) H1
def C5(t:TT)(ta tb:TE):TE:=λs H Q=>t s H λc H1=>if c=true then ta s H1 Q else tb s H1 Q
end
def ck(K:W4)(H:Hp)(a:Addr)(xs:List V):Prop:=
 Rd H a (.lst xs) \/
  ∃ o its n,K.lookup a=some o/\o.cls=.type "list"/\o.dict=none/\o.data=.seq its n/\its.size<=sizeLine/\bM xs its.toList
def cJ(K:W4)(H:Hp)(a:Addr)(xs:List V):Prop:=
 Rd H a (.tup xs) \/
  ∃ o its n,K.lookup a=some o/\o.cls=.type "tuple"/\o.data=.seq its n/\its.size<=sizeLine/\bM xs its.toList
def C6:Value->Option V
 | .none=>some .non
 | .bool b=>some<|.bl b
 | .int i _=>some<|.int i
 | .str x _=>some<|.str x
 | .bytes b _=>some<|.byt b
 | .float b _=>some<|.flt b
 | .ref a=>some<|.ref a
 | .type n=>some<|.ty n
 | _=>none
def bN.abs(r:bN x u):C6 u=some x:=by
 cases x with
 | non=>cases r;rfl
 | bl _=>cases r;rfl
 | int _=>let[t,rfl]:=r;rfl
 | str _=>let[t,rfl]:=r;rfl
 | byt _=>let[t,rfl]:=r;rfl
 | flt _=>let[t,rfl]:=r;rfl
 | ref _=>cases r;rfl
 | ty _=>cases r;rfl
def bN.inj(r:bN x u)(q:bN y u):x=y:=X8<|r.abs.symm.trans q.abs
def bM.inj{xs ys}{us}(h:bM xs us)(k:bM ys us):xs=ys:=by
 induction h generalizing ys with
 | nil=>cases k;rfl
 | cons r t a=>cases k with
  | cons b c=>rw[r.inj b,a c]
section
variable {X:Cx}{pins:List (Addr×Obj)}{u:St}{H:Hp}{s:Shared}{a:Addr}{xs ys:List V}
def ck.of{K}(h:H a=some (.lst xs)):ck K H a xs:=.inl<|.inl h
def cJ.of{K}(h:H a=some (.tup xs)):cJ K H a xs:=.inl<|.inl h
def bL.list(I:bL X pins u H s)(h:ck X.K H a xs):∃(its:List Value),cX (bM xs its) (PlainL s.heap a its.toArray) (xs.length<=sizeLine):=by
 rcases h with h | ⟨o,its,n,b,c,hd,d,f,r⟩
 ·let[z,its,n,r,e]:=h.ok I.hok;exact#v[its,r,#v[_,n,e,rfl,rfl,rfl],z]
 ·refine#v[its.toList,r,#v[o,n,I.kIn a o b,c,hd,by simpa using d],?_];have e:=r.length;simp only[Array.length_toList] at e
  lia
def bL.tuple(I:bL X pins u H s)(h:cJ X.K H a xs):∃(its:List Value),cX (bM xs its) (IsTup s.heap a its.toArray) (xs.length<=sizeLine):=by
 rcases h with h | ⟨o,its,n,b,c,d,f,r⟩
 ·let[z,its,r,p]:=h.ok I.hok;exact#v[its,r,p.1,z]
 ·refine#v[its.toList,r,#v[o,I.kIn a o b,c,n,by simpa using d],?_];have e:=r.length;simp only[Array.length_toList] at e
  lia
def bL.list_inj(I:bL X pins u H s)(h:ck X.K H a xs)(h':ck X.K H a ys):xs=ys:=by
 obtain⟨c,r,⟨o,n,e,_,_,d⟩,_⟩:=I.list h;obtain⟨b,i,⟨j,k,f,_,_,g⟩,_⟩:=I.list h';rw[e] at f;cases f;rw[d] at g;injection g with d1 _;have:c=b:=by simpa using congrArg Array.toList d1
 subst this;exact r.inj i
def bL.tuple_inj(I:bL X pins u H s)(h:cJ X.K H a xs)(h':cJ X.K H a ys):xs=ys:=by
 obtain⟨c,r,⟨o,e,_,n,d⟩,_⟩:=I.tuple h;obtain⟨b,i,⟨j,f,_,k,g⟩,_⟩:=I.tuple h';rw[e] at f;cases f;rw[d] at g;injection g with d1 _;have:c=b:=by simpa using congrArg Array.toList d1
 subst this;exact r.inj i
end
noncomputable abbrev Cx.wish(X:Cx)(E:J0):Cx:={X with xe:=E}
noncomputable abbrev Cx.nox(X:Cx):Cx:=X.wish λ_ _=>False
def Cx.Ok.wish{X:Cx}(ok:X.Ok)(E):(X.wish E).Ok:=
 ⟨ok.mod,ok.kind,ok.glob,ok.blt,ok.above,ok.inj,ok.has,ok.cab,ok.hd,ok.frames,ok.stk,ok.exf,ok.bs,ok.bsz,ok.noex,ok.exfs,ok.funs,ok.frf⟩
def Cx.Ok.unwish{X:Cx}{E}(ok:(X.wish E).Ok):X.Ok:=
 ⟨ok.mod,ok.kind,ok.glob,ok.blt,ok.above,ok.inj,ok.has,ok.cab,ok.hd,ok.frames,ok.stk,ok.exf,ok.bs,ok.bsz,ok.noex,ok.exfs,ok.funs,ok.frf⟩
section
variable {X:Cx}{pins:List (Addr×Obj)}{w:St}{H:Hp}{s:Shared}{E:J0}
def bL.wish(I:bL X pins w H s)(E):bL (X.wish E) pins w H s:=#v[I.ok.wish E,I.os,I.bare,I.base,I.loc,I.cell,I.free,I.freeC,I.pin,I.hok,I.len]
def bL.unwish(I:bL (X.wish E) pins w H s):bL X pins w H s:=#v[I.ok.unwish,I.os,I.bare,I.base,I.loc,I.cell,I.free,I.freeC,I.pin,I.hok,I.len]
def SP.unwish(h:SP (X.wish E) pins D f s'):SP X pins D f s':=by
 cases f with
 | next=>let[a,b,I,q]:=h;exact#v[a,b,I.unwish,q]
 | brk=>let[a,b,I,q]:=h;exact#v[a,b,I.unwish,q]
 | cont=>let[a,b,I,q]:=h;exact#v[a,b,I.unwish,q]
 | ret u=>let[v,a,b,I,r,q]:=h;exact#v[v,a,b,I.unwish,r,q]
def fD.nox{st}{t}(h:fD X.nox st t):fD X st t:=λa s w H D I b=>
 wpAny_mono (h a s w H D (I.wish _) b) (λ_ _ q=>q.unwish) λ_ _ z=>False.elim z
end
section
variable {X:Cx}{st:Stmt}{YL:List Stmt}{t u:TS}{e:Expr}{te:TE}{pos:Pos}
def C7:TS:=λD s H=>D.nx s H
def oW(t u:TS):TS:=λD s H=>t {D with nx:=u D} s H
def C8(h1:PS X st t)(h2:fD X YL u):fD X (st::YL) (oW t u):=by
 intro a s w H D I h;refine wpAny_execs_cons<|thn (h1 a s w H {D with nx:=u D} I h) λf s1 q=>?_;cases f with
 | next=>
  let[b,c,d,q]:=q;exact h2 a s1 b c D d q
 | ret v=>exact q
 | brk=>exact q
 | cont=>exact q
def C9(h1:PS X st t):fD X [st] t:=by
 intro a s w H D I h;refine wpAny_execs_cons<|thn (h1 a s w H D I h) λf s1 q=>?_;cases f with
 | next=>exact wpAny_execs_nil q
 | ret v=>exact q
 | brk=>exact q
 | cont=>exact q
def bL.quiet(I:bL X pins v H s):interactive X.env=false:=by simp[interactive,I.ok.kind]
def Yc(te:TE):TS:=λD s H=>te s H λ_ H1=>D.nx s H1
def Ym(b:PE X e te)(c:swapsWith e none pos.line X.env=pure false:=by rfl):PS X (.Expr e pos) (Yc te):=by
 intro a s w H D I h;exact wpAny_Expr_any (thn (b a s w H _ I h) λv s1 ⟨x,d,f,r1,g⟩=>#v[w,d,f,g]) I.quiet c
def oX(te:TE):TS:=λD s H=>te s H D.rt
def C'(b:PE X e te):PS X (.Return (some e) pos) (oX te):=by
 intro a s w H D I h;exact wpAny_Return_some<|thn (b a s w H _ I h) λv s1 ⟨x,c,d,r1,f⟩=>#v[x,w,c,d,r1,f]
def m5(c:TT)(t u:TS):TS:=λD s H=>c s H λb H1=>if b=true then t D s H1 else u D s H1
def tD(j:PT X c tc)(k:fD X a t)(l:fD X b u):PS X (.If c a b pos) (m5 tc t u):=by
 intro e s v H D I h;refine wpAny_If<|thn (j e s v H _ I h) λd s1 ⟨f,g,i⟩=>?_;cases d with
 | true=>exact k e s1 v f D g i
 | false=>exact l e s1 v f D g i
end
abbrev TG:=V->St->Hp->(St->Hp->Prop)->Prop
abbrev ii:=List V->St->Hp->(St->Hp->Prop)->Prop
def PG(X:Cx)(target:Expr)(t:TG):Prop:=
 ∀ pins s (x:St) H v u (Q:St->Hp->Prop),bL X pins x H s->bN v u->t v x H Q ->
  wpAny (model X.prog X.w) X.A (assign target X.env u) (λ_ s'=>∃ σ' H',bL X pins σ' H' s'/\Q σ' H') X.xe s
def C_(X:Cx)(ts:List Expr)(t:ii):Prop:=
 ∀ pins s (u:St) H vs us (Q:St->Hp->Prop),bL X pins u H s->bM vs us->t vs u H Q ->
  wpAny (model X.prog X.w) X.A (assignInOrder ((assignEach ts X.env).map (·.2)) us) (λ_ s'=>∃ σ' H',bL X pins σ' H' s'/\Q σ' H') X.xe s
abbrev oY:=V->V->V->Hp->(Hp->Prop)->Prop
def tE(X:Cx)(t:oY):Prop:=
 ∀ pins s (x:St) H o i v ov iv u Q,bL X pins x H s->bN o ov->bN i iv->bN v u->t o i v H Q ->
  wpAny (model X.prog X.w) X.A (setItem ov iv u) (λ_ s'=>∃ H',bL X pins x H' s'/\Q H') X.xe s
abbrev m6:=V->V->Hp->VK->Prop
def iO(X:Cx)(op:Operator)(t:m6):Prop:=
 ∀ pins s (z:St) H x y v u Q,bL X pins z H s->bN x v->bN y u->t x y H Q ->
  wpAny (model X.prog X.w) X.A (inplaceOp op v u) (EP X pins z Q) X.xe s
section
variable {X:Cx}{pos:Pos}
def vJ(i:Nat):TG:=λv s H Q=>Q (s.set i<|some v) H
def tF(b:X.N.Nodup)(hi:X.N[i]?=some x)(c:fC X.env.scope x)(d:X.fn x=true\/X.env.scope.names.lookup x=some .local:=by first | exact .inl rfl | exact .inr rfl | assumption):PG X (.Name x pos) (vJ i):=by
 intro a s w H v u Q I r h;exact wpAny_assign_Name<|Va I b hi c r (λf e=>#v[_,H,e,h]) d
def ge:ii:=λvs s H Q=>vs=[]/\Q s H
def JL(t:TG)(u:ii):ii:=λvs s H Q=>∃ v r,vs=v::r/\t v s H λσ' H'=>u r σ' H' Q
def f0(K:W4)(n:Nat)(t:ii):TG:=λv s H Q=>∃ a xs,v=.ref a/\cJ K H a xs/\xs.length=n/\t xs s H Q
def tG(to ti:TE)(t:oY):TG:=λv s H Q=>to s H λo H1=>ti s H1 λi H2=>t o i v H2 λH3=>Q s H3
def gH(te:TE)(g:TG):TS:=λD s H=>te s H λx H1=>g x s H1 D.nx
def Da(b:PE X e te)(c:PG X tg g)(d:swapsWithSole [tg] e pos.line X.env=pure false:=by rfl)(f:swappedStores [tg] e X.env=pure none:=by rfl)
  (h1:(assignEach [tg] X.env).map (·.2)=[assign tg X.env]:=by rfl):PS X (.Assign [tg] e pos) (gH te g):=by
 intro a s u H D I h;refine wpAny_Assign_stores (thn (b a s u H _ I h) λv s1 i=>?_) d f;let[x,j,k,r1,l]:=i;rw[h1];exact thn (c a s1 u j x v _ k r1 l) λ_ s2 q=>q
def Db(b:X.N.Nodup)(hi:X.N[i]?=some x)(c:fC X.env.scope x)(d:PE X e te)(f:swapsWith e (some<|.Name x pos') pos.line X.env=pure false:=by rfl)(g:X.fn x=true\/X.env.scope.names.lookup x=some .local:=by first | exact .inl rfl | exact .inr rfl | assumption):
  PS X (.Assign [.Name x pos'] e pos) (gH te<|vJ i):=by
 intro a s u H D I h;refine wpAny_Assign_Name (thn (d a s u H _ I h) λv s1 j=>?_) f;let[y,k,l,r1,m]:=j;exact Va l b hi c r1 (λs2 n=>#v[_,k,n,m]) g
def tH(i:Nat)(te:TE)(ti:m6):TS:=λD s H=>∃ x,s[i]?=some (some x)/\te s H λy H1=>ti x y H1 λz H2=>D.nx (s.set i<|some z) H2
def Dc(n:X.N.Nodup)(hi:X.N[i]?=some x)(f:fC X.env.scope x)(o:PE X e te)(p:iO X op ti)(q:X.fn x=true\/X.env.scope.names.lookup x=some .local:=by first | exact .inl rfl | exact .inr rfl | assumption):
  PS X (.AugAssign (.Name x pos') op e pos) (tH i te ti):=by
 intro a s W H D I h;let[v,t,h]:=h;let[m,B,C]:=I.loc;have g:lL X.env.scope x:=by rcases f with k | k;exact .inl k;exact .inr<|.inl k
 let[u,r,l]:=C i x v hi t g;refine wpAny_AugAssign_Name ?_;have go:wpAny (model X.prog X.w) X.A (eval e X.env) (λw E=>wpAny (model X.prog X.w) X.A (inplaceOp op u w) (λr F=>wpAny (model X.prog X.w) X.A (storeName X.env x r) (λ_=>SP X a D .next) X.xe F) X.xe E) X.xe s:=by
  refine thn (o a s W H _ I h) λw s1 j=>?_;let[y,G,J,r1,K]:=j;refine thn (p a s1 W G v y u w _ J r r1 K) λz s2 j=>?_;let[T,L,M,O,P]:=j;exact Va M n hi f O (λU Q=>#v[_,L,Q,P]) q
 rcases l with⟨b,R⟩ | ⟨b,c,S,d⟩
 ·exact wpAny_loadName_local I.ok.kind b B R go
 ·rcases b with b | b
  ·exact wpAny_loadName_cell I.ok.kind b S d go
  ·rcases f with k | k
   ·have:X.env.scope.names.lookup x=some .free:=b;rw[k] at this;cases this
   ·have:X.env.scope.names.lookup x=some .free:=b;rw[k] at this;cases this
def tI(to ti te:TE)(tget:V->V->Hp->VK->Prop)(tip:m6)(tset:oY):TS:=λD s H=>to s H λo H1=>ti s H1 λi H2=>tget o i H2 λx H3=>te s H3 λy H4=>tip x y H4 λz H5=>tset o i z H5 λH6=>D.nx s H6
def tJ(X:Cx)(t:V->V->Hp->VK->Prop):Prop:=
 ∀ pins s (u:St) H o i ov iv Q,bL X pins u H s->bN o ov->bN i iv->t o i H Q ->
  wpAny (model X.prog X.w) X.A (getItem ov iv) (EP X pins u Q) X.xe s
def Dd(j:PE X o to)(hi:PE X i ti)(k:tJ X tget)(l:PE X e te)(m:iO X op tip)(n:tE X tset)
  (p:∀ ov iv new,augStore i ov iv new=(do holding [new,ov,iv] (setItem ov iv new);release [new,ov,iv] [];pure .next):=by intros;rfl):PS X (.AugAssign (.Subscript o i tpos) op e pos) (tI to ti te tget tip tset):=by
 intro a s Y H D I h;refine wpAny_AugAssign_SubscriptAny (thn (j a s Y H _ I h) λov s1 b=>?_) p;let[d,q,r,r1,t]:=b;refine thn (hi a s1 Y q _ r t) λiv s2 b=>?_;let[f,u,w,g,x]:=b;refine thn (k a s2 Y u d f ov iv _ w r1 g x) λc y b=>?_;let[z,A,B,C,E]:=b;refine thn (l a y Y A _ B E) λv F b=>?_;let[G,J,K,L,M]:=b;refine thn (m a F Y J z G c v _ K C L M) λnew N b=>?_;let[O,P,Q,R,S]:=b;exact thn (n a N Y P d f O ov iv new _ Q r1 g R S) λ_ W ⟨T,U,V⟩=>#v[Y,T,U,V]
def iP(f:Int->Int->Int):m6:=λx y H Q=>∃ i j,x=.int i/\y=.int j/\Q (.int<|f i j) H
def De:iO X .Add (iP λi j=>i+j):=by
 intro a s w H x y v u Q I r1 b h;let[i,j,c,e2,q]:=h;subst c;subst e2;let[t,rfl]:=r1;let[d,rfl]:=b;exact iadd_int #v[.int _,H,I.tok _,#v[_,rfl],q]
def Df:iO X .Sub (iP λi j=>i-j):=by
 intro a s w H x y v u Q I r1 b h;let[i,j,c,e2,q]:=h;subst c;subst e2;let[t,rfl]:=r1;let[d,rfl]:=b;exact isub_int #v[.int _,H,I.tok _,#v[_,rfl],q]
end
structure It where
 go:Nat->Hp->Prop
 yld:Nat->Hp->V->Hp->Prop
 stop:Nat->Hp->Prop
def uw(X:Cx)(pins:W0)(H:Hp)(b:Addr):Prop:=
 H b=none/\b≠X.env.locals/\b∉X.fs/\(b∈X.ex\/X.s₀.heap.objs.size<=b)/\(∀ x c,X.env.cells.lookup x=some c->c≠b)/\∀ p∈X.pn++pins,p.1≠b
def bL.fpOk(I:bL X pins u H s)(a:↥s<=b)(d:H' b=none):uw X pins H' b:=by
 refine#v[d,Nat.ne_of_gt<|U6 I.lt a,I.nofs a,.inr<|N8 I.sz a,λx c e z=>?_,λp f z=>?_]
 ·let[v,q]:=I.cell x c e;exact absurd (U6 q.lt<|by rw[z];exact a)<|Nat.lt_irrefl _
 ·exact absurd (U6 (N2 (I.pin p f).1)<|by rw[z];exact a)<|Nat.lt_irrefl _
structure dG(P:Program)(w:World)(K:W4)(tg:Expr)(J:It)(fp:W5)(it:Addr)(tn:Nat->Heap->Prop):Prop where
 mem:it∈fp
 obj:∀ i h,tn i h->∀ b∈fp,∃ o,h.get? b=some o/\∀ v,o.data≠.cell v
 keep:∀ i h h',tn i h->(∀ b∈fp,∀ o,h.get? b=some o->h'.get? b=some o)->tn i h'
 item:∀(X:Cx),X.prog=P->X.w=w->X.K=K->X.calm=true->∀(i:Nat) (pins:W0) (s:Shared) (y:St) (H:Hp) (E:J0),bL X pins y H s->(∀ b∈fp,uw X pins H b)->tn i s.heap->J.go i H ->
  wpAny (model P w) X.A (pyNext<|.ref it) (λr s1=>∃ u,r=some u /\
   wpAny (model P w) X.A (letOwnedTupleGo tg (.ref it) u) (λ_ s2=>∃ x H',bL X pins y H' s2/\bN x u/\J.yld i H x H'/\tn (i+1) s2.heap/\∀ b∈fp,H' b=none) E s1) E s
 done:∀(X:Cx),X.prog=P->X.w=w->X.K=K->X.calm=true->∀(i:Nat) (pins:W0) (s:Shared) (y:St) (H:Hp) (E:J0),bL X pins y H s->(∀ b∈fp,uw X pins H b)->tn i s.heap->J.stop i H ->
  wpAny (model P w) X.A (pyNext<|.ref it) (λr s1=>r=none/\bL X pins y H s1) E s
 self:∀(A:Around) (i:Nat) (s:Shared) (Q:J0) (E:J0),tn i s.heap->Q (.ref it) s->wpAny (model P w) A (pyIter<|.ref it) Q E s
abbrev TI:=St->Hp->(It->Hp->Prop)->Prop
def lM(X:Cx)(pins:W0)(s:St)(tg:Expr)(R:It->Hp->Prop)(itv:Value)(s2:Shared):Prop:=
 ∃(it:Addr) (fp:W5) (tn:Nat->Heap->Prop) (J:It) (H':Hp),itv=.ref it/\bL X pins s H' s2/\dG X.prog X.w X.K tg J fp it tn/\tn 0 s2.heap/\(∀ b∈fp,uw X pins H' b)/\R J H'
def PI(X:Cx)(tg iter:Expr)(wi:TI):Prop:=
 ∀ pins s (u:St) H (R:It->Hp->Prop),bL X pins u H s->wi u H R ->
  wpAny (model X.prog X.w) X.A (eval iter X.env) (λv s1=>wpAny (model X.prog X.w) X.A (pyIter v) (lM X pins u tg R) X.xe s1) X.xe s
def lN(b:s.heap.get? it=some o)(c:o.cls=.type n)(hd:o.data=.fields vs)
  (d:["enumerate","zip","dict_itemiterator","dict_reverseitemiterator","odict_iterator","itertools.zip_longest","itertools.pairwise"].contains n=false) (a:Q () s):wpAny M A (letOwnedTupleGo tg (.ref it) u) Q E s:=by
 cases tg<;>first
  | exact M8 a
  | (cases u<;>first
    | exact M8 a
    | (refine L3 (wpAny_load b ?_)
       rw[c,hd];show wpAny M A (if(["enumerate","zip","dict_itemiterator","dict_reverseitemiterator","odict_iterator","itertools.zip_longest","itertools.pairwise"].contains n&&vs[0]?==some (rawInt _))=true then _ else _) Q E s;rw[if_neg<|by intro h;rw[d,Bool.false_and] at h;cases h];exact M8 a))
def oZ(K:W4)(a:Addr):It:=
 ⟨λi H=>∃ xs x,ck K H a xs/\xs[i]?=some x,λi H x H'=>H'=H/\∀ xs,ck K H a xs->xs[i]?=some x,λi H=>∃ xs,ck K H a xs/\xs.length<=i⟩
def o_(K:W4)(a:Addr):It:=
 ⟨λi H=>∃ xs x,cJ K H a xs/\xs[i]?=some x,λi H x H'=>H'=H/\∀ xs,cJ K H a xs->xs[i]?=some x,λi H=>∃ xs,cJ K H a xs/\xs.length<=i⟩
def pq(lo:Int)(n:Nat):It:=#v[λi _=>i<n,λi H x H'=>H'=H/\x=.int (lo+i),λi _=>n<=i]
def Dg{P}{w}{K}{tg}(a j):dG P w K tg (oZ K a) [j] j (λi h=>h.IsListIter j a i) where
 mem:=by simp
 obj:=λi h f b l=>by
  have e:b=j:=by simpa using l
  subst e;let[o,e,c,d]:=f;exact#v[o,e,λv z=>by rw[d] at z;cases z]
 keep:=λi h r f k=>f.at (k j<|by simp)
 item:=by
  intro X t y A O i g s σ H E I n f B;subst t y A;let[Q,x,q,C]:=B;let[D,F,p,R]:=I.list q;let[u,S,T]:=F.get C;let[G,J,U,L,M,N]:=n j (by simp);refine wpAny_pyNext_list_item f p.isList ⇑S λr m V=>?_;have W:bL X g σ H {s with heap:=r}:=I.turned (λb o l e=>(V.2 b l).trans e) G J L M N;let[o,e,c,d]:=id m;exact#v[u,rfl,lN e c d (by decide) #v[x,H,W,T,#v[rfl,λys Y=>by rw[I.list_inj Y q];exact C],m,λb l=>(n b l).1]]
 done:=by
  intro X t y A O i g s σ H E I n f B;subst t y A;let[Q,q,C]:=B;let[D,F,p,R]:=I.list q;let[G,J,U,L,M,N]:=n j (by simp);have hl:=F.length;exact wpAny_pyNext_list_end (I.ok.hd O) f p.isList (by simp;lia) λr Z=>#v[rfl,I.turned (Z) G J L M N]
 self:=λ_ _ _ _ _ f h=>wpAny_pyIter_listiter f h
def Dh{P}{w}{K}{tg}(a j):dG P w K tg (o_ K a) [j] j (λi h=>h.IsTupleIter j a i) where
 mem:=by simp
 obj:=λi h f b l=>by
  have e:b=j:=by simpa using l
  subst e;let[o,e,c,d]:=f;exact#v[o,e,λv z=>by rw[d] at z;cases z]
 keep:=λi h r f k=>f.at (k j<|by simp)
 item:=by
  intro X t y A O i g s σ H E I n f B;subst t y A;let[Q,x,q,C]:=B;let[D,F,p,R]:=I.tuple q;let[u,S,T]:=F.get C;let[G,J,U,L,M,N]:=n j (by simp);refine wpAny_pyNext_tuple_item f (p) ⇑S λr m V=>?_;have W:bL X g σ H {s with heap:=r}:=I.turned (λb o l e=>(V.2 b l).trans e) G J L M N;let[o,e,c,d]:=id m;exact#v[u,rfl,lN e c d (by decide) #v[x,H,W,T,#v[rfl,λys Y=>by rw[I.tuple_inj Y q];exact C],m,λb l=>(n b l).1]]
 done:=by
  intro X t y A O i g s σ H E I n f B;subst t y A;let[Q,q,C]:=B;let[D,F,p,R]:=I.tuple q;let[G,J,U,L,M,N]:=n j (by simp);have hl:=F.length;exact wpAny_pyNext_tuple_end (I.ok.hd O) f (p) (by simp;lia) λr Z=>#v[rfl,I.turned (Z) G J L M N]
 self:=λ_ _ _ _ _ f h=>wpAny_pyIter_tupleiter f h
def Di{P}{w}{K}{tg}(c)(lo)(n):dG P w K tg (pq lo n) [c] c (λi h=>IsRangeIter h c (lo+(i:Nat)*1) ((n:Int)-(i:Nat)) 1) where
 mem:=by simp
 obj:=λi h a b f=>by
  have e:b=c:=by simpa using f
  subst e;exact#v[_,a,λv z=>by
   cases z]
 keep:=λi h l a k=>k c (by simp) _ a
 item:=by
  intro X A B C m i d s U H E I j a p;subst A B C;let[q,r,D,u,x,y]:=j c (by simp);refine(Walks.range (prog:=X.prog) (w:=X.w) (I.ok.hd m) c lo 1 n).item i s _ _ p a λv l tk F g G=>?_;let[t,rfl]:=F;have J:bL X d U H {s with heap:=l,toks:=tk}:=I.turned (λb o f e=>G b o ⇑f e) q r u x y;refine#v[_,rfl,lN g rfl rfl (by decide) #v[.int<|lo+i,H,J,#v[t,?_],#v[rfl,rfl],g,λb f=>(j b f).1]];rw[Int.mul_one]
 done:=by
  intro X A B C m i d s U H E I j a p;let[q,r,D,u,x,y]:=j c (by simp);exact wpAny_pyNext_range_end (I.ok.hd m) a (by have:n<=i:=p;lia) λl L=>#v[rfl,I.turned (L) q r u x y]
 self:=λ_ _ _ _ _ a h=>wpAny_pyIter_rangeiter a h
section
variable {X:Cx}{tg:Expr}
def pu(ta:TA):TI:=λs H R=>ta s H λvs H1=>∃ j:Int,vs=[.int j]/\-(2 ^ 62)<=j/\j<2 ^ 62/\R (pq 0 j.toNat) H1
def xl(i:Gl X "range")(k:X.mg "range" = none)(l:PA X [a] ta)(m:starEach [a] X.env=[(false,eval a X.env)]:=by rfl):PI X tg (.Call (.Name "range" p) [a] [] pos) (pu ta):=by
 intro c s y H R I h;refine Call_<|qX I i k boot_range<|PyProof.Rows.callWith_type1 (thn (l pos c s y H _ I h) λx s1 ⟨vs,g,d,r1,f⟩=>?_) m rfl;let[j,e,f,n,q]:=f;subst e;cases r1 with
 | cons r u=>
  cases u;let[t,rfl]:=r;exact call_range_1 ((by
    refine wpAny_pyIter_range (IsRange.new ..) (small_one ∅ ∅ f n) ?_;have d:bL X c y g { s1 with heap:=s1.heap.push {cls:=.type "range",data:=.fields #[.int 0 s1.toks,.int j t,.int 1<|s1.toks+1]},toks:=(s1.toks+1+1) }:=d.kept λb o e=>L8 _ e;refine#v[(s1.heap.push {cls:=.type "range",data:=.fields #[.int 0 s1.toks,.int j t,.int 1<|s1.toks+1]}).objs.size,[(s1.heap.push {cls:=.type "range",data:=.fields #[.int 0 s1.toks,.int j t,.int 1<|s1.toks+1]}).objs.size],_,_,g,rfl,
     d.kept λb o e=>L8 _ e,Di _ 0 (j-0).toNat,?_,λb v=>?_,⇑q]
    ·have w:0+((0:Nat):Int)*1=0:=by simp
     have e2:(((j-0).toNat:Nat):Int)-((0:Nat):Int)=Builtin.Range.rangeSize 0 j 1:=by rw[rangeSize_one];split<;>lia
     rw[w,e2];exact E3 _ rfl
    ·have e:b=(s1.heap.push {cls:=.type "range",data:=.fields #[.int 0 s1.toks,.int j t,.int 1<|s1.toks+1]}).objs.size:=by simpa using v
     subst e;exact d.fpOk (N0 _)<|d.hok.fresh<|N0 _))
def lO(wi:TI)(g:TG)(tb:TS):TS:=λD s H=>wi s H λJ H1=>∃ W:Nat->Nat->St->Hp->Prop,(∃ m,W 0 m s H1)/\∀ i m s H,W i m s H ->
 (J.stop i H/\D.nx s H)\/(J.go i H/\∃ N:St->Hp->Prop,(∀ σ' H',N σ' H'->∃ m',m'<m/\W (i+1) m' σ' H')/\∀ x H',J.yld i H x H'->g x s H' λσ2 H2=>tb {D with nx:=N,ct:=N,bk:=D.nx} σ2 H2)
def Kl(fp:W5)(h:Heap):List (Addr×Obj):=fp.filterMap λb=>(h.get? b).map λo=>(b,o)
def kS(a:b∈fp)(e:h.get? b=some o):(b,o)∈Kl fp h:=List.mem_filterMap.mpr #v[b,a,by rw[e];rfl]
def Dj(a:p∈Kl fp h):p.1∈fp/\h.get? p.1=some p.2:=by
 let[b,c,e]:=List.mem_filterMap.mp a;cases q:h.get? b with
 | none=>rw[q] at e;cases e
 | some o=>
  rw[q] at e;have d:=X8 e;subst d;exact#v[c,q]
def bL.pinned(I:bL X pins u H s)(f:∀ b∈fp,uw X pins H b)(g:∀ b∈fp,∃ o,s.heap.get? b=some o/\∀ v,o.data≠.cell v):bL X (pins++Kl fp s.heap) u H s:=
 I.pins_of λp h=>(N3.mp h).elim (λz=>I.pin p<|U5 _ z) λz=>by
  let[a,e]:=Dj z;let[i,j,k,_]:=f p.1 a;let[o,c,d]:=g p.1 a;rw[e] at c;cases c;exact#v[e,i,j,k,d]
def bL.unpinned(I:bL X (pins++pl) u H s):bL X pins u H s:=I.pins_of λp a=>I.pin p<|U5 _<|List.mem_append_left _ a
def tK(B:PassesOwn (model X.prog X.w) X.A X.env X.xe)(U:X.calm=true)(hi:PI X tg iter wi)(hg:PG X tg g)(c:fD X body tb)
  (hs:∀ x,foldedSetIterable iter X.env x=pure x:=by intro _;rfl):PS X (.For tg iter body [] pos) (lO wi g tb):=by
 intro a s σ H D I h;refine wpAny_For (thn (hi a s σ H _ I h) λv s1 h1=>thn h1 λitv s2 h2=>?_) hs;obtain⟨it,C,V,J,H2,e,I2,T,O,Y,W,⟨m0,w0⟩,turn⟩:=h2;subst e;have j:∀{t},(∀ b∈C,t b=none)->∀ b∈C,uw X a t b:=λhn b c=>#v[hn b c,(Y b c).2];refine codeAny_forLoop_any (λn Z=>∃ i E t,bL X a E t Z/\V i Z.heap/\(∀ b∈C,t b=none)/\W i n E t) ?_ m0 #v[0,σ,H2,I2,O,λb c=>(Y b c).1,w0];rintro n s3 ⟨i,F,M,I3,G,K,w3⟩;rcases turn i n F M w3 with⟨stop,qn⟩ | ⟨go,N,hN,step⟩
 ·refine wpAny_passesOwn B<|thn (T.done X rfl rfl rfl U i a s3 F M X.xe I3 (j K) G stop) λr s4 ⟨P,I4⟩=>?_;subst P;exact wpAny_execs_nil #v[F,M,I4,qn]
 ·refine wpAny_passesOwn B<|thn (T.item X rfl rfl rfl U i a s3 F M X.xe I3 (j K) G go) λr s4 ⟨u,P,h4⟩=>?_;subst P;refine wpAny_passesOwn B<|thn h4 λ_ s5 Q=>?_;let[x,H5,I5,r5,y5,z,R]:=Q;refine wpAny_passesOwn B<|thn (hg _ s5 F H5 x u _ (I5.pinned (j R)<|T.obj _ _ z) r5<|step x H5 y5) λ_ s6 Q=>?_;let[σ6,H6,I6,q6]:=Q;refine wpAny_passesOwn B<|thn (c _ s6 σ6 H6 _ I6 q6) λf S y=>?_;have k:∀{l}{p},bL X (a++Kl C s5.heap) l p S->N l p->∃ m,m<n/\∃ i E t,bL X a E t S/\V i S.heap/\(∀ b∈C,t b=none)/\W i m E t:=λ{l p} q L=>by
   let[m',hm,w7]:=hN l p L;refine#v[m',hm,i+1,l,p,q.unpinned,T.keep _ _ _ z λb c o e=>(q.pin (b,o)<|U5 _<|U5 _<|kS c e).1,λb c=>?_,w7];let[o,e,d]:=T.obj _ _ z b c;exact(q.pin (b,o)<|U5 _<|U5 _<|kS c e).2.1
  cases f with
  | next=>let[l,p,q,L]:=y;exact k q L
  | cont=>let[l,p,q,L]:=y;exact k q L
  | brk=>let[l,p,q,y]:=y;exact#v[l,p,q.unpinned,y]
  | ret v=>let[x7,l,p,q,r7,y]:=y;exact#v[x7,l,p,q.unpinned,r7,y]
end
abbrev R2:=V->V->Hp->VK->Prop
def c_(X:Cx)(f:Value->Value->Sem Value)(r:R2):Prop:=
 ∀ pins s (z:St) H x y v u Q,bL X pins z H s->bN x v->bN y u->r x y H Q ->
  wpAny (model X.prog X.w) X.A (f v u) (EP X pins z Q) X.xe s
def tL(X:Cx)(f:Value->Sem Value)(r:V->Hp->VK->Prop):Prop:=
 ∀ pins s (u:St) H x v Q,bL X pins u H s->bN x v->r x H Q ->
  wpAny (model X.prog X.w) X.A (f v) (EP X pins u Q) X.xe s
def qG(X:Cx)(f:Value)(r:List V->Hp->VK->Prop):Prop:=
 ∀ pins s (u:St) H xs us Q,bL X pins u H s->bM xs us->r xs H Q ->
  wpAny (model X.prog X.w) X.A (call f us) (EP X pins u Q) X.xe s
def cT(r:R2)(ta tb:TE):TE:=λs H Q=>ta s H λx H1=>tb s H1 λy H2=>r x y H2 Q
def Dk(r:V->Hp->VK->Prop)(ta:TE):TE:=λs H Q=>ta s H λx H1=>r x H1 Q
def rI(C:Int->Int->Prop)(g:Int->Int->V):R2:=λx y H Q=>∃ i j,x=.int i/\y=.int j/\C i j/\Q (g i j) H
def eY(g:Int->Int->V):R2:=λx y H Q=>∃ i j,x=.int i/\y=.int j/\Q (g i j) H
def rU(g:Int->V):V->Hp->VK->Prop:=λx H Q=>∃ i,x=.int i/\Q (g i) H
section
variable {X:Cx}{a b c:Expr}{ta tb tc:TE}{pos:Pos}
def px(d:PE X a ta)(e:PE X b tb){pins}{s}{R:V->V->Hp->Prop}(I:bL X pins z H s)
  (h:ta z H λx H1=>tb z H1 λy H2=>R x y H2) {Q:J0}{f:Value->Value->Sem Value}
  (g:∀ v u s2 x y H2,bL X pins z H2 s2->bN x v->bN y u->R x y H2->wpAny (model X.prog X.w) X.A (f v u) Q X.xe s2):
  wpAny (model X.prog X.w) X.A (eval a X.env) (λv s₁=>wpAny (model X.prog X.w) X.A (eval b X.env) (λu s₂=>wpAny (model X.prog X.w) X.A (f v u) Q X.xe s₂) X.xe s₁) X.xe s:=by
 refine thn (d pins s z H _ I h) λv s1 c=>?_;let[x,H1,i,r1,j]:=c;refine thn (e pins s1 z H1 _ i j) λu s2 c=>?_;let[y,H2,k,l,m]:=c;exact g v u s2 x y H2 k r1 l m
def K6(d:c_ X (binaryOp op) r)(e:PE X a ta)(f:PE X b tb):PE X (.BinOp a op b pos) (cT r ta tb):=by
 intro c s w H Q I h;exact wpAny_BinOp<|px e f I h λv u s2 x y g i j k q=>d c s2 w g x y v u Q i j k q
def lP{f}{C}{g:Int->Int->Int}
  (a:∀ i j t u s (Q:J0) (E:J0),C i j->Q (.int (g i j) s.toks) {s with toks:=s.toks+1}->wpAny (model X.prog X.w) X.A (f (.int i t)<|.int j u) Q E s):
  c_ X f (rI C λi j=>.int<|g i j):=by
 intro b s z H x y v u Q I c d h;let[i,j,rfl,rfl,e,q]:=h;let[t,rfl]:=c;let[k,rfl]:=d;exact a i j t k s _ _ e #v[.int<|g i j,H,I.tok _,#v[_,rfl],q]
def tM{f}{g:Int->Int->Int}
  (a:∀ i j t u s (Q:J0) (E:J0),Q (.int (g i j) s.toks) {s with toks:=s.toks+1}->wpAny (model X.prog X.w) X.A (f (.int i t)<|.int j u) Q E s):
  c_ X f (eY λi j=>.int<|g i j):=by
 intro b s z H x y v u Q I c d h;let[i,j,rfl,rfl,q]:=h;let[t,rfl]:=c;let[e,rfl]:=d;exact a i j t e s _ _ #v[.int<|g i j,H,I.tok _,#v[_,rfl],q]
def py{f}{g:Int->Int->Bool}
  (a:∀ i j t u s (Q:J0) (E:J0),Q (.bool<|g i j) s->wpAny (model X.prog X.w) X.A (f (.int i t)<|.int j u) Q E s):
  c_ X f (eY λi j=>.bl<|g i j):=by
 intro b s z H x y v u Q I c d h;let[i,j,rfl,rfl,q]:=h;let[t,rfl]:=c;let[e,rfl]:=d;exact a i j t e s _ _ #v[.bl<|g i j,H,I,rfl,q]
def pz(i j:Int):Prop:=0<=j/\j<=1000000/\i.natAbs<2 ^ 64
def Dl:c_ X (binaryOp .Add) (eY λi j=>.int<|i+j):=tM λ_ _ _ _ _ _ _ q=>add_int q
def Dm:c_ X (binaryOp .Sub) (eY λi j=>.int<|i-j):=tM λ_ _ _ _ _ _ _ q=>sub_int q
def tN:c_ X (binaryOp .Mod) (rI (λ_ j=>0<j) λi j=>.int<|i%j):=lP λi j _ _ _ _ _ a q=>by
 exact mod_int' ∅ (by rw[Int.fmod_eq_emod_of_nonneg i ∅];exact q)
def Dn:c_ X (binaryOp .Pow) (rI pz λi j=>.int<|i ^ j.toNat):=lP λ_ _ _ _ _ _ _ a q=>pow_int_small a.1 a.2.1 a.2.2 q
def Do{f}{g:Int->Int}
  (a:∀ i t s (Q:J0) (E:J0),Q (.int (g i) s.toks) {s with toks:=s.toks+1}->wpAny (model X.prog X.w) X.A (f<|.int i t) Q E s):
  tL X f (rU λi=>.int<|g i):=by
 intro b s u H x v Q I c h;let[i,rfl,q]:=h;let[t,rfl]:=c;exact a i t s _ _ #v[.int<|g i,H,I.tok _,#v[_,rfl],q]
def Dp:tL X (unaryOp .USub) (rU λi=>.int<|-i):=Do λ_ _ _ _ _ q=>neg_int q
end
def pA:V->V->Bool
 | .non,.non=>true | .non,.int _=>true | .int _,.non=>true | .non,.bl _=>true | .bl _,.non=>true | .non,.str _=>true | .str _,.non=>true
 | .int _,.int _=>true | .bl _,.bl _=>true | .str _,.str _=>true | .byt _,.byt _=>true
 | .int _,.str _=>true | .str _,.int _=>true | .bl _,.str _=>true | .str _,.bl _=>true
 | _,_=>false
def pB:R2:=λx y H Q=>pA x y=true/\Q (.bl<|decide<|x=y) H
def m7:R2:=λx y H Q=>pA x y=true/\Q (.bl<|!decide (x=y)) H
def wy:decide (V.int i=V.int j)=(i==j):=by
 rw[Bool.eq_iff_iff];simp
def pD:decide (V.bl i=V.bl j)=(i==j):=by
 rw[Bool.eq_iff_iff];simp
def tO:decide (V.str i=V.str j)=(i==j):=by
 rw[Bool.eq_iff_iff];simp
def tP:decide (V.byt i=V.byt j)=(i.toList==j.toList):=by
 rw[Bool.eq_iff_iff];cases i;cases j;simp
section
variable {X:Cx}{a b c:Expr}{ta tb tc:TE}{pos:Pos}
def jO(I:bL X pins u H s)(q:Q (.bl k) H)(e:k=k'):EP X pins u Q (.bool k') s:=by
 subst e;exact#v[.bl k,H,I,rfl,q]
def Dq:c_ X (compareOp .Eq) pB:=by
 intro e s w H x y v u Q I d a h;let[c,q]:=h;cases x with
 | non=>
  cases d;cases y with
  | non=>cases a;exact PySem.EqNone.eq_none_none<|jO I q (by simp)
  | bl j=>cases a;exact PySem.EqNone.eq_none_bool<|jO I q (by simp)
  | int j=>let[b,rfl]:=a;exact PySem.EqNone.eq_none_int<|jO I q (by simp)
  | str j=>let[b,rfl]:=a;exact PySem.EqNone.eq_none_str<|jO I q (by simp)
  | _=>exact absurd (c) M4
 | bl i=>
  cases d;cases y with
  | non=>cases a;exact PySem.EqNone.eq_bool_none<|jO I q (by simp)
  | bl j=>cases a;exact eq_bool<|jO I q pD
  | str j=>let[b,rfl]:=a;exact PySem.EqMixed.eq_bool_str<|jO I q (by simp)
  | _=>exact absurd (c) M4
 | int i=>
  let[t,rfl]:=d;cases y with
  | non=>cases a;exact PySem.EqNone.eq_int_none<|jO I q (by simp)
  | int j=>let[b,rfl]:=a;exact eq_int<|jO I q wy
  | str j=>let[b,rfl]:=a;exact PySem.EqMixed.eq_int_str<|jO I q (by simp)
  | _=>exact absurd (c) M4
 | str i=>
  let[t,rfl]:=d;cases y with
  | non=>cases a;exact PySem.EqNone.eq_str_none<|jO I q (by simp)
  | bl j=>cases a;exact PySem.EqMixed.eq_str_bool<|jO I q (by simp)
  | int j=>let[b,rfl]:=a;exact PySem.EqMixed.eq_str_int<|jO I q (by simp)
  | str j=>let[b,rfl]:=a;exact eq_str<|jO I q tO
  | _=>exact absurd (c) M4
 | byt i=>
  let[t,rfl]:=d;cases y with
  | byt j=>let[b,rfl]:=a;exact PySem.W.eq_bytes<|jO I q tP
  | _=>exact absurd (c) M4
 | _=>cases y<;>exact absurd (c) M4
def Dr:c_ X (compareOp .NotEq) m7:=by
 intro e s w H x y v u Q I d a h;let[c,q]:=h;cases x with
 | non=>
  cases d;cases y with
  | non=>cases a;exact PySem.EqNone.ne_none_none<|jO I q (by simp)
  | bl j=>cases a;exact PySem.EqNone.ne_none_bool<|jO I q (by simp)
  | int j=>let[b,rfl]:=a;exact PySem.EqNone.ne_none_int<|jO I q (by simp)
  | str j=>let[b,rfl]:=a;exact PySem.EqNone.ne_none_str<|jO I q (by simp)
  | _=>exact absurd (c) M4
 | bl i=>
  cases d;cases y with
  | non=>cases a;exact PySem.EqNone.ne_bool_none<|jO I q (by simp)
  | bl j=>cases a;exact ne_bool<|jO I q<|congrArg not pD
  | str j=>let[b,rfl]:=a;exact PySem.EqMixed.ne_bool_str<|jO I q (by simp)
  | _=>exact absurd (c) M4
 | int i=>
  let[t,rfl]:=d;cases y with
  | non=>cases a;exact PySem.EqNone.ne_int_none<|jO I q (by simp)
  | int j=>let[b,rfl]:=a;exact ne_int<|jO I q<|congrArg not wy
  | str j=>let[b,rfl]:=a;exact PySem.EqMixed.ne_int_str<|jO I q (by simp)
  | _=>exact absurd (c) M4
 | str i=>
  let[t,rfl]:=d;cases y with
  | non=>cases a;exact PySem.EqNone.ne_str_none<|jO I q (by simp)
  | bl j=>cases a;exact PySem.EqMixed.ne_str_bool<|jO I q (by simp)
  | int j=>let[b,rfl]:=a;exact PySem.EqMixed.ne_str_int<|jO I q (by simp)
  | str j=>let[b,rfl]:=a;exact ne_str<|jO I q<|congrArg not tO
  | _=>exact absurd (c) M4
 | byt i=>
  let[t,rfl]:=d;cases y with
  | byt j=>let[b,rfl]:=a;exact PySem.W.ne_bytes<|jO I q<|congrArg not tP
  | _=>exact absurd (c) M4
 | _=>cases y<;>exact absurd (c) M4
def Ds:c_ X (compareOp .In) (λx y H Q=>∃ i j,x=.str i/\y=.str j/\Q (.bl<|!(Builtin.Str.occurrences j i 0 j.length 1).isEmpty) H):=by
 intro a s w H x y v u Q I b c h;let[i,j,rfl,rfl,q]:=h;let[t,rfl]:=b;let[d,rfl]:=c;exact in_str<|jO I q rfl
def xq:c_ X (compareOp .NotIn) (λx y H Q=>∃ i j,x=.str i/\y=.str j/\Q (.bl<|!(!(Builtin.Str.occurrences j i 0 j.length 1).isEmpty)) H):=by
 intro a s w H x y v u Q I b c h;let[i,j,rfl,rfl,q]:=h;let[t,rfl]:=b;let[d,rfl]:=c;exact notIn_str<|jO I q rfl
def Kt(b)  (h:op≠.In:=by decide) (h2:op≠.NotIn:=by decide):behindInMarks op b=false:=by
 have a:(op==CmpOp.In)=false:=by cases op<;>first | rfl | exact absurd rfl h
 have e2:(op==CmpOp.NotIn)=false:=by cases op<;>first | rfl | exact absurd rfl h2
 cases b with
 | Set=>unfold behindInMarks;rw[a,e2];simp
 | _=>rfl
def Dt(d:c_ X (compareOp op) r)(e:PE X a ta)(f:PE X b tb)(g:behindInMarks op b=false):PE X (.Compare a [op] [b] pos) (cT r ta tb):=by
 intro c s w H Q I h;exact wpAny_Compare1 (px e f I h λv u s2 x y i j k l q=>d c s2 w i x y v u Q j k l q) g
def zY(t:TE):TT:=λs H Q=>t s H λx H'=>∃ k,x=.bl k/\Q k H'
def tQ(f:c_ X (compareOp op) r)(g:PE X a ta)(i:PE X b tb)(j:behindInMarks op b=false):PT X (.Compare a [op] [b] pos) (zY<|cT r ta tb):=by
 intro d s U H Q I h;refine wpAny_isTrue_Compare1 (thn (g d s U H _ I h) λv s1 ⟨x,l,m,r1,n⟩=>thn (i d s1 U l _ m n) λu s2 ⟨y,o,p,q,t⟩=>
  thn (f d s2 U o x y v u _ p r1 q t) λc D ⟨z,w,A,B,k,e,C⟩=>?_) j
 subst e;cases B;exact wpAny_truthy_bool #v[w,A,C]
def QM:(sizeLine:Nat)<2 ^ 63:=by rw[sizeLine_eq];decide
def Du:c_ X (binaryOp .Add) (λx y H Q=>∃ i j,x=.str i/\y=.str j/\i.length+j.length<=sizeLine/\Q (.str<|i++j) H):=by
 intro a s w H x y v u Q I b c h;let[i,j,rfl,rfl,d,q]:=h;let[t,rfl]:=b;let[e,rfl]:=c;exact add_str (λe tk=>#v[.str<|i++j,H,I.tok _,#v[_,rfl],q]) d
def pE(r:bM [x] us):∃ u,us=[u]/\bN x u:=by
 cases r with
 | cons r1 a=>cases a;exact#v[_,rfl,r1]
def tR(r:bM [x,y] us):dv λu w'=>cX (us=[u,w']) (bN x u) (bN y w'):=by
 cases r with
 | cons r1 a=>
  cases a with
  | cons b c=>cases c;exact#v[_,_,rfl,r1,b]
def Dv(c:X.calm=true):qG X (.builtin "max") (λxs H Q=>∃ i j,xs=[.int i,.int j]/\Q (.int<|if j>i then j else i) H):=by
 intro b s w H xs d Q I r h;let[i,j,rfl,q]:=h;obtain⟨u,e,rfl,⟨t,rfl⟩,⟨f,rfl⟩⟩:=tR r;refine max_two_ints (I.ok.hd c) λg tk k=>#v[_,H,I.kept k,?_,q];by_cases a:j>i
 ·rw[if_pos a,if_pos a];exact#v[_,rfl]
 ·rw[if_neg a,if_neg a];exact#v[_,rfl]
def zh(c:X.calm=true):qG X (.builtin "min") (λxs H Q=>∃ i j,xs=[.int i,.int j]/\Q (.int<|if j<i then j else i) H):=by
 intro b s w H xs d Q I r h;let[i,j,rfl,q]:=h;obtain⟨u,e,rfl,⟨t,rfl⟩,⟨f,rfl⟩⟩:=tR r;refine min_two_ints (I.ok.hd c) λg tk k=>#v[_,H,I.kept k,?_,q];by_cases a:j<i
 ·rw[if_pos a,if_pos a];exact#v[_,rfl]
 ·rw[if_neg a,if_neg a];exact#v[_,rfl]
def pG(K:W4)(x:V)(H:Hp)(n:Nat):Prop:=
 match x with
 | .str y=>y.length<=sizeLine/\n=y.length
 | .byt y=>y.size<=sizeLine/\n=y.size
 | .ref p=>(∃ xs,ck K H p xs/\n=xs.length) \/ ∃ xs,cJ K H p xs/\n=xs.length
 | _=>False
def Dw:qG X (.builtin "len") (λxs H Q=>∃ x n,xs=[x]/\pG X.K x H n/\Q (.int n) H):=by
 intro i s w H xs l Q I r h;let[x,n,rfl,e,q]:=h;let[u,rfl,c]:=pE r;have m:=sizeLine_eq;cases x with
 | str y=>
  let[t,rfl]:=c;obtain⟨j,b⟩:y.length<=sizeLine/\n=y.length:=e;subst b;exact len_str ∅ #v[.int _,H,I.tok _,#v[_,rfl],q]
 | byt y=>
  let[t,rfl]:=c;obtain⟨j,b⟩:y.size<=sizeLine/\n=y.size:=e;subst b;exact PySem.W.len_bytes ∅ #v[.int _,H,I.tok _,#v[_,rfl],q]
 | ref p=>
  cases c;have b:=e;rcases b with⟨xs,d,b⟩ | ⟨xs,d,b⟩
  ·subst b;let[f,g,pl,k]:=I.list d;have a:=g.length;exact Calls.call_len_list pl.isList (by simp only[N4];lia) #v[.int xs.length,H,I.tok _,#v[_,by simp only[N4];rw[a]],q]
  ·subst b;let[f,g,pl,k]:=I.tuple d;have a:=g.length;exact len_tuple pl (by simp only[N4];lia) #v[.int xs.length,H,I.tok _,#v[_,by simp only[N4];rw[a]],q]
 | _=>exact(e).elim
end
structure ff(h:Heap)(x dx C:Addr)(mA:W6):Prop where
 obj:h.get? x=some (PySem.W.instObj C dx)
 ns:h.Ns1 dx mA
 ne:dx≠x
def Dx{h:Heap}{mA}(n:h.Ns1 dx mA):∃ od,h.get? dx=some od/\∀ name,PySem.W.lookIn name od=some (mA name):=by
 let[o,c,k,d,hd,f,_,g]:=n;refine#v[o,d,λname=>?_];have e:=g name;unfold nsFind findBy at e;rw[<- Array.find?_toList] at e;unfold PySem.W.lookIn;rw[hd];dsimp only;split
 ·rename_i y q;rw[q] at e;exact congrArg some e
 ·rename_i q;rw[q] at e;have a:c.toList.any (·.refKey)=false:=by
   rw[List.any_eq_false];intro y i;let[z,t,b]:=f y<|Array.mem_toList_iff.mp i;simp[DictEntry.refKey,b]
  have j:¬ c.toList.any (·.refKey)=true:=by rw[a];exact M4
  rw[if_neg j];exact congrArg some e
def ff.look(I:ff h x dx C mA):∃ od,PySem.W.InstAt h x (PySem.W.instObj C dx) C (some od)/\∀ name,PySem.W.lookIn name od=some (mA name):=
 let ⟨od,ho,hl⟩:=Dx I.ns
 ⟨od,⟨I.obj,rfl,rfl,ho⟩,hl⟩
section
variable {prog:Program}{w:World}{A:Around}{E:J0}{s:Shared}{K:W4}{x dx C f:Addr}{mA:W6}{name:Str}{v:Value}
def Dz{pl}{Q}(X:K.In s.heap)(I:ff s.heap x dx C mA)(a:PySem.W.plainGet K C name=true)
  (b:PySem.W.findIn K (.ref C) name=some (some<|.ref f)) (c:PySem.W.isFn K (.ref f)=true) (d:mA name=none) (h:Q (.ref f,[.ref x]) s):
  wpAny (model prog w) A (getMethod (.ref x) name pl) Q E s:=by
 let[od,J,e]:=I.look;exact PySem.W.method_fn X J (PySem.W.plainGet_of a).1 (PySem.W.plainGet_of a).2 b (beq_iff_eq.mp c) (by show(PySem.W.lookIn name od).map (·.isSome)=some false;rw[e,d];rfl) h
def DB{ns}{Q}(X:K.In s.heap)(I:ff s.heap x dx C mA)
  (i:PySem.W.findIn K (.ref C) "__setattr__" = some (some<|.builtin "object.__setattr__")) (j:PySem.W.plainOver K C=true) (k:PySem.W.takerIn K C name=some none) (l:PySem.W.hasDictIn K C=true)
  (m:PySem.Within mA ns) (hsz:ns.length<=sizeLine)
  (h:∀ h',ff h' x dx C (λy=>if y=name then some v else mA y)->Heap.SameBut dx s.heap h'->Q () {s with heap:=h',toks:=s.toks+2}):
  wpAny (model prog w) A (setAttr (.ref x) name v) Q E s:=by
 let[od,J,q]:=I.look;refine PySem.W.set_plain X J i<|PySem.W.osa_open X J j k λb=>?_;let[r,n,d]:=PySem.W.any_some l;refine L3<|M8<|L3<|L3<|wpAny_loadPart I.obj<|L3<|PySem.W.Looks.here (PySem.W.looks_clsIn X n) ?_;rw[d];refine M8<|L3<|M8<|L3<|wpAny_nsSet1 I.ns λh' a c=>?_;let[t,o,p,e,f,g]:=a.count<|PySem.Within.cons name v m;refine L3<|wpAny_lookBehind e (by rw[f];exact pastItsLine_dict<|N8 g<|by rw[M3];lia) ?_;exact M8<|h _ #v[(c.2 _<|Ne.symm I.ne).trans I.obj,a,I.ne] c
def DF{R}{vs}{kw}(X:K.In s.heap)(a:PySem.W.makesIn K C=true)
  (hi:PySem.W.findIn K (.ref C) "__init__" = some (some<|.ref f)) (b:PySem.W.typeIn K (.ref f)=some (.type "function"))
  (h:codeAny (model prog w) (A.under<|.builtin "type.__call__" #v[.ref C::vs,kw]) (.call (.ref f) #v[.ref (↥s+1)::vs,kw]) (PySem.W.InitBack (↥s+1) R)
   {s with heap:=(s.heap.push PySem.W.emptyDict).push (PySem.W.instObj C ↥s)}):
  codeAny (model prog w) A (.call (.ref C) #v[vs,kw]) R s:=by
 let[c,g,d,t,os]:=s;exact PySem.W.make_core (PySem.W.makes_of X a) (PySem.W.looks_findIn X hi) (λself=>PySem.W.bind_fn X self b) (.inl rfl) h
end
def Ka(f:Str)(v:V):List (Str×V)->List (Str×V)
 | []=>[(f,v)]
 | (g,x)::r=>if g=f then(g,v)::r else(g,x)::Ka f v r
theorem Vf(f g)(v):∀ fs:List (Str×V),(Ka f v fs).lookup g=if g=f then some v else fs.lookup g
 | []=>by
  show List.lookup g [(f,v)]=_;by_cases h:g=f
  ·have a:=beq_iff_eq.mpr h;simp only[List.lookup,a,if_pos h]
  ·have a:=U4.mpr h;simp only[List.lookup,a,if_neg h]
 | (k,x)::r=>by
  rw[show Ka f v ((k,x)::r)=(if k=f then(k,v)::r else(k,x)::Ka f v r) from rfl];by_cases b:k=f
  ·rw[if_pos b];by_cases h:g=k
   ·have a:=beq_iff_eq.mpr h;simp only[List.lookup,a,if_pos<|h.trans b]
   ·have a:=U4.mpr h;simp only[List.lookup,a,if_neg<|λe:g=f=>h<|e.trans b.symm]
  ·rw[if_neg b];by_cases h:g=k
   ·have a:=beq_iff_eq.mpr h;simp only[List.lookup,a,if_neg<|λe:g=f=>b<|h.symm.trans e]
   ·have a:=U4.mpr h;simp only[List.lookup,a];exact(Vf f g v r)
theorem VB(f)(v):∀ fs:List (Str×V),f∈(Ka f v fs).map (·.1)/\∀ g,g∈fs.map (·.1)->g∈(Ka f v fs).map (·.1)
 | []=>#v[by simp[Ka],λg h=>by simp at h]
 | (k,x)::r=>by
  let[b,c]:=VB f v r;rw[show Ka f v ((k,x)::r)=(if k=f then(k,v)::r else(k,x)::Ka f v r) from rfl];by_cases a:k=f
  ·rw[if_pos a];subst a;exact#v[by simp,λg h=>by simpa using h]
  ·rw[if_neg a];refine#v[?_,λg h=>?_]
   ·rw[L5];exact L6 _ b
   ·rw[L5] at h ⊢;rcases M5.mp h with e | e
    ·exact M5.mpr<|.inl e
    ·exact L6 _<|c g e
theorem VD(f)(v):∀ fs:List (Str×V),(Ka f v fs).length<=fs.length+1
 | []=>by simp[Ka]
 | (k,x)::r=>by
  have b:=VD f v r;rw[show Ka f v ((k,x)::r)=(if k=f then(k,v)::r else(k,x)::Ka f v r) from rfl];by_cases a:k=f
  ·rw[if_pos a,M3,M3];lia
  ·rw[if_neg a,M3,M3];lia
def cQ.some_of(r:cQ (some v) o):∃ u,o=some u/\bN v u:=by
 cases o with
 | none=>exact(r).elim
 | some u=>exact#v[u,rfl,r]
def cQ.none_of(r:cQ none o):o=none:=by
 cases o with
 | none=>rfl
 | some u=>exact(r).elim
def DH(r:bN v u):PySem.W.handedIn u=true:=by
 cases v with
 | non=>cases(r);rfl
 | bl b=>cases(r);rfl
 | int i=>let[t,e]:=(r);cases e;rfl
 | str x=>let[t,e]:=(r);cases e;rfl
 | byt b=>let[t,e]:=(r);cases e;rfl
 | flt b=>let[t,e]:=(r);cases e;rfl
 | ref a=>cases(r);rfl
 | ty n=>cases(r);rfl
section
variable {P:Program}{w:World}{H H':Hp}{h h':Heap}{a C dx:Addr}{fs fs':List (Str×V)}
def wA(hok:c8 P w H h)(e:H a=some (.ins C dx fs)):∃ mA,eS (ff h a dx C mA) (∀ f,cQ (fs.lookup f)<|mA f) (PySem.Within mA (fs.map (·.1))) (fs.length<=1000) (H dx=some (.own a)):=by
 let[d,z,ne,ob,mA,n,r,q]:=(hok a _ e);exact#v[mA,#v[ob,n,ne],r,q,z,d]
end
structure dO(K:W4)(C:Addr):Prop where
 pg:PySem.W.plainGet K C Str.empty=true
 hd:PySem.W.hasDictIn K C=true
 po:PySem.W.plainOver K C=true
 sa:PySem.W.findIn K (.ref C) "__setattr__" = some (some<|.builtin "object.__setattr__")
def dO.get{K}{C}(c:dO K C)(f):PySem.W.plainGet K C f=true:=c.pg
def bU(K:W4)(C:Addr)(f:Str):Prop:=PySem.W.findIn K (.ref C) f=some none
def bU.taker{K}{C}{f}(n:bU K C f):PySem.W.takerIn K C f=some none:=by
 unfold PySem.W.takerIn;rw[n];rfl
structure lT(K:W4)(C:Addr)(m:Str)(f:Addr):Prop where
 at_:PySem.W.findIn K (.ref C) m=some (some<|.ref f)
 fn:PySem.W.isFn K (.ref f)=true
 kp:PySem.W.keepIn K (.ref f)=true
section
variable {X:Cx}{pins:List (Addr×Obj)}{U:St}{H:Hp}{s:Shared}{a C dx:Addr}{fs:List (Str×V)}{f:Str}{v:V}{A:Around}{E:J0}
def Kr(I:bL X pins U H s)(e:H a=some (.ins C dx fs))(c:dO X.K C)(n:bU X.K C f)(l:fs.lookup f=some v)
  (h:∀ u s',bL X pins U H s'->bN v u->Q u s'):wpAny (model X.prog X.w) A (getAttr (.ref a) f b) Q E s:=by
 let[j,O,r,_,_,_]:=wA I.hok e;let[u,g,d]:=cQ.some_of (by rw[<- l];exact r f);exact(by
   let[od,J,i]:=O.look;exact PySem.W.get_value I.kIn J (PySem.W.plainGet_of<|c.get f).1 (PySem.W.findObj_own c.hd n rfl<|by rw[i,g]) (DH d) (h u _ (I.tok _) d))
def Kd(I:bL X pins U H s)(e:H a=some (.ins C dx fs))(c:dO X.K C)(n:bU X.K C f)(B:fs.length<1000)(l:bN y u)
  (h:∀ s',bL X pins U (bO H a<|.ins C dx<|Ka f y fs) s'->Q () s'):wpAny (model X.prog X.w) A (setAttr (.ref a) f u) Q E s:=by
 let[i,O,r,j,_,k]:=wA I.hok e;have m:(fs.map (·.1)).length<=sizeLine:=by rw[L1,sizeLine_eq];lia
 refine DB I.kIn O c.sa c.po n.taker c.hd j m λp d t=>h _ ?_;have hd:∃ o,p.get? dx=some o:=let ⟨o,_,_,e',_⟩:=d.ns;#v[o,e']
 refine I.write (by rw[e];exact True.intro) (.inr k) (λb q v z=>(t.2 b v).trans z) hd ?_;refine#v[by rw[je O.ne];exact k,?_,O.ne,d.obj,_,d.ns,λg=>?_,λg x=>?_]
 ·have:=VD f y fs;lia
 ·show cQ ((Ka f y fs).lookup g) (if g=f then some u else i g);rw[Vf];by_cases q:g=f
  ·rw[if_pos q,if_pos q];exact l
  ·rw[if_neg q,if_neg q];exact r g
 ·by_cases q:g=f
  ·rw[q];exact(VB f y fs).1
  ·refine(VB f y fs).2 g (j g λz=>x ?_);show(if g=f then some u else i g)=none;rw[if_neg q];exact z
def bL.made(I:bL X pins U H s):bL X pins U (bO (bO H ↥s (.own<|↥s+1)) (↥s+1)<|.ins C ↥s [])
  {s with heap:=(s.heap.push PySem.W.emptyDict).push (PySem.W.instObj C ↥s)}:=by
 have a:(s.heap.push PySem.W.emptyDict).get? ↥s=some PySem.W.emptyDict:=E3 s.heap rfl;have e2:((s.heap.push PySem.W.emptyDict).push (PySem.W.instObj C ↥s)).get? (↥s+1)=some (PySem.W.instObj C ↥s):=by
  have:=E3 (s.heap.push PySem.W.emptyDict) (o:=PySem.W.instObj C ↥s) rfl
  rwa [Heap.size_push] at this
 have e3:(s.heap.push PySem.W.emptyDict).Ns ↥s (λ_=>none):=#v[PySem.W.emptyDict,#[],_,a,rfl,(λe c=>absurd c<|by simp),λ_=>rfl];refine(I.laid (o:=.own<|↥s+1) (t':=s.toks) (λb u q=>L8 _ q) (N0 _) #v[_,a]).laid (λb u q=>L8 _ q) (Nat.le_of_eq<|Heap.size_push _ _) ?_;have ne:↥s≠↥s+1:=N7<|Nat.lt_succ_self _;refine#v[by rw[je ne,jj],U7 _,ne,e2,λ_=>none,(Heap.Ns1.of_empty e3).at λo q=>L8 _ q,λ_=>True.intro,λy d=>absurd rfl d]
def DI(a:attributeBase e f env (eval e env)=eval e env)
  (h:wpAny (model prog w) A (eval e env) (λo s₁=>wpAny (model prog w) A (getAttr o f true) Q E s₁) E s):wpAny (model prog w) A (eval (.Attribute e f pos) env) Q E s:=
 Attribute_any_ h (by rw[arm_eval_Attribute,a])
end
def gI(K:W4)(ta:TE)(f:Str):TE:=λs H Q=>ta s H λx H1=>∃ a C dx fs v,x=.ref a/\H1 a=some (.ins C dx fs)/\dO K C/\bU K C f/\fs.lookup f=some v/\Q v H1
def DJ(K:W4)(ta tv:TE)(f:Str):TS:=λD s H=>tv s H λy H1=>ta s H1 λx H2=>∃ a C dx fs,x=.ref a/\H2 a=some (.ins C dx fs)/\dO K C/\bU K C f/\fs.length<1000 /\
 D.nx s (bO H2 a<|.ins C dx<|Ka f y fs)
def pH(X:Cx)(op:Operator)(rd:V->V->Hp->VK->Prop):Prop:=
 ∀ pins s (z:St) H x y u v Q,bL X pins z H s->bN x u->bN y v->rd x y H Q->wpAny (model X.prog X.w) X.A (inplaceOp op u v) (EP X pins z Q) X.xe s
def DK(K:W4)(ta tv:TE)(rd:V->V->Hp->VK->Prop)(f:Str):TS:=λD s H=>ta s H λx H1=>∃ a C dx fs v,x=.ref a/\H1 a=some (.ins C dx fs)/\dO K C/\bU K C f/\fs.lookup f=some v /\
 tv s H1 λy H2=>rd v y H2 λz H3=>∃ dx' fs',H3 a=some (.ins C dx' fs')/\fs'.length<1000/\D.nx s (bO H3 a<|.ins C dx'<|Ka f z fs')
section
variable {X:Cx}{o e value:Expr}{f:Str}{pos pos' tpos:Pos}{ta tv:TE}
def m8(d:PE X e ta)(g:attributeBase e f X.env (eval e X.env)=eval e X.env):PE X (.Attribute e f pos) (gI X.K ta f):=by
 intro b s y H Q I h;refine DI g<|thn (d b s y H _ I h) λu s1 i=>?_;let[x,j,k,m,a,C,t,fs,v,ex,o,c,n,l,q]:=i;subst ex;obtain rfl:u=Value.ref a:=m;exact Kr k o c n l λw s2 p r=>#v[v,j,p,r,q]
def tS:V->V->Hp->VK->Prop:=λx y H Q=>∃ i j,x=.int i/\y=.int j/\Q (.int<|i+j) H
def lU:V->V->Hp->VK->Prop:=λx y H Q=>∃ i j,x=.int i/\y=.int j/\Q (.int<|i-j) H
def DL:pH X .Add tS:=by
 rintro a s w H x y u v Q I b c ⟨i,j,rfl,rfl,q⟩;let[t,rfl]:=(b);let[d,rfl]:=(c);exact PyProof.Rows.iadd_int #v[.int<|i+j,H,I.tok _,#v[_,rfl],q]
def m9:pH X .Sub lU:=by
 rintro a s w H x y u v Q I b c ⟨i,j,rfl,rfl,q⟩;let[t,rfl]:=(b);let[d,rfl]:=(c);exact PyProof.Rows.isub_int #v[.int<|i-j,H,I.tok _,#v[_,rfl],q]
end
structure bS(k:Nat)(A:Around):Prop where
 hd:A.handled=none
 dp:A.depth+3*k+5<recursionLimit
 un:A.units+16*k+200<cLine
def bS.mono(r:bS k A)(h:j<=k):bS j A:=#v[r.hd,by have:=r.dp;lia,by have:=r.un;lia]
def bS.deeper(r:bS (k+1) A)(env):bS k (A.deeper env):=
 ⟨r.hd,by have:=r.dp;show A.depth+1+3*k+5<_;lia,by have:=r.un;show A.units+3+16*k+200<_;lia⟩
def bS.make(r:bS (k+1) A)(C)(us)(kw):bS k (A.under<|.builtin "type.__call__" #v[.ref C::us,kw]):=
 ⟨r.hd,by have:=r.dp;rw[(show(A.under<|.builtin "type.__call__" #v[.ref C::us,kw]).depth=A.depth+1 from by first | rfl | simp[Around.under,Code.weight,Code.isCreation,Code.isGuard,Code.isCaller,Code.frames,Code.isFrame,guardIds])];lia,by have:=r.un;rw[(show(A.under<|.builtin "type.__call__" #v[.ref C::us,kw]).units=A.units+1 from by first | rfl | simp[Around.under,Code.cUnits,Code.frames,Code.isFrame])];lia⟩
def bS.depth(r:bS k A):A.depth<recursionLimit:=by have:=r.dp;lia
def bS.units(r:bS k A):A.units+64<cLine:=by have:=r.un;lia
def YC:TA:=λ_ H Q=>Q [] H
def jS(ta:TE)(tr:TA):TA:=λs H Q=>ta s H λx H1=>tr s H1 λxs H2=>Q (x::xs) H2
section
variable {X:Cx}{e:Expr}{es:List Expr}{te:TE}{t:TA}{pos:Pos}
def vU:PA X [] YC:=λ_ _ _ _ H Q I h=>Calls.spliced_nil #v[[],H,I,.nil,h]
abbrev dw(X:Cx)(e:Expr)(es:List Expr):Prop:=starEach (e::es) X.env=(false,eval e X.env)::starEach es X.env
def jJ(b:PE X e te)(c:PA X es t)(d:dw X e es:=by rfl):PA X (e::es) (jS te t):=by
 intro pos a s w H Q I h;rw[d];refine Calls.spliced_cons<|thn (b a s w H _ I h) λu s1 f=>?_;let[x,g,i,r1,j]:=f;exact thn (c pos a s1 w g _ i j) λp s2 ⟨k,l,m,n,o⟩=>#v[x::k,l,m,.cons r1 n,o]
def fg(t:TA):TE:=λs H Q=>t s H λxs H1=>xs.length<=sizeLine/\∀ p,H1 p=none->Q (.ref p) (bO H1 p<|.tup xs)
def DM(t:TA):TE:=λs H Q=>t s H λxs H1=>xs.length<=sizeLine/\∀ p,H1 p=none->Q (.ref p) (bO H1 p<|.lst xs)
def JQ{d}(h:PA X es t):PE X (.Tuple es d pos) (fg t):=by
 intro a s w H Q I f;refine wpAny_Tuple_spliced<|thn (h pos a s w H _ I f) λg s1 ⟨i,j,c,r,z,q⟩=>#v[by rw[<- r.length];exact z,?_];refine#v[.ref ↥s1,bO j ↥s1 (.tup i),c.laid (λb u e=>L8 _ e) (N0 _) ?_,rfl,q _<|c.hok.fresh<|N0 _];exact#v[z,g,r,#v[_,E3 _ rfl,rfl,_,rfl],_,E3 _ rfl,rfl]
end
abbrev Sp:=List V->Hp->VK->XK->Prop
abbrev ij:=List Env->Hp->Shared->XK->Value->Shared->Prop
structure eg(P:Program)(w:World)(K:W4)(mg:W6)(base:Heap)(A:Around)(outer:List Env)(s:Shared)(H:Hp):Prop where
 frames:A.frames=some outer
 mod:Mod K mg base
 bs:∀ b o,base.get? b=some o->s.heap.get? b=some o/\H b=none
 bsz:base.objs.size<=↥s
 funs:s.heap.FunFrames base outer
 frf:∀ b∈fN outer,H b=none
 hok:c8 P w H s.heap
 bare:AllBare s.gens
def CE(outer:List Env)(P:Program)(w:World)(H:Hp)(s:Shared)(Q:VK)(u:Value)(s':Shared):Prop:=
 ∃ v H',s'.os=s.os/\AllBare s'.gens/\Un (fN outer) [] H H' s.heap s'.heap/\c8 P w H' s'.heap/\bN v u/\Q v H'
def CR(CX:ij)(outer:List Env)(P:Program)(w:World)(H:Hp)(s:Shared)(Q:VK)(E:XK)(r:Result)(s':Shared):Prop:=
 match r with
 | .ok (.ret u)=>CE outer P w H s Q u s'
 | .ok _=>False
 | .error e=>CX outer H s E e s'
structure cB(P:Program)(w:World)(K:W4)(mg:W6)(base:Heap)(CX:ij)(k:Nat)(f:Addr)(fd:FuncData)(ps:List Str)(sp:Sp):Prop where
 len:∀ vs H Q E,sp vs H Q E->vs.length=ps.length
 run:∀(A:Around) (outer:List Env) (s:Shared) (H:Hp) (args:Args) (us:List Value) (vs:List V) (Q:VK) (E:XK),bS k A->eg P w K mg base A outer s H->BindsTo s fd args (ps.zip us)->bM vs us->sp vs H Q E ->
  codeAny (model P w) A (.call (.ref f) args) (CR CX outer P w H s Q E) s
def cB.imp{P}{w}{K}{mg}{base}{CX}{k}{f}{fd}{ps}{sp a}(F:cB P w K mg base CX k f fd ps sp)
  (h:∀ vs H Q E,a vs H Q E->sp vs H Q E):cB P w K mg base CX k f fd ps a:=
 ⟨λvs H Q E q=>F.len vs H Q E<|h _ _ _ _ q,λA outer s H b c vs Q E d e g i j=>F.run A outer s H b c vs Q E d e g i<|h _ _ _ _ j⟩
def eg.make{P}{w}{K}{mg}{base}{A}{outer}{s}{H}(e:eg P w K mg base A outer s H)(C)(us)(kw):
  eg P w K mg base (A.under<|.builtin "type.__call__" #v[.ref C::us,kw]) outer s H:=#v[by first | exact e.frames | (simpa [Around.under,Code.envs,Code.isFrame,pushEnvs] using e.frames),e.mod,e.bs,e.bsz,e.funs,e.frf,e.hok,e.bare]
section
variable {X:Cx}{pins:List (Addr×Obj)}{x:St}{H:Hp}{s s':Shared}
def bL.env0(I:bL X pins x H s):eg X.prog X.w X.K X.mg X.base X.A X.stack s H:=
 ⟨I.ok.frames,I.ok.mod,I.bs,N8 I.ok.bsz I.sz,I.stack,I.stkFree,I.hok,I.bare⟩
def bL.after(I:bL X pins x H s)(h:CE X.stack X.prog X.w H s Q u s'):EP X pins x Q u s':=by
 let[v,c,os,bare,un,hok,r,q]:=h;let[e,g,d,t,a]:=s';obtain rfl:a=s.os:=os;exact#v[v,c,I.call un hok bare<|λb z=>absurd z<|by simp,r,q]
end
def Vr(sp:Sp)(dvs:List V)(E:XK)(t:TA):TE:=λs H Q=>t s H λvs H1=>sp (vs++dvs) H1 Q E
def m_(C:Addr)(m:Str)(sp:Sp)(dvs:List V)(E:XK)(ta:TE)(t:TA):TE:=λs H Q=>ta s H λx H1=>∃ a dx fs,x=.ref a/\H1 a=some (.ins C dx fs)/\fs.lookup m=none /\
 t s H1 λvs H2=>sp (x::(vs++dvs)) H2 Q E
def pJ(C:Addr)(sp:Sp)(dvs:List V)(E:XK)(t:TA):TE:=λs H Q=>t s H λvs H1=>∀ x dx,H1 x=none->H1 dx=none->dx≠x ->
 sp (.ref x::(vs++dvs)) (bO (bO H1 dx<|.own x) x<|.ins C dx []) (λv H2=>v=.non/\Q (.ref x) H2) E
def cZ(K:W4)(fd:FuncData)(ps:List Str)(ds:List Value):Prop:=
 ∀ s us,K.In s.heap->(us++ds).length=ps.length->BindsTo s fd #v[us,[]] (ps.zip<|us++ds)
def cZ.all{K}{fd}{ps}(h:∀ us:List Value,us.length=ps.length->bindArgs fd #v[us,[]]=pure (ps.zip us)):cZ K fd ps []:=λs us _ a=>by
 rw[N1] at a ⊢;exact .of_eq<|h us a
def KD(CX:ij)(X:Cx)(E:XK):Prop:=∀ pins (u:St) H s e s',bL X pins u H s->CX X.stack H s E e s'->X.xe e s'
section
variable {X:Cx}{CX:ij}{k:Nat}{f C:Addr}{fd:FuncData}{ps:List Str}{sp:Sp}{dvs:List V}{ds:List Value}{E:XK}{x m:Str}{p pos apos:Pos}{e o:Expr}{es:List Expr}{ta:TE}{t:TA}
def pK(F:cB X.prog X.w X.K X.mg X.base CX k f fd ps sp)(c:bS k X.A)(d:cZ X.K fd ps ds)(hd:bM dvs ds)(g:KD CX X E)
  (I:bL X pins y H s) (r:bM vs us) (h:sp (vs++dvs) H Q E):wpAny (model X.prog X.w) X.A (call (.ref f) us) (EP X pins y Q) X.xe s:=by
 have b:=r.append hd;have i:(us++ds).length=ps.length:=by rw[<- b.length];exact F.len _ _ _ _ h
 refine wpAny_call<|codeAny_mono (F.run X.A X.stack s H #v[us,[]] (us++ds) (vs++dvs) Q E c I.env0 (d s us I.kIn i) b h) λr j a=>?_;cases r with
 | error e=>exact g pins y H s e j I a
 | ok l=>
  cases l with
  | ret u=>exact I.after a
  | next=>exact False.elim a
  | brk=>exact False.elim a
  | cont=>exact False.elim a
def DN(F:cB X.prog X.w X.K X.mg X.base CX k f fd ps sp)(c:bS k X.A)(d:Gl X x)(e:X.mg x=some (.ref f))(g:PySem.W.keepIn X.K (.ref f)=true)(i:cZ X.K fd ps ds)(hd:bM dvs ds)(j:KD CX X E)
  (a:Nd x:=by decide):PE X (.Call (.Name x p) [] [] pos) (Vr sp dvs E YC):=by
 intro b s u H Q I h;exact wpAny_Call_Name_kw<|Qt I d e (PySem.W.callWith_K0 I.kIn g<|pK F c i hd j I .nil h) a
abbrev dH(X:Cx)(p:Pos)(l:List Expr):Prop:=(backTo p<|starEach l X.env).any (·.1)=false
def tT(p:PE X o ta)(c:dO X.K C)(d:lT X.K C m f)(F:cB X.prog X.w X.K X.mg X.base CX k f fd ps sp)(v:bS k X.A)(y:cZ X.K fd ps ds)(hd:bM dvs ds)(z:KD CX X E)(B:PA X (e::es) t)
  (g:dw X e es:=by rfl) (i:dH X pos es:=by rfl)
  (D:eval (.Call (.Attribute o m apos) (e::es) [] pos) X.env=(do
   let ov <- eval o X.env
   standAt apos.atName
   let (f,first) <- holding [ov] (getMethod ov m pl)
   callWith pos f first (backTo pos<|starEach (e::es) X.env) (backToKw pos<|keywordEach [] X.env)):=by rfl):
  PE X (.Call (.Attribute o m apos) (e::es) [] pos) (m_ C m sp dvs E ta t):=by
 intro b s Y H Q I h;refine PySem.W.methodCall_KW (thn (p b s Y H _ I h) λu s1 G=>?_) D;let[x,J,j,L,a,R,fs,ex,M,l,q]:=G;subst ex;obtain rfl:u=Value.ref a:=L;exact(by
   let[S,O,r,_,_,_]:=wA j.hok M;have N:=cQ.none_of (by rw[<- l];exact r m);exact Dz j.kIn O (c.get m) d.at_ d.fn N<|PySem.W.callWith_K I.ok.mod.kin d.kp (thn (B pos b s1 Y J _ j q) λT s2 ⟨vs,U,n,r,P⟩=>#v[n.kIn,(pK (vs:=.ref a::vs) F v y hd z n (.cons rfl r) P)]) g i)
structure Mk(K:W4)(C f:Addr):Prop where
 makes:PySem.W.makesIn K C=true
 init:PySem.W.findIn K (.ref C) "__init__" = some (some<|.ref f)
 fn:PySem.W.isFn K (.ref f)=true
 kp:PySem.W.keepIn K (.ref C)=true
def DP(M:Mk X.K C f)(F:cB X.prog X.w X.K X.mg X.base CX k f fd ps sp)(g:bS (k+1) X.A)(i:cZ X.K fd ps ds)(hd:bM dvs ds)
  (j:KD CX X E) (I:bL X pins z H s) (r:bM vs us)
  (h:∀ x dx,H x=none->H dx=none->dx≠x->sp (.ref x::(vs++dvs)) (bO (bO H dx<|.own x) x<|.ins C dx []) (λv H2=>v=.non/\Q (.ref x) H2) E):
  wpAny (model X.prog X.w) X.A (call (.ref C) us) (EP X pins z Q) X.xe s:=by
 have c:=h (↥s+1) ↥s (I.hok.fresh<|Nat.le_succ _) (I.hok.fresh<|N0 _) (N7<|Nat.lt_succ_self _);have b:=bL.made (C:=C) I;have d:bM (V.ref (↥s+1)::(vs++dvs)) (Value.ref (↥s+1)::(us++ds)):=.cons rfl<|r.append hd;have l:(Value.ref (↥s+1)::us++ds).length=ps.length:=by
  have e:=d.length;rw[F.len _ _ _ _ c] at e;exact e.symm
 refine wpAny_call<|DF I.kIn M.makes M.init (beq_iff_eq.mp M.fn)<|codeAny_mono (F.run _ X.stack _ _ #v[Value.ref (↥s+1)::us,[]] (Value.ref (↥s+1)::(us++ds)) _ _ E (g.make C us [])
  (b.env0.make C us []) (i _ (Value.ref (↥s+1)::us) b.kIn l) d c) λr m a=>?_
 cases r with
 | error e=>exact j pins z _ _ e m b a
 | ok n=>
  cases n with
  | ret u=>
   let[v,o,p,q,t,y]:=b.after a;subst t;exact#v[q,#v[V.ref<|↥s+1,o,p,rfl,y]]
  | next=>exact False.elim a
  | brk=>exact False.elim a
  | cont=>exact False.elim a
def DQ(M:Mk X.K C f)(F:cB X.prog X.w X.K X.mg X.base CX k f fd ps sp)(g:bS (k+1) X.A)(i:Gl X x)(j:X.mg x=some (.ref C))(l:cZ X.K fd ps ds)(hd:bM dvs ds)(m:KD CX X E)
  (n:PA X (e::es) t) (b:Nd x:=by decide) (o:dw X e es:=by rfl) (c:dH X pos es:=by rfl):
  PE X (.Call (.Name x p) (e::es) [] pos) (pJ C sp dvs E t):=by
 intro a s y H Q I h;exact wpAny_Call_Name_kw<|Qt I i j (PySem.W.callWith_K I.ok.mod.kin M.kp (thn (n pos a s y H _ I h) λu s1 ⟨vs,v,d,r,q⟩=>#v[d.kIn,(DP M F g l hd m d r q)]) o c) b
end
structure ce(N P:List Str)(sc:Scope):Prop where
 kind:sc.kind=.function
 co:sc.isCoroutine=false
 gen:sc.isGenerator=false
 nd:N.Nodup
 pre:N.take P.length=P
 par:∀ x∈P,sc.names.lookup x=some .local\/sc.names.lookup x=some .cell
 nofree:∀ y∈sc.names,y.2≠.free
theorem xt{kindOf}  : ∀{binds}{m},(∀ v,(x,v)∉binds)->bindL kindOf binds m x=m x
 | [],_,_=>rfl
 | (n,v)::r,m,h=>by
  unfold bindL;rw[xt λw a=>h w<|L6 _ a];split
  ·have:x≠n:=by rintro rfl;exact h v L7
   simp[this]
  ·rfl
theorem Q7{kindOf}  : ∀{binds}{m},(∀ v,(x,v)∉binds)->bindC kindOf binds m x=m x
 | [],_,_=>rfl
 | (n,v)::r,m,h=>by
  unfold bindC;rw[Q7 λw a=>h w<|L6 _ a];split
  ·rfl
  ·have:x≠n:=by rintro rfl;exact h v L7
   simp[this]
theorem QZ{kindOf}  : ∀{P:List Str}{vs}{i:Nat}{m},P.Nodup->P[i]?=some x->vs[i]?=some v->kindOf x=some .local ->
  bindL kindOf (P.zip vs) m x=some v
 | [],_,_,_,_,h,_,_=>by simp at h
 | _::_,[],_,_,_,_,h,_=>by simp at h
 | p::P,w::vs,0,m,nd,a,b,c=>by
  simp at a b;subst a;subst b;show bindL kindOf ((p,w)::P.zip vs) m p=_;unfold bindL;rw[xt λv d=>(List.nodup_cons.mp nd).1 (List.of_mem_zip d).1,if_pos c];simp
 | p::P,w::vs,i+1,m,nd,a,b,c=>by
  unfold bindL;exact QZ (List.nodup_cons.mp nd).2 ⇑a ⇑b c
theorem zr{kindOf}  : ∀{P:List Str}{vs}{i:Nat}{m},P.Nodup->P[i]?=some x->vs[i]?=some v->kindOf x≠some .local ->
  bindC kindOf (P.zip vs) m x=some v
 | [],_,_,_,_,h,_,_=>by simp at h
 | _::_,[],_,_,_,_,h,_=>by simp at h
 | p::P,w::vs,0,m,nd,a,b,c=>by
  simp at a b;subst a;subst b;show bindC kindOf ((p,w)::P.zip vs) m p=_;unfold bindC;rw[Q7 λv d=>(List.nodup_cons.mp nd).1 (List.of_mem_zip d).1,if_neg c];simp
 | p::P,w::vs,i+1,m,nd,a,b,c=>by
  unfold bindC;exact zr (List.nodup_cons.mp nd).2 ⇑a ⇑b c
def cr(N:List Str)(vs:List V):St:=vs.map some++List.replicate (N.length-vs.length) none
def gJ(CX:ij)(P:Program)(w:World)(K:W4)(mg:W6)(base:Heap)(N:List Str)(qual:Str)(scope:Scope)(f:Addr)(cd:Value)(A:Around)(outer:List Env)(s:Shared)(H:Hp)(E:XK):Cx where
 prog:=P
 w:=w
 K:=K
 mg:=mg
 base:=base
 A:=A.deeper (envOfC qual scope ↥s f cd)
 N:=N
 s₀:=s
 H₀:=H
 env:=envOfC qual scope ↥s f cd
 outer:=outer
 stack:=envOfC qual scope ↥s f cd::outer
 ex:=[]
 calm:=true
 fn:=λ_=>true
 pn:=[]
 xe:=λe s'=>wpAny (model P w) (A.deeper<|envOfC qual scope ↥s f cd) (leaving (envOfC qual scope ↥s f cd) e) (λ_ s''=>CX outer H s E e s'') (λe' s''=>CX outer H s E e' s'') s'
def uI{a:Scope}{n}(h:a.names.lookup x=some .cell):∃ c,(cellsFrom n a.names []).lookup x=some c:=by
 exact Option.isSome_iff_exists.mp<|PySem.W.cellsFrom_some a.names n []<|.inl h
def DR{CX}{P}{w}{K}{mg}{base}{N ps}{qual}{scope}{f}{cd}{A}{outer}{s s1}{H}{E}{us}{vs}
  (S:ce N ps scope) (hd:A.handled=none) (g:eg P w K mg base A outer s H) (G:vs.length=ps.length) (r:bM vs us)
  (x:InCallC s ↥s (bindL (envOfC qual scope ↥s f cd).kindOf (ps.zip us) λ_=>none) (cellsFrom (↥s+1) scope.names []) (bindC (envOfC qual scope ↥s f cd).kindOf (ps.zip us) λ_=>none) s1):
  bL (gJ CX P w K mg base N qual scope f cd A outer s H E) [] (cr N vs) H s1:=by
 have C:ps.length<=N.length:=by have:=congrArg List.length S.pre;rw[E2] at this;lia
 let[o,tk,rfl,t]:=x.done;have j:∀ b:Addr,b∉(gJ CX P w K mg base N qual scope f cd A outer s H E).ex:=λb z=>absurd (show b∈([]:W5) from z) (by simp);refine#v[#v[g.mod,S.kind,rfl,rfl,N0 _,λy z c o d=>?_,λy l=>?_,λy c _ h=>?_,λ_=>hd,Around.frames_deeper g.frames,.inr #v[rfl,rfl],λb z=>absurd z<|j b,g.bs,g.bsz,λb _ _=>j b,λb z=>absurd z<|j b,g.funs,g.frf],
  rfl,g.bare,Un.kept t,#v[_,x.toInCall.ns,λi y v o d I=>?_],λy c h=>#v[_,x.cell y c h],g.hok.fresh<|N0 _,λy c h=>?_,λp m=>absurd (show p∈([]:W0) from m)<|by simp,g.hok.kept t,?_]
 ·exact name_of_addr x.apart (PySem.mem_of_lookup o)<|PySem.mem_of_lookup d
 ·have l:=l;rcases l with l | l
  ·exact uI l
  ·exact absurd rfl<|S.nofree _<|PySem.mem_of_lookup l
 ·exact Nat.le_of_lt<|x.above y c<|PySem.mem_of_lookup h
 ·have hi:i<vs.length:=by
   unfold cr at d;by_cases hi:i<vs.length
   ·exact hi
   ·rw[List.getElem?_append_right ⇑hi,List.getElem?_replicate] at d;split at d<;>cases d
  have D:vs[i]?=some v:=by
   unfold cr at d;rw[List.getElem?_append_left ⇑hi,List.getElem?_map] at d;cases e:vs[i]? with
   | none=>rw[e] at d;cases d
   | some a=>rw[e] at d;cases d;rfl
  let[u,B,F]:=r.get D;have m:ps[i]?=some y:=by
   rw[<- S.pre,List.getElem?_take_of_lt ∅];exact o
  have n:ps.Nodup:=by rw[<- S.pre];exact S.nd.sublist<|List.take_sublist _ _
  refine#v[u,F,?_];rcases S.par y (List.mem_of_getElem? m) with k | k
  ·exact .inl #v[k,QZ n m B k]
  ·let[c,e]:=uI k;refine .inr #v[.inl k,c,e,?_];have q:=x.cell y c e;rw[zr n m B<|by show scope.names.lookup y≠_;rw[k];decide] at q;exact q
 ·exact g.hok.fresh<|Nat.le_of_lt<|x.above y c<|PySem.mem_of_lookup h
 ·unfold cr;show _=N.length;rw[N5,L1,List.length_replicate]
  lia
def DU{CX}{P}{w}{K}{mg}{base}{k}{f}{name qual}{params}{body}{scope}{F kV h pm a ct oc}{an od}
  {p:Array (Option Value)}{N ps:List Str}{sp:Sp}(M:K.lookup f=some #v[oc,od,.func<|PySem.W.fnOf name qual params body scope F kV h pm an a ct,p]) (z:PySem.W.codeIn K a qual=true) (S:ce N ps scope)
  (len:∀ vs H Q E,sp vs H Q E->vs.length=ps.length)
  (c:∀ A outer s H vs Q E,bS k (A.deeper<|envOfC qual scope ↥s f a)->sp vs H Q E ->
   ∃ t,fD (gJ CX P w K mg base N qual scope f a A outer s H E) body t/\t {nx:=λ_ H'=>Q .non H',rt:=Q} (cr N vs) H):
  cB P w K mg base CX (k+1) f (PySem.W.fnOf name qual params body scope F kV h pm an a ct) ps sp:=by
 refine#v[len,λA outer s H G O vs Q E B i R r j=>?_];have L:=i.mod.kin.keeps λb o e=>(i.bs b o e).1;have d:∀ y∈ps.zip O,scope.names.lookup y.1=some .local\/(scope.names.lookup y.1=some .cell/\((cellsFrom (↥s+1) scope.names []).lookup y.1).isSome=true):=λ⟨n,v⟩ T=>by
  rcases S.par n (List.of_mem_zip T).1 with q | q
  ·exact .inl q
  ·exact .inr #v[q,PySem.W.cellsFrom_some _ _ _<|.inl q]
 refine codeAny_call_function B.depth (L _ _ M) rfl S.co S.gen rfl (PySem.W.codeRec_of L z)<|R _ _ _ _<|wpAny_newFunctionEnv_cells S.kind d λenv U s1 x=>?_;subst U;refine#v[(i.mod.nolimit.keeps λb o e=>(i.bs b o e).1).keeps x.toInCall.keep,codeAny_func ?_];let[t,X,Y]:=c A outer s H vs Q E (B.deeper _) j;have I:bL (gJ CX P w K mg base N qual scope f a A outer s H E) [] (cr N vs) H s1:=DR S B.hd i (len _ _ _ _ j) r x;refine wpAny_mono (X [] s1 (cr N vs) H _ I Y) (λZ C g=>?_) λe C g=>g;have l:∀{m}{H'}{v}{u},bL (gJ CX P w K mg base N qual scope f a A outer s H E) [] m H' C->bN v u->Q v H'->CE outer P w H s Q u C:=
  λ{m H' v u} J D q=>#v[v,H',J.os,J.bare,J.base,J.hok,D,q]
 cases Z with
 | ret u=>
  let[v,m,H',J,D,q]:=g;exact l J D q
 | next=>
  let[m,H',J,q]:=g;exact l (v:=V.non) J rfl q
 | brk=>
  let[_,_,_,q]:=g;exact False.elim q
 | cont=>
  let[_,_,_,q]:=g;exact False.elim q
section
variable {X:Cx}{x:Str}{p pos:Pos}{e:Expr}{es:List Expr}{t:TA}{id T:String}{r:List V->Hp->VK->Prop}
def f1(r:List V->Hp->VK->Prop)(t:TA):TE:=λs H Q=>t s H λvs H1=>r vs H1 Q
def QF(d:qG X (.builtin id) r)(f:Gl X x)(g:X.mg x=none)(i:bootBuiltins x=some (.builtin id))(j:PA X (e::es) t)(k:x≠"__name__":=by decide)(b:Nd x:=by decide)
  (l:dw X e es:=by rfl) (c:dH X pos es:=by rfl):PE X (.Call (.Name x p) (e::es) [] pos) (f1 r t):=by
 intro a s u H Q I h;exact wpAny_Call_Name_kw<|qX I f g i (PyProof.Rows.callWith_builtin1 (thn (j pos a s u H _ I h) λm s1 ⟨vs,n,o,r1,q⟩=>d a s1 u n vs m Q o r1 q) l c) k b
def zw(d:qG X (.type T) r)(f:Gl X x)(g:X.mg x=none)(i:bootBuiltins x=some (.type T))(j:PA X (e::es) t)(k:x≠"__name__":=by decide)(b:Nd x:=by decide)
  (l:dw X e es:=by rfl) (c:dH X pos es:=by rfl):PE X (.Call (.Name x p) (e::es) [] pos) (f1 r t):=by
 intro a s u H Q I h;exact wpAny_Call_Name_kw<|qX I f g i (PyProof.Rows.callWith_type1 (thn (j pos a s u H _ I h) λm s1 ⟨vs,n,o,r1,q⟩=>d a s1 u n vs m Q o r1 q) l c) k b
end
end L2
namespace HT
open PySem PyProof.Rows
section
open PySem.SeqAt
open PySem.AutoSeq1 (wpAny_loadPart')
open PySem.MeetsSeq PySem.MeetsSeq2 PySem.MeetsSeq3
end
section
variable {prog:Program}{w:World}{A:Around}{E:J0}{s:Shared}
def gf(q:IsTup s.heap t vs.toArray)(r:IsTup s.heap b ws.toArray)(k:vs≠[])
  (h1:ws=[]->Q (.ref t) s) (h2:ws≠[]->Q (.ref ↥s) { s with heap:=s.heap.push {cls:=.type "tuple",data:=.seq (vs++ws).toArray} })
  (hsz:vs.length+ws.length<=sizeLine):wpAny (model prog w) A (binaryOp .Add (.ref t)<|.ref b) Q E s:=by
 obtain⟨⟨cls,l,data,m⟩,f,u,n,hd⟩:=id q;obtain⟨⟨o,c,h,d⟩,a,i,p,j⟩:=id r;subst u hd i j;have e:vs.toArray++ws.toArray=(vs++ws).toArray:=by simp
 by_cases g:ws=[]
 ·exact concat_meets #v[_,f,rfl] #v[_,a,rfl] noFill_tuple_add seq_tuple_add PySem.F.slot_tuple_add PySem.F.entry_tuple_add (PySem.F.args_tuple_add_2 _ _)
   (tuple_addW1 t b vs.toArray ws.toArray n p l c m d ⇑k (by simp[g])) #v[f,a,h1 g]
 ·refine concat_meets #v[_,f,rfl] #v[_,a,rfl] noFill_tuple_add seq_tuple_add PySem.F.slot_tuple_add PySem.F.entry_tuple_add (PySem.F.args_tuple_add_2 _ _)
   (tuple_addW2 t b vs.toArray ws.toArray n p l c m d ⇑k ⇑g (by rw[N4,N4];exact hsz)) #v[f,a,?_]
  rw[e];exact h2 g
def sIx(n d:Nat):Option Int->Nat
 | none=>d
 | some v=>if v<0 then(v+(n:Int)).toNat else min v.toNat n
def dX(n d):sIx n d none=d:=rfl
def eZ(n d k:Nat):sIx n d (some (k:Int))=min k n:=by
 show(if k<0 then(k+(n:Int)).toNat else min (k:Int).toNat n)=min k n;rw[if_neg ∅,N9]
def ik(n d)(hd:d<=n)(o):sIx n d o<=n:=by
 cases o with
 | none=>exact hd
 | some v=>
  show(if v<0 then(v+n).toNat else min v.toNat n)<=n;by_cases a:v<0
  ·rw[if_pos a];lia
  ·rw[if_neg a];exact Nat.min_le_right _ _
def tU(v)(n d:Nat):(if v<0 then max (v+(n:Int)) 0 else min v (n:Int))=((sIx n d (some v):Nat):Int):=by
 show(if v<0 then max (v+n) 0 else min v n)=(((if v<0 then(v+n).toNat else min v.toNat n):Nat):Int);by_cases a:v<0
 ·simp only[if_pos a];lia
 ·simp only[if_neg a];lia
def DV(lo hi)(n:Nat):Builtin.Slice.sliceAdjust lo hi 1 (n:Int)=(((sIx n 0 lo:Nat):Int),((sIx n n hi:Nat):Int)):=by
 refine Prod.ext ?_ ?_
 ·cases lo with
  | none=>rfl
  | some v=>exact tU v n 0
 ·cases hi with
  | none=>rfl
  | some v=>exact tU v n n
def DW(i j:Nat):Builtin.Slice.slicePlaces (i:Int) (j:Int) 1=j-i:=by
 unfold Builtin.Slice.slicePlaces;split<;>lia
def Kw(p:IsPart v o)(h:Q o s):wpAny (model prog w) A (Builtin.Slice.slicePartIndex v) Q E s:=by
 cases p with
 | none=>exact slicePart_none h
 | int i t=>exact slicePart_int h
def YM{lo hi}{n}{Q:Int×Int×Nat->Shared->Prop}(c:s.heap.IsSliceOf sl vl vu .none)(pl:IsPart vl lo)(d:IsPart vu hi)
  (h:Q (((sIx n 0 lo:Nat):Int),1,sIx n n hi-sIx n 0 lo) s):wpAny (model prog w) A (Builtin.Slice.sliceApplied (.ref sl)<|pure (n:Int)) Q E s:=by
 let[os,a,e,b]:=id c;refine L3<|L3<|U8 a b rfl<|L3<|U8 a b rfl<|L3<|U8 a b rfl<|M8<|L3<|slicePart_none<|L3<|Kw pl<|L3<|Kw d<|L3<|M8 ?_;show wpAny _ _ (match Builtin.Slice.sliceAdjust lo hi 1 n with | (lo,hi)=>pure (lo,(1:Int),Builtin.Slice.slicePlaces lo hi 1)) _ _ s;rw[DV lo hi n];show wpAny _ _ (pure (((sIx n 0 lo:Nat):Int),1,Builtin.Slice.slicePlaces ((sIx n 0 lo:Nat):Int) ((sIx n n hi:Nat):Int) 1)) _ _ s;rw[DW];exact M8 h
def DX(xs:Array Value)(i k:Nat):((List.range k).filterMap λ(m:Nat)=>xs[((i:Int)+(m:Int)*1).toNat]?).toArray=((xs.toList.drop i).take k).toArray:=by
 have e:(λ(m:Nat)=>xs[(i+(m:Int)*1).toNat]?)=λm=>xs[i+m]?:=by
  funext m
  have:(i+(m:Int)*1).toNat=i+m:=by lia
  rw[this]
 rw[e];have:=pick_run xs i k;rw[List.filterMap_map] at this;have e2:((λx=>xs[x]?) ∘ λx=>i+x)=λm=>xs[i+m]?:=rfl;rw[e2] at this;rw[this]
def da{items}{lo hi}{Q}(b:IsTup s.heap t items)(g:s.heap.IsSliceOf sl vl vu .none)(pl:IsPart vl lo)(i:IsPart vu hi)
  (j:¬ (sIx items.size 0 lo=0/\sIx items.size items.size hi=items.size))
  (h:Q (.ref ↥s) { s with heap:=s.heap.push {cls:=.type "tuple",data:=.seq ((items.toList.drop<|sIx items.size 0 lo).take (sIx items.size items.size hi-sIx items.size 0 lo)).toArray} })
  (hsz:items.size<=sizeLine):wpAny (model prog w) A (getItem (.ref t)<|.ref sl) Q E s:=by
 have a:sizeOk (.seq ((items.toList.drop<|sIx items.size 0 lo).take (sIx items.size items.size hi-sIx items.size 0 lo)).toArray):=by
  show((items.toList.drop<|sIx items.size 0 lo).take (sIx items.size items.size hi-sIx items.size 0 lo)).toArray.size<=sizeLine;rw[N4,E2,List.length_drop,Array.length_toList]
  lia
 let[os,c,d,k]:=id g;have e:s.TypeIs (.ref sl) "slice":=#v[os,c,d];unfold getItem
 try with_reducible refine wpAny_holding ?_
 first | refine L3 (M8 ?_) | skip
 refine L3<|wpAny_sequenceKey b.typeIs (by decide) ?_;refine L3<|wpAny_callSpecial?_slot b.typeIs PyProof.Rows.slot_tuple_getitem<|wpAny_call_entry PyProof.Rows.slot_tuple_getitem b.typeIs entry_tuple_getitem ?_<|args_tuple_getitem _ _
 show wpAny _ _ (Builtin.Tuple.tupleItemsOf (.ref t) >>= _) _ _ s;refine L3<|tupleItemsOf_ b<|L3<|wpAny_typeOf e<|L3<|YM g pl i ?_;have f:¬ ((((sIx items.size 0 lo:Nat):Int)==0&&(1:Int)==1&&(sIx items.size items.size hi-sIx items.size 0 lo)==items.size)=true):=by
  intro q;rw[M0,M0] at q;have l:=eq_of_beq q.1.1;have m:=eq_of_beq q.2;exact j #v[by lia,by lia]
 show wpAny _ _ (if(((sIx items.size 0 lo:Nat):Int)==0&&1==1&&(sIx items.size items.size hi-sIx items.size 0 lo)==items.size)=true then _ else _) _ _ s;rw[if_neg f,DX]
 first
  | exact L3 (wpAny_newObj_type (M8 #v[_,rfl,M8 h]) a)
  | exact L3 (wpAny_newObj_type (L3 (M8 (M8 #v[_,rfl,M8 h]))) a)
  | exact L3 (L3 (wpAny_newObj_type (M8 (M8 #v[_,rfl,M8 h])) a))
  | exact L3 (L3 (wpAny_newObj_type (M8 #v[_,rfl,M8 h]) a))
end
end HT
namespace L2
open PySem PySem.Spec PyProof.Rows
abbrev TO:=St->Hp->(Option Int->Hp->Prop)->Prop
def PO(X:Cx)(e:Option Expr)(t:TO):Prop:=
 ∀ pins s (v:St) H (Q:Option Int->Hp->Prop),bL X pins v H s->t v H Q ->
  wpAny (model X.prog X.w) X.A (evalPart e X.env) (λu s'=>∃ o H',bL X pins v H' s'/\IsPart u o/\Q o H') X.xe s
def DY:TO:=λ_ H Q=>Q none H
def DZ(t:TE):TO:=λs H Q=>t s H λx H1=>∃ i,x=.int i/\Q (some i) H1
def Kx:∀{us},bM (ns.map V.int) us->IntsAre us ns:=by
 induction ns with
 | nil=>intro us r;rw[List.map_nil] at r;cases r;exact .nil
 | cons n ns a=>
  intro us r;cases r with
  | cons r1 b=>
   let[t,e]:=r1;subst e;exact .cons n t<|a b
section
variable {X:Cx}{e:Expr}{te:TE}{lo hi:Option Expr}{tl th:TO}{pos p2:Pos}
def gh(X:Cx)(r:V->Option Int->Option Int->Hp->VK->Prop):Prop:=
 ∀ pins s (u:St) H x v vl vu lo hi sl Q,bL X pins u H s->bN x v->s.heap.IsSliceOf sl vl vu .none->IsPart vl lo->IsPart vu hi->r x lo hi H Q ->
  ∃ T id,typeLookup (.type T) "__getitem__" = pure (some<|.builtin id)/\s.TypeIs v T/\wpAny (model X.prog X.w) X.A (getItem v<|.ref sl) (EP X pins u Q) X.xe s
def gh.or(h:gh X r)(h':gh X r'):gh X (λx lo hi H Q=>r x lo hi H Q\/r' x lo hi H Q):=by
 intro a s u H x v b c lo hi d Q I e f pl g q;rcases q with q | q
 ·exact h a s u H x v b c lo hi d Q I e f pl g q
 ·exact h' a s u H x v b c lo hi d Q I e f pl g q
def tV(r:V->Option Int->Option Int->Hp->VK->Prop)(te:TE)(tl th:TO):TE:=λs H Q=>te s H λx H1=>tl s H1 λl H2=>th s H2 λu H3=>r x l u H3 Q
def iQ(xs:List V)(lo hi:Option Int):List V:=(xs.drop<|HT.sIx xs.length 0 lo).take (HT.sIx xs.length xs.length hi-HT.sIx xs.length 0 lo)
def VR(xs)(lo hi):(iQ xs lo hi).length<=xs.length:=by
 unfold iQ;rw[E2,List.length_drop]
 lia
def D0(K:W4):V->Option Int->Option Int->Hp->VK->Prop:=λx lo hi H Q=>∃ a xs,x=.ref a/\cJ K H a xs /\
 ¬ (HT.sIx xs.length 0 lo=0/\HT.sIx xs.length xs.length hi=xs.length)/\∀ p,H p=none->Q (.ref p) (bO H p<|.tup<|iQ xs lo hi)
def D3(K:W4):R2:=λx y H Q=>∃ a b xs ys,x=.ref a/\y=.ref b/\cJ K H a xs/\cJ K H b ys/\xs≠[]/\xs.length+ys.length<=sizeLine /\
 (ys=[]->Q (.ref a) H)/\(ys≠[]->∀ p,H p=none->Q (.ref p) (bO H p<|.tup<|xs++ys))
def bM.nil_iff(r:bM xs us):us=[]↔xs=[]:=by
 cases r with
 | nil=>simp
 | cons _ _=>simp
end
def dI(n:Nat)(i:Int):Option Nat:=if 0<=i then(if i<n then some i.toNat else none) else if -(n:Int)<=i then some (i+n).toNat else none
def atI{s:Type}(xs:List s)(i:Int):Option s:=(dI xs.length i).bind λj=>xs[j]?
def wI(h:dI n i=some j):seqIndex? i n=some j/\j<n/\-(n:Int)<=i/\i<n:=by
 unfold dI at h;by_cases b:0<=i
 ·rw[if_pos b] at h;by_cases a:i<n
  ·rw[if_pos a] at h;have e:=X8 h;exact#v[by rw[seqIndex_of b a,e],by lia,by lia,a]
  ·rw[if_neg a] at h;cases h
 ·rw[if_neg b] at h;by_cases a:-n<=i
  ·rw[if_pos a] at h;exact#v[by rw[seqIndex_neg ∅ a,X8 h],by lia,a,by lia]
  ·rw[if_neg a] at h;cases h
def KJ(h:atI xs i=some v):∃ j,eS (seqIndex? i xs.length=some j) (xs[j]?=some v) (j<xs.length) (-(xs.length:Int)<=i) (i<xs.length):=by
 unfold atI at h;cases e:dI xs.length i with
 | none=>rw[e] at h;cases h
 | some j=>
  rw[e] at h;let[a,b,c,d]:=wI e;exact#v[j,a,h,b,c,d]
def KS(b:Expr):Prop:=∀ o i,subscripted b false o i=operate [o,i] (getItem o i)
def gK(X:Cx)(r:R2):Prop:=
 ∀ value slice pins s (z:St) H x y v u Q,bL X pins z H s->bN x v->bN y u->r x y H Q ->
  subscripted slice false v u=operate [v,u] (getItem v u)->wpAny (model X.prog X.w) X.A (subscriptTail value slice v u) (EP X pins z Q) X.xe s
def nb(X:Cx)(id:String)(r:V->List V->Hp->VK->Prop):Prop:=
 ∀ pins s (u:St) H x xs v us Q,bL X pins u H s->bN x v->bM xs us->r x xs H Q ->
  wpAny (model X.prog X.w) X.A (call (.builtin id)<|v::us) (EP X pins u Q) X.xe s
section
variable {X:Cx}{a b:Expr}{ta tb:TE}{pos:Pos}
def gK.or(h:gK X r)(h':gK X r'):gK X (λx y H Q=>r x y H Q\/r' x y H Q):=by
 intro a slice b s w H x y v u Q I c d q e;rcases q with q | q
 ·exact h a slice b s w H x y v u Q I c d q e
 ·exact h' a slice b s w H x y v u Q I c d q e
def tW(d:gK X r)(e:PE X a ta)(f:PE X b tb)(g:KS b):PE X (.Subscript a b pos) (cT r ta tb):=by
 intro c s w H Q I h;exact Subscript_<|px e f I h λv u s2 x y i j k l q=>d a b c s2 w i x y v u Q j k l q<|g _ _
def nc(K:W4):R2:=λx y H Q=>∃ p xs i v,x=.ref p/\y=.int i/\ck K H p xs/\atI xs i=some v/\Q v H
def tX(K:W4):R2:=λx y H Q=>∃ p xs i v,x=.ref p/\y=.int i/\cJ K H p xs/\atI xs i=some v/\Q v H
def D4:R2:=λx y H Q=>∃ z i c,x=.str z/\y=.int i/\z.length<=sizeLine/\atI z.cps.toList i=some c/\Q (.str #v[#[c]]) H
def gi:gK X (nc X.K):=by
 intro d slice a s U H x y v u Q I n o h k;let[p,G,i,z,rfl,rfl,A,B,q]:=h;cases n;let[t,rfl]:=o;let[e,r,pl,J]:=I.list A;let[j,c,C,L,D,E]:=KJ B;let[w,l,f]:=r.get C;have F:=r.length;have M:=QM;have b:EP X a U Q w s:=#v[z,H,I,f,q];by_cases m:0<=i
 ·have g:i.toNat=j:=by
   rw[seqIndex_of m E] at c;exact X8 c
  exact item_listR pl.isList m ∅ (by rw[g];simpa using l) b k
 ·have g:(i+e.toArray.size).toNat=j:=by
   rw[seqIndex_neg ∅ D] at c;rw[N4,<- F];exact X8 c
  exact subscriptTail_builtinR pl.isList.typeIs slot_list_getitem.lookup
   (wpAny_getItem_list_neg pl.isList ∅ (by rw[N4]<;>lia) ∅ (by rw[g];simpa using l) #v[rfl,b]) k
def im:gK X (tX X.K):=by
 intro b slice a s U H x y v u Q I e f h g;let[p,B,i,z,rfl,rfl,k,l,q]:=h;cases e;let[t,rfl]:=f;let[m,r,pl,C]:=I.tuple k;let[j,n,o,D,E,F]:=KJ l;let[w,A,c]:=r.get o;have G:=QM;have d:EP X a U Q w s:=#v[z,H,I,c,q];exact subscriptTail_builtinR pl.typeIs slot_tuple_getitem.lookup
  (getItem_tuple pl ∅ ∅ (by rw[N4,<- r.length];exact n) ⇑A #v[rfl,d]) g
def eh(K:W4):R2:=λx y H Q=>nc K x y H Q\/tX K x y H Q\/D4 x y H Q
def tY:gK X (eh X.K):=gi.or (im.or (by
  intro a slice b s U H x y v u Q I e f h g;let[z,i,c,rfl,rfl,r,k,q]:=h;let[t,rfl]:=e;let[w,rfl]:=f;let[j,d,l,A,m,n]:=KJ k;have o:z.cps.toList.length=z.length:=by simp[Str.length]
  rw[o] at d m n;have B:=QM;exact tail_any (typeIs_str s z t) slot_str_getitem.lookup (getItem_str (by
   have p:decide (i < -(2 ^ 63:Int))=false:=X6 ∅;have e2:decide (i ≥ 2 ^ 63)=false:=X6 ∅;rw[p,e2,Bool.or_false]) (by rw[d];simpa using l) #v[.str #v[#[c]],H,I.tok _,#v[_,rfl],q]) g))
def D5(its:List Value)(n j)(u):Obj.mapSeq (·.setIfInBounds j u) {cls:=.type "list",data:=.seq its.toArray n}={cls:=.type "list",data:=.seq (its.set j u).toArray n}:=by
 simp[Obj.mapSeq]
def bL.lst(I:bL X pins u H s)(h:H p=some (.lst xs)):
  dv λits n=>cX (bM xs its) (s.heap.get? p=some {cls:=.type "list",data:=.seq its.toArray n}) (xs.length<=sizeLine):=by
 let[z,its,n,r,e]:=I.hok p _ h;exact#v[its,n,r,e,z]
def bL.lstUpd{pins}{s}{xs ys}{its a:List Value}{n c}{f}(I:bL X pins w H s)(h:H p=some (.lst xs))
  (g:s.heap.get? p=some {cls:=.type "list",data:=.seq its.toArray n}) (d:f {cls:=.type "list",data:=.seq its.toArray n}={cls:=.type "list",data:=.seq a.toArray c}) (r:bM ys a) (i:ys.length<=sizeLine) (t:Nat):
  bL X pins w (bO H p<|.lst ys) {s with heap:=s.heap.update p f,toks:=t}:=by
 have e:(s.heap.update p f).get? p=some {cls:=.type "list",data:=.seq a.toArray c}:=by
  rw[Heap.get?_update_self f g<|by rw[d]<;>rfl,d]
 refine I.write (by rw[h];trivial) (.inl rfl) (λb u j q=>(Heap.get?_update_other _ _<|Ne.symm j).trans q) #v[_,e] ?_;exact#v[i,a,c,r,e]
def ng:V->V->V->Hp->(Hp->Prop)->Prop:=λo i v H Q=>∃ p xs k j,o=.ref p/\i=.int k/\H p=some (.lst xs)/\dI xs.length k=some j/\Q (bO H p<|.lst<|xs.set j v)
def uJ:tE X ng:=by
 intro a s U H o i v E F u Q I y z A h;let[p,B,k,j,rfl,rfl,g,C,q]:=h;cases y;let[t,rfl]:=z;let[b,n,r,d,D]:=I.lst g;let[c,G,l,m]:=wI C;have e:=r.length;have J:=QM;have w:bL X a U (bO H p<|.lst<|B.set j v) {s with heap:=s.heap.update p (Obj.mapSeq (·.setIfInBounds j u))}:=
  I.lstUpd g d (D5 b n j u) (r.set A j) (by rw[List.length_set];exact D) s.toks
 by_cases x:0<=k
 ·have f:k.toNat=j:=by
   rw[seqIndex_of x m] at c;exact X8 c
  exact PySem.W.ki_setAt d x ∅ (by rw[N4,<- e];exact m) (by rw[f];exact#v[_,w,q])
 ·have f:(k+b.toArray.size).toNat=j:=by
   rw[seqIndex_neg ∅ l] at c;rw[N4,<- e];exact X8 c
  exact PySem.W.ki_setBack d ∅ (by rw[N4,<- e];exact l) ∅ (by rw[f];exact#v[_,w,q])
def zI(lo hi)(n):(sliceBounds lo hi none n).1=((HT.sIx n 0 lo:Nat):Int)/\(sliceBounds lo hi none n).2.1=((HT.sIx n n hi:Nat):Int)/\(sliceBounds lo hi none n).2.2=1:=by
 refine#v[?_,?_,rfl]
 ·cases lo with
  | none=>simp[sliceBounds,HT.sIx]
  | some i=>
   simp only[sliceBounds,HT.sIx,Option.getD_none,show 1>0 by decide,if_true];by_cases h:i<0
   ·simp only[h,if_true]<;>lia
   ·simp only[h,if_false]<;>lia
 ·cases hi with
  | none=>simp[sliceBounds,HT.sIx]
  | some i=>
   simp only[sliceBounds,HT.sIx,Option.getD_none,show 1>0 by decide,if_true];by_cases h:i<0
   ·simp only[h,if_true]<;>lia
   ·simp only[h,if_false]<;>lia
def Qs(its:List Value)(lo hi):slicePick its.toArray lo hi none=((its.drop<|HT.sIx its.length 0 lo).take (HT.sIx its.length its.length hi-HT.sIx its.length 0 lo)).toArray:=by
 let[a,b,c]:=zI lo hi its.toArray.size;unfold slicePick;rw[a,b,c];simp only[sliceRange_one,pick_run,N4]<;>rfl
def tZ(K:W4):V->Option Int->Option Int->Hp->VK->Prop:=λx lo hi H Q=>∃ a xs,x=.ref a/\ck K H a xs/\∀ p,H p=none->Q (.ref p) (bO H p<|.lst<|iQ xs lo hi)
def D6:gh X (tZ X.K):=by
 intro e s u H x v n o lo hi p Q I g i pl j h;let[a,c,rfl,k,q]:=h;cases g;let[l,r,f,m]:=I.list k;have d:=r.length;refine#v["list",_,slot_list_getitem.lookup,f.isList.typeIs,?_];refine wpAny_getItem_list_slice f.isList i pl j .none (by simp) ?_ (by rw[N4]<;>lia);rw[Qs,<- d];refine#v[.ref ↥s,_,I.laid (λb ob q=>L8 _ q) (N0 _) ?_,rfl,q _<|I.hok.fresh<|N0 _];exact#v[N8 (VR c lo hi) m,_,0,(r.drop<|HT.sIx c.length 0 lo).take (HT.sIx c.length c.length hi-HT.sIx c.length 0 lo),E3 _ rfl]
def Vv:V->Bool
 | .non=>true
 | .bl _=>true
 | .int _=>true
 | .str _=>true
 | _=>false
def f3:V->V->Bool
 | .non,.non=>true
 | .bl a,.bl b=>a==b
 | .bl a,.int b=>(if a then 1 else 0)==b
 | .int a,.bl b=>a==(if b then 1 else 0)
 | .int a,.int b=>a==b
 | .str a,.str b=>a==b
 | _,_=>false
def D7(e:bN y u)(c:bN x v)(g:Vv y=true)(f:Vv x=true):SeqAt.EqAt A s u v (f3 y x):=by
 cases y with
 | non=>
  cases e;cases x with
  | non=>cases c;exact SeqAt.EqAt.same _
  | bl b=>cases c;exact SeqAt.EqAt.none_bool b
  | int b=>let[t,rfl]:=c;exact SeqAt.EqAt.none_int b t
  | str b=>let[t,rfl]:=c;exact SeqAt.EqAt.none_str b t
  | _=>exact absurd (f) M4
 | bl a=>
  cases e;cases x with
  | non=>cases c;exact SeqAt.EqAt.bool_none a
  | bl b=>cases c;exact SeqAt.EqAt.bool_bool a b
  | int b=>let[t,rfl]:=c;exact SeqAt.EqAt.bool_int a b t
  | str b=>let[t,rfl]:=c;exact SeqAt.EqAt.bool_str a b t
  | _=>exact absurd (f) M4
 | int a=>
  let[d,rfl]:=e;cases x with
  | non=>cases c;exact SeqAt.EqAt.int_none a d
  | bl b=>cases c;exact SeqAt.EqAt.int_bool a d b
  | int b=>let[t,rfl]:=c;exact SeqAt.EqAt.int_int a d b t
  | str b=>let[t,rfl]:=c;exact SeqAt.EqAt.int_str a d b t
  | _=>exact absurd (f) M4
 | str a=>
  let[d,rfl]:=e;cases x with
  | non=>cases c;exact SeqAt.EqAt.str_none a d
  | bl b=>cases c;exact SeqAt.EqAt.str_bool a d b
  | int b=>let[t,rfl]:=c;exact SeqAt.EqAt.str_int a d b t
  | str b=>let[t,rfl]:=c;exact SeqAt.EqAt.str_str a d b t
  | _=>exact absurd (f) M4
 | _=>exact absurd (g) M4
def ek(x:V)(u:Value):Bool:=match u with
 | .none=>f3 .non x
 | .bool b=>f3 (.bl b) x
 | .int i _=>f3 (.int i) x
 | .str z _=>f3 (.str z) x
 | _=>false
def t4(r:bN y u)(f:Vv y=true):ek x u=f3 y x:=by
 cases y with
 | non=>cases r;rfl
 | bl b=>cases r;rfl
 | int i=>let[t,rfl]:=r;rfl
 | str z=>let[t,rfl]:=r;rfl
 | _=>exact absurd (f) M4
theorem Vc:∀{xs}{us},bM xs us->xs.all Vv=true->us.any (ek x)=xs.any λy=>f3 y x
 | _,_,.nil,_=>rfl
 | y::xs,u::us,.cons r t,f=>by
  rw[List.all_cons,M0] at f;rw[List.any_cons,List.any_cons,t4 r f.1,Vc t f.2]
theorem JU(b:bN x v)(c:Vv x=true):∀{xs}{us},bM xs us->xs.all Vv=true->∀ u∈us,SeqAt.EqAt A s u v<|ek x u
 | _,_,.nil,_=>λu a=>by cases a
 | y::xs,u::us,.cons r t,f=>λd a=>by
  rw[List.all_cons,M0] at f;rcases M5.mp a with rfl | a
  ·rw[t4 r f.1];exact D7 r b f.1 c
  ·exact JU b c t f.2 d a
def nh(x:V)(xs:List V):Bool:=xs.any λy=>f3 y x
def pL(K:W4)(neg:Bool):R2:=λx y H Q=>∃ p xs,y=.ref p/\(ck K H p xs\/cJ K H p xs)/\Vv x=true/\xs.all Vv=true/\Q (.bl<|if neg then !nh x xs else nh x xs) H
def D8:c_ X (compareOp .In) (pL X.K false):=by
 intro d s z H x y v u Q I e g h;let[p,j,rfl,b,f,fs,q]:=h;cases g;rcases b with b | b
 ·let[a,r,pl,i]:=I.list b;refine SeqAt.in_listAt (ek x) pl.isList (λw c=>JU e f r fs w ⇑c) #v[.bl _,H,I,rfl,?_];rw[show a.toArray.any (ek x)=a.any (ek x) by simp,Vc r fs];exact q
 ·let[a,r,pl,i]:=I.tuple b;refine SeqAt.in_tupleAt (ek x) pl (λw c=>JU e f r fs w ⇑c) #v[.bl _,H,I,rfl,?_];rw[show a.toArray.any (ek x)=a.any (ek x) by simp,Vc r fs];exact q
def zW:c_ X (compareOp .NotIn) (pL X.K true):=by
 intro d s z H x y v u Q I e g h;let[p,j,rfl,b,f,fs,q]:=h;cases g;rcases b with b | b
 ·let[a,r,pl,i]:=I.list b;refine SeqAt.notIn_listAt (ek x) pl.isList (λw c=>JU e f r fs w ⇑c) #v[.bl _,H,I,rfl,?_];rw[show a.toArray.any (ek x)=a.any (ek x) by simp,Vc r fs];exact q
 ·let[a,r,pl,i]:=I.tuple b;refine SeqAt.notIn_tupleAt (ek x) pl (λw c=>JU e f r fs w ⇑c) #v[.bl _,H,I,rfl,?_];rw[show a.toArray.any (ek x)=a.any (ek x) by simp,Vc r fs];exact q
def QV:qG X (.type "list") (λxs H Q=>∃ p ys,xs=[.ref p]/\(ck X.K H p ys\/cJ X.K H p ys)/\∀ l,H l=none->Q (.ref l) (bO H l<|.lst ys)):=by
 intro d s U H xs z Q I r h;let[p,ys,rfl,f,q]:=h;let[u,rfl,y]:=pE r;cases y;have g:∀ a,bM ys a->ys.length<=sizeLine->∀ i m,(∀ b x,s.heap.get? b=some x->i.get? b=some x) ->
   i.get? ↥s=some {cls:=.type "list",dict:=none,data:=.seq a.toArray m,slots:=#[]}->EP X d U Q (.ref ↥s) {s with heap:=i}:=λa c j i m kp e=>
  ⟨.ref ↥s,_,I.laid kp (N0 _)<|show cj X.prog X.w _ i _ (.lst ys) from#v[j,a,m,c,e],rfl,q _<|I.hok.fresh<|N0 _⟩
 rcases f with f | f
 ·let[a,c,pl,j]:=I.list f;have k:=c.length;let[o,t,v,n,hd]:=pl.isList;exact call_list_seq p (.inl rfl) t v hd (g a c j) (by simp only[N4]<;>lia)
 ·let[a,c,pl,j]:=I.tuple f;have k:=c.length;let[o,t,v,n,hd]:=pl;exact call_list_seq p (.inr rfl) t v hd (g a c j) (by simp only[N4]<;>lia)
def Qn:qG X (.type "tuple") (λxs H Q=>∃ p ys,xs=[.ref p]/\((ck X.K H p ys/\∀ l,H l=none->Q (.ref l) (bO H l<|.tup ys))\/(cJ X.K H p ys/\Q (.ref p) H))):=by
 intro a s w H xs t Q I r h;let[p,ys,rfl,h]:=h;let[u,rfl,m]:=pE r;cases m;rcases h with⟨f,q⟩ | ⟨f,q⟩
 ·let[c,g,pl,i]:=I.list f;have j:=g.length;refine call_tuple_list pl.isList (λd kp=>?_) (by simp only[N4]<;>lia);have k:bL X a w H {s with heap:=d}:=I.kept kp;have n:bL X a w (bO H d.objs.size<|.tup ys) { s with heap:=d.push {cls:=.type "tuple",data:=.seq c.toArray} }:=
   k.laid (λb o e=>L8 _ e) (N0 _) (#v[i,c,g,cM.new _ _])
  exact#v[.ref d.objs.size,_,n,rfl,q _<|k.hok.fresh<|N0 _]
 ·let[c,g,pl,i]:=I.tuple f;exact call_tuple_same pl #v[.ref p,H,I,rfl,q]
def t5(K:W4)(T:String)(x:V)(H:Hp):Prop:=match x with
 | .str _=>T = "str"
 | .int _=>T = "int"
 | .ref p=>(T = "list"/\∃ xs,ck K H p xs)\/(T = "tuple"/\∃ o,K.lookup p=some o/\o.cls=.type "tuple"/\o.dict=none) \/
   (T = "dict"/\((∃ kvs,H p=some (.dK kvs)) \/ ∃ kvs,H p=some (.dT kvs)))\/(T = "set"/\∃ S n,H p=some (.set S n))
 | _=>False
def D9(I:bL X pins u H s)(r:bN x v)(ty:t5 X.K T x H):
  s.TypeIs v T/\∀ a,v=.ref a->∃ ob,s.heap.get? a=some ob/\ob.dict=none:=by
 cases x with
 | str z=>
  let[t,rfl]:=r;cases(ty);exact#v[typeIs_str s z t,λ_ e=>nomatch e]
 | int i=>
  let[t,rfl]:=r;cases(ty);exact#v[typeIs_int s i t,λ_ e=>nomatch e]
 | ref p=>
  cases r;rcases ty with⟨rfl,j,f⟩ | ⟨rfl,o,b,g,hd⟩ | ⟨rfl,b⟩ | ⟨rfl,S,n,b⟩
  ·let[h,_,pl,_]:=I.list f;refine#v[pl.isList.typeIs,λa e=>?_];cases e;let[o,n,e,c,hd,_]:=pl;exact#v[o,e,hd]
  ·refine#v[#v[o,I.kIn p o b,g],λa e=>?_];cases e;exact#v[o,I.kIn _ o b,hd]
  ·have z:∃ o,s.heap.get? p=some o/\o.ExactDict:=by
    rcases b with⟨d,b⟩ | ⟨d,b⟩
    ·let[_,_,_,_,o,_,_,e,ex,_]:=I.hok p _ b;exact#v[o,e,ex]
    ·let[_,_,_,_,o,_,_,e,ex,_]:=I.hok p _ b;exact#v[o,e,ex]
   let[o,e,ex]:=z;refine#v[#v[o,e,ex.1],λa e2=>?_];cases e2;exact#v[o,e,ex.2.1]
  ·let[o,_,_,_,e,ex,_]:=I.hok p _ b;refine#v[#v[o,e,ex.1],λa e2=>?_];cases e2;exact#v[o,e,ex.2.1]
 | _=>exact False.elim ty
def fF(K:W4)(T:String)(r:V->List V->Hp->VK->Prop)(to:TE)(t:TA):TE:=λs H Q=>to s H λx H1=>t5 K T x H1/\t s H1 λxs H2=>r x xs H2 Q
variable {o e:Expr}{es:List Expr}{to:TE}{t:TA}{name:Str}{apos cpos:Pos}{T id:String}{r:V->List V->Hp->VK->Prop}
def iR(pa:PlainAttrs T)(slot:Slot T name id)(g:typeOf (.builtin id)=pure (.type "method_descriptor"))(k:nb X id r)(l:PE X o to)(m:PA X (e::es) t)
  (c:attributeBase o name X.env (eval o X.env)=eval o X.env:=by rfl)
  (f:((backTo cpos<|starEach (e::es) X.env).all (λx=>!x.1)&&(backToKw cpos<|keywordEach [] X.env).all (λx=>x.1.isSome)
   && decide ((e::es).length+([]:List Keyword).length+(if([]:List Keyword).isEmpty then 0 else 1)<30))=true:=by rfl)
  (d:(apos.endLine==cpos.line)=true:=by rfl) (n:dw X e es:=by rfl) (b:dH X cpos es:=by rfl):
  PE X (.Call (.Attribute o name apos) (e::es) [] cpos) (fF X.K T r to t):=by
 intro a s U H Q I h;refine wpAny_Call_method_late c f d rfl<|thn (l a s U H _ I h) λv s1 p=>?_;let[x,q,i,r1,ty,u]:=p;let[w,y]:=D9 i r1 ty;refine#v[T,id,pa,slot,g,w,y,?_];have j:=m cpos a s1 U q _ i u;rw[n] at j ⊢;refine Calls.callWith_builtin (by show(false||(backTo cpos<|starEach es X.env).any (·.1))=false;rw[b]<;>rfl)<|Calls.evalArgs_plain ?_;exact thn j λz s2 ⟨vs,A,B,C,D⟩=>k a s2 U A x vs v z Q B r1 C D
end
def pM(X:Cx)(id:String)(r:V->List V->Hp->VK->Prop):Prop:=
 ∀ pins s (u:St) H x xs v us Q,bL X pins u H s->bN x v->bM xs us->r x xs H Q ->
  wpAny (model X.prog X.w) X.A (call (.builtin id)<|v::us) (EP X pins u Q) X.xe s
def bM.one(h:bM [x] us):∃ u,us=[u]/\bN x u:=by
 cases h with | cons r t=>cases t;exact#v[_,rfl,r]
def bM.two(h:bM [x,y] us):dv λu v=>cX (us=[u,v]) (bN x u) (bN y v):=by
 cases h with | cons r t=>cases t with | cons q t=>cases t;exact#v[_,_,rfl,r,q]
section
variable {X:Cx}{pins:List (Addr×Obj)}{w:St}{H:Hp}{s:Shared}{l b:Addr}{xs ys zs:List V}
def bL.lset{its a:List Value}{n}{f}{t'}(I:bL X pins w H s)(b:H l=some (.lst xs))
  (e:s.heap.get? l=some {cls:=.type "list",data:=.seq its.toArray n}) (c:f its.toArray=a.toArray) (d:bM ys a) (g:ys.length<=sizeLine):
  bL X pins w (bO H l<|.lst ys) {s with heap:=s.heap.update l<|Obj.mapSeq f,toks:=t'}:=by
 have q:=PySem.IsL.update e f;rw[c] at q;refine I.write (by rw[b];exact trivial) (.inl rfl) (λb' u h i=>(Heap.get?_update_other s.heap (Obj.mapSeq f)<|Ne.symm h).trans i) #v[_,q] ?_;exact#v[g,a,_,d,q]
def bL.lnew(I:bL X pins w H s)(a:bM ys its)(b:ys.length<=sizeLine):
  bL X pins w (bO H ↥s (.lst ys)) { s with heap:=s.heap.push {cls:=.type "list",data:=.seq its.toArray},toks:=t' }:=
 I.laid (λ_ _ q=>L8 _ q) (N0 _) #v[b,its,0,a,E3 _ rfl]
def bL.fresh(I:bL X pins w H s):H ↥s=none:=I.hok.fresh<|N0 _
def bL.lstM(I:bL X pins w H s)(a:H l=some (.lst xs)):xs.length<=sizeLine/\∃ its n,bM xs its/\xs.length=its.length/\s.heap.get? l=some {cls:=.type "list",data:=.seq its.toArray n}:=by
 let[z,its,n,r,e]:=I.hok l _ a;exact#v[z,its,n,r,r.length,e]
def uP(h:n<=sizeLine):Builtin.List.listTooLong n=false:=by
 exact X6 ∅
end
section
variable {X:Cx}
def Ys:V->List V->Hp->VK->Prop:=λx vs H Q=>∃ l xs y,x=.ref l/\vs=[y]/\H l=some (.lst xs)/\xs.length<sizeLine/\Q .non (bO H l<|.lst<|xs++[y])
def J3:pM X "list.append" Ys:=by
 intro b s w H x vs v i Q I d f h;let[l,j,y,rfl,rfl,c,k,q]:=h;cases d;let[u,rfl,g]:=f.one;let[z,a,n,r,m,e]:=I.lstM c;refine call_meets F.slot_list_append #v[_,e,rfl] F.entry_list_append (F.args_list_append_2 _ _) (PySem.list_append l a.toArray n u<|by rw[N4];lia) #v[e,?_];refine#v[.non,_,I.lset c e (by simp) (r.append<|.cons g .nil) ?_,rfl,q];rw[N5,List.length_singleton]
 lia
end
end L2
namespace Att
open PySem PySem.W PySem.Calls PyProof.Rows
def VS:∀ ns vs,WellAll P h vs (ns.map WData.int)->IntsAre vs ns:=by
 intro ns
 induction ns with
 | nil=>
  intro vs w;cases w;exact .nil
 | cons n ns c=>
  intro vs w;cases w with
  | cons a b=>
   cases a;exact .cons _ _<|c _ b
def fh{l:OpenLaw}{n}(m:l.most=some n)  {h}{b}{c}
  (e:l.row.toRowW.claim.pre b=true) (j:WellAll P h c b):
  ∃ a vs ns,c=[Value.ref a]/\b=[WData.list<|ns.map WData.int]/\h.get? a=some {cls:=.type "list",data:=.seq vs.toArray}/\IntsAre vs ns/\ns.length<=n:=by
 let[d,r,rfl,o,p]:=hasAllW_cons<|(pre_splitW e).1;obtain rfl:=hasAllW_nil p;let[u,rfl,s]:=hasW_list o;let[ns,rfl]:=items_int s;have f:ns.length<=n:=by
  have i:(WTm.not<|.lt (.lit<|.int n)<|.len<|.arg 0).holds [] {args:=[.list<|ns.map .int]}=true:=by
   have i:=(holds_andW<|(pre_splitW e).2).1;rw[m] at i;exact i
  have k:=condW_of i<|w_not<|w_lt w_lit<|w_len_list<|w_arg rfl;refine Nat.le_of_not_lt λq=>?_
  first
   | (rw[X5 q'] at k;exact absurd k (by decide))
   | (simp at k;lia)
 cases j with
 | cons w1 w2=>
  cases w2;cases w1 with
  | list t g=>exact#v[_,_,ns,rfl,rfl,t,VS ns _ g,f]
def fj(l:OpenLaw)(a):l.row.toRowW.claim.post a (.bool true) a=true:=
 postW_of
  (by first | rfl | decide | simp[WShape.has,WShape.arms,WShape.armsAll])
  (w_eq_bool (w_res rfl) w_lit) rfl
end Att
namespace L2
open PySem PySem.Spec PyProof.Rows
theorem xy:∀{vs}{ns},IntsAre vs ns->bM (ns.map V.int) vs
 | _,_,.nil=>.nil
 | _,_,.cons n t h=>.cons #v[t,rfl]<|xy h
def pO(H:Hp):Prop:=∀ b,H b=none \/ ∃ o xs,H b=some (.frz o<|.lst xs)
def D_{P}{w}{K}{mg G}{CX}{k}{fa a}{fd}{x}{sp}{c}{vs}{ns}
  (N:K.In c.heap) (p:c.heap.Ns mainGlobals mg) (g:c.heap.Ns builtinsNs G) (I:∀ x:Str,x≠"__name__"->G x=bootBuiltins x) (t:c.heap.NoLimit) (U:c.gens = #[])
  (C:c.heap.get? a=some {cls:=.type "list",data:=.seq vs.toArray}) (hi:IntsAre vs ns) (O:ns.length<=sizeLine) (X:bS k callerA)
  (F:∀ base:Heap,K.In base->base.Ns mainGlobals mg->cB P w K mg base CX k fa fd [x] sp) (l:∀ s u,BindsTo s fd #v[[u],[]] [(x,u)])
  (J:∀ H:Hp,pO H->ck K H a (ns.map V.int)->sp [.ref a] H (λv _=>v=.bl true) λ_ _ _=>False)
  (L:∀ H e s',CX [] H c (λ_ _ _=>False) e s'->False):
  codeAny (model P w) callerA (.call (.ref fa) #v[[.ref a],[]]) (λr s'=>r=.ok (.ret<|.bool true)/\OldK c.heap s'.heap/\s'.os=c.os/\AllBare s'.gens) c:=by
 have Q:=xy hi;have j:∀ H:Hp,pO H->ck K H a (ns.map V.int)->c8 P w H c.heap->(∀ b,H b≠none->b=a)->(H a≠none->K.lookup a=none) ->
   codeAny (model P w) callerA (.call (.ref fa) #v[[.ref a],[]]) (λr s'=>r=.ok (.ret<|.bool true)/\OldK c.heap s'.heap/\s'.os=c.os/\AllBare s'.gens) c:=by
  intro H R Y hok S Z;have f:∀{b}{o},c.heap.get? b=some o->H b=none->(iN c.heap H).get? b=some o:=CV;have M:∀{b}{o}{D}{E},c.heap.get? b=some o->o.data=.dict D E->H b=none:=λ{b o D E} e d=>by
   cases q:H b with
   | none=>rfl
   | some u=>
    have n:=S b (by rw[q];simp);subst n;rw[C] at e;cases e;cases d
  have i:∀{b}{m},c.heap.Ns b m->(iN c.heap H).Ns b m:=λ{b m} ⟨o,D,E,e,d,r⟩=>#v[o,D,E,f e<|M e d,d,r];have y:=λb o e=>f (N b o e) (by
   cases q:H b with
   | none=>rfl
   | some u=>
    have n:=S b (by rw[q];simp);subst n;rw[Z<|by rw[q];simp] at e;cases e)
  have hM:Mod K mg (iN c.heap H):=#v[y,i p,#v[G,i g,I],let ⟨mc,h1,h2⟩:=t;#v[mc,i h1,h2]];have e0:eg P w K mg (iN c.heap H) callerA [] c H:=#v[rfl,hM,λb o e=>(by
    have n:=PySem.W.of_hideAll (m4 c.heap H) e;refine#v[n,?_];cases q:H b with
    | none=>rfl
    | some x=>
     have hm:b∈m4 c.heap H:=List.mem_filter.mpr #v[List.mem_range.mpr<|N2 n,by simp[q]];have z:(iN c.heap H).get? b=none:=PySem.W.hideAll_none (m4 c.heap H) hm;rw[z] at e;cases e),Nat.le_of_eq<|(PySem.W.hideAll_size _ _),trivial,λb g=>absurd (show b∈([]:W5) from g)<|by simp,hok,.of_eq U]
  refine codeAny_mono ((F _ y<|i p).run callerA [] c H #v[[.ref a],[]] [.ref a] [.ref a] _ _ X e0 (l c<|.ref a) (.cons rfl .nil) (J H R Y)) λr s' h=>?_;cases r with
  | error e=>exact(L H e s' h).elim
  | ok fl=>
   cases fl with
   | next=>exact False.elim h
   | brk=>exact False.elim h
   | cont=>exact False.elim h
   | ret u=>
    let[v,H',os,bare,un,A,r',q]:=h;subst q;obtain rfl:u=Value.bool true:=r';refine#v[rfl,OldK.of_keep λb o e=>?_,os,bare];cases q:H b with
    | none=>exact un.keep b o e q (by intro z;exact absurd (show b∈([]:W5) from z)<|by simp) (by simp)
    | some u=>
     rcases R b with z | ⟨ob,xs,z⟩
     ·rw[q] at z;cases z
     ·have z2:=un.frzs b ob _ z;let[T,_]:=hok b _ z;let[e2,_]:=A b _ z2;rw[e] at T;cases T;exact e2
 cases hk:K.lookup a with
 | some o=>
  have e:=N a o hk;rw[C] at e;cases e;refine j (λ_=>none) (λ_=>.inl rfl) (.inr #v[_,vs.toArray,_,hk,rfl,rfl,rfl,by rw[N4,hi.length];exact O,by simpa using Q]) (λb u z=>by have B:=z;cases B) (λb z=>absurd rfl z)<|absurd rfl
 | none=>
  refine j (λb=>if b=a then some (.frz {cls:=.type "list",data:=.seq vs.toArray} (.lst<|ns.map V.int)) else none) (λb=>?_) (.inl<|.inr #v[{cls:=.type "list",data:=.seq vs.toArray},if_pos rfl]) (λb u z=>?_) (λb z=>?_) λ_=>hk
  ·by_cases g:b=a
   ·exact .inr #v[_,_,if_pos g]
   ·exact .inl<|if_neg g
  ·by_cases g:b=a
   ·have B:=(if_pos g).symm.trans z;cases B;subst g;exact#v[C,by rw[L1];exact O,vs,_,Q,C]
   ·have B:=(if_neg g).symm.trans z;cases B
  ·by_cases g:b=a
   ·exact g
   ·exact absurd (if_neg g) z
def qE(s:Stmt)(j:Nat):Stmt:=match s with
 | .ClassDef _ _ _ body _ _ _ _ _ _ _=>body.getD j<|.Pass #v[0,0,0,0]
 | _=>.Pass #v[0,0,0,0]
def qy(s:Stmt):Arguments:=match s with
 | .FunctionDef _ a _ _ _ _ _ _ _ _=>a
 | _=>{posonlyargs:=[],args:=[],vararg:=none,kwonlyargs:=[],kw_defaults:=[],kwarg:=none,defaults:=[]}
def kg(s:Stmt):List Stmt:=match s with
 | .FunctionDef _ _ b _ _ _ _ _ _ _=>b
 | _=>[]
def jG(s:Stmt):Scope:=match s with
 | .FunctionDef _ _ _ _ _ _ sc _ _ _=>sc
 | _=>{kind:=.function,names:=[],isGenerator:=false,isCoroutine:=false}
noncomputable abbrev dY:ij:=λ_ _ _ _ _ _=>False
noncomputable abbrev E0:XK:=λ_ _ _=>False
def lX:KD dY X E0:=λ_ _ _ _ _ _ _ h=>h.elim
structure gj(K:W4)(x qual:Str)(st:Stmt)(f:Addr)(fd:FuncData):Prop where
 ex:∃(oc:Value) (od:Option Addr) (kV doc pm:Value) (an:Option Addr) (cdv ct:Value) (osl:Array<|Option Value),
  fd=PySem.W.fnOf x qual (qy st) (kg st) (jG st) .none kV doc pm an cdv ct/\K.lookup f=some #v[oc,od,.func fd,osl]/\PySem.W.codeIn K cdv qual=true
 kp:PySem.W.keepIn K (.ref f)=true
section
variable {P:Program}{w:World}{K:W4}{mg:W6}{base:Heap}
def gj.ok{x qual}{st}{f}{fd}{N ps}{k}{sp}(F:gj K x qual st f fd)(S:ce N ps<|jG st)(len:∀ vs H Q E,sp vs H Q E->vs.length=ps.length)
  (a:∀ cdv A outer s H vs Q E,bS k (A.deeper<|envOfC qual (jG st) ↥s f cdv)->sp vs H Q E ->
   ∃ t,fD (gJ dY P w K mg base N qual (jG st) f cdv A outer s H E).nox (kg st) t/\t {nx:=λ_ H'=>Q .non H',rt:=Q} (cr N vs) H):cB P w K mg base dY (k+1) f fd ps sp:=by
 let[oc,od,kV,d,j,l,cdv,ct,e,rfl,g,b]:=F.ex;refine DU g b S len λA outer s H vs Q E i c=>?_;let[t,h,q]:=a cdv A outer s H vs Q E i c;exact#v[t,h.nox,q]
def gj.binds{x qual}{st}{f}{fd}{ps}(F:gj K x qual st f fd)
  (h:∀ kV doc pm an cdv ct us,us.length=ps.length->bindArgs (PySem.W.fnOf x qual (qy st) (kg st) (jG st) .none kV doc pm an cdv ct) #v[us,[]]=pure (ps.zip us)):cZ K fd ps []:=by
 let[oc,od,kV,doc,pm,an,cdv,ct,a,rfl,c,b]:=F.ex;exact .all<|h kV doc pm an cdv ct
def u5{x qual}{st}{f}{oc}{od an}{d}{kV b pm a ct}(l:K.lookup f=some #v[oc,od,.func<|PySem.W.fnOf x qual (qy st) (kg st) (jG st) .none kV b pm an a ct,d])
  (c:PySem.W.codeIn K a qual=true) (k:PySem.W.keepIn K (.ref f)=true):gj K x qual st f (PySem.W.fnOf x qual (qy st) (kg st) (jG st) .none kV b pm an a ct):=#v[#v[oc,od,kV,b,pm,an,a,ct,d,rfl,l,c],k]
end
def Yn(a:bS k A):A.units+1<cLine:=E4 (Nat.add_le_add_left (by decide:1<=64) _) a.units
def gL{A B:Prop}(h:B):if false=true then A else B:=by
 exact h
def gk{A B:Prop}(h:A):if true=true then A else B:=by
 exact h
def xc(I:Nat->Shared->Prop)
  (turn:∀ n s,I n s->wpAny (model prog w) A (pyNext it) (λr s₁=>match r with
   | none=>R (.ok .next) s₁
   | some v=>wpAny (model prog w) A (letOwnedTupleGo target it v) (λ_ s₁'=>wpAny (model prog w) A (assign target env v) (λ_ s₂=>
     wpAny (model prog w) A (forIn ifs true λc r=>if r=true then do let ok <- isTrue c env (eval c env);pure (ForInStep.yield ok) else pure (ForInStep.yield r)) (λok s₃=>
      if ok=true then wpAny (model prog w) A (eval elt env) (λx s₄=>
       wpAny (model prog w) A (call (.builtin "list.append") [acc,x]) (λ_ s₅=>∃ m,m<n/\I m s₅) (λ_ _=>False) s₄) (λ_ _=>False) s₃
      else ∃ m,m<n/\I m s₃) (λ_ _=>False) s₂) (λ_ _=>False) s₁') (λ_ _=>False) s₁) (λ_ _=>False) s)
  (n:Nat) (h:I n s):
  codeAny (model prog w) A (.compLoop (.ListComp elt [#v[target,iter,ifs,0]] scope pos) 0 it acc env) R s:=by
 have up:∀{u}{t}{Q:u->Shared->Prop}{E:J0}{s},wpAny (model prog w) A t Q (λ_ _=>False) s->wpAny (model prog w) A t Q E s:=
  λh=>wpAny_mono h (λ_ _ x=>x) λ_ _ z=>z.elim
 refine codeAny_loop rfl I (λn s e=>(wpAny_noted<|L3<|wpAny_standAt<|L3<|thn (up<|turn n s e) λr s₁ b=>?_)) n h;cases r with
 | none=>exact M8 b
 | some v=>
  refine L3<|thn (up b) λ_ s₁' a=>L3<|thn (up a) λ_ s₂ f=>L3<|thn (up f) λok s₃ d=>?_;cases ok with
  | false=>exact M8 #v[rfl,d]
  | true=>
   exact L3<|L3<|thn (up d) λx s₄ g=>L3<|thn (up g) λ_ s₅ i=>M8<|M8 #v[rfl,i]
def gm(env:Env):List (Str×NameKind)->List (Str×Addr)->List (Str×Addr)
 | [],cs=>cs
 | (n,k)::r,cs=>gm env r (if k==NameKind.free then(match env.cells.lookup n with | some a=>(n,a)::cs | none=>cs) else cs)
def uW(scope:Scope)(env:Env):List (Str×Addr):=gm env scope.names []
theorem pP:∀ l cs,(∀ n k,(n,k)∈l->k=NameKind.free->∃ c,env.cells.lookup n=some c) ->
  (forIn (m:=Sem) l cs λx r=>match x with | (n,k)=>if k==NameKind.free then do let a <- cellOf env n;pure (ForInStep.yield<|(n,a)::r) else pure (ForInStep.yield r))=pure (gm env l cs)
 | [],cs,_=>rfl
 | (n,k)::r,cs,h=>by
  rw[List.forIn_cons];by_cases b:(k==NameKind.free)=true
  ·let[c,j]:=h n k L7 ∅;have o:cellOf env n=pure c:=by unfold cellOf;rw[j]
   have d:=pP r ((n,c)::cs) λe f g i=>h e f (L6 _ g) i;simp only[b,if_true,o,pure_bind];rw[d]
   conv=>rhs;unfold gm
   simp only[b,if_true,j]
  ·have d:=pP r cs λe f g i=>h e f (L6 _ g) i;simp only[b,if_false,pure_bind,Bool.false_eq_true];rw[d]
   conv=>rhs;unfold gm
   simp only[b,if_false,Bool.false_eq_true]
def Ea(h:∀ n k,(n,k)∈scope.names->k=NameKind.free->∃ c,env.cells.lookup n=some c):closureFor scope env=pure (uW scope env):=by
 unfold closureFor uW;show(forIn scope.names [] λx r=>match x with | (n,k)=>if k==NameKind.free then do let a <- cellOf env n;pure (ForInStep.yield<|(n,a)::r) else pure (ForInStep.yield r)) >>= (pure)=_;rw[pP scope.names [] h,pure_bind]
theorem t6:∀ l cs,(x,c)∈gm env l cs->(x,c)∈cs\/env.cells.lookup x=some c
 | [],_,h=>.inl h
 | (n,k)::r,cs,h=>by
  rcases t6 r _ h with z | z
  ·grind
  ·lia
theorem t7:∀ l cs,(x,c)∈cs->(x,c)∈gm env l cs
 | [],_,h=>h
 | (n,k)::r,cs,h=>by
  refine t7 r _ ?_;split
  ·split
   ·exact L6 _ h
   ·exact h
  ·exact h
theorem t8(a:env.cells.lookup x=some c):∀ l cs,(x,NameKind.free)∈l->(x,c)∈gm env l cs
 | [],_,h=>nomatch h
 | (n,k)::r,cs,h=>by
  rcases M5.mp h with e | e
  ·cases e;refine t7 r _ ?_;simp only[ a];exact L7
  ·exact t8 a r _ e
theorem J2:∀{l:List (Str×s)}{c},(x,c)∈l->∃ d,l.lookup x=some d
 | (n,a)::r,c,h=>by
  rw[List.lookup_cons];cases e:x==n with
  | true=>exact#v[a,rfl]
  | false=>
   rcases M5.mp h with z | z
   ·lia
   ·exact J2 z
def VW(h:(uW scope env).lookup x=some c):env.cells.lookup x=some c:=by
 rcases t6 scope.names [] (PySem.mem_of_lookup h) with z | z
 ·exact nomatch z
 ·exact z
def t9(a:env.cells.lookup x=some c)(f:(x,NameKind.free)∈scope.names):(uW scope env).lookup x=some c:=by
 let[d,e]:=J2<|t8 a scope.names [] f;have b:(uW scope env).lookup x=some d:=e;rw[b,<- VW b,a]
def JK(h:(n,k)∈(relabel scope env).names):(n,k)∈scope.names\/(k=.cell/\(n,NameKind.free)∈scope.names):=by
 obtain⟨⟨a,b⟩,c,e⟩:=M7.mp h;dsimp only at e;split at e
 ·lia
 ·lia
def qi(scope:Scope)(env:Env)(C:Addr):List (Str×Addr):=cellsFrom (C+1) scope.names<|uW scope env
theorem pQ:∀{names}{n:Nat}{acc:List (Str×Addr)},(∀ x y c,acc.lookup x=some c->acc.lookup y=some c->x=y)->(∀ x c,acc.lookup x=some c->c<n)->∀ x y c,(cellsFrom n names acc).lookup x=some c->(cellsFrom n names acc).lookup y=some c->x=y
 | [],n,acc,h,_=>h
 | (a,k)::r,n,acc,h,b=>by
  unfold cellsFrom;split
  ·refine pQ (λx y c d e=>?_)<|λx c d=>?_
   ·grind
   ·grind
  ·exact pQ h b
def Eb(h:∀ x y c,(uW scope env).lookup x=some c->(uW scope env).lookup y=some c->x=y)(a:∀ x c,(uW scope env).lookup x=some c->c<C+1)(x y)(c)(h1:(qi scope env C).lookup x=some c)(h2:(qi scope env C).lookup y=some c):x=y:=pQ h a x y c h1 h2
theorem xX:∀{names}{n}{acc},(∃ c,acc.lookup x=some c)->∃ c,(cellsFrom n names acc).lookup x=some c
 | [],_,_,h=>h
 | (a,k)::r,n,acc,h=>by
  unfold cellsFrom;split
  ·refine xX ?_;rw[List.lookup_cons];cases x==a with
   | true=>exact#v[n,rfl]
   | false=>exact h
  ·exact xX h
theorem pR:∀{names}{n}{acc},(x,NameKind.cell)∈names->∃ c,(cellsFrom n names acc).lookup x=some c
 | [],_,_,h=>nomatch h
 | (a,k)::r,n,acc,h=>by
  unfold cellsFrom;rcases M5.mp h with e | e
  ·cases e;refine xX #v[n,?_];rw[List.lookup_cons,beq_self_eq_true]
  ·split
   ·exact pR e
   ·exact pR e
theorem wK:∀{names}{n}{acc},(x,NameKind.cell)∉names->(cellsFrom n names acc).lookup x=acc.lookup x
 | [],_,_,_=>rfl
 | (a,k)::r,n,acc,h=>by
  unfold cellsFrom;split
  ·rename_i b;have b:=eq_of_beq b;subst b;rw[wK λz=>h<|L6 _ z,List.lookup_cons];have:(x==a)=false:=U4.mpr λz=>h (by rw[z];exact L7);rw[this]
  ·exact wK λz=>h<|L6 _ z
theorem xW:∀ names (h:Heap) acc x c,(cellsFrom h.objs.size names acc).lookup x=some c->(h.objs.size<=c/\(pushCells h names).IsCell c none)\/acc.lookup x=some c
 | [],_,_,_,_,e=>.inr e
 | (a,k)::r,h,acc,x,c,e=>by
  unfold cellsFrom at e;unfold pushCells;split at e
  ·rename_i b;rw[if_pos b];rcases xW r (h.push {cls:=.type "cell",data:=.cell none}) ((a,h.objs.size)::acc) x c (by rw[Heap.size_push];exact e) with q | q
   ·rw[Heap.size_push] at q;exact .inl #v[Nat.le_of_succ_le q.1,q.2]
   ·rw[List.lookup_cons] at q;cases e1:x==a with
    | true=>
     rw[e1] at q;cases q;exact .inl #v[N0 _,#v[_,pushCells_keeps r _ _ _<|E3 _ rfl,rfl]]
    | false=>rw[e1] at q;exact .inr q
  ·rename_i b;rw[if_neg b];exact xW r h acc x c e
theorem Ki:∀ l cs,(x,c)∈gm env l cs->(x,c)∈cs\/(x,NameKind.free)∈l
 | [],_,h=>.inl h
 | (n,k)::r,cs,h=>by
  rcases Ki r _ h with z | z
  ·grind
  ·exact .inr<|L6 _ z
def Qq 
  (h:Q (newEnv scope ↥s globals (cellsFrom (↥s+1) scope.names cl) qual none .none (some env) builtinsNs) { s with heap:=pushCells (s.heap.push {cls:=.type "dict",data:=.dict #[]}) scope.names }):
  wpAny M A (newFunctionEnv scope globals cl [] qual none .none<|some env) Q E s:=by
 simp only[newFunctionEnv,Option.isSome_some];refine L3<|wpAny_alloc ?_;refine L3<|wpAny_layCells _ (λnm kd a=>by cases hq:kd==NameKind.cell<;>simp[hq]) _ _ _ _ ?_;rw[Heap.size_push ..];exact L3<|M8<|M8 h
def ya(X:Cx)(scope:Scope)(N':List Str)(C:Addr)(s₃:Shared)(H₃:Hp)(fp:W5):Cx:=
 {X with N:=N',s₀:=s₃,H₀:=H₃,env:=compEnvC scope (qi scope X.env C) C X.env,outer:=X.stack,stack:=X.stack,ex:=fp,fn:=λx=>scope.names.lookup x==some NameKind.cell,pn:=[],xe:=λ_ _=>False}
structure ca(X:Cx)(scope:Scope)(N':List Str)(ix:List<|Option Nat):Prop where
 kind:scope.kind=.function
 names:∀ y∈scope.names,y.2=.local->scope.names.lookup y.1=some .local
 cells:∀ y∈scope.names,y.2=.cell->scope.names.lookup y.1=some .cell
 uniq:∀ y∈scope.names,y.2=.free->scope.names.lookup y.1=some .free
 outer:∀ y∈scope.names,y.2=.free->X.env.kindOf y.1=some .cell\/X.env.kindOf y.1=some .free
 nd:N'.Nodup
 len:ix.length=N'.length
 at_:∀(i j:Nat) (x:Str),ix[i]?=some (some j)->N'[i]?=some x->X.N[j]?=some x/\(x,NameKind.free)∈scope.names
 func:X.env.scope.kind=.function
def ca.free(B:ca X scope N' ix)  (h:(x,NameKind.free)∈scope.names):(qi scope X.env C).lookup x=(uW scope X.env).lookup x:=
 wK λz=>by
  have a:=B.cells _ z rfl;rw[B.uniq _ h rfl] at a;cases a
def yw(ix:List<|Option Nat)(s:St):St:=ix.map λo=>o.bind λj=>(s[j]?).join
abbrev BW:=Nat->Nat->St->Hp->Prop
def u7(tc:TT)(te:TE)(g:TG)(J:It)(p:Addr)(σ':St)(H1:Hp)(Q:Hp->Prop):Prop:=
 ∃ W:BW,(∃ m,W 0 m σ' H1)/\∀ i m σ2 H2,W i m σ2 H2->(J.stop i H2/\Q H2) \/
  (J.go i H2/\∀ x H3,J.yld i H2 x H3->g x σ2 H3 λσ4 H4=>tc σ4 H4 λb H5=>if b=true then
   te σ4 H5 λy H6=>∃ ys,H6 p=some (.lst ys)/\ys.length<sizeLine/\∃ m',m'<m/\W (i+1) m' σ4 (bO H6 p<|.lst<|ys++[y])
   else ∃ m',m'<m/\W (i+1) m' σ4 H5)
def Vb(wi:TI)(g:TG)(tc:TT)(te:TE)(ix:List<|Option Nat):TE:=λs H Q=>wi s H λJ H1=>∀ p,H1 p=none->u7 tc te g J p (yw ix s) (bO H1 p<|.lst []) λH2=>Q (.ref p) H2
def ni(X:Cx)(ifs:List Expr)(tc:TT):Prop:=(ifs=[]/\tc=λ_ H Q=>Q true H) \/ ∃ c,ifs=[c]/\PT X c tc
def Ec(B:ca X scope N' ix)(I:bL X pins W H s)(n:∀ b∈fp,uw X pins H b)(w:∀ b∈fp,b < ↥s)
  (G:h₁.Ns ↥s (λ_=>none)) (F:∀ b o,s.heap.get? b=some o->h₁.get? b=some o)
  (g:∀ x c,(qi scope X.env ↥s).lookup x=some c->(↥s+1<=c/\h₁.IsCell c none)\/(uW scope X.env).lookup x=some c):
  bL (ya X scope N' ↥s s H fp) [] (yw ix W) H {s with heap:=h₁,toks:=t}:=by
 have d:∀ x c,(uW scope X.env).lookup x=some c->X.env.cells.lookup x=some c:=λx c e=>VW e;have J:∀ x c,X.env.cells.lookup x=some c->c < ↥s:=λx c e=>by
  let[v,o,A,_]:=I.cell x c e;exact N2 A
 refine#v[#v[I.ok.mod,B.kind,I.ok.glob,I.ok.blt,N0 _,Eb (λx y c C D=>I.ok.inj x y c (d x c C)<|d y c D)<|λx c e=>Nat.lt_succ_of_lt<|J x c<|d x c e,λx K=>?_,(λx c C D=>?_),I.ok.hd,I.ok.frames,.inl rfl,λb h=>#v[N7<|w b h,λx c e=>?_],
  I.bs,N8 I.ok.bsz I.sz,λb o e h=>?_,λb h z=>?_,I.stack,I.stkFree],rfl,I.bare,Un.kept F,#v[_,G,λi x v C D Q=>?_],λx c e=>?_,I.hok.fresh<|N0 _,λx c e=>?_,(λp R=>nomatch (R)),I.hok.kept F,?_]
 ·have L:=K;have f:(x,NameKind.free)∈scope.names\/(x,NameKind.cell)∈scope.names:=by
   rcases L with q | q
   ·rcases JK (PySem.mem_of_lookup q) with z | z
    ·lia
    ·lia
   ·rcases JK (PySem.mem_of_lookup q) with z | z
    ·lia
    ·lia
  rcases f with f | f
  ·let[c,M]:=I.ok.has x<|B.outer _ f rfl;exact#v[c,by show(qi scope X.env ↥s).lookup x=some c;rw[B.free f];exact t9 M f]
  ·exact pR f
 ·-- the block's own cells are new
  have K:=C;rcases g x c D with⟨q,_⟩ | q
  ·exact Nat.le_of_succ_le q
  ·exfalso;have n:(x,NameKind.free)∈scope.names:=by 
     rcases Ki scope.names [] (PySem.mem_of_lookup q) with z | z
     ·exact nomatch z
     ·exact z
   have E:=B.uniq _ n rfl;rw[eq_of_beq K] at E;cases E
 ·rcases g x c e with⟨q,_⟩ | q
  ·exact Nat.ne_of_gt<|U6 (w b h)<|Nat.le_of_succ_le q
  ·exact(n b h).2.2.2.2.1 x c (d x c q)
 ·rcases(n b h).2.2.2.1 with z | z
  ·exact I.ok.noex b o e z
  ·exact absurd (U6 (N2 e)<|N8 I.ok.bsz z)<|Nat.lt_irrefl _
 ·rcases M5.mp (I.stkSub b z) with q | q
  ·exact(n b h).2.1 q
  ·exact(n b h).2.2.1 q
 ·have a:=D;unfold yw at a;rw[List.getElem?_map] at a;cases e:ix[i]? with
  | none=>rw[e] at a;cases a
  | some o=>
   rw[e] at a;cases o with
   | none=>cases a
   | some j=>
    have O:(W[j]?).join=some v:=X8 a;have S:W[j]?=some (some v):=by grind
    let[T,f]:=B.at_ i j x e C;have N:=B.outer _ f rfl;let[m,V,U]:=I.loc;let[u,r,l]:=U j x v T S<|N.elim (λz=>.inr<|.inl z) λz=>.inr<|.inr z;refine#v[u,r,.inr ?_];rcases l with⟨k,_⟩ | ⟨_,c,M,z⟩
    ·lia
    ·refine#v[?_,c,by show(qi scope X.env ↥s).lookup x=some c;rw[B.free f];exact t9 M f,?_]
     ·rcases Q with y | y | y
      ·have:=PySem.mem_of_lookup y;rcases JK this with P | P
       ·have E:=B.names _ P rfl;rw[B.uniq _ f rfl] at E;cases E
       ·lia
      ·exact .inl y
      ·exact .inr y
     ·let[o,A,hd]:=z;exact#v[o,F c o A,hd]
 ·rcases g x c e with⟨_,q⟩ | q
  ·exact#v[none,q]
  ·let[v,o,A,hd]:=I.cell x c<|d x c q;exact#v[v,o,F c o A,hd]
 ·rcases g x c e with⟨q,_⟩ | q
  ·exact I.hok.fresh<|Nat.le_of_succ_le q
  ·exact I.freeC x c<|d x c q
 ·show(yw ix W).length=N'.length;unfold yw;rw[L1,B.len]
def bL.other(I:bL X pins u H s)(f:uw X pins H C)(a:Heap.SameBut C s.heap h'):bL X pins u H {s with heap:=h'}:=
 I.turned (a.extBut) f.1 f.2.1 f.2.2.2.1 f.2.2.2.2.1 f.2.2.2.2.2
def JW{X:Cx}{ifs:List Expr}{N':List Str}{ix:List (Option Nat)}{pins:List (Addr×Obj)}{s:Shared}{Q:Addr->Hp->Prop}{E:Option (Value->Sem Unit)}{QQ:J0}(B:ca X scope N' ix)(hc:X.calm=true)(hi:PI X tg iter wi)
  (hg:∀ C s H fp,PG (ya X scope N' C s H fp) tg g) (hif:∀ C s H fp,ni (ya X scope N' C s H fp) ifs tc) (he:∀ C s H fp,PE (ya X scope N' C s H fp) elt te)
  (hs:∀ x,foldedSetIterable iter X.env x=pure x) (I:bL X pins σ H s)
  (h:wi σ H λJ H1=>∀ p,H1 p=none->u7 tc te g J p (yw ix σ) (bO H1 p<|.lst []) (Q p))
  (hend:∀ p C s' H',Q p H'->bL X pins σ H' s'->uw X pins H' C->(∃ m,s'.heap.Ns C m)->compPost (model X.prog X.w) X.A X.xe E QQ (.ref p) C (.ok .next) s'):
  wpAny (model X.prog X.w) X.A (comprehension (.ListComp elt [#v[tg,iter,ifs,0]] scope pos) scope X.env pos' (newList []) false (eval iter X.env) E) QQ X.xe s:=by
 refine wpAny_comprehension_free rfl hs (Ea λn k hm hk=>I.ok.has n<|B.outer _ hm hk) B.kind B.names<|thn (hi pins s σ H _ I h) λv s1 h1=>thn h1 λitv s2 h2=>?_;let[it,fp,tn,J,M,rfl,I2,T,Y,f2,h2]:=h2;refine wpAny_newObj_type<|Qq ?_;dsimp only;have I3:bL X pins σ (bO M ↥s2 (.lst [])) { s2 with heap:=s2.heap.push {cls:=.type "list",data:=.seq ([]:List Value).toArray} }:=I2.lnew .nil<|U7 _;generalize hs3:({ s2 with heap:=s2.heap.push {cls:=.type "list",data:=.seq ([]:List Value).toArray} }:Shared)=s3 at I3;have e3:s3.heap=s2.heap.push {cls:=.type "list",data:=.seq ([]:List Value).toArray}:=by lia
 have hk3:∀ b o,s2.heap.get? b=some o->s3.heap.get? b=some o:=λb o e=>by rw[e3];exact L8 _ e
 have Z:∀ b∈fp,b < ↥s3:=λb a=>by
  let[o,e,_]:=T.obj _ _ Y b a;exact N2<|hk3 b o e
 have nep:∀ b∈fp,b≠↥s2:=λb a z=>by
  let[o,e,_]:=T.obj _ _ Y b a;exact absurd (N2 e) ∅
 have N:∀ b∈fp,uw X pins (bO M ↥s2 (.lst [])) b:=λb a=>#v[by rw[je<|nep b a];exact(f2 b a).1,(f2 b a).2];have hh₁:∃ O,O=pushCells (s3.heap.push {cls:=.type "dict",data:=.dict #[]}) scope.names:=#v[_,rfl];let[O,P]:=hh₁;rw[<- e3,<- P];have hk4:∀ b o,s3.heap.get? b=some o->O.get? b=some o:=λb o e=>by
  rw[P];exact pushCells_keeps _ _ b o<|L8 _ e
 have hns4:O.Ns ↥s3 (λ_=>none):=by
  rw[P];exact(Heap.Ns.new s3.heap<|.type "dict").keeps (pushCells_keeps _ _)
 have R:∀ x c,(qi scope X.env ↥s3).lookup x=some c->(↥s3+1<=c/\O.IsCell c none)\/(uW scope X.env).lookup x=some c:=λx c e=>by
  have q:=xW scope.names (s3.heap.push {cls:=.type "dict",data:=.dict #[]}) (uW scope X.env) x c (by rw[Heap.size_push];exact e);rw[Heap.size_push,<- P] at q;exact q
 have I4:bL (ya X scope N' ↥s3 s3 (bO M ↥s2 (.lst [])) fp) [] (yw ix σ) (bO M ↥s2 (.lst [])) {s3 with heap:=O,toks:=s2.toks}:=Ec B I3 N Z hns4 hk4 R;have st4:tn 0 O:=T.keep _ _ _ Y λb a o e=>hk4 b o<|hk3 b o e;obtain⟨W,⟨m0,w0⟩,turn⟩:=h2 _ I2.fresh;have hg':=hg ↥s3 s3 (bO M ↥s2 (.lst [])) fp;have S:=hif ↥s3 s3 (bO M ↥s2 (.lst [])) fp;have he':=he ↥s3 s3 (bO M ↥s2 (.lst [])) fp;generalize f:ya X scope N' ↥s3 s3 (bO M ↥s2 (.lst [])) fp=X' at I4 hg' S he';have eP:X'.prog=X.prog:=by rw[<- f];rfl
 have eW:X'.w=X.w:=by rw[<- f];rfl
 have eK:X'.K=X.K:=by rw[<- f];rfl
 have eA:X'.A=X.A:=by rw[<- f];rfl
 have eC:X'.calm=true:=by rw[<- f];exact hc
 have eE:X'.env=compEnvC scope (qi scope X.env ↥s3) ↥s3 X.env:=by rw[<- f];rfl
 have eX:X'.xe=λ_ _=>False:=by rw[<- f];rfl
 have F:∀{H':Hp},(∀ b∈fp,H' b=none)->∀ b∈fp,uw X' [] H' b:=λhn b a=>by
  refine#v[hn b a,?_,?_,?_,?_,?_]
  ·rw[eE];exact N7<|Z b a
  ·rw[<- f];intro z;rcases M5.mp (I3.stkSub b z) with q | q
   ·exact(N b a).2.1 q
   ·exact(N b a).2.2.1 q
  ·rw[<- f];exact .inl a
  ·rw[eE];intro x c e;rcases R x c e with⟨q,_⟩ | q
   ·exact Nat.ne_of_gt<|U6 (Z b a)<|Nat.le_of_succ_le q
   ·exact(N b a).2.2.2.2.1 x c (VW q)
  ·rw[<- f];exact(λp hp=>nomatch (hp))
 have fin:∀{j:St}{H':Hp}{s':Shared},bL X' [] j H' s'->Q ↥s2 H'->compPost (model X.prog X.w) X.A X.xe E QQ (.ref ↥s2) ↥s3 (.ok .next) s':=λ{j H' s'} J q=>by
  have hL:X'.env.locals=↥s3:=by rw[eE];rfl
  have un:Un (fN X.stack) fp (bO M ↥s2 (.lst [])) H' s3.heap s'.heap:=by
   have z:=J.base;rw[<- f] at z;exact z
  have hos:s'.os=s3.os:=by
   have z:=J.os;rw[<- f] at z;exact z
  have hok:c8 X.prog X.w H' s'.heap:=by
   have z:=J.hok;rw[eP,eW] at z;exact z
  have fc:H' ↥s3=none:=by
   have z:=J.free;rw[hL] at z;exact z
  have I5:bL X pins σ H' s':=by
   let[hh,gg,dd,tt,oo]:=s';obtain rfl:oo=s3.os:=hos;exact I3.call un hok J.bare λb a=>#v[(N b a).2.2.2.1,(N b a).2.1,(N b a).2.2.2.2.1,(N b a).2.2.2.2.2]
  let[m,hn,_]:=J.loc;rw[hL] at hn;exact hend _ _ s' H' q I5 (I3.fpOk (N0 _) fc) #v[m,hn]
 have loop:∀ s',s'=({s3 with heap:=O,toks:=s2.toks}:Shared)->codeAny (model X.prog X.w) X.A (.compLoop (.ListComp elt [#v[tg,iter,ifs,0]] scope pos) 0 (.ref it) (.ref ↥s2) X'.env) (compPost (model X.prog X.w) X.A X.xe E QQ (.ref ↥s2) ↥s3) s':=by
  rintro s' rfl;refine xc (λn s'=>∃ i j H',bL X' [] j H' s'/\tn i s'.heap/\(∀ b∈fp,H' b=none)/\W i n j H') ?_ m0 #v[0,_,_,I4,st4,λb a=>(N b a).1,w0];rintro n s5 ⟨i,σ5,H5,I5,st5,fr5,w5⟩;have it5:=T.item X' eP eW eK eC i [] s5 σ5 H5 (λ_ _=>False) I5 (F fr5) st5;have dn5:=T.done X' eP eW eK eC i [] s5 σ5 H5 (λ_ _=>False) I5 (F fr5) st5;rw[eA] at it5 dn5;rcases turn i n σ5 H5 w5 with⟨stop,qn⟩ | ⟨go,step⟩
  ·refine thn (dn5 stop) λr s6 ⟨hr,I6⟩=>?_;subst hr;exact fin I6 qn
  ·refine thn (it5 go) λr s6 ⟨u,hr,h6⟩=>?_;subst hr;refine thn h6 λ_ s7 hh=>?_;let[x,H7,I7,r7,y7,st7,fr7]:=hh;have a7:=hg' _ s7 σ5 H7 x u _ (I7.pinned (F fr7)<|T.obj _ _ st7) r7<|step x H7 y7;rw[eP,eW,eA,eX] at a7;refine thn a7 λ_ s8 hh=>?_;let[G,H8,I8,q8]:=hh;have L:∀{l:Shared}{D:Hp},bL X' ([]++Kl fp s7.heap) G D l->(∃ t,t<n/\W (i+1) t G D)->∃ m,m<n/\∃ i j H',bL X' [] j H' l/\tn i l.heap/\(∀ b∈fp,H' b=none)/\W i m j H':=λ{l D} U ⟨t,hm,w9⟩=>by
    refine#v[t,hm,i+1,G,D,U.unpinned,T.keep _ _ _ st7 λb a o e=>(U.pin (b,o)<|U5 _<|U5 _<|kS a e).1,λb a=>?_,w9];let[o,e,d]:=T.obj _ _ st7 b a;exact(U.pin (b,o)<|U5 _<|U5 _<|kS a e).2.1
   have YL:∀(b:Bool) (l:Shared) (D:Hp),bL X' ([]++Kl fp s7.heap) G D l->(if b=true then te G D λy H6=>∃ ys,H6 ↥s2=some (.lst ys)/\ys.length<sizeLine/\∃ t,t<n/\W (i+1) t G (bO H6 ↥s2 (.lst<|ys++[y]))
     else ∃ t,t<n/\W (i+1) t G D) ->
     if b=true then wpAny (model X.prog X.w) X.A (eval elt X'.env) (λx s₄=>wpAny (model X.prog X.w) X.A (call (.builtin "list.append") [.ref ↥s2,x]) (λ_ s₅=>∃ m,m<n/\∃ i j H',bL X' [] j H' s₅/\tn i s₅.heap/\(∀ b∈fp,H' b=none)/\W i m j H') (λ_ _=>False) s₄) (λ_ _=>False) l
     else ∃ m,m<n/\∃ i j H',bL X' [] j H' l/\tn i l.heap/\(∀ b∈fp,H' b=none)/\W i m j H':=λb l D U q9=>by
    cases b with
    | false=>
     exact L U q9
    | true=>
     have a9:=he' _ l G D _ U q9;rw[eP,eW,eA,eX] at a9;refine thn a9 λyv s10 hh=>?_;let[y,H10,de,r10,ys,e10,l10,q10]:=hh;have a10:=J3 _ s10 G H10 (.ref ↥s2) [y] (.ref ↥s2) [yv] (λ_ H'=>∃ t,t<n/\W (i+1) t G H') de rfl (.cons r10 .nil) #v[_,ys,y,rfl,rfl,e10,l10,q10];rw[eP,eW,eA,eX] at a10;exact thn a10 λ_ s11 ⟨_,H11,I11,_,q11⟩=>L I11 q11
   rcases S with⟨e1,e2⟩ | ⟨c,e1,e2⟩
   ·subst e1;rw[e2] at q8;exact wpAny_tests_nil<|YL true s8 H8 I8 q8
   ·subst e1;have a8:=e2 _ s8 G H8 _ I8 q8;rw[eP,eW,eA,eX] at a8;exact wpAny_tests_one<|thn a8 λb l ⟨D,U,q9⟩=>YL b l D U q9
 have V:codeAny (model X.prog X.w) X.A (.compStart (.ListComp elt [#v[tg,iter,ifs,0]] scope pos) 0 (.ref it) (.ref ↥s2) X'.env) (compPost (model X.prog X.w) X.A X.xe E QQ (.ref ↥s2) ↥s3) {s3 with heap:=O,toks:=s2.toks}:=
  codeAny_compStart_list (loop _ rfl) (T.self _ 0 _ _ _ st4<|loop _ rfl)
 rw[eE] at V;subst hs3;exact V
def wD(B:ca X scope N' ix)(c:X.calm=true)(hi:PI X tg iter wi)
  (d:∀ C s H fp,PG (ya X scope N' C s H fp) tg g) (a:∀ C s H fp,ni (ya X scope N' C s H fp) ifs tc) (e:∀ C s H fp,PE (ya X scope N' C s H fp) elt te)
  (i:∀ x,foldedSetIterable iter X.env x=pure x:=by intro _;rfl):PE X (.ListComp elt [#v[tg,iter,ifs,0]] scope pos) (Vb wi g tc te ix):=by
 intro b s u H Q I h;exact JW B c hi d a e i I h λp C o j q k f ⟨m,l⟩=>#v[m,l,λr n=>#v[.ref p,j,k.other f n,rfl,q]]
def Ko(B:ca X scope N' ix)(y:X.calm=true)(hi:PI X tg iter wi)
  (A:∀ C s H fp,PG (ya X scope N' C s H fp) tg g) (b:∀ C s H fp,ni (ya X scope N' C s H fp) ifs tc) (E:∀ C s H fp,PE (ya X scope N' C s H fp) elt te)
  (F:X.N.Nodup) (c:X.N[i]?=some x) (G:fC X.env.scope x)
  (hsw:swapsWith (.ListComp elt [#v[tg,iter,ifs,0]] scope pos) (some<|.Name x pos') spos.line X.env=pure true)
  (J:∀ x,foldedSetIterable iter X.env x=pure x:=by intro _;rfl)
  (K:X.fn x=true\/X.env.scope.names.lookup x=some .local:=by first | exact .inl rfl | exact .inr rfl | assumption):
  PS X (.Assign [.Name x pos'] (.ListComp elt [#v[tg,iter,ifs,0]] scope pos) spos) (gH (Vb wi g tc te ix)<|vJ i):=by
 intro a s U H D I h;rw[exec_Assign_Name_used _ _ _ _ hsw];refine L3<|wpAny_standAt<|L3<|L3<|thn (JW B y hi A b E J I h λp C k l q n f ⟨m,L⟩=>?_) λ_ k M=>M8<|M8 M;let[o,O,P,Q,r]:=id L;have hd:∀ v,o.data≠.cell v:=λv z=>by
  let[d,_]:=r;rw[d] at z;cases z
 have R:bL X (a++[(C,o)]) U l k:=n.pins_of λt j=>by
  rcases N3.mp j with z | z
  ·exact n.pin t<|U5 _ z
  ·have e:t=(C,o):=by simpa using z
   subst e;exact#v[Q,f.1,f.2.1,f.2.2.1,hd]
 refine wpAny_assign_Name<|Va R F c G (v:=.ref p) rfl (λs2 u=>?_) K;have w:=u.pin (C,o)<|U5 _<|U5 _<|M9.mpr rfl;refine#v[m,#v[o,O,P,w.1,r],λT S=>#v[_,l,(u.unpinned).other #v[w.2.1,f.2] S,q]]
def S(l:List Nat):Str:=#v[l.toArray]
def Jv(l):(S l).cps.toList=l:=by simp[S]
def JC(l):(S l).length=l.length:=by simp[S,Str.length]
def t_(h:S a=S b):a=b:=by
 rw[<- Jv a,<- Jv b,h]
def pT(a b):(S a=S b)=(a=b):=propext #v[t_,λh=>by rw[h]]
def pU(a b):S a++S b=S (a++b):=by
 apply PyProof.Rows.ext_toList;rw[PySem.W.KT.app_list,Jv,Jv,Jv]
def uf(c):(#v[#[c]]:Str)=S [c]:=rfl
def Yp{s:Type}(xs:List s)(lo hi:Option Int):List s:=(xs.drop<|HT.sIx xs.length 0 lo).take (HT.sIx xs.length xs.length hi-HT.sIx xs.length 0 lo)
def Ed(xs:List s)(k:Nat):Yp xs none (some (k:Int))=xs.take k:=by
 unfold Yp;rw[HT.dX,HT.eZ];simp[List.take_eq_take_iff]
def Ee(xs:List s)(k:Nat):Yp xs (some (k:Int)) none=xs.drop k:=by
 unfold Yp;rw[HT.dX,HT.eZ];by_cases h:k<=xs.length
 ·rw[Nat.min_eq_left h,List.take_of_length_le];rw[List.length_drop]
  lia
 ·have e:xs.drop k=[]:=List.drop_eq_nil_of_le ∅;rw[e,Nat.min_eq_right ∅];simp
def ug(lo hi)(n):Builtin.Str.strSliceIndices lo hi 1 n=(List.range<|HT.sIx n n hi-HT.sIx n 0 lo).map (HT.sIx n 0 lo+·):=by
 have a:∀ o d,(match o with | none=>d | some i=>(let i:=if i<0 then i+n else i;if 1>0 then max 0 (min i n) else max (-1) (min i<|n-1)))=((HT.sIx n d o:Nat):Int):=by
  intro o d;cases o with
  | none=>rfl
  | some v=>
   show(if 1>0 then max 0 (min (if v<0 then v+n else v) n) else _)=(((if v<0 then(v+n).toNat else min v.toNat n):Nat):Int);by_cases b:v<0
   ·lia
   ·lia
 rw[<- sliceRange_one,<- a lo 0,<- a hi n];rfl
def Ef(l)(lo hi):Txt.slice (S l) lo hi=S (Yp l lo hi):=by
 have g:HT.sIx l.length l.length hi<=l.length:=HT.ik _ _ (N0 _) _;have e:(Builtin.Str.strSliceIndices lo hi 1 (S l).length).filterMap ((S l).cps[·]?)=Yp l lo hi:=by
  rw[JC,ug];by_cases b:HT.sIx l.length 0 lo<=HT.sIx l.length l.length hi
  ·have c:=(StrLaws.picks l (HT.sIx l.length l.length hi-HT.sIx l.length 0 lo)<|HT.sIx l.length 0 lo) ∅;unfold Yp;rw[<- c];simp[S]
  ·have z:HT.sIx l.length l.length hi-HT.sIx l.length 0 lo=0:=by lia
   unfold Yp;rw[z];simp
 unfold Txt.slice;split
 ·rename_i h;have d:(Builtin.Str.strSliceIndices lo hi 1 (S l).length).length=(S l).length:=by lia
  rw[JC,ug,L1,List.length_range] at d;unfold Yp;by_cases a:l.length=0
  ·have:=List.length_eq_zero_iff.mp a;subst this;simp
  ·have f:HT.sIx l.length 0 lo=0:=by lia
   rw[f,List.drop_zero,List.take_of_length_le ∅]
 ·rw[e];rfl
def ul:V->Option Int->Option Int->Hp->VK->Prop:=λx lo hi H Q=>∃ l,x=.str (S l)/\l.length<=sizeLine/\Q (.str<|S<|Yp l lo hi) H
def u_(p:IsPart v o):∃ q:Option (Int×Tok),v=partValue q/\q.map (·.1)=o:=by
 cases p with
 | none=>exact#v[none,rfl,rfl]
 | int i t=>exact#v[some (i,t),rfl,rfl]
def Eg:gh X ul:=by
 intro a s u H x v n o lo hi p Q I e f pl g h;let[l,rfl,i,q]:=h;let[t,rfl]:=e;let[b,rfl,j]:=u_ pl;let[c,rfl,m]:=u_ g;refine#v["str",_,F.slot_str_getitem.lookup,typeIs_str _ _ _,wpAny_getItem_str_slice (st:=none) f rfl ?_];have key:∀ d k,EP X a u Q (.str (Txt.slice (S l) lo hi) d) {s with toks:=k}:=λd k=>by
  rw[Ef l lo hi];exact#v[.str<|S<|Yp l lo hi,H,I.tok k,#v[d,rfl],q]
 have e2:sliceMade (S l) t b c none=(if(1==1&&(Builtin.Str.strSliceIndices lo hi 1 (S l).length).length==(S l).length)=true then Made.val (.str (S l) t) else Made.str #v[((Builtin.Str.strSliceIndices lo hi 1 (S l).length).filterMap ((S l).cps[·]?)).toArray]):=by
  unfold sliceMade slicePicked;rw[j,m];rfl
 rw[e2];refine post_val_or_str #v[?_,key];exact N8 (Txt.slice_le (S l) lo hi) (by rw[JC];exact i)
def nk(l:List Nat):It:=#v[λi _=>i<l.length,λi H x H'=>H'=H/\∃ c,l[i]?=some c/\x=.str (S [c]),λi _=>l.length<=i]
def Eh{tg}{P}{w}{K}(a)(l)(t)(ty)(j:ty = "str_ascii_iterator" \/ ty = "str_iterator")
  (W:∀ A:Around,A.handled=none->Walks P w A a [a] [a] (S l).cps.size (SignAt<|S l) (λi h=>h.IsStrIter a ty (S l) t i)):dG P w K tg (nk l) [a] a (λi h=>h.IsStrIter a ty (S l) t i) where
 mem:=by simp
 obj:=λi h f b m=>by
  have e:b=a:=by simpa using m
  subst e;let[o,e,c,d]:=f;exact#v[o,e,λv z=>by rw[d] at z;cases z]
 keep:=λi h p f k=>by
  let[o,e,r]:=f;exact#v[o,k a (by simp) o e,r]
 item:=by
  intro X O Q R q i g s σ H E I x f G;let[y,B,T,C,D,F]:=x a (by simp);have J:(S l).cps.size=l.length:=by rfl
  refine(W X.A<|I.ok.hd q).item i s _ _ (by rw[J];exact G) f λv p tk U n V=>?_;let[c,u,L,rfl]:=U;have Y:bL X g σ H {s with heap:=p,toks:=tk}:=I.turned (λb o m e=>V b o ⇑m e) y B C D F;let[o,e,ct,d]:=id n;refine#v[_,rfl,lN e ct d (by rcases j with z | z<;>subst z<;>decide) #v[.str<|S [c],H,Y,#v[u,rfl],#v[rfl,c,by simpa [S] using L,rfl],n,λb m=>(x b m).1]]
 done:=by
  intro X O Q R q i g s σ H E I x f G;let[y,B,T,C,D,F]:=x a (by simp);have N:(S l).cps[i]?=none:=by
   have:l.length<=i:=G;simp[S,this]
  rcases j with z | z
  ·subst z;exact wpAny_pyNext_ascii_end (I.ok.hd q) f N λp M=>#v[rfl,I.turned (M) y B C D F]
  ·subst z;exact wpAny_pyNext_wide_end (I.ok.hd q) f N λp M=>#v[rfl,I.turned (M) y B C D F]
 self:=λ_ _ _ _ _ f h=>by
  rcases j with z | z
  ·subst z;exact wpAny_pyIter_striter_ascii f h
  ·subst z;exact wpAny_pyIter_striter_wide f h
def Ei:c_ X (compareOp .In) (λx y H Q=>∃ c l,x=.str (S [c])/\y=.str (S l)/\Q (.bl<|decide<|c∈l) H):=by
 intro a s w H x y v u Q I b d h;let[c,l,rfl,rfl,q]:=h;refine Ds a s w H _ _ v u Q I b d #v[_,_,rfl,rfl,?_];rw[<- uf,StrLaws.found_one,Jv];exact q
def Ej:c_ X (compareOp .NotIn) (λx y H Q=>∃ c l,x=.str (S [c])/\y=.str (S l)/\Q (.bl<|!decide (c∈l)) H):=by
 intro a s w H x y v u Q I b d h;let[c,l,rfl,rfl,q]:=h;refine xq a s w H _ _ v u Q I b d #v[_,_,rfl,rfl,?_];rw[<- uf,StrLaws.found_one,Jv];exact q
def Ek:c_ X (binaryOp .Add) (λx y H Q=>∃ a b,x=.str (S a)/\y=.str (S b)/\a.length+b.length<=sizeLine/\Q (.str<|S<|a++b) H):=by
 intro c s w H x y v u Q I d e h;let[a,b,rfl,rfl,f,q]:=h;refine Du c s w H _ _ v u Q I d e #v[_,_,rfl,rfl,by rw[JC,JC];exact f,?_];rw[pU];exact q
def El:c_ X (binaryOp .Mult) (rI (λi j=>Builtin.Int.intBits i<=2 ^ 20/\Builtin.Int.intBits j<=2 ^ 20) λi j=>.int<|i*j):=lP λ_ _ _ _ _ _ _ a q=>mul_int q<|IntMulOk.of_bits a.1 a.2
def fk(K:W4)(H:Hp)(a:Addr)(xs:List V):Prop:=
 Rd H a (.lst xs) \/ ∃ its n,K.lookup a=some {cls:=.type "list",data:=.seq its n}/\its.size<=sizeLine/\bM xs its.toList
def fk.sq{K}{H}{a}{xs}(h:fk K H a xs):ck K H a xs:=by
 rcases h with h | ⟨b,n,c,d,r⟩
 ·exact .inl h
 ·exact .inr #v[_,b,n,c,rfl,rfl,rfl,d,r]
def fk.of{K}{H}{a}{xs}(h:H a=some (.lst xs)):fk K H a xs:=.inl<|.inl h
def bL.listX(I:bL X pins u H s)(h:fk X.K H a xs):dv λits n=>cX (bM xs its) (s.heap.get? a=some {cls:=.type "list",data:=.seq its.toArray n}) (xs.length<=sizeLine):=by
 rcases h with h | ⟨its,n,b,c,r⟩
 ·let[z,its,n,r,e]:=h.ok I.hok;exact#v[its,n,r,e,z]
 ·refine#v[its.toList,n,r,by simpa using I.kIn a _ b,?_];have e:=r.length;simp only[Array.length_toList] at e
  lia
def vc(K:W4):R2:=λx y H Q=>∃ l b xs zs,x=.ref l/\y=.ref b/\fk K H l xs/\fk K H b zs/\xs.length+zs.length<=sizeLine/\∀ p,H p=none->Q (.ref p) (bO H p<|.lst<|xs++zs)
def Em:c_ X (binaryOp .Add) (vc X.K):=by
 intro d s U H x y v u Q I g i h;let[l,b,p,zs,rfl,rfl,j,k,t,q]:=h;cases g;cases i;let[c,n,r,e,_]:=I.listX j;let[a,w,f,e2,_]:=I.listX k;have z:=r.length;have m:=f.length;refine PySem.P.add_list e e2 ?_ (by rw[N4,N4];lia);have o:c.toArray++a.toArray=(c++a).toArray:=by simp
 rw[o];exact#v[.ref _,_,I.lnew (r.append f)<|by rw[N5];lia,rfl,q _ I.fresh]
def fO{l:PySem.W.OpenLaw}{n k}{j}{S}{N}{d}{K:Params->PySem.W.Frag}{CX:World->ij}{sp:World->Sp} 
  (U:l.most=some n) (A:n<=sizeLine) (B:d.params.defaults=[]) (X:bS k callerA)
  (Z:∀ w h,N w h->(K w.params).In h)
  (F:∀ w mg fa h,(K w.params).In h->h.Ns mainGlobals mg->mg d.name=some (.ref fa) ->
   ∃ fd:FuncData,(∀ s u,BindsTo s fd #v[[u],[]] [(x,u)]) /\
    ∀ base:Heap,(K w.params).In base->base.Ns mainGlobals mg->cB l.prog w (K w.params) mg base (CX w) k fa fd [x] (sp w))
  (C:∀ w H a (ns:List Int),ns.length<=n->(∀ x∈ns,Builtin.Int.intBits x<=2 ^ 20)->pO H->fk (K w.params) H a (ns.map V.int)->sp w [.ref a] H (λv _=>v=.bl true) λ_ _ _=>False)
  (D:∀ w H s e s',CX w [] H s (λ_ _ _=>False) e s'->False):
  PySem.W.WalkO q j S N l.row.toRowW d [] (λf vs=>PySem.call f vs):=by
 intro w s₀ s₁ mg mb G Y fa o pm cd doc dV kV ho hd hcd O E hg P Q as t y hrd I hlo;obtain rfl:dV=.none:=PySem.W.Dflts.none O B;obtain rfl:kV=.none:=PySem.W.Dflts.noKw O;let[a,vs,ns,rfl,rfl,c,p,i]:=Att.fh U t I;have J:=Z w _ Y;let[fd,hb,hF]:=F w mg fa _ J G.T.g E;refine PySem.W.enter_call (codeAny_mono (D_ J G.T.g G.T.b G.T.builtins G.T.nolimit hg c p (N8 i A) X hF hb (λH hO hS=>C w H a ns i ((by
   intro x hx;have e:PySem.W.ofPy (.list<|ns.map .int)=PySem.W.WData.list (ns.map PySem.W.WData.int):=by
    have e1:∀ ms:List Int,PySem.W.ofPys (ms.map PyData.int)=ms.map PySem.W.WData.int:=by
     intro ms
     induction ms with
     | nil=>rfl
     | cons m ms ih=>simp[PySem.W.ofPys,PySem.W.ofPy,ih]
    simp[PySem.W.ofPy,e1]
   have z:=PySem.W.lay0_ofPy (s:=.list .int) (d:=.list<|ns.map .int) rfl (by simp[Shape.has]) (by rw[e];exact((PySem.W.layW_cons y).1));have L:PyData.layable0 (.list<|ns.map .int)=true:=by
    simp[PyData.layableAll0] at z;exact z
   exact PyData.bits_item_of_ints L hx)) hO ?_) λH e s'=>D w H s₁ e s') λr s' hq=>?_)
 ·rcases hS with h | ⟨o,its,m,R,_,_,M,hz,r⟩
  ·exact .inl h
  ·have e:=J a o R;rw[c] at e;cases e;cases M;exact .inr #v[_,_,R,hz,r]
 ·let[rfl,z,L,h4]:=hq;exact#v[.inl #v[.bool true,.bool true,[],rfl,λ_=>rfl,.bool true,Att.fj l _,λ_=>#v[List.Pairwise.nil,λ_ hm=>(nomatch hm)]],z,L,h4]
def uZ(sc:Scope)(N:List Str)(scope:Scope)(N':List Str)(ix:List<|Option Nat):Bool:=
 decide (scope.kind=.function)&&decide (sc.kind=.function)&&scope.names.all (λy=>!decide (y.2=.cell)||decide (scope.names.lookup y.1=some .cell))&&scope.names.all (λy=>!decide (y.2=.local)||decide (scope.names.lookup y.1=some .local)) &&
 scope.names.all (λy=>!decide (y.2=.free)||(decide (scope.names.lookup y.1=some .free)&&(decide (sc.names.lookup y.1=some .cell)||decide (sc.names.lookup y.1=some .free))))&&decide N'.Nodup&&decide (ix.length=N'.length) &&
 (List.range ix.length).all (λi=>match ix[i]? with | some (some j)=>(match N'[i]? with | some x=>decide (N[j]?=some x)&&decide ((x,NameKind.free)∈scope.names) | none=>true) | _=>true)
structure df(K:W4)(mg:W6)(x qual:Str)(st:Stmt)(f:Addr)(fd:FuncData)(ps:List Str):Prop where
 fn:gj K x qual st f fd
 mgf:mg x=some (.ref f)
 bd:cZ K fd ps []
section
variable {X:Cx}{k:Nat}{f:Addr}{fd:FuncData}{ps:List Str}{sp:Sp}{x qual:Str}{st:Stmt}{p pos:Pos}{e:Expr}{es:List Expr}{t:TA}
def nl(F:df X.K X.mg x qual st f fd ps)(G:cB X.prog X.w X.K X.mg X.base dY k f fd ps sp)(g:bS k X.A)(i:PA X (e::es) t)(j:Gl X x:=by rfl)(b:Nd x:=by decide)
  (l:dw X e es:=by rfl) (c:dH X pos es:=by rfl):PE X (.Call (.Name x p) (e::es) [] pos) (Vr sp [] E0 t):=
 (by
   intro a s u H Q I h;exact wpAny_Call_Name_kw<|Qt I j F.mgf (PySem.W.callWith_K I.ok.mod.kin F.fn.kp (thn (i pos a s u H _ I h) λm s1 ⟨vs,n,d,r,q⟩=>#v[d.kIn,(pK G g F.bd .nil lX d r q)]) l c) b)
theorem zP:∀ l,bM (l.map λp=>V.str p.1)<|strValues l
 | []=>.nil
 | (x,t)::r=>.cons #v[t,rfl]<|zP r
def Eo:nb X "str.split" (λx vs H Q=>∃ a b,x=.str a/\vs=[.str b]/\(b.length==0)=false/\a.length+2<=sizeLine/\∀ p,H p=none->Q (.ref p) (bO H p<|.lst<|(Txt.split a b).map V.str)):=by
 intro d s z H x vs v r Q I j m h;let[a,b,rfl,rfl,g,w,q]:=h;let[t,rfl]:=j;let[u,rfl,n]:=m.one;let[f,rfl]:=n;have c:∀ l k,l.map (·.1)=Txt.split a b->l.length<=sizeLine->EP X d z Q (.ref ↥s) { s with toks:=k,heap:=s.heap.push {cls:=.type "list",data:=.seq (strValues l).toArray} }:=λl k e o=>by
  have e2:(Txt.split a b).map V.str=l.map λp=>V.str p.1:=by
   rw[<- e,U3];rfl
  refine#v[.ref ↥s,_,I.lnew (zP l)<|by rw[L1];exact o,rfl,?_];rw[<- e2];exact q _ I.fresh
 have i:(Builtin.Str.partsBetween a (Builtin.Str.occurrences a b 0 a.length<|a.length+1) b.length).length<=sizeLine:=by
  have y:=StrLaws.occ_length_le a b 0 a.length<|a.length+1;rw[length_partsBetween];lia
 cases h1:(decide (a.length<b.length)||decide (Builtin.Str.strKind a<Builtin.Str.strKind b))
 ·cases hf:(Builtin.Str.occurrences a b 0 a.length<|a.length+1).isEmpty
  ·refine call_meets F.slot_str_split (typeIs_str _ _ _) F.entry_str_split (F.args_str_split_2 _ _) (meets_str_split_sep a b t f h1 g hf ∅ i) ?_;rw[strsFrom_eq];refine c (numbered s.toks _) _ ((numbered_texts _ _).trans ((if_neg<|ne_true_of_eq_false h1).trans (if_neg<|ne_true_of_eq_false hf)).symm) ?_;have e:=congrArg List.length<|numbered_texts s.toks<|Builtin.Str.partsBetween a (Builtin.Str.occurrences a b 0 a.length<|a.length+1) b.length;rw[L1] at e;rw[e];exact i
  ·exact call_meets F.slot_str_split (typeIs_str _ _ _) F.entry_str_split (F.args_str_split_2 _ _) (meets_str_split_not_found a b t f h1 g hf)<|c [(a,t)] s.toks ((if_neg<|ne_true_of_eq_false h1).trans (if_pos hf)).symm (by show 1<=sizeLine;decide)
 ·exact call_meets F.slot_str_split (typeIs_str _ _ _) F.entry_str_split (F.args_str_split_2 _ _) (meets_str_split_cannot_occur a b t f h1)<|c [(a,t)] s.toks (if_pos h1).symm (by show 1<=sizeLine;decide)
end
section
variable {X:Cx}{pins:List (Addr×Obj)}{U:St}{H:Hp}{s:Shared}{h':Heap}
def bL.turnedNew{t'}{g:W5}{T:Addr}{xs}{its}(I:bL X pins U H s)(k:∀ b o,b∉g->s.heap.get? b=some o->h'.get? b=some o)(h:∀ b∈g,uw X pins H b)
  (i:↥s<=T) (l:cM h' T its) (p:bM xs its.toList) (t:xs.length<=sizeLine):bL X pins U (bO H T<|.tup xs) {s with heap:=h',toks:=t'}:=by
 have j:∀ b u,H b=some u->b∉g:=λb u e z=>by rw[(h b z).1] at e;cases e
 have d:∀ b u,H b=some u->b≠T:=λb u e z=>by rw[z,I.hok.fresh i] at e;cases e
 refine I.step (λb f=>?_) (λb o _ _ a e _=>k b o a e) (λb o _ _ a e _=>#v[o.slots,k b o a e]) (λb o _ e n=>?_)
  (λb o a e=>#v[o,k b o a e]) (λb w e=>by rw[je<|d b _ e];exact e) (λb o u e=>by rw[je<|d b _ e];exact e) (λb G e=>#v[#[],by rw[je<|d b _ e,e];simp]) (λm x=>?_) (λb u e=>?_) I.bare
 ·let[_,y,_,A,B,C]:=h b f;exact#v[A,y,B,C]
 ·rw[je<|λz=>absurd (N2 e)<|by rw[z];exact Nat.not_lt.mpr i];exact n
 ·let[o,D,E,F,r]:=x;refine#v[o,D,E,k _ o (λz=>(h _ z).2.1 rfl) F,r]
 ·by_cases f:b=T
  ·subst f;rw[jj] at e;cases e;exact#v[t,its.toList,p,by simpa using l]
  ·rw[je f] at e;refine(I.hok b u e).stay (λc v a q=>k c v ?_ q) (λc q=>by rw[je<|d c _ q];exact q) λc w q=>by rw[je<|d c _ q];exact q
   rcases a with z | z
   ·rw[z];exact j b u e
   ·exact j c _ z
def bL.turnedL{t'}{d:W5}(I:bL X pins U H s)(k:∀ b o,b∉d->s.heap.get? b=some o->h'.get? b=some o)(f:∀ b∈d,uw X pins H b):bL X pins U H {s with heap:=h',toks:=t'}:=by
 have g:∀ b u,H b=some u->b∉d:=λb u e z=>by rw[(f b z).1] at e;cases e
 refine I.step (λb h=>?_) (λb o _ _ a e _=>k b o a e) (λb o _ _ a e _=>#v[o.slots,k b o a e]) (λb o _ e n=>n)
  (λb o a e=>#v[o,k b o a e]) (λb A e=>e) (λb o u e=>e) (λb B e=>#v[#[],by rw[e];simp]) (λm i=>?_) (λb u e=>?_) I.bare
 ·let[_,j,_,l,p,t]:=f b h;exact#v[l,j,p,t]
 ·let[o,w,x,y,r]:=i;refine#v[o,w,x,k _ o (λz=>(f _ z).2.1 rfl) y,r]
 ·refine(I.hok b u e).stay (λc v a q=>k c v ?_ q) (λ_ q=>q) λ_ _ q=>q;rcases a with z | z
  ·rw[z];exact g b u e
  ·exact g c _ z
end
def Ep 
  (c:IsEnum s.heap e it n was) (hi:s.heap.IsListIter it l i) (H:s.heap.IsList l us) (I:us[i]?=some x) (ne:e≠it)
  (go:∀ k,IsEnumOut k e it (n+1) x ↥s->k.IsListIter it l (i+1)->k.get? ↥s=some {cls:=.type "tuple",data:=.seq #[.int n s.toks,x]} ->
   (∀ b o,b≠e->b≠it->s.heap.get? b=some o->k.get? b=some o)->C (some<|.ref ↥s) {s with heap:=k,toks:=s.toks+1}):wpAny (model prog w) A (pyNext<|.ref e) C E s:=by
 have ty:s.TypeIs (.ref e) "enumerate":=#v[_,c,rfl];exact L3 (wpAny_attempt (wpAny_callSpecial?_slot ty F.slot_enumerate_next
  (wpAny_call_entry F.slot_enumerate_next ty F.entry_enumerate_next ((by
    let[h,g,d,tk,os]:=s;show wpAny _ _ (field (.ref e) 2 >>= _) _ _ _;refine L3<|U8 c rfl rfl<|L3<|wpAny_nextOf_list_item hi H I λS J j=>?_;have m:=(j.2 e ne).trans c;refine L3<|U8 m rfl rfl<|L3<|U8 m rfl rfl<|L3<|wpAny_mkInt<|L3<|wpAny_setField_rec m (by simp) λT e2 p=>(L3<|wpAny_setField_rec e2 (by simp) λq e3 t=>(L3<|wpAny_newTuple ?_));have f:IsEnum (q.push {cls:=.type "tuple",data:=.seq #[.int n tk,x]}) e it (n+1) was:=L8 _ e3;generalize u:q.push {cls:=.type "tuple",data:=.seq #[.int n tk,x]}=k4 at f;have G:q.objs.size=h.objs.size:=by rw[t.1,p.1,j.1]
    have lt:=N2 c;have K:k4.get? h.objs.size=some {cls:=.type "tuple",data:=.seq #[.int n tk,x]}:=by rw[<- u,<- G];exact E3 _ rfl
    have kp:∀ b o,b≠e->b≠it->h.get? b=some o->k4.get? b=some o:=λb o a v y=>by
     rw[<- u];exact L8 _<|t.extBut b o a<|p.extBut b o a<|j.extBut b o v y
    have L:k4.IsListIter it l (i+1):=by
     rw[<- u];let[o,M,r]:=(J.extBut p.extBut ne.symm).extBut t.extBut ne.symm;exact#v[o,L8 _ M,r]
    show wpAny _ _ (Builtin.SmallTypes.ownedTupleIsFree (.ref e) >>= _) _ _ #v[k4,g,d,tk+1,os];rw[G];refine L3<|L3<|U8 f rfl rfl<|M8<|L3<|wpAny_rule<|L3<|U8 f rfl rfl<|L3<|wpAny_setField_rec f (by simp) λU e5 z=>(L3<|L3<|wpAny_setField_rec e5 (by simp) λV N B=>(wpAny_setField_rec N (by simp) λO e7 D=>(L3<|wpAny_letGo<|M8 #v[_,rfl,(λk c1 P Q R=>M8<|go k c1 P Q R) O e7 (((L.extBut z.extBut ne.symm).extBut B.extBut ne.symm).extBut D.extBut ne.symm) (D.extBut _ _ (Nat.ne_of_gt lt)<|B.extBut _ _ (Nat.ne_of_gt lt)<|z.extBut _ _ (Nat.ne_of_gt lt) K)<|λb o a v y=>D.extBut b o a<|B.extBut b o a<|z.extBut b o a<|kp b o a v y])))))<|F.args_enumerate_next_1 _)))
def Er(d:A.handled=none)
  (c:IsEnum s.heap e it n was) (hi:s.heap.IsListIter it l i) (f:s.heap.IsList l us) (a:us[i]?=none)
  (go:∀ k,Heap.ExtBut it s.heap k->C none {s with heap:=k}):wpAny (model prog w) A (pyNext<|.ref e) C E s:=by
 have ty:s.TypeIs (.ref e) "enumerate":=#v[_,c,rfl];refine L3<|wpAny_attempt<|wpAny_callSpecial?_slot ty F.slot_enumerate_next<|wpAny_call_entry F.slot_enumerate_next ty F.entry_enumerate_next ?_<|F.args_enumerate_next_1 _;show wpAny _ _ (field (.ref e) 2 >>= _) _ _ _;refine L3<|U8 c rfl rfl<|L3<|wpAny_nextOf_list_end d hi f a λk x b a=>?_;let[o,g,h]:=a;exact L3<|wpAny_isInstance #v[o,g,h] isSubtype_stop<|M8<|go _ b
def np(K:W4)(l:Addr)(n:Int):It:=
 ⟨λi H=>∃ xs x,ck K H l xs/\xs[i]?=some x,λi H x H'=>∃ p v,(∀ xs,ck K H l xs->xs[i]?=some v)/\x=.ref p/\H p=none/\H'=bO H p (.tup [.int<|n+i,v]),λi H=>∃ xs,ck K H l xs/\xs.length<=i⟩
def vd{P}{w}{K}{elts}{m}{pos}(e a l)(n)(t:e≠a)(Y:l≠e)(Z:l≠a):
  dG P w K (.Tuple elts m pos) (np K l n) [e,a] e (λi h=>(∃ old,IsEnum h e a (n+i) old)/\h.IsListIter a l i) where
 mem:=by simp
 obj:=λi h c b d=>by
  obtain⟨⟨old,f⟩,o,F,G,hd⟩:=c;rcases(⇑d:b=e\/b=a) with z | z
  ·subst z;exact#v[_,f,λv q=>by cases q]
  ·subst z;exact#v[o,F,λv q=>by rw[hd] at q;cases q]
 keep:=λi h h' c k=>by
  obtain⟨⟨old,f⟩,hit⟩:=c;exact#v[#v[old,k e (by simp) _ f],hit.at<|k a<|by simp]
 item:=by
  intro X J L M G i y s σ H E I C c N;subst J L M;let[V,x,D,O]:=N;let[Q,R,p,hz]:=I.list D;let[u,hu,ru]:=R.get O;obtain⟨⟨old,f⟩,hit⟩:=c;refine Ep f hit p.isList ⇑hu t λh1 F A hT hk=>#v[_,rfl,wpAny_letOwnedTupleGo_enum F λW S j=>?_];have g:=N2 f;have B:=(j.2 _<|Nat.ne_of_gt g).trans hT;have kk:∀ b o,b∉[e,a]->s.heap.get? b=some o->W.get? b=some o:=λb o d q=>by
   have r:b≠e/\b≠a:=by simpa using d
   exact(j.2 b r.1).trans (hk b o r.1 r.2 q)
  have I1:=I.turnedNew (t':=s.toks+1) (xs:=[.int<|n+i,x]) kk C (N0 _) #v[#v[_,B,rfl,_,rfl],_,B,rfl] (.cons #v[_,rfl]<|.cons ru .nil) (by show 2<=sizeLine;decide);have T:IsEnum W e a (n+((i+1:Nat):Int)) u:=by
   have q:=S;rw[show n+((i+1:Nat):Int)=n+i+1 by lia];exact q
  refine#v[.ref ↥s,_,I1,rfl,#v[_,x,(λys hy=>by rw[I.list_inj hy D];exact O),rfl,I.hok.fresh<|N0 _,rfl],#v[#v[_,T],A.at λo q=>(j.2 a t.symm).trans q],λb d=>?_];rw[je]
  ·exact(C b d).1
  ·intro z;have:b < ↥s:=by
    let[oi,U,_]:=id hit;rcases(⇑d:b=e\/b=a) with q | q
    ·rw[q];exact g
    ·rw[q];exact N2 U
   exact absurd this (by rw[z];exact Nat.lt_irrefl _)
 done:=by
  intro X J L M G i y s σ H E I C c N;subst J L M;let[V,D,O]:=N;let[Q,R,p,hz]:=I.list D;obtain⟨⟨old,f⟩,hit⟩:=c;have hl:=R.length;exact Er (I.ok.hd G) f hit p.isList (by simp;lia) λh1 eb=>#v[rfl,I.turnedL (λb o d q=>eb b o (by simp at d;exact d.2) q) C]
 self:=λ_ _ _ _ _ c h=>wpAny_pyIter_enum c.1.choose_spec h
def vo(K:W4)(tl:TA):TI:=λs H R=>tl s H λvs H1=>∃ a xs,vs=[.ref a]/\ck K H1 a xs/\R (np K a 0) H1
section
variable {X:Cx}
def Es{elts}{n}{tpos p pos}{a}{ta}(k:Gl X "enumerate")(m:X.mg "enumerate" = none)(r:PA X [a] ta)(t:starEach [a] X.env=[(false,eval a X.env)]:=by rfl):
  PI X (.Tuple elts n tpos) (.Call (.Name "enumerate" p) [a] [] pos) (vo X.K ta):=by
 intro c s U H R I h;refine Call_<|qX I k m (show bootBuiltins "enumerate" = some (.type "enumerate") by decide +kernel)<|PyProof.Rows.callWith_type1 (thn (r pos c s U H _ I h) λF s1 ⟨vs,i,g,r1,v⟩=>?_) t rfl;let[l,G,rfl,w,q]:=v;let[u,rfl,x]:=r1.one;cases x;let[y,J,pl,L]:=g.list w;have d:l < ↥s1:=by
  let[o,_,e,_]:=pl;exact N2 e
 refine call_enumerate_list pl.isList λA j hit B C=>?_;have D:bL X c U i {s1 with heap:=A}:=g.kept C;refine PySem.wpAny_pyIter_enum j #v[↥s1+1,[↥s1+1,↥s1],_,_,i,rfl,D,vd _ _ l 0 (Nat.succ_ne_self _) (N7<|Nat.lt_succ_of_lt d)<|N7 d,#v[#v[_,by simpa using j],hit],λb E=>?_,q];have f:↥s1<=b:=by
  rcases(⇑E:b=↥s1+1\/b=↥s1) with z | z
  ·rw[z];exact Nat.le_succ _
  ·rw[z];exact N0 _
 exact g.fpOk f<|g.hok.fresh f
end
section
variable {X:Cx}
def Et(c:X.calm=true):qG X (.builtin "sum") (λxs H Q=>∃(p:Addr) (ns:List Int),xs=[.ref p]/\ck X.K H p (ns.map V.int)/\Q (.int ns.sum) H):=by
 intro a s w H xs k Q I r h;let[p,ns,rfl,d,q]:=h;let[u,rfl,e]:=r.one;cases e;let[f,g,pl,l]:=I.list d;have hi:=Kx g;let[zs,b]:=hi.allInts.items;refine sum_intListG (I.ok.hd c) (b▸pl.isList) λm tk n i=>?_;have j:ns=zs.toList.map (·.1):=by
  rw[<- nums_intItems,<- b];exact(hi.numsOf).symm
 have e2:preSum (numAt zs) zs.size=ns.sum:=by
  rw[preSum_eq,List.take_of_length_le<|by simp,j]
 rw[e2];exact#v[.int ns.sum,H,I.kept i,#v[_,rfl],q]
inductive f4 (K:W4) (H:Hp):V->String->Prop where
 | non:f4 K H .non "NoneType"
 | bl (x:Bool):f4 K H (.bl x) "bool"
 | int (i:Int):f4 K H (.int i) "int"
 | str (x:Str):f4 K H (.str x) "str"
 | lst {a:Addr}{xs:List V}(e:ck K H a xs):f4 K H (.ref a) "list"
 | tup {a:Addr}{xs:List V}(e:cJ K H a xs):f4 K H (.ref a) "tuple"
 | dK {a:Addr}{kvs:List (cW×V)}(e:H a=some (.dK kvs)):f4 K H (.ref a) "dict"
def QU:qG X (.builtin "isinstance") (λxs H Q=>∃ x T t b,xs=[x,.ty T]/\f4 X.K H x t/\PySem.W.kitOne X.K (.type t) (.type T)=some b/\Q (.bl b) H):=by
 intro d s U H xs w Q I r h;let[x,T,t,b,rfl,ty,e,q]:=h;let[u,v,rfl,r1,l]:=r.two;cases l;have c:∀ tk,EP X d U Q (.bool b) {s with toks:=tk}:=λtk=>#v[.bl b,H,I.tok tk,rfl,q];cases ty with
 | non=>cases(r1);exact PySem.W.kia_one PySem.W.kitx_none I.kIn True.intro e (λz=>nomatch z) c
 | bl y=>cases(r1);exact PySem.W.kia_one PySem.W.kitx_bool I.kIn True.intro e (λz=>nomatch z) c
 | int i=>let[t,q]:=(r1);cases q;exact PySem.W.kia_one PySem.W.kitx_int I.kIn True.intro e (λz=>nomatch z) c
 | str y=>let[t,q]:=(r1);cases q;exact PySem.W.kia_one PySem.W.kitx_str I.kIn True.intro e (λz=>nomatch z) c
 | @lst a xs f=>
  cases(r1);obtain⟨k,_,⟨o,n,g,j,_,_⟩,_⟩:=I.list f;exact PySem.W.kia_one PySem.W.kitx_list I.kIn #v[o,g,j] e (λz=>nomatch z) c
 | @tup a xs f=>
  cases(r1);obtain⟨k,_,⟨o,g,j,_⟩,_⟩:=I.tuple f;exact PySem.W.kia_one PySem.W.kitx_tuple I.kIn #v[o,g,j] e (λz=>nomatch z) c
 | @dK a m f=>
  cases(r1);let[_,_,vs,_,p]:=(I.hok a _ f);let[o,A,B,g,j,_]:=p;exact PySem.W.kia_one PySem.W.kitx_dict I.kIn #v[o,g,j.1] e (λz=>nomatch z) c
end
section
variable {κ:Type} [DecidableEq κ]
def V5(kvs:List<|κ×V)(k:κ):Option V:=(kvs.find? λkv=>decide<|kv.1=k).map (·.2)
def J9(kvs:List<|κ×V)(k:κ)(v:V):List (κ×V):=
 if(kvs.any λkv=>decide<|kv.1=k)=true then kvs.map (λkv=>if kv.1=k then(kv.1,v) else kv) else kvs++[(k,v)]
def JS{p}{r:List (κ×V)}(e:p.1=k):V5 (p::r) k=some p.2:=by simp[V5,List.find?_cons,e]
def JX{p}{r:List (κ×V)}(e:¬ p.1=k):V5 (p::r) k=V5 r k:=by simp[V5,List.find?_cons,e]
theorem vr(k):∀ kvs:List (κ×V),(kvs.any λkv=>decide<|kv.1=k)=(V5 kvs k).isSome
 | []=>rfl
 | p::r=>by
  rw[List.any_cons];by_cases e:p.1=k
  ·simp only[JS e,X5 e,Bool.true_or,Option.isSome_some]
  ·rw[JX e,X6 e,Bool.false_or];exact vr k r
def JJ(a)(k:κ)(v):(J9 a k v).length<=a.length+1:=by
 unfold J9;split
 ·rw[L1];lia
 ·rw[N5,M3,List.length_nil];lia
def cQ.isSome_eq(r:cQ o u):o.isSome=u.isSome:=by
 cases o with
 | none=>cases u with
  | none=>rfl
  | some _=>exact(r).elim
 | some _=>cases u with
  | none=>exact(r).elim
  | some _=>rfl
def cQ.getD(r:cQ o u)(rd:bN d d'):bN (o.getD d) (u.getD d'):=by
 cases o with
 | none=>cases u with
  | none=>exact rd
  | some _=>exact(r).elim
 | some _=>cases u with
  | none=>exact(r).elim
  | some _=>exact r
def KV.val(r:KV kvs vs)(k:κ):cQ (V5 kvs k) (valueAt vs k):=by
 induction r with
 | nil=>exact True.intro
 | @cons p q i a h t f=>
  let[d,g]:=h;by_cases e:p.1=k
  ·have c:=d.symm.trans e;have b:valueAt (q::a) k=some q.2:=by simp[valueAt,List.find?_cons,c]
   rw[JS e,b];exact g
  ·have c:¬ q.1=k:=λz=>e<|d.trans z;have b:valueAt (q::a) k=valueAt a k:=by simp[valueAt,List.find?_cons,c]
   rw[JX e,b];exact f
def KV.any(r:KV kvs vs)(k:κ):(kvs.any λkv=>decide<|kv.1=k)=vs.any λkv=>decide (kv.1=k):=by
 induction r with
 | nil=>rfl
 | cons h t a=>rw[List.any_cons,List.any_cons,a,h.1]
def KV.repl(r:KV kvs vs)(k:κ)  (b:bN y u):
  KV (kvs.map λkv=>if kv.1=k then(kv.1,y) else kv) (vs.map λkv=>if kv.1=k then(kv.1,u) else kv):=by
 induction r with
 | nil=>exact .nil
 | @cons p q f g h t c=>
  rw[L5,L5];refine .cons ?_ c;let[a,d]:=h;by_cases e:p.1=k
  ·rw[if_pos e,if_pos<|a.symm.trans e];exact#v[a,b]
  ·rw[if_neg e,if_neg<|λz=>e<|a.trans z];exact#v[a,d]
def KV.put(r:KV kvs vs)(k:κ)  (a:bN y u):KV (J9 kvs k y) (stored vs k u):=by
 unfold J9 stored;rw[r.any k];by_cases e:(vs.any λb=>decide<|b.1=k)=true
 ·rw[if_pos e,if_pos e];exact r.repl k a
 ·rw[if_neg e,if_neg e];exact Paired.snoc r #v[rfl,a]
def KV.length(r:KV kvs vs):kvs.length=vs.length:=Paired.length r
end
def lY(r:bN (kV k) u):(bT P w).is k u=true:=by
 cases k with
 | inl i=>let[t,e]:=(r);subst e;exact dk P w i t
 | inr x=>let[t,e]:=(r);subst e;exact dl P w x t
theorem xv:∀{ks}{us},bM (ks.map kV) us->ItemsAre (bT P w) ks us
 | [],_,r=>by rw[List.map_nil] at r;cases r;exact .nil
 | k::ks,_,r=>by
  cases r with
  | cons h t=>exact .cons (lY h)<|xv t
abbrev KT(H:Hp):List (List cW×V)->List (List cW×Addr×Value)->Prop:=Paired λp q=>p.1=q.1/\H q.2.1=some (.tup<|p.1.map kV)/\bN p.2 q.2.2
def KT.val(r:KT H kvs xs)(k):cQ (V5 kvs k) ((atKey xs k).map (·.2)):=by
 induction r with
 | nil=>exact True.intro
 | @cons p q i a h t f=>
  let[d,_,g]:=h;by_cases e:p.1=k
  ·have c:=d.symm.trans e;have b:atKey (q::a) k=some q.2:=by simp[atKey,List.find?_cons,c]
   rw[JS e,b];exact g
  ·have c:¬ q.1=k:=λz=>e<|d.trans z;have b:atKey (q::a) k=atKey a k:=by simp[atKey,List.find?_cons,c]
   rw[JX e,b];exact f
def KT.repl(r:KT H kvs xs)(k)  (c:bN y u):
  KT H (kvs.map λkv=>if kv.1=k then(kv.1,y) else kv) (xs.map<|putAt k u):=by
 induction r with
 | nil=>exact .nil
 | @cons p q g i h t d=>
  rw[L5,L5];refine .cons ?_ d;let[a,b,f]:=h;unfold putAt;by_cases e:p.1=k
  ·rw[if_pos e,if_pos<|a.symm.trans e];exact#v[a,b,c]
  ·rw[if_neg e,if_neg<|λz=>e<|a.trans z];exact#v[a,b,f]
def KT.put(r:KT H kvs xs)(k)  (c:H b=some (.tup<|k.map kV)) (a:bN y u):
  KT H (J9 kvs k y) (storedH xs k b u):=by
 have e:(kvs.any λd=>decide<|d.1=k)=(atKey xs k).isSome:=by
  rw[vr,(r.val k).isSome_eq,Option.isSome_map]
 unfold J9 storedH;rw[e];by_cases q:(atKey xs k).isSome=true
 ·rw[if_pos q,if_pos q];exact r.repl k a
 ·rw[if_neg q,if_neg q];exact Paired.snoc r #v[rfl,c,a]
def KT.keeps(r:KT H kvs xs)(a:∀ b ys,H b=some (.tup ys)->H' b=some (.tup ys)):KT H' kvs xs:=
 Paired.mapP r λ_ _ z=>#v[z.1,a _ _ z.2.1,z.2.2]
def v_(ok:c8 P w H h)(e:Rd H a u):cj P w H h a u:=e.ok ok
def wV(ok:c8 P w H h)(e:Rd H a<|.dK kvs):kvs.length<=sizeLine/\(a==sysModules)=false/\∃ vs,KV kvs vs/\h.DictOf (bT P w) a vs:=
 v_ ok e
def wh(ok:c8 P w H h)(e:H a=some (.dK kvs)):kvs.length<=sizeLine/\(a==sysModules)=false/\∃ vs,KV kvs vs/\h.DictOf (bT P w) a vs:=wV ok<|.inl e
def zL(ok:c8 P w H h)(e:H a=some (.tup<|ks.map kV)):(tupleKind<|bT P w).is h ks a:=by
 obtain⟨_,b,r,⟨o,c,d,n,f⟩,_⟩:=(ok a _ e);exact#v[o,b.toArray,n,c,d,f,by simpa using xv r]
def iS(ok:c8 P w H h)(e:Rd H a<|.dT kvs):kvs.length<=sizeLine/\(a==sysModules)=false /\
  ∃ xs,KT H kvs xs/\h.DictOfH (tupleKind<|bT P w) a xs:=by
 let[z,y,xs,r,o,d,f,g,i,j,k,n]:=(v_ ok e);refine#v[z,y,xs,r,o,d,f,g,i,j,k,λx b=>?_,n];have all:∀{l}{m},KT H l m->∀ x∈m,(tupleKind<|bT P w).is h x.1 x.2.1:=by
  intro l m q
  induction q with
  | nil=>intro x b;exact nomatch b
  | @cons p q u v c t s=>
   intro x b;rcases M5.mp b with e | b
   ·subst e;exact zL ok (by rw[<- c.1];exact c.2.1)
   ·exact s x b
 exact all r x b
def wl(ok:c8 P w H h)(e:H a=some (.dT kvs)):kvs.length<=sizeLine/\(a==sysModules)=false /\
  ∃ xs,KT H kvs xs/\h.DictOfH (tupleKind<|bT P w) a xs:=iS ok<|.inl e
def cy(H:Hp)(a:Addr)(y:V)(r:Option V):Prop:=
 (∃ kvs k,Rd H a (.dK kvs)/\y=kV k/\r=V5 kvs k) \/ ∃ kvs k b,Rd H a (.dT kvs)/\y=.ref b/\H b=some (.tup<|k.map kV)/\r=V5 kvs k
def cR(H:Hp)(a:Addr)(y v:V)(H':Hp):Prop:=
 (∃ kvs k,H a=some (.dK kvs)/\y=kV k/\kvs.length<sizeLine/\H'=bO H a (.dK<|J9 kvs k v)) \/
 ∃ kvs k b,H a=some (.dT kvs)/\y=.ref b/\H b=some (.tup<|k.map kV)/\kvs.length<sizeLine/\H'=bO H a (.dT<|J9 kvs k v)
theorem cy.k{H}{a}{b}{k}(e:H a=some (.dK b)):cy H a (kV k) (V5 b k):=.inl #v[b,k,.inl e,rfl,rfl]
def cy.t{c}{k}(e:H a=some (.dT c))(d:H b=some (.tup<|k.map kV)):cy H a (.ref b) (V5 c k):=.inr #v[c,k,b,.inl e,rfl,d,rfl]
theorem cR.k{H}{a}{b}{k}{v}(e:H a=some (.dK b))(c:b.length<sizeLine):cR H a (kV k) v (bO H a<|.dK<|J9 b k v):=.inl #v[b,k,e,rfl,c,rfl]
def cR.t{c}{k}(e:H a=some (.dT c))(d:H b=some (.tup<|k.map kV))(f:c.length<sizeLine):
  cR H a (.ref b) v (bO H a<|.dT<|J9 c k v):=.inr #v[c,k,b,e,rfl,d,f,rfl]
def bL.big(I:bL X pins u H s):sysModules < ↥s:=by
 have h:=(I.mod.glob.keeps I.bk).lt;exact Nat.lt_trans (by decide) h
def zV(q:A.units+1<cLine)(I:bL X pins U H s)(g:cy H a y<|some v)(o:bN y u)(h:∀ w' s',bL X pins U H s'->bN v w'->Q w' s'):
  wpAny (model X.prog X.w) A (getItem (.ref a) u) Q E s:=by
 rcases g with⟨f,k,e,i,l⟩ | ⟨f,k,b,e,i,r,l⟩
 ·subst i;let[z,hd,vs,c,j]:=wV I.hok e;let[w',m,d]:=cQ.some_of (by rw[l];exact c.val k);exact wpAny_getItem_of (lY o) j.mapOf m<|h w' _ (I.tok _) d
 ·subst i;cases(o);let[z,hd,x,c,j]:=iS I.hok e;let[w',m,d]:=cQ.some_of (by rw[l];exact c.val k);let[p,t,n]:=Option.map_eq_some_iff.mp m;refine wpAny_getItem_heap (tupleKind_room_in1 q) (zL I.hok r) j t ?_;rw[n];exact h w' _ (I.tok _) d
def Eu(m:A.units+1<cLine)(I:bL X pins v H s)(g:cy H a y o)(j:bN y u)(h:∀ s',bL X pins v H s'->Q (.bool<|!o.isSome) s'):
  wpAny (model X.prog X.w) A (compareOp .NotIn u<|.ref a) Q E s:=by
 rcases g with⟨d,k,e,f,l⟩ | ⟨d,k,b,e,f,n,l⟩
 ·subst f;let[z,hd,vs,c,i]:=wV I.hok e;refine wpAny_notIn_of (lY j) hd i.mapOf ?_;rw[<- (c.val k).isSome_eq,<- l];exact h _<|I.tok _
 ·subst f;cases(j);let[z,hd,p,c,i]:=iS I.hok e;refine wpAny_notIn_heap (tupleKind_room_in1 m) (zL I.hok n) hd i ?_;have q:=(c.val k).isSome_eq;rw[Option.isSome_map] at q;rw[<- q,<- l];exact h _<|I.tok _
def xI(I:bL X pins u H s)(c:lK<|H a)(d:Heap.SameBut a s.heap h')(e:∃ q,h'.get? a=some q)(new:cj X.prog X.w (bO H a ob) h' a ob):
  bL X pins u (bO H a ob) {s with heap:=h',toks:=t'}:=
 I.write c (.inl rfl) (λb q f z=>(d.2 b f).trans z) e new
def wr{A:Around}(G:∀ kvs,H a=some (.dT kvs)->A.units+1<cLine)(I:bL X pins U H s)(g:cR H a y v H')(x:bN y u)(B:bN v r)(h:∀ s',bL X pins U H' s'->Q () s'):
  wpAny (model X.prog X.w) A.in1 (dictSet a u r) Q E s:=by
 rcases g with⟨kvs,k,e,j,l,m⟩ | ⟨kvs,k,b,e,j,C,l,m⟩
 ·subst j m;let[z,hd,vs,d,n]:=wh I.hok e;have o:vs.length<=sizeLine:=by rw[<- d.length];exact z
  have p:(J9 kvs k v).length<=sizeLine:=by have:=JJ kvs k v;lia
  refine wpAny_dictSet_pairs (hsz:=o) (lY x) n λD f t=>h _ ?_;have J:∃ q,D.get? a=some q:=let ⟨q,_,_,i,_⟩:=f;#v[q,i]
  exact xI I (by rw[e];exact True.intro) t J<|#v[p,hd,(stored vs k r),(d.put k B),f]
 ·subst j m;cases(x);let[z,hd,K,d,n]:=wl I.hok e;have o:K.length<=sizeLine:=by rw[<- Paired.length d];exact z
  have p:(J9 kvs k v).length<=sizeLine:=by have:=JJ kvs k v;lia
  refine wpAny_dictSet_heap (hsz:=o) (tupleKind_room_in1<|G _ e) (zL I.hok C) n λD f t=>h _ ?_;let[q,L,M,i,N,O,P,_,R]:=f;refine xI I (by rw[e];exact True.intro) t ⟨q,i⟩ ⟨p,hd,_,(d.put k C B).keeps λc S F=>?_,q,L,M,i,N,O,P,R⟩;rw[je<|(show c≠a from by intro e;subst e;rw[F] at e;exact(λz=>nomatch z) (X8 e))];exact F
def Q6(c:A.units+1<cLine)(I:bL X pins x H s)(g:cR H a y v H')(f:bN y u)(i:bN v r)(h:∀ s',bL X pins x H' s'->Q () s'):
  wpAny (model X.prog X.w) A (setItem (.ref a) u r) Q E s:=by
 have b:s.TypeIs (.ref a) "dict":=by
  rcases g with⟨_,_,e,_⟩ | ⟨_,_,_,e,_⟩
  ·let[_,_,_,_,d]:=wh I.hok e;exact d.typeIs
  ·let[_,_,_,_,d]:=wl I.hok e;exact d.typeIs
 unfold setItem;refine wpAny_holding<|L3<|wpAny_sequenceKey b (by decide) ?_;refine L3<|wpAny_callSpecial?_slot (name:=Str.ofString "__setitem__") b PySem.F.slot_dict_setitem<|wpAny_call_entry PySem.F.slot_dict_setitem b PySem.F.entry_dict_setitem ?_<|PySem.F.args_dict_setitem_3 _ _ _;refine L3<|wpAny_notOrdered_dict b ?_;show wpAny _ _ (dictSet a u r >>= _) _ _ s;exact L3<|wr (λ_ _=>c) I g f i λs1 J=>M8 #v[.none,rfl,M8<|h s1 J]
def wM(i:Expr):Prop:=∀ ov iv,subscripted i false ov iv=operate [ov,iv] (getItem ov iv)
def Ev{prog}{w}{A}{E}{s}{env}{value slice}{pos}{T id}{Q}
  (d:typeLookup (.type T) "__getitem__" = pure (some<|.builtin id)) (e:wM slice)
  (h:wpAny (model prog w) A (eval value env) (λo s₁=>wpAny (model prog w) A (eval slice env) (λi s₂=>s₂.TypeIs o T/\wpAny (model prog w) A (getItem o i) Q E s₂) E s₁) E s):
  wpAny (model prog w) A (eval (.Subscript value slice pos) env) Q E s:=by
 refine Subscript_<|wpAny_mono h (λo s₁ f=>wpAny_mono f (λi s₂ b=>?_) λ_ _ x=>x) λ_ _ x=>x;let[g,b]:=b;refine L3 ?_;refine L3<|wpAny_specialOf g d ?_;have a:wpAny (model prog w) A (subscripted slice false o i) (λr c=>wpAny (model prog w) A (letTemporaryGo value o r >>= λ_=>pure r) Q E c) E s₂:=by
  rw[e o i];exact wpAny_operating<|wpAny_mono b (λr c j=>L3<|wpAny_letTemporaryGo<|M8 j) λ_ _ x=>x
 first
  | exact M8 (L3 a)
  | exact L3 (M8 (L3 a))
  | exact L3 a
def wO(td ty:TE):TE:=λs H Q=>td s H λx H1=>ty s H1 λy H2=>∃ a v,x=.ref a/\cy H2 a y (some v)/\Q v H2
def wm(ty td:TE):TE:=λs H Q=>ty s H λy H1=>td s H1 λx H2=>∃ a o,x=.ref a/\cy H2 a y o/\Q (.bl<|!o.isSome) H2
def xH(td ty tv:TE):TS:=λD s H=>tv s H λv H1=>td s H1 λx H2=>ty s H2 λy H3=>∃ a H4,x=.ref a/\cR H3 a y v H4/\D.nx s H4
def iT(td ty tv:TE)(rd:V->V->Hp->VK->Prop):TS:=λD s H=>td s H λx H1=>ty s H1 λy H2=>∃ a v,x=.ref a/\cy H2 a y (some v) /\
 tv s H2 λy2 H3=>rd v y2 H3 λz H4=>∃ H5,cR H4 a y z H5/\D.nx s H5
def Ew(c:X.A.units+1<cLine)(hi:PE X i ty)(d:PE X o td):PC X .NotIn i o (wm ty td):=by
 intro b s z H Q I h;refine thn (hi b s z H _ I h) λv s1 ⟨y,e,f,j,k⟩=>thn (d b s1 z e _ f k) λu s2 l=>?_;let[x,m,n,p,a,q,ex,g,r]:=l;subst ex;obtain rfl:u=Value.ref a:=p;exact Eu c n g j λw t=>#v[.bl<|!q.isSome,m,t,rfl,r]
def Qy(c:X.A.units+1<cLine)(d:PE X o td)(hi:PE X i ty)(e:PE X value tv)(f:swapsWith value (some<|.Subscript o i pos') pos.line X.env=pure false):
  PS X (.Assign [.Subscript o i pos'] value pos) (xH td ty tv):=by
 intro b s U H D I h;refine wpAny_Assign_Subscript (thn (e b s U H _ I h) λr s1 ⟨v,j,k,l,m⟩=>thn (d b s1 U j _ k m) λu s2 ⟨x,n,p,q,t⟩=>thn (hi b s2 U n _ p t) λG J w=>?_) f;let[y,K,z,B,a,C,ex,g,E]:=w;subst ex;obtain rfl:u=Value.ref a:=q;exact Q6 c z g B l λL F=>#v[U,C,F,E]
def K3(j:X.A.units+1<cLine)(l:PE X o td)(hi:PE X i ty)(m:PE X value tv)(c:pH X op rd)
  (n:∀ ov iv new,augStore i ov iv new=(do holding [new,ov,iv] (setItem ov iv new);release [new,ov,iv] [];pure .next)):PS X (.AugAssign (.Subscript o i tpos) op value pos) (iT td ty tv rd):=by
 intro b s σ H D I h;refine wpAny_AugAssign_SubscriptAny (thn (l b s σ H _ I h) λu s1 ⟨x,p,q,r,t⟩=>thn (hi b s1 σ p _ q t) λiv s2 d=>?_) n;let[y,w,B,k,a,v,ex,g,C]:=d;subst ex;obtain rfl:u=Value.ref a:=r;refine zV j B g k λE F G e=>thn (m b F σ w _ G C) λw2 J ⟨K,L,M,f,N⟩=>thn (c b J σ L v K E w2 _ M e f N) λU V d=>?_;let[z,W,O,P,Q,R,S]:=d;exact Q6 j O R k P λY T=>#v[σ,Q,T,S]
def u6(h:Heap)(a:sysModules<h.objs.size):cj P w H (h.push {cls:=.type "dict",data:=.dict #[]}) h.objs.size (.dK []):=
 ⟨U7 _,U4.mpr<|Ne.symm<|N7 a,[],.nil,Heap.DictOf.new h⟩
def uj(h:Heap)(a:sysModules<h.objs.size):cj P w H (h.push {cls:=.type "dict",data:=.dict #[]}) h.objs.size (.dT []):=
 ⟨U7 _,U4.mpr<|Ne.symm<|N7 a,[],.nil,_,#[],0,E3 _ rfl,⟨rfl,rfl,rfl⟩,rfl,rfl,List.nodup_nil⟩
def Ex:TE:=λ_ H Q=>∀ p,H p=none->Q (.ref p) (bO H p<|.dK [])
def Ey:TE:=λ_ H Q=>∀ p,H p=none->Q (.ref p) (bO H p<|.dT [])
abbrev VV:List (V×V)->List (Value×Value)->Prop:=Paired λp q=>bN p.1 q.1/\bN p.2 q.2
structure M1(X:Cx)(o:Expr)(m:Str)(apos:Pos)(e:Expr)(cpos:Pos):Prop where
 base:attributeBase o m X.env (eval o X.env)=eval o X.env
 few:((backTo cpos<|starEach [e] X.env).all (λx=>!x.1)&&(backToKw cpos<|keywordEach [] X.env).all (λx=>x.1.isSome)
  && decide (([e]:List Expr).length+([]:List Keyword).length+(if([]:List Keyword).isEmpty then 0 else 1)<30))=true
 line:(apos.endLine==cpos.line)=true
 trees:backTo cpos (starEach [e] X.env)=[(false,eval e X.env)]
structure M2(X:Cx)(o:Expr)(m:Str)(apos:Pos)(e f:Expr)(cpos:Pos):Prop where
 base:attributeBase o m X.env (eval o X.env)=eval o X.env
 few:((backTo cpos<|starEach [e,f] X.env).all (λx=>!x.1)&&(backToKw cpos<|keywordEach [] X.env).all (λx=>x.1.isSome)
  && decide (([e,f]:List Expr).length+([]:List Keyword).length+(if([]:List Keyword).isEmpty then 0 else 1)<30))=true
 line:(apos.endLine==cpos.line)=true
 trees:backTo cpos (starEach [e,f] X.env)=[(false,eval e X.env),(false,eval f X.env)]
def wT(H:Hp)(a:Addr):Prop:=(∃ kvs,Rd H a<|.dK kvs) \/ ∃ kvs,Rd H a<|.dT kvs
def pW(I:bL X pins u H s)(d:wT H a):
  s.TypeIs (.ref a) "dict"/\(∀ b,Value.ref a=.ref b->∃ ob,s.heap.get? b=some ob/\ob.dict=none)/\(a==sysModules)=false:=by
 rcases d with⟨f,e⟩ | ⟨f,e⟩
 ·let[_,hd,vs,_,c]:=wV I.hok e;refine#v[c.typeIs,λb q=>?_,hd];cases q;let[ob,_,_,g,h,_]:=c;exact#v[ob,g,h.2.1]
 ·let[_,hd,i,_,c]:=iS I.hok e;refine#v[c.typeIs,λb q=>?_,hd];cases q;let[ob,_,_,g,h,_]:=c;exact#v[ob,g,h.2.1]
def Ez(n:A.units+1<cLine)(I:bL X pins x H s)(g:cy H a y o)(m:bN y u)(rd:bN d r)(h:∀ w' s',bL X pins x H s'->bN (o.getD d) w'->Q w' s'):
  wpAny (model X.prog X.w) A (call (.builtin "dict.get") [.ref a,u,r]) Q E s:=by
 rcases g with⟨i,k,e,j,l⟩ | ⟨i,k,b,e,j,p,l⟩
 ·subst j;let[z,hd,vs,c,f]:=wV I.hok e;refine call_meetsIn PySem.F.slot_dict_get f.typeIs PySem.F.entry_dict_get (PySem.F.args_dict_get_3 _ _ _) (meets_dict_get_default (bT X.prog X.w) a (lY m) hd r) #v[_,f.mapOf,h _ _ (I.tok _) ?_];rw[l];exact(c.val k).getD rd
 ·subst j;cases(m);let[z,hd,q,c,f]:=iS I.hok e;refine call_meetsIn PySem.F.slot_dict_get f.typeIs PySem.F.entry_dict_get (PySem.F.args_dict_get_3 _ _ _) (meetsH_dict_get_default (tupleKind<|bT X.prog X.w) a b hd r) #v[tupleKind_room_in1 n,k,q,zL I.hok p,f,h _ _ (I.tok _) ?_];rw[l];exact(c.val k).getD rd
def uN(td ty tx:TE):TE:=λs H Q=>td s H λx H1=>∃ a,x=.ref a/\wT H1 a/\ty s H1 λy H2=>tx s H2 λz H3=>∃ o,cy H3 a y o/\Q (o.getD z) H3
def Qk(j:X.A.units+1<cLine)(k:PE X o td)(l:PE X e ty)(n:PE X f tx)(m:M2 X o "get" apos e f cpos):PE X (.Call (.Attribute o "get" apos) [e,f] [] cpos) (uN td ty tx):=by
 intro b s U H Q I h;refine wpAny_Call_method m.base m.few m.line PySem.F.plainAttrs_dict PySem.F.slot_dict_get PySem.F.type_dict_get<|thn (k b s U H _ I h) λu s1 p=>?_;let[x,q,i,r,a,ex,d,t]:=p;subst ex;obtain rfl:u=Value.ref a:=r;let[v,w,_]:=pW i d;refine#v[v,w,?_];rw[m.trees];refine Calls.callWith_builtin rfl<|Calls.evalArgs_plain<|Calls.spliced_cons<|thn (l b s1 U q _ i t) λN s2 ⟨y,B,C,D,E⟩=>
  Calls.spliced_cons (thn (n b s2 U B _ C E) λO P ⟨z,G,J,K,R,g,L⟩=>Calls.spliced_nil ?_)
 exact Ez j J g D K λS T M c=>#v[_,G,M,c,L]
end L2
namespace PySem
open Sem (wp)
namespace F
def dJ:typeLookup (.type "list") "keys" = pure none:=by rw[typeLookup_type,builtinLookup_eq_fast];kernel_rfl
def dq:typeLookup (.type "list") "__getattr__" = pure none:=by rw[typeLookup_type,builtinLookup_eq_fast];kernel_rfl
def cN:plainId "dict.update.loop" = true:=by decide +kernel
def cO:entryFor table "dict.update.loop" = some Builtin.«dict.update.loop»:=entryFor_of_fast (by kernel_rfl)
end F
section
variable {prog:Program}{w:World}{A:Around}{E:J0}{h:Heap}{g:Array GenState}{d:Drawn}{t:Nat}{os:OsState}{a:Addr}{o:Obj}
def F.sub_attrErr:isSubtype (.type "AttributeError") (.type "AttributeError")=pure true:=by rw[isSubtype_type];kernel_rfl
def EA{x nm}{e}{y}{Q}(a:h.get? e=some {cls:=.type "AttributeError",data:=.fields #[y,.none,.none,.none,.bool false,.none,unsetMember,unsetMember]})
  (c:∀ h',(∀ b o,b≠e->h.get? b=some o->h'.get? b=some o)->(∃ ob,h'.get? e=some ob/\ob.cls=.type "AttributeError")->Q () #v[h',g,d,t,os]):
  wpAny (model prog w) A (noteAttr (.ref e) x nm) Q E #v[h,g,d,t,os]:=by
 have j:=F.sub_attrErr
 repeat (any_goals (first | assumption | wp_step))
 refine c _ (λb o f i=>?_) #v[_,Heap.get?_update_self _ a rfl,rfl]
 ·rw[Heap.get?_update_ne _ _ _ _ f];exact i
def EB{s}{x}{nm a}{Q}(j:a.length<=sizeLine)(k:A.handled=none)
  (l:∀ h' e t',(∀ b o,h.get? b=some o->h'.get? b=some o)->h.get? e=none->(∃ ob,h'.get? e=some ob/\ob.cls=.type "AttributeError")->E (.ref e) #v[h',g,d,t',os]):
  wpAny (model prog w) A (raiseAttrError x nm a:Sem s) Q E #v[h,g,d,t,os]:=by
 refine L3<|wpAny_mkStr (L3<|L3<|wpAny_newObj_type ?_) j;refine L3<|wpAny_of_eq (by simp only[firstArgMember];rfl) ?_;refine wpAny_newObj_type<|L3<|wpAny_mkText<|L3<|EA (E3 _ rfl) λh' m n=>?_;refine L3<|wpAny_handled ?_;rw[k];have c:∀ tk,E (.ref (h.push {cls:=.type "tuple",data:=.seq #[Value.str a t]}).objs.size) #v[h',g,d,tk,os]:=λtk=>l h' _ _ (λb o f=>m b o (λz=>by
  have i:=N2 f;rw[z] at i;exact absurd i<|Nat.not_lt.mpr<|by simp)<|L8 _<|L8 _ f) (Heap.get?_none_of_le<|by simp) n
 first
  | exact wpAny_throw (c _)
  | exact L3 (M8 (wpAny_throw (c _)))
def ED{its}{n}{sl}{tk}{R}(c:A.handled=none)(f:h.get? a=some {cls:=.type "list",data:=.seq its n,slots:=sl})
  (i:∀ h' e t',(∀ b o,h.get? b=some o->h'.get? b=some o)->h.get? e=none->(∃ ob,h'.get? e=some ob/\ob.cls=.type "AttributeError")->R (.error<|.ref e) #v[h',g,d,t',os]):
  codeAny (model prog w) A (.call (.builtin "list.__getattribute__") #v[[.ref a,.str "keys" tk],[]]) R #v[h,g,d,t,os]:=by
 exact codeAny_call_builtin F.slot_list_getattribute.plain F.entry_list_ga (F.slot_list_getattribute.check _ _ _ _ _ _ _ _ (#v[_,f,rfl]) (F.args_list_getattribute_2 _ _) ((by
   have j:=F.dJ
   repeat (any_goals (first | assumption | wp_step))
   exact EB (by decide +kernel) (c) i)))
def EF{its}{n}{sl}{tk}{Q}(j:A.handled=none)(k:h.get? a=some {cls:=.type "list",data:=.seq its n,slots:=sl})
  (l:∀ h' e t',(∀ b o,h.get? b=some o->h'.get? b=some o)->h.get? e=none->(∃ ob,h'.get? e=some ob/\ob.cls=.type "AttributeError")->E (.ref e) #v[h',g,d,t',os]):
  wpAny (model prog w) A (getAttrBy (.ref a) (.str "keys" tk) false) Q E #v[h,g,d,t,os]:=by
 have u:=F.sub_attrErr;have v:=F.slot_list_getattribute.lookup;have x:=F.slot_list_getattribute.bind<|.ref a;have y:=F.dq
 repeat (any_goals (first | assumption | wp_step))
 refine ED j k λh' e t' m p i=>?_;have c:=i;let[ob,f,q]:=i;have r:(#v[h',g,d,t',os]:Shared).TypeIs (.ref e) "AttributeError":=#v[_,f,q];have s:=l h' e t' m p c
 repeat (any_goals (first | assumption | wp_step))
def EG{its}{n}{sl}{Q}(f:A.handled=none)(i:h.get? a=some {cls:=.type "list",data:=.seq its n,slots:=sl})
  (j:∀ h' t',(∀ b o,h.get? b=some o->h'.get? b=some o)->Q none #v[h',g,d,t',os]):wpAny (model prog w) A (getAttr? (.ref a) "keys") Q E #v[h,g,d,t,os]:=by
 refine L3<|wpAny_mkText<|L3<|wpAny_attempt<|EF f i λh' e t' k r l=>?_;let[ob,c,m]:=l;have p:(#v[h',g,d,t',os]:Shared).TypeIs (.ref e) "AttributeError":=#v[_,c,m];have s:=F.sub_attrErr;have q:=j h' t' k
 repeat (any_goals (first | assumption | wp_step))
end
section
variable {prog:Program}{w:World}{K:Type} [DecidableEq K] {knd:KeyKind prog w K}{A:Around}{E:J0}{s:Shared}
def EH(d:s.heap.get? p=some o)(b:o.cls=.type "tuple")(hd:o.data=.seq #[key,x] m)(e:Q [key,x] s):wpAny (model prog w) A (Builtin.Dict.pairItems<|.ref p) Q E s:=by
 let[oc,od,a,c]:=o;subst b;subst hd
 repeat (any_goals (first | assumption | wp_step))
end
end PySem
namespace L2
open PySem PySem.Spec PyProof.Rows
def JO{D}{o u}(b:H D=none)(e:H a=some u):bO H D o a=some u:=by rw[je λz=>by rw[z,b] at e;cases e];exact e
def w_{K}{D}{o}(b:H D=none)(h:ck K H a xs):ck K (bO H D o) a xs:=Or.imp_left (Or.imp (JO b) λ⟨q,h⟩=>#v[q,JO b h]) h
def EI{X}{A:Around}{R}{Hs:Nat->Hp}{ys:List V}{d N D}(T:A.handled=none)(U:∀ i kvs,Hs i D=some (.dT kvs)->A.units+1<cLine)
  (f:∀ i,ck X.K (Hs i) N ys/\uw X pins (Hs i) d)
  (W:∀(j:Nat) y,ys[j]?=some y->∃ t a b,y=.ref t/\cJ X.K (Hs j) t [a,b]/\cR (Hs j) D a b (Hs<|j+1))
  (Y:∀ s',bL X pins σ (Hs ys.length) s'->R (.ok<|.ret .none) s'):∀ k i s,i+k=ys.length->bL X pins σ (Hs i) s->s.heap.IsListIter d N i ->
  codeAny (model X.prog X.w) A (.builtin "dict.update.loop" #v[[.ref D,.ref d,rawInt i,.none],[]]) R s:=by
 intro k
 induction k with
 | zero=>
  intro i s O I q;let[r,x,p,_]:=I.list (f i).1;let[B,C,Z,E,G,H]:=(f i).2;refine codeAny_builtin F.cO<|L3<|wpAny_pyNext_list_end (A:=A.in1) T q p.isList (by have:=x.length;simp;lia) λL eb=>?_;have m:bL X pins σ (Hs i) {s with heap:=L}:=I.turned (λb o c e=>eb b o c e) B C E G H;have fin:=Y _ (by rw[<- O];exact m)
  repeat (any_goals (first | assumption | wp_step))
 | succ k ih=>
  intro i s O I q;let[r,x,p,_]:=I.list (f i).1;have hf:=(f i).2;let[B,C,Z,E,G,H]:=hf;have P:=E1 (l:=ys) (i:=i) ∅;let[t,a,b,ey,hT,g]:=W i _ P;let[u,M,Q]:=x.get P;rw[ey] at Q;cases(Q);refine codeAny_builtin F.cO<|L3<|wpAny_pyNext_list_item q p.isList ⇑M λL h sb=>?_;have m:bL X pins σ (Hs i) {s with heap:=L}:=I.turned (λb o c e=>(sb.2 b c).trans e) B C E G H;obtain⟨S,tv,⟨o,e,hc,n,hd⟩,_⟩:=m.tuple hT;let[u1,u2,rfl,r1,r2]:=tv.two;let[oi,ei,ci,di]:=id h;have I2:=m.pinned (fp:=[d]) (λb c=>by rw[M9.mp c];exact(f i).2) λb c=>#v[oi,by rw[M9.mp c];exact ei,λv z=>by rw[di] at z;cases z];refine L3<|wpAny_holding<|L3<|wpAny_tryCatch<|EH e hc hd<|wpAny_holding<|wr (U i) I2 g r1 r2 λs' J=>M8 #v[plainId_quiet F.cN _,?_];exact ih (i+1) s' ∅ J.unpinned (h.at λo e=>(J.pin (d,o)<|U5 _<|U5 _<|kS (by simp) e).1)
def EJ{u s} [DecidableEq s] {f:u->s}{g:u->V}{ps:List u}:∀{qs},(ps.foldl (λa x=>J9 a (f x)<|g x) qs).length<=qs.length+ps.length:=by
 induction ps with
 | nil=>intro qs;simp
 | cons p ps b=>
  intro qs;have c:=b (qs:=J9 qs (f p)<|g p);have d:=JJ qs (f p)<|g p;rw[X4,M3]
  lia
def Kn{X α κ} [DecidableEq κ] (M:X.calm=true) {f:α->κ}{g ky:α->V}{ob:List (κ×V)->HO}{ok:Hp->α->Prop}(T:∀ l m,ob l=.dT m->X.A.units+10<cLine)
  (U:∀(h:Heap) H,sysModules<h.objs.size->cj X.prog X.w H (h.push {cls:=.type "dict",data:=.dict #[]}) h.objs.size (ob []))
  (W:∀ H D l x,H D=none->ok H x->l.length<sizeLine->cR (bO H D<|ob l) D (ky x) (g x) (bO H D<|ob<|J9 l (f x)<|g x)):
  qG X (.type "dict") (λxs H Q=>∃(p:Addr) (ys:List V) (ps:List α),xs=[.ref p]/\ck X.K H p ys/\ys.length=ps.length/\ps.length<=100000 /\
  (∀(j:Nat) y,ys[j]?=some y->∃ kv t,ps[j]?=some kv/\y=.ref t/\cJ X.K H t [ky kv,g kv]/\ok H kv)/\∀ D,H D=none->Q (.ref D) (bO H D<|ob<|ps.foldl (λa kv=>J9 a (f kv)<|g kv) [])):=by
 intro c s σ H xs us Q I r h;let[p,ys,ps,rfl,N,Y,hz,Z,q]:=h;let[u,rfl,ru]:=r.one;cases ru;have k:=I.hok.fresh<|N0 ↥s;have O:bL X c σ (bO H ↥s (ob [])) { s with heap:=s.heap.push {cls:=.type "dict",data:=.dict #[]} }:=I.laid (λb o e=>L8 _ e) (N0 _)<|U _ _ I.big;obtain⟨its,rv,⟨o,n,e,v,B,C⟩,_⟩:=O.list<|w_ k N;let[oc,od,E,osl]:=o;subst v B C;refine callType_codes (Q₁:=λobj P=>obj=.ref ↥s/\P={ s with heap:=s.heap.push {cls:=.type "dict",data:=.dict #[]} }) F.kt_called_dict (F.kt_typeCall_dict_1 _) F.entry_dict_init (kt_code_dict_new _ #v[rfl,rfl]) ?_;rintro obj P ⟨rfl,rfl⟩;have R:=Heap.DictOf.typeIs (s:={ s with heap:=s.heap.push {cls:=.type "dict",data:=.dict #[]} })<|Heap.DictOf.new (knd:=bT X.prog X.w) s.heap;refine#v[R,F.args_dict_init_2 _ _,L3<|L3<|wpAny_notOrdered_dict R<|M8<|L3<|wpAny_typeOf #v[_,e,rfl]<|L3<|EG (I.ok.hd M) e λh2 t2 d=>?_];rw[if_pos<|show(Option.isNone none)=true from rfl];refine L3<|wpAny_rule<|L3<|wpAny_pyIter_list (l:=p) #v[_,d _ _ e,rfl,n,rfl]<|M8 #v[plainId_quiet F.cN _,?_];have S:bL X c σ (bO H ↥s (ob [])) {s with heap:=h2,toks:=t2}:=O.kept d;have G:=N2<|d _ _<|E3 _ rfl;refine EI (A:=X.A.in1) (Hs:=λi=>bO H ↥s (ob<|(ps.take i).foldl (λa kv=>J9 a (f kv)<|g kv) [])) (I.ok.hd M) (λi m z=>?_) (λi=>#v[w_ k N,S.fpOk (N0 _) ?_]) (λj y hy=>?_) (λs' J=>?_) ys.length 0 _ (Nat.zero_add _) (S.kept λb o e=>L8 _ e) #v[_,E3 _ rfl,rfl,rfl]
 ·rw[jj] at z;have:=T _ _<|X8 z;show X.A.units+1+1<_
  lia
 ·rw[je<|Ne.symm<|N7 G];exact I.hok.fresh ∅
 ·let[kv,t,e1,rfl,L,h4]:=Z j y hy;refine#v[t,_,_,rfl,(Or.imp_left (Or.imp (JO k) λ⟨q,L⟩=>#v[q,JO k L]) L),?_];rw[List.take_add_one,e1,List.foldl_append];exact W _ _ _ _ k h4 (by have:=EJ (f:=f) (g:=g) (ps:=ps.take j) (qs:=[]);have:sizeLine=16777216:=rfl;simp at *;lia)
 ·rw[Y,List.take_length] at J;exact#v[rfl,.ref _,_,J,rfl,q _ k]
def EK{X}(i:X.calm=true):qG X (.type "dict") (λxs H Q=>∃(p:Addr) (ys:List V) (ps:List<|cW×V),xs=[.ref p]/\ck X.K H p ys/\ys.length=ps.length/\ps.length<=100000 /\
  (∀(j:Nat) y,ys[j]?=some y->∃ kv t,ps[j]?=some kv/\y=.ref t/\cJ X.K H t [kV kv.1,kv.2])/\∀ D,H D=none->Q (.ref D) (bO H D<|.dK<|ps.foldl (λa kv=>J9 a kv.1 kv.2) [])):=
 λd s U H xs m Q I r h=>by
 let[p,ys,ps,n,q,u,w,z,A]:=h;exact Kn (ok:=λ_ _=>True) (ky:=λx=>kV x.1) (f:=(·.1)) (g:=(·.2)) (ob:=.dK) i (λ_ _ e=>nomatch e) (λh H b=>u6 h b)
  (λH D l x E _ B=>by have:=cR.k (k:=x.1) (v:=x.2) (jj (H:=H) (a:=D) (o:=.dK l)) B;rw[tp] at this;exact this) d s U H xs m Q I r
  ⟨p,ys,ps,n,q,u,w,λj y C=>by let[kv,t,a,b,c]:=z j y C;exact#v[kv,t,a,b,c,trivial],A⟩
def bL.layAll(I:bL X pins x H s)(k:∀ b u,s.heap.get? b=some u->h'.get? b=some u)(a:∀ b,H b≠none->H' b=H b)
  (new:∀ b o,H b=none->H' b=some o->↥s<=b/\cj X.prog X.w H' h' b o):bL X pins x H' {s with heap:=h',toks:=t'}:=by
 refine I.un #v[λb u q _ _ _=>k b u q,λb u q _ _ _=>#v[u.slots,k b u q],λb u q n _=>?_,λb u q _=>#v[u,k b u q],λb f q=>?_,λb o u q=>?_,λb g q=>#v[#[],?_]] λb o e=>?_
 ·cases e:H' b with
  | none=>rfl
  | some o=>exact absurd (N2 q)<|Nat.not_lt.mpr (new b o n e).1
 ·rw[a b<|by rw[q];exact λz=>nomatch z];exact q
 ·rw[a b<|by rw[q];exact λz=>nomatch z];exact q
 ·rw[a b (by rw[q];exact λz=>nomatch z),q];simp
 ·by_cases n:H b=none
  ·exact(new b o n e).2
  ·have d:=e;rw[a b n] at d;exact(I.hok b o d).stay (λc u _ q=>k c u q) (λc q=>by rw[a c<|by rw[q];exact λz=>nomatch z];exact q) λc f q=>by rw[a c<|by rw[q];exact λz=>nomatch z];exact q
def EL(h:(bT P w).is k u=true):bN (kV k) u:=by
 rcases jX h with⟨i,t,rfl,rfl⟩ | ⟨x,t,rfl,rfl⟩
 ·exact#v[t,rfl]
 ·exact#v[t,rfl]
def jZ(H:Hp)(as:W5)(kvs:List<|cW×V)(l:Addr):Hp:=λb=>if b=l then some (.lst<|as.map V.ref) else
 match (as.zip kvs).find? (λp=>p.1==b) with
 | some p=>some<|.tup [kV p.2.1,p.2.2]
 | none=>H b
def YV{as:W5}{a}(d:as.Nodup){j:Nat}{p:cW×V}(h1:as[j]?=some b)(h2:a[j]?=some p):(as.zip a).find? (λq=>q.1==b)=some (b,p):=by
 induction as generalizing a j with
 | nil=>simp at h1
 | cons c as e=>
  cases a with
  | nil=>simp at h2
  | cons q a=>
   rw[U9,List.find?_cons];cases j with
   | zero=>
    simp at h1 h2;subst h1;subst h2;simp
   | succ j=>
    simp at h1 h2;have f:c≠b:=λz=>(List.nodup_cons.mp d).1 (z▸List.mem_of_getElem? h1);have:=U4.mpr f;simp only[this];exact e (List.nodup_cons.mp d).2 h1 h2
def yV{as:W5}{a:List (cW×V)}(h:b∉as):(as.zip a).find? (λq=>q.1==b)=none:=by
 rw[List.find?_eq_none];intro q c z;have:q.1=b:=by simpa using z
 exact h<|this▸(List.of_mem_zip c).1
def EM{A}{B:List (cW×Value)}{j:Nat}(h:KV A B)(e:B[j]?=some (kk,x)):∃ y,A[j]?=some (kk,y)/\bN y x:=by
 induction h generalizing j with
 | nil=>cases e
 | cons b _ c=>cases j with
  | zero=>
   cases e;exact#v[_,congrArg (λa=>some (a,_)) b.1,b.2]
  | succ j=>exact c e
def xm(td:TE):TE:=λs H Q=>td s H λx H1=>∃ a kvs,x=.ref a/\Rd H1 a (.dK kvs)/\∀ l as,H1 l=none->as.length=kvs.length->(l::as).Nodup->(∀ b∈as,H1 b=none)->Q (.ref l) (jZ H1 as kvs l)
def EO(l)(items)(n)(b)(a)(d)(e)(sl)(g:¬(!items.isEmpty&&Builtin.List.listTooLong (items.size+a.size))=true)(h1:items.size<=sizeLine)(h2:items.size+a.size<=sizeLine+1):
  Meets (Builtin.«list.extend» #v[[.ref l,.ref b],[]]) (λ_ R s=>s.heap.get? l=some {cls:=.type "list",dict:=none,data:=.seq items n,slots:=#[]}/\s.heap.get? b=some {cls:=.type "list",dict:=e,data:=.seq a d,slots:=sl}/\R (.ok<|.ret Value.none) {s with heap:=s.heap.update l (Obj.mapSeq λx=>x++a)}):=
 .of_wp λprog w A R s h=>by
  rcases s with⟨i,j,k,tk,os⟩;let[c,f,q]:=h;have m:(items++a).size<=sizeLine+1:=by rw[Array.size_append];exact h2
  wp_walk using(wpAny_updateSeq c rfl),wpAny_loadPart' c,wpAny_loadPart' f
  exact#v[_,rfl,q]
def EQ(l)(items)(n)(b)(a)(d)(e)(sl)(g:¬(!items.isEmpty&&Builtin.List.listTooLong (items.size+a.size))=true)(h1:items.size<=sizeLine)(h2:items.size+a.size<=sizeLine+1):
  Meets (Builtin.«list.extend» #v[[.ref l,.ref b],[]]) (λ_ R s=>s.heap.get? l=some {cls:=.type "list",dict:=none,data:=.seq items n,slots:=#[]}/\s.heap.get? b=some {cls:=.type "tuple",dict:=e,data:=.seq a d,slots:=sl}/\R (.ok<|.ret Value.none) {s with heap:=s.heap.update l (Obj.mapSeq λx=>x++a)}):=
 .of_wp λprog w A R s h=>by
  rcases s with⟨i,j,k,tk,os⟩;let[c,f,q]:=h;have m:(items++a).size<=sizeLine+1:=by rw[Array.size_append];exact h2
  wp_walk using(wpAny_updateSeq c rfl),wpAny_loadPart' c,wpAny_loadPart' f
  exact#v[_,rfl,q]
def pX(K:W4):V->List V->Hp->VK->Prop:=λx vs H Q=>∃ l b xs zs,x=.ref l/\vs=[.ref b]/\H l=some (.lst xs)/\(ck K H b zs\/cJ K H b zs)/\xs.length+zs.length<=sizeLine/\Q .non (bO H l<|.lst<|xs++zs)
def ER:pM X "list.extend" (pX X.K):=by
 intro w s U H x vs v E Q I A B h;let[l,b,G,zs,rfl,rfl,o,g,y,q]:=h;cases A;let[u,rfl,C]:=B.one;cases C;let[z,c,n,r,J,e]:=I.lstM o;rcases g with g | g
 ·let[a,i,p2,_]:=I.list g;obtain⟨⟨cls,j,data,k⟩,m,e2,p,hd,D⟩:=p2
  first | subst p | skip
  have f:c.toArray.size+a.toArray.size<=sizeLine:=by rw[N4,N4,<- r.length,<- i.length];exact y
  have d:¬ (!c.toArray.isEmpty&&Builtin.List.listTooLong (c.toArray.size+a.toArray.size))=true:=by
   rw[uP f,Bool.and_false];exact M4
  have t:s.heap.get? b=some {cls:=.type "list",dict:=j,data:=.seq a.toArray m,slots:=k}:=by
   rw[e2];simp_all
  refine call_meets PySem.F.slot_list_extend #v[_,e,rfl] PySem.F.entry_list_extend (PySem.F.args_list_extend_2 _ _) (EO l c.toArray n b a.toArray m j k d ∅ ∅) #v[e,t,#v[.non,_,I.lset o e (by simp) (r.append i) ?_,rfl,q]];rw[N5]
  lia
 ·let[a,i,p2,_]:=I.tuple g;obtain⟨⟨cls,j,data,k⟩,e2,p,m,hd⟩:=p2;subst p hd;have f:c.toArray.size+a.toArray.size<=sizeLine:=by rw[N4,N4,<- r.length,<- i.length];exact y
  have d:¬ (!c.toArray.isEmpty&&Builtin.List.listTooLong (c.toArray.size+a.toArray.size))=true:=by
   rw[uP f,Bool.and_false];exact M4
  refine call_meets PySem.F.slot_list_extend #v[_,e,rfl] PySem.F.entry_list_extend (PySem.F.args_list_extend_2 _ _) (EQ l c.toArray n b a.toArray m j k d ∅ ∅) #v[e,e2,#v[.non,_,I.lset o e (by simp) (r.append i) ?_,rfl,q]];rw[N5]
  lia
def ES:qG X (.type "int") (λxs H Q=>∃ b:Bool,xs=[.bl b]/\Q (.int<|if b then 1 else 0) H):=by
 intro a s w H xs d Q I r h;let[b,rfl,q]:=h;let[u,rfl,c]:=r.one;cases c;exact call_int_bool #v[.int<|if b then 1 else 0,H,I.tok _,#v[_,rfl],q]
section
def ET(ft:TypeCalled T nw it)
  (c1:checkTypeCall T #v[xs,kw]=pure ()) (d:checkBuiltinCall nw #v[.type T::xs,kw]=pure ()) (f:entryFor table nw=some Bn) (i:entryFor table it=some Bi)
  (g:Meets (Bn #v[.type T::xs,kw]) Sn) (h:Sn A.in1 (wants Q1 E) s)
  (nx:∀ obj s1,Q1 obj s1->s1.TypeIs obj T/\argsOk it #v[obj::xs,kw]/\∃ Si,MeetsIn prog w (Bi #v[obj::xs,kw]) Si/\Si A.in1 (wants (λr s2=>r=.none/\Q obj s2) E) s1):
  wpAny (model prog w) A (call (.type T) xs kw) Q E s:=by
 let[c,q,t]:=ft.mro;have u:=ft.made;have v:=ft.sub;refine wpAny_call<|codeAny_of_tree<|M8 #v[Code.quiet_builtin _<|by decide +kernel,codeAny_builtin F.entry_type_call ?_];have x:=ft.notType;have y:=ft.canCreate
 repeat (any_goals (first | assumption | wp_step))
 refine codeAny_mono (codeAny_call_builtin ft.plain f<|wpAny_of_eq d<|g prog w A.in1 _ s h) λr s1 b=>?_;cases r with
 | error e=>exact b
 | ok j=>
  cases j with
  | ret obj=>
   let[k,l,Si,m,n]:=nx _ _ b;have z:=ft.init.lookup;have B:=ft.init.bind obj
   repeat (any_goals (first | assumption | wp_step))
   refine codeAny_mono (codeAny_call_builtin ft.init.plain i<|ft.init.check _ _ _ _ _ _ _ _ k l<|m A.in1 _ s1 n) λo s2 a=>?_;cases o with
   | error e=>exact a
   | ok p=>
    cases p with
    | ret r=>
     let[rfl,C]:=a
     repeat (any_goals (first | assumption | wp_step))
    | _=>exact a.elim
  | _=>exact b.elim
def EU(c:typeLookup (.type T) "__init__" = pure (some<|.builtin "object.__init__"))
  (d:Bind.madeBy (.type T)=pure (some nw)) (e:(some nw != some "object.__new__")=true):
  Meets (Builtin.«object.__init__» #v[self::x::xs,kw]) (λ_ R s=>s.TypeIs self T/\R (.ok<|.ret .none) s):=by
 refine Meets.of_wp λprog w A R s a=>?_;let[f,b]:=a
 repeat (any_goals (first | assumption | wp_step))
 exact#v[_,rfl,b]
open AutoSeq1 (wpAny_loadPart') in
def EV(l)(us)(m)(dc)(sl)(n)(t)(i:Builtin.SmallTypes.fitsIndex n=true):
  Meets (Builtin.«enumerate.__new__» #v[[.type "enumerate",.ref l],[("start",.int n t)]]) (λ_ R s=>s.heap.get? l=some {cls:=.type "list",dict:=dc,data:=.seq us m,slots:=sl} /\
   R (.ok<|.ret<|.ref (s.heap.push {cls:=.type "list_iterator",data:=.fields #[.ref l,.int 0 0]}).objs.size)
    { s with heap:=(s.heap.push {cls:=.type "list_iterator",data:=.fields #[.ref l,.int 0 0]}).push {cls:=.type "enumerate",data:=.fields #[.none,.bool false,.ref ↥s,rawInt n,.none,.none]} }):=
 .of_wp λprog w A R s h=>by
  let[f,g,d,tk,os]:=s;let[a,h]:=h;have e:=sub_enumerate;have b:Heap.IsList (Shared.heap #v[f,g,d,tk,os]) l us:=#v[_,a,rfl,m,rfl]
  wp_walk using wpAny_loadPart' a
  refine wpAny_stack_any λj=>M8 ?_;split
  ·rename_i c _ _ _ _ _;cases(c==Value.type "enumerate")
   ·wp_walk using wpAny_loadPart' a,wpAny_pyIter_list b
    exact#v[_,rfl,h]
   ·wp_walk using wpAny_loadPart' a,wpAny_pyIter_list b
    exact#v[_,rfl,h]
  ·wp_walk using wpAny_loadPart' a,wpAny_pyIter_list b
   exact#v[_,rfl,h]
def EW(e:s.heap.IsList l us)(f:Builtin.SmallTypes.fitsIndex n=true)
  (go:∀ k,IsEnum k (↥s+1) ↥s n .none->k.IsListIter ↥s l 0->(∀ b o,s.heap.get? b=some o->k.get? b=some o)->C (.ref<|↥s+1) {s with heap:=k}):
  wpAny (model prog w) A (call (.type "enumerate") [.ref l] [("start",.int n t)]) C E s:=by
 obtain⟨⟨c,g,p,h⟩,i,j,m,hd⟩:=e;subst j hd;refine ET (Q1:=λobj s1=>s1.TypeIs obj "enumerate"/\C obj s1) F.called_enumerate ((by kernel_rfl)) ((by kernel_rfl)) F.entry_enumerate_new F.entry_object_init (EV l us m g h n t f) #v[i,?_]
  λobj _ q=>#v[q.1,(by unfold argsOk;rw[signature?_of (n:=['_','_','t','i','n','i','_','_']) (by kernel_rfl) F.owner_object];kernel_rfl),_,(EU F.called_enumerate.init.lookup F.called_enumerate.made<|by decide).inModel _ _,q.1,rfl,q.2]
 have a:(s.heap.push {cls:=.type "list_iterator",data:=.fields #[.ref l,.int 0 0]}).objs.size=↥s+1:=Heap.size_push ..;rw[a];have d:IsEnum ((s.heap.push {cls:=.type "list_iterator",data:=.fields #[.ref l,.int 0 0]}).push {cls:=.type "enumerate",data:=.fields #[.none,.bool false,.ref ↥s,rawInt n,.none,.none]}) (↥s+1) ↥s n .none:=by
  have q:=E3 (s.heap.push {cls:=.type "list_iterator",data:=.fields #[.ref l,.int 0 0]}) (o:={cls:=.type "enumerate",data:=.fields #[.none,.bool false,.ref ↥s,rawInt n,.none,.none]}) rfl;rw[a] at q;exact q
 exact#v[#v[_,d,rfl],go _ d #v[_,L8 _<|E3 _ rfl,rfl,rfl] λb o x=>L8 _<|L8 _ x]
end
def pY(K:W4)(tl:TA)(tb:TE):TI:=λs H R=>tl s H λvs H1=>tb s H1 λv H2=>∃ a xs n,vs=[.ref a]/\v=.int n/\Builtin.SmallTypes.fitsIndex n=true/\ck K H2 a xs/\R (np K a n) H2
def EX{X}{elts}{m}{tpos p pos d}{a b}{ta}{tb}(E:Gl X "enumerate")(F:X.mg "enumerate" = none)(G:PA X [a] ta)(j:PE X b tb)(J:starEach [a] X.env=[(false,eval a X.env)]:=by rfl):
  PI X (.Tuple elts m tpos) (.Call (.Name "enumerate" p) [a] [#v[some "start",b,d]] pos) (pY X.K ta tb):=by
 intro c s σ H R I h;refine wpAny_Call_Name_kw<|qX I E F (show bootBuiltins "enumerate" = some (.type "enumerate") by decide +kernel)<|L3<|wpAny_holding ?_;have B:=G pos c s σ H _ I h;rw[J] at B ⊢;refine wpAny_mono (evalArgs_kw (Q:=λx s1=>wpAny (model X.prog X.w) X.A (call (.type "enumerate") x.pos x.kw) (λv s1=>wpAny (model X.prog X.w) X.A (pyIter v) (lM X c σ (.Tuple elts m tpos) R) X.xe s1) X.xe s1) rfl<|thn B λus s1 ⟨vs,L,M,r1,N⟩=>?_) (λx s1 k=>L3<|wpAny_standAt ?_) λ_ _ x=>x
 ·refine wpAny_evalAll_cons<|L3<|thn (j c s1 σ L _ M N) λv s2 ⟨y,C,i,O,P⟩=>L3<|wpAny_standAt<|M8<|wpAny_evalAll_nil ?_;let[l,xs,n,rfl,rfl,S,T,q]:=P;let[u,rfl,U]:=r1.one;cases U;let[t,rfl]:=O;let[V,rv,pl,hz]:=i.list T;have f:l < ↥s2:=by
   let[o,_,e,_]:=pl;exact N2 e
  refine EW pl.isList S λk D hit W=>?_;have Y:bL X c σ C {s2 with heap:=k}:=i.kept W;refine PySem.wpAny_pyIter_enum D #v[↥s2+1,[↥s2+1,↥s2],_,_,C,rfl,Y,vd _ _ l n (Nat.succ_ne_self _) (N7<|Nat.lt_succ_of_lt f)<|N7 f,#v[#v[_,by simpa using D],hit],λb j=>?_,q];have g:↥s2<=b:=by
   rcases(⇑j:b=↥s2+1\/b=↥s2) with z | z
   ·rw[z];exact Nat.le_succ _
   ·rw[z];exact N0 _
  exact i.fpOk g<|i.hok.fresh g
 ·exact L3<|M8<|L3<|wpAny_mono k (λr s2 Z=>L3<|wpAny_holding<|wpAny_point<|M8 Z) λ_ _ x=>x
end L2
namespace PySem
open Sem (wp)
end PySem
namespace L2
open PySem PySem.Spec PyProof.Rows
def JE:entryFor table "dict_itemiterator.__iter__" = some Builtin.«dict_keyiterator.__iter__» :=
 entryFor_alias (id':="dict_keyiterator.__iter__") (by kernel_rfl) rfl (by decide +kernel) (by kernel_rfl)
def QC(hit:IsItemIter s.heap it d i n ep ok ov)(h:Q (.ref it) s):wpAny (model prog w) A (pyIter<|.ref it) Q E s:=by
 have a:s.TypeIs (.ref it) "dict_itemiterator":=#v[_,hit,rfl];exact wpAny_pyIter_slot a PySem.F.slot_dict_itemiterator_iter<|wpAny_call_entry PySem.F.slot_dict_itemiterator_iter a JE (M8 #v[_,rfl,"dict_itemiterator",_,a,PySem.F.slot_dict_itemiterator_next.lookup,h])<|PySem.F.args_dict_itemiterator_iter_1 _
end L2
namespace PySem
open PySem.W PyProof.Rows PySem.Calls
def dt{s}(lt:Nat->Nat->Bool):KasT s->s
 | .ret a=>a
 | .ask i j k=>dt lt<|k<|lt i j
def dZ{s}(lt:Nat->Nat->Bool)(n:Nat):KasT s->Prop
 | .ret _=>True
 | .ask i j k=>i<n/\j<n/\dZ lt n (k<|lt i j)
theorem Jo:∀ t:KasT s,dt lt (t.bind f)=dt lt (f<|dt lt t)
 | .ret a=>rfl
 | .ask i j k=>Jo<|k<|lt i j
theorem Jh:∀ t:KasT s,dZ lt n t->dZ lt n (f<|dt lt t)->dZ lt n (t.bind f)
 | .ret a,_,h=>h
 | .ask i j k,b,c=>#v[b.1,b.2.1,Jh (k<|lt i j) b.2.2 c]
theorem x_(c:∀ i j C,i<n->j<n->C (lt i j) s->cmp i j C s):∀ t:KasT u,dZ lt n t->Q (dt lt t) s->t.kasWp cmp Q s
 | .ret a,_,h=>h
 | .ask i j k,b,h=>c i j _ b.1 b.2.1<|x_ c (k<|lt i j) b.2.2 h
def Pm(n:Nat)(p:Array Nat):Prop:=p.toList.Perm<|List.range n
def Pm.lt(h:Pm n p)(a:0<n)(i):p.getD i 0<n:=by
 by_cases hi:i<p.size
 ·have e:p.getD i 0=p[i]:=by simp[Array.getD,hi]
  rw[e];have b:p[i]∈p.toList:=by simp
  exact List.mem_range.mp<|h.mem_iff.mp b
 ·have e:p.getD i 0=0:=by simp[Array.getD,hi]
  rw[e];exact a
def Pm.swap(h:Pm n p)(i j:Nat):Pm n (p.swapIfInBounds i j):=by
 refine List.Perm.trans ?_ h;rw[Array.swapIfInBounds_def];split
 ·split
  ·exact(Array.perm_iff_toList_perm.mp<|Array.swap_perm _ _)
  ·exact List.Perm.refl _
 ·exact List.Perm.refl _
theorem Pm.swaps(u v:Nat->Nat):∀(l:List Nat) {p},Pm n p->Pm n (l.foldl (λa k=>a.swapIfInBounds (u k)<|v k) p)
 | [],_,h=>h
 | k::l,p,h=>Pm.swaps u v l<|h.swap _ _
def Pm.rev(h:Pm n p)(i j):Pm n (kas_rev p i j):=Pm.swaps _ _ _ h
def Pm.bub(h:Pm n p)(k m):Pm n (bubble p k m):=Pm.swaps _ _ _ h
section
variable {lt:Nat->Nat->Bool}{n:Nat}
theorem pZ(a:0<n)  (h:Pm n p):∀ f m,dZ lt n<|kas_asc p f m
 | 0,_=>trivial
 | f+1,m=>by
  refine#v[h.lt a _,h.lt a _,?_];dsimp only;split
  ·trivial
  ·exact pZ a h f<|m+1
theorem Qx(b:0<n):∀ f {p} m q,Pm n p->dZ lt n (kas_desc f p m q)/\Pm n (dt lt<|kas_desc f p m q).1
 | 0,_,_,_,h=>#v[trivial,h]
 | f+1,p,m,q,h=>by
  have a:=h.lt b;cases hc:lt (p.getD m 0) (p.getD (m-1) 0) with
  | true=>
   by_cases e:q>0
   ·have c:=Qx b f (p:=kas_rev p (m-(q+1)) m) (m+1) 0<|h.rev _ _;have d:=e;simp only[kas_desc,dZ,dt,hc,if_true,gt_iff_lt,d,a,true_and];exact c
   ·have c:=Qx b f (m+1) 0 h;simp only[kas_desc,dZ,dt,hc,if_true,gt_iff_lt,e,if_false,a,true_and];exact c
  | false=>
   cases hd:lt (p.getD (m-1) 0) (p.getD m 0) with
   | true=>
    simp only[kas_desc,dZ,dt,hc,hd,if_true,Bool.false_eq_true,if_false,a,true_and];exact h
   | false=>
    simp only[kas_desc,dZ,dt,hc,hd,Bool.false_eq_true,if_false,a,true_and];exact(Qx b f (m+1) (q+1) h)
def Y7(a:0<n)  (h:Pm n p) (m k):dZ lt n (kas_tail3 m k p)/\Pm n (dt lt<|kas_tail3 m k p).2:=by
 unfold kas_tail3;exact#v[Jh _ (pZ a (h.rev _ _) _ _) trivial,by rw[Jo];exact h.rev _ _]
def qe(a:0<n)  (h:Pm n p) (m k):dZ lt n (kas_descPart m k p)/\Pm n (dt lt<|kas_descPart m k p).2:=by
 unfold kas_descPart;have hd:=Qx (lt:=lt) a (k-(m+1)) (m+1) 0 h;refine#v[Jh _ hd.1 ?_,?_]
 ·split
  ·exact(Y7 a (hd.2.rev _ _) _ _).1
  ·exact(Y7 a hd.2 _ _).1
 ·rw[Jo];split
  ·exact(Y7 a (hd.2.rev _ _) _ _).2
  ·exact(Y7 a hd.2 _ _).2
def EY(a:0<n)  (h:Pm n p) (k):dZ lt n (kas_count k p)/\Pm n (dt lt<|kas_count k p).2:=by
 unfold kas_count;refine#v[Jh _ (pZ (lt:=lt) a h (k-1) 1) ?_,?_]
 ·generalize dt lt (kas_asc p (k-1) 1)=m;split
  ·trivial
  ·split
   ·refine#v[h.lt a _,h.lt a _,?_];dsimp only;split
    ·trivial
    ·exact(qe a (h.rev _ _) _ _).1
   ·exact(qe a h _ _).1
 ·rw[Jo];split
  ·exact h
  ·split
   ·dsimp only[dt];split
    ·exact h
    ·exact(qe a (h.rev _ _) _ _).2
   ·exact(qe a h _ _).2
theorem Qv(a:0<n)  (h:Pm n p) (k):∀ f l r,dZ lt n<|kas_place p k f l r
 | 0,_,_=>trivial
 | f+1,l,r=>by
  unfold kas_place;split
  ·trivial
  ·refine#v[h.lt a _,h.lt a _,?_];dsimp only;split
   ·exact Qv a h k f _ _
   ·exact Qv a h k f _ _
theorem p0(a:0<n):∀ f {p} k,Pm n p->dZ lt n (kas_bin f p k)/\Pm n (dt lt<|kas_bin f p k)
 | 0,_,_,h=>#v[trivial,h]
 | f+1,p,k,h=>by
  unfold kas_bin;have b:=p0 a f (p:=bubble p k<|k-dt lt (kas_place p k k 0 k)) (k+1)<|h.bub _ _;exact#v[Jh _ (Qv (lt:=lt) a h k k 0 k) b.1,by rw[Jo];exact b.2]
def Qa(b:0<n):dZ lt n (kas_sort n)/\Pm n (dt lt<|kas_sort n):=by
 unfold kas_sort;have c:Pm n (List.toArray<|List.range n):=List.Perm.refl _;have a:=EY (lt:=lt) b c n;refine#v[Jh _ a.1 ?_,?_]
 ·split
  ·exact(p0 b _ _ a.2).1
  ·trivial
 ·rw[Jo];split
  ·exact(p0 b _ _ a.2).2
  ·exact a.2
end
end PySem
set_option maxHeartbeats 4000000
namespace PySem
open PySem.W PyProof.Rows PySem.Calls
def J6{s:Type}(lt:Nat->Nat->Bool)(vs:List s)(d:s):List s:=if vs.length<2 then vs else(dt lt<|kas_sort vs.length).toList.map λi=>vs.getD i d
def KR(lt)(vs)(d:s):(J6 lt vs d).length=vs.length:=by
 unfold J6;split
 ·rfl
 ·rename_i h;rw[L1];have:=((Qa (lt:=lt) (n:=vs.length) ∅).2).length_eq;rw[this,List.length_range]
def zt(m:s.heap.get? a=some (seqObj "list" vs.toArray n))(r:vs.length<64)
  (F:2<=vs.length->∀ s':Shared,(∀ b o,b≠a->s.heap.get? b=some o->s'.heap.get? b=some o)->∀{Q:SortKind->Shared->Prop},Q U s'->wpAny (model prog w) A (keyKind' vs.toArray) Q (λ_ _=>False) s')
  (t:∀ s':Shared,(∀ b o,b≠a->s.heap.get? b=some o->s'.heap.get? b=some o)->∀ i j,i<vs.length->j<vs.length->∀{C:Bool->Shared->Prop},C (lt i j) s'->wpAny (model prog w) A (keyLt' U (vs.getD i Value.none)<|vs.getD j Value.none) C (λ_ _=>False) s')
  (h:P (.done<|.ret .none) {s with heap:=sortedHeap s.heap a vs (J6 lt vs Value.none).toArray}):
  wpAny (model prog w) A (Builtin.«list.sort» #v[[.ref a],[]]) P E s:=by
 rw[list_sort_plain];have z:=N2 m;refine L3<|listItems_at m rfl<|L3<|listUpdate_at m rfl ?_;obtain⟨u,g⟩:∃ u,(s.heap.update a<|Obj.mapSeq λ_=>#[]).get? a=some (seqObj "list" #[] u):=#v[_,get?_update_seq m<|λ_=>#[]];refine L3<|seqEpoch_at g rfl<|L3<|wpAny_newTuple<|L3<|wpAny_newList<|wpAny_holding ?_;have d:(((s.heap.update a<|Obj.mapSeq λ_=>#[]).push (seqObj "tuple" vs.toArray 0)).push (seqObj "list" #[] 0)).get? a=some (seqObj "list" #[] u):=by
  rw[Heap.get?_push_ne _ _ _<|by rw[size_push',Heap.size_update];exact N7<|Nat.lt_succ_of_lt z,Heap.get?_push_ne _ _ _<|by rw[Heap.size_update];exact N7 z];exact g
 have keep:∀ b o,b≠a->s.heap.get? b=some o->(((s.heap.update a<|Obj.mapSeq λ_=>#[]).push (seqObj "tuple" vs.toArray 0)).push (seqObj "list" #[] 0)).get? b=some o:=λb o H e=>
  L8 _ (L8 _<|by rw[Heap.get?_update_ne _ _ _ _ H];exact e)
 dsimp only;have v:vs.toArray.size=vs.length:=by simp
 by_cases q:vs.toArray.size<2
 ·have c:J6 lt vs Value.none=vs:=by unfold J6;rw[if_pos ∅]
  rw[c] at h;rw[if_pos q,if_pos q];refine L3<|M8<|L3<|M8 ?_;have I:(arrOf<|SortSt.mk' general' (vs.toArray.zip vs.toArray) #[] 7 none).map (·.2)=vs.toArray:=by
   apply Array.toList_inj.mp;simp;exact List.map_snd_zip<|N0 _
  rw[I];refine L3<|seqEpoch_at d rfl ?_;refine L3<|listUpdate_at d rfl ?_ (hsz2:=by rw[v,sizeLine_eq];lia);simp only[bne_self_eq_false,Bool.false_eq_true,if_false];exact M8 h
 ·have k:2<=vs.length:=by lia
  have c:J6 lt vs Value.none=(dt lt<|kas_sort vs.length).toList.map λi=>vs.getD i Value.none:=by unfold J6;rw[if_neg ∅]
  rw[if_neg q,if_neg q];refine L3<|wpAny_mono (F k {s with heap:=((s.heap.update a<|Obj.mapSeq λ_=>#[]).push (seqObj "tuple" vs.toArray 0)).push (seqObj "list" #[] 0)} keep (Q:=λB s0=>B=U/\s0={s with heap:=((s.heap.update a<|Obj.mapSeq λ_=>#[]).push (seqObj "tuple" vs.toArray 0)).push (seqObj "list" #[] 0)}) #v[rfl,rfl]) ?_ λ_ _ x=>x.elim;rintro B s0 ⟨rfl,rfl⟩;have l:=kat_run (E:=E)
   (Q:=λf s'=>s'={s with heap:=((s.heap.update a<|Obj.mapSeq λ_=>#[]).push (seqObj "tuple" vs.toArray 0)).push (seqObj "list" #[] 0)}/\arrOf f=(dt lt<|kas_sort vs.length).map (kas_item<|vs.toArray.zip vs.toArray)/\failedOf f=none)
   (G:=λp s'=>p=dt lt (kas_sort vs.length)/\s'={s with heap:=((s.heap.update a<|Obj.mapSeq λ_=>#[]).push (seqObj "tuple" vs.toArray 0)).push (seqObj "list" #[] 0)})
   rfl k r (λp f s' O J K D=>#v[D.2,by rw[<- D.1];exact J,K])
   (x_ (λi j C hi L M=>t {s with heap:=((s.heap.update a<|Obj.mapSeq λ_=>#[]).push (seqObj "tuple" vs.toArray 0)).push (seqObj "list" #[] 0)} keep i j hi L M) _ (Qa ∅).1 #v[rfl,rfl])
  refine L3<|wpAny_mono l ?_ λ_ _ e=>e;rintro⟨⟨⟩,f⟩ s' ⟨rfl,y,N⟩;rw[kat_snds rfl y,<- c];refine L3<|seqEpoch_at d rfl ?_;refine L3<|listUpdate_at d rfl ?_ (hsz2:=by rw[N4,KR,sizeLine_eq];lia);rw[N];simp only[bne_self_eq_false,Bool.false_eq_true,if_false];exact M8 h
def Jw{e}{C:Heap->List Value->Prop}(t:∀{Q:List Value->Shared->Prop},(∀ k vs,(∀ b o,s.heap.get? b=some o->k.get? b=some o)->↥s<=k.objs.size->C k vs->Q vs {s with heap:=k})->wpAny (model prog w) A.in1 (collect e) Q E s)(l:∀ k vs,C k vs->vs.length<64)
  (u:∀ k vs,C k vs->2<=vs.length->∀ A' s',(∀ b o,k.get? b=some o->s'.heap.get? b=some o)->∀{Q:SortKind->Shared->Prop},Q κ s'->wpAny (model prog w) A' (keyKind' vs.toArray) Q (λ_ _=>False) s')
  (m:∀ k vs,C k vs->∀ A':Around,A'.units<=A.units+2->∀ s',(∀ b o,k.get? b=some o->s'.heap.get? b=some o)->∀ i j,i<vs.length->j<vs.length->∀{Q:Bool->Shared->Prop},Q (lt i j) s'->wpAny (model prog w) A' (keyLt' κ (vs.getD i Value.none)<|vs.getD j Value.none) Q (λ_ _=>False) s')
  (h:∀ k vs h' c,C k vs->(∀ b o,s.heap.get? b=some o->k.get? b=some o)->↥s<=k.objs.size->(∀ b o,k.get? b=some o->h'.get? b=some o)->h'.get? k.objs.size=some (seqObj "list" (J6 lt vs Value.none).toArray c)->Q (.ref k.objs.size) {s with heap:=h'}):
  wpAny (model prog w) A (call (.builtin "sorted") [e]) Q E s:=by
 refine Calls.call_function_entry kind_sorted plain_sorted entry_sorted (args_sorted1 _)<|L3<|M8<|L3<|t λk vs v x g=>?_;have y:=l k vs g;refine L3<|wpAny_newList ?_ (by rw[sizeLine_eq];lia);have d:(k.push<|seqObj "list" vs.toArray 0).get? k.objs.size=some (seqObj "list" vs.toArray 0):=E3 _ rfl;have a:∀{s':Shared},(∀ b o,b≠k.objs.size->(k.push<|seqObj "list" vs.toArray 0).get? b=some o->s'.heap.get? b=some o)->∀ b o,k.get? b=some o->s'.heap.get? b=some o:=λf b o q=>f b o (N7<|N2 q)<|L8 _ q;refine L3<|wpAny_holding<|wpAny_call_entry slot_list_sort #v[_,d,rfl] entry_list_sort ?body (args_list_sort _)
 case body=>
  refine zt d y (λz s' f=>u k vs g z _ s'<|a f) (λs' f=>m k vs g _ (N0 _) s'<|a f) ?_;obtain⟨p,n⟩:∃ p,((k.push<|seqObj "list" vs.toArray 0).update k.objs.size (Obj.mapSeq λ_=>#[])).get? k.objs.size=some (seqObj "list" #[] p):=#v[_,get?_update_seq d<|λ_=>#[]];refine#v[_,rfl,M8 #v[_,rfl,h k vs _ _ g v x (λb o q=>?_)<|get?_update_seq (L8 (seqObj "list" #[] 0)<|L8 (seqObj "tuple" vs.toArray 0) n) λ_=>(J6 lt vs Value.none).toArray]];have r:=N7<|N2 q;show(Heap.update _ _ _).get? b=some o;rw[Heap.get?_update_ne _ _ _ _ r];exact L8 _<|L8 _ (by rw[Heap.get?_update_ne _ _ _ _ r];exact L8 _ q)
noncomputable abbrev gn:=Str×Str×Int
def wQ(x y:gn):Bool:=if x.1=y.1 then(if x.2.1=y.2.1 then decide (x.2.2<y.2.2) else decide (x.2.1.cps.toList<y.2.1.cps.toList)) else decide (x.1.cps.toList<y.1.cps.toList)
def iU(h:Heap)(v:Value)(r:gn):Prop:=∃ a o m t1 t2 t3,v=.ref a/\h.get? a=some o/\o.cls=.type "tuple"/\o.data=.seq #[.str r.1 t1,.str r.2.1 t2,.int r.2.2 t3] m
def EZ(d:iU s.heap v x)(e:iU s.heap u y)  (h:C (wQ x y) s):wpAny (model prog w) A (keyLt' (tuples' true) v u) C E s:=by
 let[a,o,m,k,l,n,rfl,f,p,g]:=d;let[b,q,r,t,z,B,rfl,i,D,j]:=e;refine kat_lt f g i j ?_;unfold wQ at h;refine kat_cons<|wpAny_eqBool_str ?_;by_cases c:x.1=y.1
 ·rw[if_pos c] at h;rw[X5 c];refine kat_yes<|kat_cons<|wpAny_eqBool_str ?_;by_cases e2:x.2.1=y.2.1
  ·rw[if_pos e2] at h;rw[X5 e2];refine kat_yes<|kat_cons<|wpAny_eqBool_int ?_;by_cases e3:x.2.2=y.2.2
   ·rw[show(x.2.2==y.2.2)=true by simp[e3]];refine kat_yes<|kat_nil ?_;have:decide (x.2.2<y.2.2)=decide (3<3):=by rw[e3];simp
    rw[this] at h;exact h
   ·rw[show(x.2.2==y.2.2)=false by simp[e3]];exact kat_no<|kat_one _ _<|wpAny_lt_int h
  ·rw[if_neg e2] at h;rw[X6 e2];exact kat_no<|kat_one _ _<|lt_str h
 ·rw[if_neg c] at h;rw[X6 c];exact kat_no<|oneLt_str h
def E5{A}{E}{s}{vs:List Value}{rs:List gn}(c:vs.length=rs.length)(b:∀(j:Nat) v,vs[j]?=some v->∃ r,rs[j]?=some r/\iU s.heap v r)(u:0<vs.length){Q}(h:Q (tuples' true) s):wpAny (model prog w) A (keyKind' vs.toArray) Q E s:=by
 have key:∀ vs (rs:List gn),vs.length=rs.length->(∀(j:Nat) v,vs[j]?=some v->∃ r,rs[j]?=some r/\iU s.heap v r)->∃ fs:List Value,KatTups s.heap vs fs/\fs.length=vs.length/\∀ v∈fs,∃ x t,v=Value.str x t:=by
  intro vs
  induction vs with
  | nil=>intro rs _ _;exact#v[[],KatTups.nil,rfl,λv b=>(nomatch b)]
  | cons v vs d=>
   intro rs c b;cases rs with
   | nil=>simp at c
   | cons r rs=>
    let[fs,k,l,f]:=d rs ⇑c λj v e=>b (j+1) v ⇑e;let[g,e,a,o,m,i,y,z,rfl,n,p,q]:=b 0 v rfl;refine#v[.str g.1 i::fs,KatTups.cons n p q rfl k,by simp[l],λv b=>?_];rcases M5.mp b with rfl | b
    ·exact#v[_,_,rfl]
    ·exact f v b
 let[fs,k,l,f]:=key vs rs c b;refine kat_kind (T:=.type "str") k ∅ (λv b=>?_) (by rfl) h;let[x,t,rfl]:=f v b;exact Looks.of_pure rfl
def YT{A}{E}{s:Shared}{vs}{rs:List gn}{Q}(B:s.heap.IsList l vs.toArray)(u:vs.length<64)(f:vs.length=rs.length)(D:∀(j:Nat) v,vs[j]?=some v->∃ r,rs[j]?=some r/\iU s.heap v r)
  (h:∀ h' c l,(∀ b o,s.heap.get? b=some o->h'.get? b=some o)->↥s<=l->h'.get? l=some (seqObj "list" (J6 (λi j=>wQ (rs.getD i ("","",0))<|rs.getD j ("","",0)) vs Value.none).toArray c)->Q (.ref l) {s with heap:=h'}):
  wpAny (model prog w) A (call (.builtin "sorted") [.ref l]) Q E s:=by
 have up:∀ k,(∀ b o,s.heap.get? b=some o->k.get? b=some o)->∀ j v,vs[j]?=some v->∃ r,rs[j]?=some r/\iU k v r:=λk g j v p=>by
  let[r,e,a,o,m,F,G,H,x,I,z,J]:=D j v p;exact#v[r,e,a,o,m,F,G,H,x,g a o I,z,J]
 refine Jw (C:=λk d=>d=vs/\∀ b o,s.heap.get? b=some o->k.get? b=some o) (λgo=>collect_list B (go _ vs (λb o q=>?_) (by rw[Heap.size_update,Heap.size_push];lia) #v[rfl,λb o q=>?_])<|by rw[sizeLine_eq];lia) (λk d e=>by rw[e.1];exact u) (λk d e z K y g Q L=>by let[rfl,n]:=e;exact E5 f (up y.heap λb o q=>g b o<|n b o q) ∅ L) (λk d e K _ y g i j hi p C t=>?_) λk d h' c e n M N t=>by let[rfl,_]:=e;exact h h' c _ (λb o q=>N b o<|n b o q) M t
 ·rw[Heap.get?_update_ne _ _ _ _<|N7<|N2 q];exact L8 _ q
 ·rw[Heap.get?_update_ne _ _ _ _<|N7<|N2 q];exact L8 _ q
 ·let[rfl,n]:=e;have up:=up y.heap λb o q=>g b o<|n b o q;let[r1,x,O]:=up i _<|E1 hi;let[P,e2,R]:=up j _<|E1 p;have S:d.getD i Value.none=d[i]:=by simp[hi]
  have g2:d.getD j Value.none=d[j]:=by simp[p]
  rw[S,g2];refine EZ O R ?_;have T:rs.getD i ("","",0)=r1:=by rw[List.getD_eq_getElem?_getD,x];rfl
  have U:rs.getD j ("","",0)=P:=by rw[List.getD_eq_getElem?_getD,e2];rfl
  rw[T,U] at t;exact t
end PySem
namespace PySem
open Sem (wp)
section
variable {prog:Program}{w:World}{A:Around}{E:J0}{h:Heap}{g:Array GenState}{dr:Drawn}{t:Nat}{os:OsState}
abbrev gM(h:Heap)(it d:Addr)(x y:Value)(i n ep:Nat)(ok ov:Value):Prop:=h.get? it=some {cls:=.type "dict_itemiterator",data:=.fields #[x,y,.ref d,.int i 0,.int n 0,.int ep 0,ok,ov]}
def y0{c d:Addr}{i ep:Nat}{es:Array DictEntry}{od:Obj}{en:DictEntry}{x y ok u:Value}{Q:Option Value->Shared->Prop}(hit:gM h c d x y i es.size ep ok u)(R:(x=.none/\y=.bool false) \/ ∃(a:Addr) (f:Bool) (o:Obj),x=rawInt a/\y=.bool f/\h.get? a=some o/\a≠c)
  (S:h.get? d=some od) (J:od.data=.dict es ep) (T:es[i]?=some en)
  (N:∀(h':Heap) (x' y' ok' ov':Value),gM h' c d x' y' (i+1) es.size ep ok' ov'->(x=.none->x'=rawInt h.objs.size/\y'=.bool false/\ok'=en.key/\ov'=en.val)->(∃(a:Addr) (f:Bool),x'=rawInt a/\y'=.bool f/\a≠c/\(x=rawInt a\/a=h.objs.size)) ->
   h'.get? h.objs.size=some {cls:=.type "tuple",data:=.seq #[en.key,en.val]}->h'.objs.size=h.objs.size+1->(∀ b o,b≠c->h.get? b=some o->h'.get? b=some o)->Q (some<|.ref h.objs.size) #v[h',g,dr,t,os]):
  wpAny (model prog w) A (pyNext<|.ref c) Q E #v[h,g,dr,t,os]:=by
 have I:Shared.TypeIs #v[h,g,dr,t,os] (.ref c) "dict_itemiterator":=#v[_,hit,rfl];let[oc,U,V,X]:=od;subst J;have Y:¬ ((i:Int)<0):=by lia
 refine L3<|wpAny_attempt<|wpAny_callSpecial?_slot (name:=Str.ofString "__next__") I F.slot_dict_itemiterator_next ?_;refine wpAny_call_entry F.slot_dict_itemiterator_next I F.entry_dict_itemiterator_next ?_<|F.args_dict_itemiterator_next_1 _
 repeat (any_goals (first | assumption | wp_step))
 rw[if_neg Y,N9,T];refine L3 ?_;refine L3<|wpAny_typeNameOfWhole_itemiter I<|M8 ?n1
 case n1=>
  refine L3<|wpAny_isOneOf_itemiter I<|show wpAny _ _ (setField (.ref c) 3 (rawInt<|i+1) >>= _) _ _ _ from L3 (wpAny_setField_rec hit (by simp) λm Z b1=>?_);have v:Heap.SameBut c h m:=b1;have B:gM m c d x y (i+1) es.size ep ok u:=by
   have e:((i+1:Nat):Int)=i+1:=by lia
   unfold gM;rw[e];simpa [rawInt] using Z
  have C:Shared.TypeIs #v[m,g,dr,t,os] (.ref c) "dict_itemiterator":=#v[_,B,rfl];refine L3<|wpAny_holding<|L3<|wpAny_isOneOf_itemiter C<|L3<|wpAny_isOneOf_itemiter C ?_;unfold Builtin.Dict_items.pairFromOwner;refine L3<|wpAny_newTuple ?_;have K:m.objs.size=h.objs.size:=v.1;have L:(m.push {cls:=.type "tuple",data:=.seq #[en.key,en.val]}).objs.size=h.objs.size+1:=(Heap.size_push ..).trans (by rw[K]);have n:gM (m.push {cls:=.type "tuple",data:=.seq #[en.key,en.val]}) c d x y (i+1) es.size ep ok u:=L8 _ B;have k:(m.push {cls:=.type "tuple",data:=.seq #[en.key,en.val]}).get? h.objs.size=some {cls:=.type "tuple",data:=.seq #[en.key,en.val]}:=by rw[<- K];exact E3 _ rfl
  have j:∀ b o,b≠c->h.get? b=some o->(m.push {cls:=.type "tuple",data:=.seq #[en.key,en.val]}).get? b=some o:=λb o p e=>L8 _<|v.extBut b o p e;have q:h.objs.size≠c:=Nat.ne_of_gt<|N2 hit;rw[K];generalize m.push ({cls:=.type "tuple",data:=.seq #[en.key,en.val]}:Obj)=k2 at n k j L;refine L3 ?_;unfold Builtin.Dict_items.ownedTupleIsFree;rcases R with⟨rfl,rfl⟩ | ⟨a,f,o,rfl,rfl,ha,D⟩
  ·refine L3<|U8 n rfl (x:=.none) rfl<|M8 ?_;simp only[if_true];refine L3<|U8 n rfl (x:=ok) rfl<|L3<|U8 n rfl (x:=u) rfl<|L3<|wpAny_setField_rec n (by simp) λl G r=>L3<|wpAny_setField_rec G (by simp) λO q4 b4=>L3<|wpAny_setField_rec q4 (by simp) λk5 q5 b5=>L3<|wpAny_setField_rec q5 (by simp) λP q6 b6=>?_;have s:Heap.SameBut c k2 P:=(show Heap.SameBut c k2 l from r).trans ((show Heap.SameBut c l O from b4).trans ((show Heap.SameBut c O k5 from b5).trans b6));exact L3<|wpAny_letGo<|M8<|M8 #v[_,rfl,M8<|N P _ _ _ _ q6 (λ_=>#v[rfl,rfl,rfl,rfl]) #v[_,_,rfl,rfl,q,.inr rfl] (s.extBut _ _ q k) (s.1.trans L) λb o p e=>s.extBut _ _ p<|j b o p e]
  ·refine L3<|U8 n rfl (x:=rawInt a) rfl<|show wpAny _ _ (loadIfAlive ((a:Int).toNat) >>= _) _ _ _ from ?_;rw[N9];refine L3<|PySem.W.kdx_alive (j a o D ha) ?_;simp only[Option.isNone_some,Bool.false_eq_true,if_false];refine L3<|U8 n rfl (x:=.bool f) rfl ?_;have H:∀ l M,gM l c d (rawInt a) (.bool M) (i+1) es.size ep ok u->Heap.SameBut c k2 l->Q (some<|.ref h.objs.size) #v[l,g,dr,t,os]:=λl M G r=>
    N l _ _ _ _ G (λz=>by cases z) #v[a,M,rfl,rfl,D,.inl rfl] (r.extBut _ _ q k) (r.1.trans L) λb o p e=>r.extBut _ _ p<|j b o p e
   cases f with
   | true=>exact M8<|M8<|M8 #v[_,rfl,M8<|H k2 _ n<|Heap.SameBut.refl _ _]
   | false=>exact L3<|wpAny_setField_rec n (by simp) λl G r=>M8<|M8<|M8 #v[_,rfl,M8<|H l _ G r]
def y1{a d}{i ep}{es}{od}{x y ok e}{Q}(f:A.handled=none)(hit:gM h a d x y i es.size ep ok e)(j:h.get? d=some od)(b:od.data=.dict es ep)(k:es[i]?=none)
  (l:∀ h',Heap.ExtBut a h h'->Q none #v[h',g,dr,t,os]):wpAny (model prog w) A (pyNext<|.ref a) Q E #v[h,g,dr,t,os]:=by
 have c:Shared.TypeIs #v[h,g,dr,t,os] (.ref a) "dict_itemiterator":=#v[_,hit,rfl];let[oc,m,n,o]:=od;subst b;have p:¬ ((i:Int)<0):=by lia
 refine L3<|wpAny_attempt<|wpAny_callSpecial?_slot c F.slot_dict_itemiterator_next ?_;refine wpAny_call_entry F.slot_dict_itemiterator_next c F.entry_dict_itemiterator_next ?_<|F.args_dict_itemiterator_next_1 _
 repeat (any_goals (first | assumption | wp_step))
 rw[if_neg p,N9,k];refine L3 ?_;refine L3<|wpAny_typeNameOfWhole_itemiter c<|M8 ?n1
 case n1=>
  refine(show wpAny _ _ (setField (.ref a) 2 .none >>= _) _ _ _ from L3 (wpAny_setField hit rfl (by simp) ?_));refine(L3 ?_);simp only[newExc,newTuple];refine L3<|wpAny_newObj_type (L3<|wpAny_of_eq (by first | rfl | (simp only[firstArgMember];rfl))<|wpAny_newObj_type ?_<|by size_fits) (by size_fits);simp only[raiseNew];refine L3<|wpAny_handled ?_;rw[f];refine L3<|M8<|wpAny_throw ?_;refine L3<|wpAny_isInstance #v[_,E3 _ rfl,rfl] isSubtype_stop<|M8<|l _ ?_;exact((Heap.SameBut.update ..).extBut.push _).push _
def VF{d}{od}{es:Array DictEntry}{ep:Nat}{Q}(a:h.get? d=some od)(c:od.ExactDict)(hd:(d==sysModules)=false)
  (e:Q (.ref h.objs.size) #v[h.push {cls:=.type "dict_items",data:=.fields #[.ref d]},g,dr,t,os]):wpAny (model prog w) A (call (.builtin "dict.items") [.ref d]) Q E #v[h,g,dr,t,os]:=by
 have b:Shared.TypeIs #v[h,g,dr,t,os] (.ref d) "dict":=#v[od,a,c.1];refine wpAny_call_entry F.slot_dict_items b F.entry_dict_items (L3<|L3<|wpAny_notOrdered_dict b<|M8 ?_)<|F.args_dict_items_1 _;unfold Builtin.Dict.showsAll;rw[if_neg<|by rw[hd];exact M4];exact L3<|M8<|L3<|wpAny_newObj_type<|M8 #v[_,rfl,e]
def y3{v d}{od}{es}{ep}{Q}(e:h.IsItemsView v d)(a:h.get? d=some od)(b:od.data=.dict es ep)
  (i:Q (.ref h.objs.size) #v[h.push {cls:=.type "dict_itemiterator",data:=.fields #[.none,.bool false,.ref d,.int 0 0,.int es.size 0,.int ep 0,.none,.none]},g,dr,t,os]):wpAny (model prog w) A (pyIter<|.ref v) Q E #v[h,g,dr,t,os]:=by
 let[k,c,l,j]:=id e;have f:Shared.TypeIs #v[h,g,dr,t,os] (.ref v) "dict_items":=e.typeIs;refine wpAny_pyIter_slot f F.slot_dict_items_iter<|wpAny_call_entry F.slot_dict_items_iter f F.entry_dict_items_iter ?_<|F.args_dict_items_iter_1 _;unfold Builtin.«dict_items.__iter__»;refine L3<|M8<|L3 ?_;unfold Builtin.Dict_items.dictOf;refine L3<|U8 c j rfl<|M8<|L3 ?_;refine L3<|wpAny_dictEntries a b<|L3<|wpAny_dictEpoch a b ?_;have ow:Builtin.Dict_items.ownsTuple "dict_itemiterator" = true:=by decide
 simp only[ow,if_true];refine wpAny_newObj_type (M8 #v[_,rfl,"dict_itemiterator",_,#v[_,E3 _ rfl,rfl],F.slot_dict_itemiterator_next.lookup,?_]) (by simp only[sizeOk,Builtin.Dict_items.ownedTupleFields,N4,N5,M3,List.length_nil,sizeLine_eq];lia);simpa [rawInt,Builtin.Dict_items.ownedTupleFields] using i
end
end PySem
namespace L2
open PySem PySem.Spec PyProof.Rows
def p4(a:Addr)(o:Obj)(kvs:List<|List cW×V):It:=
 ⟨λi H=>H a=some (.frz o<|.dT kvs)/\i<kvs.length,λi H x H'=>∃ p kv b,kvs[i]?=some kv/\x=.ref p/\H p=none/\H b=some (.tup<|kv.1.map kV)/\H'=bO H p (.tup [.ref b,kv.2]),λi H=>H a=some (.frz o<|.dT kvs)/\kvs.length<=i⟩
def y4{P}{w}{H}{h}{a}{o}{b}(ok:c8 P w H h)(e:H a=some (.frz o<|.dT b)):
  h.get? a=some o/\(a==sysModules)=false/\o.ExactDict/\∃ xs es ep,KT H b xs/\o.data=.dict es ep/\es.toList=xs.map (entryOfKey<|tupleKind<|bT P w):=by
 let[c,f]:=(ok a _ e);let[_,g,xs,r,i,es,ep,d,g2,g3,g4,_]:=(f);rw[c] at d;cases d;exact#v[c,g,g2,xs,es,ep,r,g3,g4]
def y6{H}{a}{xs}(r:KT H a xs):∀{i:Nat}{q},xs[i]?=some q->∃ v,cX (a[i]?=some (q.1,v)) (H q.2.1=some (.tup<|q.1.map kV)) (bN v q.2.2):=by
 induction r with
 | nil=>intro i q e;simp at e
 | @cons p q c d h _ b=>
  intro i x e;cases i with
  | zero=>cases e;exact#v[p.2,by rw[<- h.1];rfl,by rw[<- h.1];exact h.2.1,h.2.2]
  | succ i=>exact b ⇑e
def E6{P}{w}{K}{elts}{m}{pos}(a g)(o)(B)(es)(ep)(y:o.data=.dict es ep):
  dG P w K (.Tuple elts m pos) (p4 a o B) [g] g (λi h=>∃ ok ov,IsItemIter h g a i es.size ep ok ov) where
 mem:=by simp
 obj:=λi h f b c=>by
  have e:b=g:=by simpa using c
  subst e;let[ok,ov,d]:=f;exact#v[_,d,λv q=>by cases q]
 keep:=λi h W f k=>by
  let[ok,ov,d]:=f;exact#v[ok,ov,k g (by simp) _ d]
 item:=by
  intro X Y Z hK T i p s σ H E I A f C;let[D,U]:=C;let[F,g2,gx,t,G,J,r,g3,g4]:=y4 I.hok D;rw[y] at g3;cases g3;have j:=Paired.length r;obtain⟨q,V⟩:∃ q,t[i]?=some q:=#v[t[i]'∅,by simp[<- j,U]];let[v,L,c,rv]:=y6 r V;let[ok,ov,d]:=f;have l:=N2 d;have M:es[i]?=some (entryOfKey (tupleKind<|bT X.prog X.w) q):=by rw[<- Array.getElem?_toList,g4,List.getElem?_map,V];rfl
  let[N,gg,dd,tk,os]:=s;refine y0 d (.inl #v[rfl,rfl]) F y M λh1 x' y' ok' ov' O Q _ hT _ hk=>?_;let[rfl,rfl,rfl,rfl]:=Q rfl;refine#v[_,rfl,wpAny_letOwnedTupleGo_items O λh2 R S=>?_];have n:=S;have u:=(n.2 _<|Nat.ne_of_gt l).trans hT;have kk:∀ b o,b∉[g]->N.get? b=some o->h2.get? b=some o:=λb o c q=>by
   have x:b≠g:=by simpa using c
   exact(n.2 b x).trans (hk b o x q)
  have I1:=I.turnedNew (t':=tk) (xs:=[.ref q.2.1,v]) kk A (N0 _) #v[#v[_,u,rfl,_,rfl],_,u,rfl] (.cons rfl<|.cons rv .nil) (by show 2<=sizeLine;decide);refine#v[.ref N.objs.size,_,I1,rfl,#v[_,(q.1,v),q.2.1,L,rfl,I.hok.fresh<|N0 _,c,rfl],#v[_,_,R],λb c=>?_];rw[je]
  ·exact(A b c).1
  ·intro z;have e:b=g:=by simpa using c
   exact absurd l (by rw[<- e,z];exact Nat.lt_irrefl _)
 done:=by
  intro X Y Z hK T i p s σ H E I A f C;let[D,U]:=C;let[F,g2,gx,t,G,J,r,g3,g4]:=y4 I.hok D;rw[y] at g3;cases g3;have j:=Paired.length r;have hes:es.size=t.length:=by rw[<- Array.length_toList,g4,L1]
  let[ok,ov,d]:=f;let[N,gg,dd,tk,os]:=s;exact y1 (I.ok.hd T) d F y (Array.getElem?_eq_none ∅) λW eb=>#v[rfl,I.turnedL (λb o c q=>eb b o ⇑c q) A]
 self:=λ_ _ _ _ _ f h=>by
  let[ok,ov,d]:=f;exact QC d h
def y_(te:TE):TI:=λs H R=>te s H λx H1=>∃ a kvs,x=.ref a/\H1 a=some (.dT kvs)/\∀ o,R (p4 a o kvs)<|bO H1 a<|.frz o<|.dT kvs
section
variable {X:Cx}
def bL.frzT{pins}{u:St}{H}{s}{a}{c}(I:bL X pins u H s)(e:H a=some (.dT c)):
  dF λo es ep=>eS (o.data=.dict es ep) (s.heap.get? a=some o) o.ExactDict ((a==sysModules)=false) (bL X pins u (bO H a<|.frz o<|.dT c) s):=by
 let[z,hd,i,r,o,es,ep,d,g,h,j,k]:=(I.hok a _ e);refine#v[o,es,ep,h,d,g,hd,?_];refine xI I (by rw[e];exact trivial) #v[rfl,λ_ _=>rfl] #v[o,d]<|#v[d,z,hd,i,KT.keeps (r)<|λb l f=>?_,o,es,ep,d,g,h,j,k];rw[je<|λz=>by rw[z,e] at f;cases f];exact f
end
end L2
set_option maxHeartbeats 1000000
namespace PySem
end PySem
namespace L2
open PySem PySem.Spec PyProof.Rows
structure Z3(z TI TO j1 j2 j3 t l m:Addr):Prop where
 TIz:TI≠z
 TOz:TO≠z
 j1z:j1≠z
 j2z:j2≠z
 j3z:j3≠z
 TITO:TI≠TO
 TIj1:TI≠j1
 TIj2:TI≠j2
 TIj3:TI≠j3
 TOj1:TO≠j1
 TOj2:TO≠j2
 TOj3:TO≠j3
 j12:j1≠j2
 j13:j1≠j3
 j23:j2≠j3
 out:∀ x,x=t\/x=l\/x=m->x≠z/\x≠TO/\x≠j1/\x≠j2/\x≠j3
end L2
namespace PySem
end PySem
namespace PySem
open Sem (wp)
end PySem
namespace L2
open PySem PySem.Spec PyProof.Rows
def bM.takeD:∀ k,bM xs us->bM (xs.take k) (us.take k)/\bM (xs.drop k) (us.drop k):=by
 intro k
 induction k generalizing xs us with
 | zero=>intro r;exact#v[by rw[List.take_zero,List.take_zero];exact .nil,r]
 | succ k a=>
  intro r;cases r with
  | nil=>exact#v[.nil,.nil]
  | cons h t=>exact#v[.cons h (a t).1,(a t).2]
def xU:V->List V->Hp->VK->Prop:=λx vs H Q=>∃ l xs y i,x=.ref l/\vs=[.int i,y]/\H l=some (.lst xs)/\0<=i/\i<=(xs.length:Int)/\xs.length<sizeLine/\Q .non (bO H l<|.lst<|xs.take i.toNat++y::xs.drop i.toNat)
def E7:pM X "list.insert" xU:=by
 intro f s U H x vs v C Q I k m h;let[l,D,y,i,rfl,rfl,g,E,G,J,q]:=h;cases k;cases m with
 | @cons a b K bs o p=>
  let[u,rfl,w]:=bM.one p;let[t,rfl]:=o;let[z,c,n,r,L,e]:=I.lstM g;have d:¬ (!Builtin.List.listFitsIndex i)=true:=by
   have M:=sizeLine_eq;simp[Builtin.List.listFitsIndex]
   lia
  refine call_meets F.slot_list_insert #v[_,e,rfl] F.entry_list_insert (F.args_list_insert_3 _ _ _) (AutoSeq1.list_insert_list_int_val_1 l c.toArray n i t u d<|by rw[N4];lia) #v[e,?_];have j:=bM.takeD i.toNat r;refine#v[.non,_,I.lset g e ?_ (j.1.append<|.cons w j.2) ?_,rfl,q]
  ·have A:¬ i<0:=by lia
   simp only[A,if_false];have B:min i.toNat c.toArray.size=i.toNat:=by rw[N4];lia
   rw[B];apply Array.ext';simp;exact List.take_of_length_le (by rw[List.length_drop];exact N0 _)
  ·rw[N5,M3,E2,List.length_drop]
   lia
def E8(c:X.calm=true):qG X (.builtin "sum") (λxs H Q=>∃(p:Addr) (ns:List Int),xs=[.ref p]/\cJ X.K H p (ns.map V.int)/\Q (.int ns.sum) H):=by
 intro a s w H xs k Q I r h;let[p,ns,rfl,d,q]:=h;let[u,rfl,e]:=r.one;cases e;let[f,g,pl,l]:=I.tuple d;have hi:=Kx g;let[zs,b]:=hi.allInts.items;refine PySem.W.ktm_sumG (I.ok.hd c) (b▸pl) λm tk n i=>?_;have j:ns=zs.toList.map (·.1):=by
  rw[<- nums_intItems,<- b];exact(hi.numsOf).symm
 have e2:preSum (numAt zs) zs.size=ns.sum:=by
  rw[preSum_eq,List.take_of_length_le<|by simp,j]
 rw[e2];exact#v[.int ns.sum,H,I.kept i,#v[_,rfl],q]
abbrev xD(h:Heap)(T:Addr)(xs:List Value):Prop:=h.get? T=some {cls:=.type "tuple",data:=.seq xs.toArray}
def cC(h:Heap)(j c:Addr)(n:Nat)(vs:Array Value):Bool->Prop
 | true=>h.IsListIter j c n/\h.IsList c vs
 | false=>h.IsTupleIter j c n/\h.IsTuple c vs
def cC.ext{h k}{j c a}{n}{vs}{K}(q:cC h j c n vs K)(b:Heap.SameBut a h k)(d:j≠a)(e:c≠a):cC k j c n vs K:=by
 cases K<;>exact#v[q.1.extBut b.extBut d,q.2.extBut b.extBut e]
def cC.up{h k}{j c}{n}{vs}{K}(q:cC h j c n vs K)(a:∀ o,h.get? j=some o->k.get? j=some o)(b:∀ o,h.get? c=some o->k.get? c=some o):cC k j c n vs K:=by
 cases K <;>
 ·obtain⟨⟨d,e,f⟩,g,e2,i⟩:=q;exact#v[#v[d,a _ e,f],g,b _ e2,i]
section
variable {prog:Program}{w:World}{A:Around}{E:J0}{s:Shared}
def E9{j c}{n}{vs}{K}{x}{C}(q:cC s.heap j c n vs K)(f:c≠j)(e:vs[n]?=some x)
  (go:∀ k,cC k j c (n+1) vs K->Heap.SameBut j s.heap k->C x {s with heap:=k}):wpAny (model prog w) A (Builtin.SmallTypes.nextOf<|.ref j) C E s:=by
 cases K with
 | true=>exact wpAny_nextOf_list_item q.1 q.2 e λk p b=>go k #v[p,q.2.extBut (Heap.SameBut.extBut b) f] b
 | false=>exact(by
   let[h,d,ci,a]:=id q.1;let[ot,gt,_,mt,g]:=q.2;refine L3<|wpAny_callSpecial?_slot q.1.typeIs F.slot_tuple_iterator_next<|wpAny_call_entry F.slot_tuple_iterator_next q.1.typeIs F.entry_tuple_iterator_next ?_<|F.args_tuple_iterator_next_1 _;show wpAny _ _ (field (.ref j) 0 >>= _) _ _ s;refine L3<|U8 d a rfl<|L3<|U8 d a rfl<|L3<|wpAny_seqItems gt g ?_;simp only[N9,e];refine L3<|wpAny_setField d a (by simp)<|M8 #v[x,rfl,M8<|(λk p b=>go k #v[p,q.2.extBut (Heap.SameBut.extBut b) f] b) _ #v[_,Heap.get?_update_self _ d<|Obj.isFreed_of_fields<|Obj.data_mapFields a _,(Obj.cls_mapFields ..).trans ci,?_]<|Heap.SameBut.update ..];rw[Obj.data_mapFields a];simp[rawInt])
def E'(a:xD s.heap T xs)(b:xs.length<=1000)
  (h:∀ h',xD h' T (xs.set k x)->Heap.SameBut T s.heap h'->Q () {s with heap:=h'}):wpAny (model prog w) A (updateSeq T (·.setIfInBounds k x)) Q E s:=by
 have l:xs.toArray.size<=1000:=by simpa using b
 exact wpAny_updateSeq a rfl (h _ (by rw[xD,Heap.get?_update_self _ a rfl];simp[Obj.mapSeq])<|Heap.SameBut.update ..) (N8 l<|by decide) (by rw[Array.size_setIfInBounds];exact N8 l<|by decide)
def E_{u:Type}{v}{f}{b}{Q:v->Shared->Prop}(St:Nat->Heap->Prop):∀(l:List u) k {s},St k s.heap ->
  (∀ i x h,l[i]?=some x->St (k+i) h->wpAny (model prog w) A (f (x,k+i) b) (λr s'=>r=.yield b/\∃ h',s'={s with heap:=h'}/\St (k+i+1) h') E {s with heap:=h}) ->
  (∀ h,St (k+l.length) h->Q b {s with heap:=h})->wpAny (model prog w) A (forIn (l.zipIdx k) b f) Q E s:=by
 intro l
 induction l with
 | nil=>
  intro k s a _ c;exact M8<|c _ a
 | cons x l g=>
  intro k s a d c;rw[List.zipIdx_cons,List.forIn_cons];refine L3<|wpAny_mono (d 0 x s.heap rfl a) ?_<|λ_ _ z=>z
  ·rintro r s' ⟨rfl,h',rfl,j⟩;exact g (k+1) j (λi x h e q=>by have:=d (i+1) x h ⇑e (by rw[show k+(i+1)=k+1+i by lia];exact q);rw[show k+(i+1)=k+1+i by lia] at this;exact this)<|λh q=>c h (by rw[M3,show k+(l.length+1)=k+1+l.length by lia];exact q)
structure Zi where
 j:Addr
 c:Addr
 vs:Array Value
 x:Value
 k:Bool
structure ZA(z TI TO:Addr)(its:List Zi):Prop where
 TIz:TI≠z
 TOz:TO≠z
 TITO:TI≠TO
 jz:∀ q∈its,q.j≠z/\q.j≠TI/\q.j≠TO
 cz:∀ q∈its,q.c≠z/\q.c≠TO/\∀ r∈its,q.c≠r.j
 nd:(its.map (·.j)).Nodup
variable {z TI TO:Addr}{its:List Zi}{n:Nat}{os:List Value}
structure Fa(s:Shared)(z TI TO:Addr)(its:List Zi)(n:Nat)(os:List Value)(i:Nat)(h:Heap):Prop where
 a:IsZip h z TI TO .ellipsis
 b:xD h TO ((its.take i).map (·.x)++os.drop i)
 c:∀(m:Nat) (q:Zi),its[m]?=some q->cC h q.j q.c (if m<i then n+1 else n) q.vs q.k
 d:h.objs.size=↥s
 e:∀ a o,a≠z->a≠TO->(∀ q∈its,a≠q.j)->s.heap.get? a=some o->h.get? a=some o
def Fb{j c}{vs}{K}{C}(a:A.handled=none)(q:cC s.heap j c n vs K)(e:vs[n]?=none)
  (go:∀ k e,Heap.ExtBut j s.heap k->(∃ o,k.get? e=some o/\o.cls=.type "StopIteration")->E (.ref e) {s with heap:=k}):wpAny (model prog w) A (Builtin.SmallTypes.nextOf<|.ref j) C E s:=by
 cases K with
 | true=>exact wpAny_nextOf_list_end a q.1 q.2 e go
 | false=>exact(by
   let[g,b,ci,d]:=id q.1;let[ot,gt,_,mt,f]:=q.2;refine L3<|wpAny_callSpecial?_slot q.1.typeIs F.slot_tuple_iterator_next<|wpAny_call_entry F.slot_tuple_iterator_next q.1.typeIs F.entry_tuple_iterator_next ?_<|F.args_tuple_iterator_next_1 _;show wpAny _ _ (field (.ref j) 0 >>= _) _ _ s;refine L3<|U8 b d rfl<|L3<|U8 b d rfl<|L3<|wpAny_seqItems gt f ?_;simp only[N9,e];refine L3<|wpAny_rule<|L3<|wpAny_setField b d (by simp)<|L3<|L3<|wpAny_newObj_type ?_ (by size_fits);refine L3<|wpAny_of_eq (by first | rfl | (simp only[firstArgMember];rfl)) ?_;refine wpAny_newObj_type (L3<|wpAny_handled ?_) (by size_fits)
   first | rw[a] | rw[a]
   exact L3<|M8<|wpAny_throw<|go _ _ (((Heap.SameBut.update ..).extBut.push _).push _) #v[_,E3 _ rfl,rfl])
def Fc{C}{r}(u:A.handled=none)(D:ZA z TI TO<|r::its)(b:IsZip s.heap z TI TO .none)(qI:xD s.heap TI<|(r::its).map λq=>.ref q.j)(q:cC s.heap r.j r.c n r.vs r.k)(ex:r.vs[n]?=none)
  (go:∀ k e,(∀ a o,a≠z->a≠TO->(∀ t∈r::its,a≠t.j)->s.heap.get? a=some o->k.get? a=some o)->(∃ o,k.get? e=some o/\o.cls=.type "StopIteration")->E (.ref e) {s with heap:=k}):
  wpAny (model prog w) A (Builtin.«zip.__next__» #v[[.ref z],[]]) C E s:=by
 have d:r∈r::its:=L7;refine(show wpAny (model prog w) A (field (.ref z) 2 >>= _) _ _ _ from L3 (U8 b rfl rfl<|L3<|U8 b rfl rfl<|L3<|wpAny_seqItems qI rfl<|L3<|L3<|U8 b rfl rfl<|M8<|L3<|wpAny_rule<|L3<|U8 b rfl rfl<|L3<|wpAny_setField_rec b (by simp) λH v g=>(L3<|L3<|L3<|wpAny_onRaise (L3<|Fb u (q.ext g (D.jz r d).1 (D.cz r d).1) ex λI e h y=>?_))));let[B,f,i]:=y;have l:=h _ _ (D.jz r d).1.symm v;have ne:e≠z:=λx=>by subst x;rw[l] at f;cases f;simp at i
 exact wpAny_setField_rec l (by simp) λF _ m=>go F e (λc o p _ G x=>m.extBut _ _ p<|h _ _ (G r d)<|g.extBut _ _ p x) #v[B,m.extBut _ _ ne f,i]
def Fd{C}(D:ZA z TI TO its)(u:IsZip s.heap z TI TO .none)(qI:xD s.heap TI<|its.map λq=>.ref q.j)(X:xD s.heap TO os)(Y:its≠[])(Z:os.length=its.length)(hl:its.length<=1000)
  (q:∀ r∈its,cC s.heap r.j r.c n r.vs r.k/\r.vs[n]?=some r.x)
  (go:∀ k,IsZip k z TI TO (rawInt ↥s)->xD k TO (its.map (·.x))->(∀ r∈its,cC k r.j r.c (n+1) r.vs r.k)->xD k ↥s (its.map (·.x)) ->
   (∀ a o,a≠z->a≠TO->(∀ r∈its,a≠r.j)->s.heap.get? a=some o->k.get? a=some o)->C (some<|.ref ↥s) {s with heap:=k}):wpAny (model prog w) A (pyNext<|.ref z) C E s:=by
 have ty:s.TypeIs (.ref z) "zip":=#v[_,u,rfl];exact L3 (wpAny_attempt (wpAny_callSpecial?_slot ty F.slot_zip_next (wpAny_call_entry F.slot_zip_next ty F.entry_zip_next
  ((by
    refine(show wpAny (model prog w) A.in1 (field (.ref z) 2 >>= _) _ _ _ from L3 (U8 u rfl rfl<|L3<|U8 u rfl rfl<|L3<|wpAny_seqItems qI rfl ?_));have he:(its.map λq=>Value.ref q.j).toArray.isEmpty=false:=by cases its<;>simp at Y ⊢
    simp only[he];refine(L3<|L3<|U8 u rfl rfl<|M8<|L3<|wpAny_rule<|L3<|U8 u rfl rfl<|L3<|wpAny_setField_rec u (by simp) λk1 z1 H=>(L3<|E_ (Fa s z TI TO its n os) (its.map λq=>Value.ref q.j) 0 (s:={s with heap:=k1}) #v[z1,?_,λm r e=>?_,H.1,λa o g _ _ e=>H.extBut _ _ g e] (λi x h e S=>?_) λh S=>?_))
    ·rw[List.take_zero,List.drop_zero];exact H.extBut _ _ D.TOz X
    ·have f:=List.mem_of_getElem? e;exact(q r f).1.ext H (D.jz r f).1 (D.cz r f).1
    ·rw[Nat.zero_add] at S ⊢;rw[List.getElem?_map] at e;let[r,v,rfl]:=Option.map_eq_some_iff.mp e;have f:=List.mem_of_getElem? v;have hi:=(L9.mp v).1;have hit:=S.c i r v;rw[if_neg<|Nat.lt_irrefl _] at hit;refine L3<|wpAny_onRaise (L3<|E9 hit ((D.cz r f).2.2 r f) (q r f).2 λk2 p y=>M8 ?_)
     have P:=y.extBut _ _ (D.jz r f).2.2.symm S.b;refine L3<|wpAny_seqItems P rfl<|L3<|E' P (by simp;lia) λk3 o3 B=>?_;refine L3<|wpAny_letGo<|M8 #v[rfl,k3,rfl,?_];have K:∀ m t,its[m]?=some t->m≠i->t.j≠r.j:=λm t l L ej=>by
      have:=(List.getElem_inj (h₀:=by simpa using((L9.mp l).1)) (h₁:=by simpa using hi) D.nd).mp (by simp[(L9.mp l).2,(L9.mp v).2,ej]);exact L this
     refine#v[B.extBut _ _ D.TOz.symm<|y.extBut _ _ (D.jz r f).1.symm S.a,?_,λm t l=>?_,by rw[B.1,y.1];exact S.d,λa o g I J e=>B.extBut _ _ I<|y.extBut _ _ (J r f)<|S.e a o g I J e]
     ·have ee:(List.map (·.x) (its.take i)++os.drop i).set i r.x=List.map (·.x) (its.take<|i+1)++os.drop (i+1):=by
       rw[List.take_add_one,v,Option.toList,N6,List.append_assoc,List.set_append_right _ _<|by simp;lia];have M:i<os.length:=by lia
       rw[List.drop_eq_getElem_cons M];have:i-(List.map (·.x)<|its.take i).length=0:=by simp;lia
       rw[this];rfl
      rw[<- ee];exact o3
     ·have N:=List.mem_of_getElem? l;by_cases e2:m=i
      ·subst e2;cases v.symm.trans l;rw[if_pos<|Nat.lt_succ_self _];exact p.ext B (D.jz r f).2.2 (D.cz r f).2.1
      ·have x1:=((S.c m t l).ext y (K m t l e2) ((D.cz t N).2.2 r f)).ext B (D.jz t N).2.2 (D.cz t N).2.1;have:(m<i+1)=(m<i):=by apply propext;lia
       simp only[this];exact x1
    ·rw[Nat.zero_add,L1] at S;have O:=S.b;rw[List.take_length,<- Z,List.drop_length,N1] at O;refine L3<|wpAny_seqItems O rfl<|L3<|wpAny_newTuple ?_;have Q:=N2 S.a;refine(L3 ?_);have z8:IsZip (h.push {cls:=.type "tuple",data:=.seq (its.map (·.x)).toArray}) z TI TO .ellipsis:=L8 _ S.a;refine L3<|wpAny_setField_rec z8 (by simp) λk9 z9 R=>(wpAny_setField_rec z9 (by simp) λT U V=>?_);have up:∀ c o,c≠z->h.get? c=some o->T.get? c=some o:=λc o g e=>V.extBut _ _ g<|R.extBut _ _ g<|L8 _ e;have W:=V.extBut _ _ (Nat.ne_of_gt Q)<|R.extBut _ _ (Nat.ne_of_gt Q)<|E3 _ rfl;rw[S.d] at U W;refine M8 #v[_,rfl,?_];rw[S.d];refine(λk c1 c2 c3 c4 c5=>M8<|go k c1 c2 c3 c4 c5) T U (up _ _ D.TOz O) (λr f=>?_) W λa o g I J e=>up a o g<|S.e a o g I J e;let[m,G,rfl]:=List.getElem_of_mem f;have x:=S.c m _<|E1 G;rw[if_pos G] at x;refine x.up (λo e=>up _ _ (D.jz _ f).1 e)<|λo e=>up _ _ (D.cz _ f).1 e)) (F.args_zip_next_1 _))))
def Fe{C}{r}(d:A.handled=none)(D:ZA z TI TO<|r::its)(b:IsZip s.heap z TI TO .none)(qI:xD s.heap TI<|(r::its).map λq=>.ref q.j)(q:cC s.heap r.j r.c n r.vs r.k)(ex:r.vs[n]?=none)
  (go:∀ k,(∀ a o,a≠z->a≠TO->(∀ t∈r::its,a≠t.j)->s.heap.get? a=some o->k.get? a=some o)->C none {s with heap:=k}):wpAny (model prog w) A (pyNext<|.ref z) C E s:=by
 have ty:s.TypeIs (.ref z) "zip":=#v[_,b,rfl];refine L3<|wpAny_attempt<|wpAny_callSpecial?_slot ty F.slot_zip_next<|wpAny_call_entry F.slot_zip_next ty F.entry_zip_next (Fc d D b qI q ex λk e kp f=>?_)<|F.args_zip_next_1 _;let[o,g,h]:=f;exact L3<|wpAny_isInstance #v[o,g,h] isSubtype_stop<|M8<|go _ kp
end
section
variable {prog:Program}{w:World}{A:Around}{E:J0}{s:Shared}
def fG(h:Heap)(c:Addr)(vs:Array Value):Bool->Prop
 | true=>h.IsList c vs
 | false=>h.IsTuple c vs
def fG.push{h}{c}{vs}{K}(q:fG h c vs K)(o):fG (h.push o) c vs K:=by
 cases K <;>
 ·let[a,e,t]:=q;exact#v[a,L8 _ e,t]
def Ff{c}{vs}{K}{Q}(q:fG s.heap c vs K)
  (go:∀ o:Obj,cC (s.heap.push o) ↥s c 0 vs K->Q (.ref ↥s) {s with heap:=s.heap.push o}):wpAny (model prog w) A (pyIter<|.ref c) Q E s:=by
 cases K with
 | true=>exact wpAny_pyIter_list q<|go _ #v[#v[_,E3 _ rfl,rfl,rfl],fG.push q _]
 | false=>exact wpAny_pyIter_tuple q<|go _ #v[#v[_,E3 _ rfl,rfl,rfl],fG.push q _]
def Fg:∀(l:List<|Addr×Array Value×Bool) acc {s:Shared},(∀ p∈l,fG s.heap p.1 p.2.1 p.2.2) ->
  (∀ k:Heap,k.objs.size=↥s+l.length->(∀ i p,l[i]?=some p->cC k (↥s+i) p.1 0 p.2.1 p.2.2)->(∀ c o,s.heap.get? c=some o->k.get? c=some o) ->
   Q (acc++((List.range' ↥s l.length).map Value.ref).toArray) {s with heap:=k}) ->
  wpAny (model prog w) A (forIn (l.map λp=>Value.ref p.1) acc λx r=>do pure (ForInStep.yield<|r.push<|<- holding r.toList (pyIter x))) Q E s:=by
 intro l
 induction l with
 | nil=>
  intro acc s _ go;exact M8 ⇑(go s.heap rfl (by simp) λ_ _ e=>e)
 | cons p l d=>
  intro acc s h go;rw[L5,List.forIn_cons];refine L3<|L3<|wpAny_holding<|Ff (h p L7) λo q=>(M8<|d _ (λr f=>(h r<|L6 _ f).push _) λk b hi a=>?_);have s1:(s.heap.push o).objs.size=↥s+1:=Heap.size_push ..;simp only[s1] at b hi ⊢;have g:=go k (by rw[b,M3];lia) (λi r e=>?_) λc j e=>a c j<|L8 _ e
  ·rw[M3,List.range'_succ,L5] at g;have e2:acc.push (.ref ↥s)++((List.range' (↥s+1) l.length).map Value.ref).toArray=acc++(Value.ref ↥s::(List.range' (↥s+1) l.length).map Value.ref).toArray:=by apply Array.ext';simp
   rw[e2];exact g
  ·cases i with
   | zero=>cases e;exact q.up (a _)<|a _
   | succ i=>rw[show ↥s+(i+1)=↥s+1+i by lia];exact hi i r ⇑e
def Fh{Q}{l:List (Addr×Array Value×Bool)}(h:∀ p∈l,fG s.heap p.1 p.2.1 p.2.2)
  (go:∀ k:Heap,k.objs.size=↥s+l.length->(∀ i p,l[i]?=some p->cC k (↥s+i) p.1 0 p.2.1 p.2.2)->(∀ c o,s.heap.get? c=some o->k.get? c=some o) ->
   Q ((List.range' ↥s l.length).map Value.ref) {s with heap:=k}):wpAny (model prog w) A (Builtin.SmallTypes.iterAll<|l.map λp=>Value.ref p.1) Q E s:=by
 refine L3<|Fg l #[] h λk a b d=>M8 ?_;have:=go k a b d;simpa using this
def Fi(l:List<|Addr×Array Value×Bool)(a:l.length<=1000):Meets (Builtin.«zip.__new__» #v[.type "zip"::l.map λp=>.ref p.1,[]]) (λ_ R s=>(∀ p∈l,fG s.heap p.1 p.2.1 p.2.2)/\∀ k:Heap,k.objs.size=↥s+l.length->(∀ i p,l[i]?=some p->cC k (↥s+i) p.1 0 p.2.1 p.2.2)->(∀ c o,s.heap.get? c=some o->k.get? c=some o) ->
   R (.ok<|.ret<|.ref<|k.objs.size+2) { s with heap:=((k.push {cls:=.type "tuple",data:=.seq ((List.range' ↥s l.length).map Value.ref).toArray}).push {cls:=.type "tuple",data:=.seq (l.map λ_=>Value.none).toArray}).push {cls:=.type "zip",data:=.fields #[.none,.bool false,.bool false,.ref k.objs.size,.ref<|k.objs.size+1]} }):=
 .of_wp λprog w A R s h=>by
  let[d,h]:=h;have b:=sub_zip
  wp_walk using Fh d
  intro k e e2 e3;have f:(List.map (λ_=>Value.none)<|List.map Value.ref<|List.range' ↥s l.length)=l.map λ_=>Value.none:=by
   rw[U3];apply List.ext_getElem<;>simp
  rw[f];refine L3<|wpAny_newTuple ?_ (by simp;exact N8 a<|by decide);refine L3 (wpAny_newTuple ?_<|by simp;exact N8 a<|by decide)
  wp_walk
  refine#v[_,rfl,?_];rw[Heap.size_push,Heap.size_push];exact(h k e e2 e3)
def Fj{l:List (Addr×Array Value×Bool)}{C}(j:l.length<=1000)(a:checkTypeCall "zip" #v[l.map λp=>.ref p.1,[]]=pure ())(b:checkBuiltinCall "zip.__new__" #v[.type "zip"::l.map λp=>.ref p.1,[]]=pure ())(hok:∀ obj,argsOk "object.__init__" #v[obj::l.map λp=>.ref p.1,[]])
  (h1:∀ p∈l,fG s.heap p.1 p.2.1 p.2.2)
  (go:∀ k N,N=↥s+l.length->IsZip k (N+2) N (N+1) .none->xD k N ((List.range' ↥s l.length).map Value.ref)->xD k (N+1) (l.map λ_=>.none)->(∀ i p,l[i]?=some p->cC k (↥s+i) p.1 0 p.2.1 p.2.2)->(∀ c o,s.heap.get? c=some o->k.get? c=some o)->C (.ref<|N+2) {s with heap:=k}):
  wpAny (model prog w) A (call (.type "zip")<|l.map λp=>.ref p.1) C E s:=by
 refine callType_new F.called_zip (by decide) a b hok F.entry_zip_new (Fi l j) #v[h1,λk m e2 e3=>?_];have d:∀(h:Heap) o,(h.push o).objs.size=h.objs.size+1:=λh o=>Heap.size_push ..;have f:=E3 (((k.push {cls:=.type "tuple",data:=.seq ((List.range' ↥s l.length).map Value.ref).toArray}).push {cls:=.type "tuple",data:=.seq (l.map λ_=>Value.none).toArray})) (o:={cls:=.type "zip",data:=.fields #[.none,.bool false,.bool false,.ref k.objs.size,.ref<|k.objs.size+1]}) rfl;rw[d,d] at f;have up:∀ c o,k.get? c=some o->(((k.push {cls:=.type "tuple",data:=.seq ((List.range' ↥s l.length).map Value.ref).toArray}).push {cls:=.type "tuple",data:=.seq (l.map λ_=>Value.none).toArray}).push {cls:=.type "zip",data:=.fields #[.none,.bool false,.bool false,.ref k.objs.size,.ref<|k.objs.size+1]}).get? c=some o:=λc o x=>L8 _<|L8 _<|L8 _ x;have g:=E3 (k.push {cls:=.type "tuple",data:=.seq ((List.range' ↥s l.length).map Value.ref).toArray}) (o:={cls:=.type "tuple",data:=.seq (l.map λ_=>Value.none).toArray}) rfl;rw[d] at g;exact#v[#v[_,f,rfl],go _ k.objs.size m f (L8 _<|L8 _<|E3 k rfl) (L8 _ g) (λi p e=>(e2 i p e).up (up _) (up _)) λc o x=>up c o<|e3 c o x]
end
def fm(K:W4)(H:Hp)(c:Addr):Bool->List V->Prop
 | true,q=>ck K H c q
 | false,q=>cJ K H c q
def fH(h:Heap)(j c:Addr)(n:Nat):Bool->Prop
 | true=>h.IsListIter j c n
 | false=>h.IsTupleIter j c n
structure Zp where
 j:Addr
 c:Addr
 k:Bool
def p6(K:W4)(as:List<|Addr×Bool):It:=
 ⟨λi H=>∀ a∈as,∃ q x,fm K H a.1 a.2 q/\q[i]?=some x,
  λi H x H'=>∃ p xs,xs.length=as.length/\(∀(m:Nat) a,as[m]?=some a->∀ q,fm K H a.1 a.2 q->∃ u,xs[m]?=some u/\q[i]?=some u)/\x=.ref p/\H p=none/\H'=bO H p (.tup xs),
  λi H=>∃ a r q,as=a::r/\fm K H a.1 a.2 q/\q.length<=i⟩
def zl(I:bL X pins u H s)(h:fm X.K H c k q)(hi:fH s.heap j c n k):∃ us:List Value,bM q us/\cC s.heap j c n us.toArray k:=by
 cases k with
 | true=>
  let[us,a,p,_]:=I.list h;exact#v[us,a,hi,p.isList]
 | false=>
  let[us,a,p,_]:=I.tuple h;exact#v[us,a,hi,p]
def Fk(I:bL X pins u H s)(h:fm X.K H c k q)(h':fm X.K H c k q'):q=q':=by
 cases k with
 | true=>exact I.list_inj h h'
 | false=>exact I.tuple_inj h h'
def Fm(I:bL X pins U H s):∀ ps:List Zp,(∀ p∈ps,∃ q x,fm X.K H p.c p.k q/\q[i]?=some x)->(∀ p∈ps,fH s.heap p.j p.c i p.k) ->
  dv λ(its:List Zi) (xs:List V)=>d8 (its.map (λr=>(#v[r.j,r.c,r.k]:Zp))=ps) (bM xs (its.map (·.x))) (∀ r∈its,cC s.heap r.j r.c i r.vs r.k/\r.vs[i]?=some r.x) (∀(m:Nat) p,ps[m]?=some p->∀ q,fm X.K H p.c p.k q->∃ u,xs[m]?=some u/\q[i]?=some u):=by
 intro ps
 induction ps with
 | nil=>
  intro _ _;exact#v[[],[],rfl,.nil,by simp,by simp]
 | cons p ps o=>
  intro g h;let[its,xs,e,v,a,b]:=o (λr d=>g r<|by simp[d]) λr d=>h r (by simp[d]);let[q,x,l,n]:=g p (by simp);let[w,y,z]:=zl I l<|h p (by simp);let[u,A,B]:=y.get n;refine#v[#v[p.j,p.c,w.toArray,u,p.k]::its,x::xs,by rw[L5,e],.cons B v,λr d=>?_,λm t e2 C f=>?_]
  ·rcases M5.mp d with rfl | d
   ·exact#v[z,by simpa using A]
   ·exact a r d
  ·cases m with
   | zero=>cases e2;exact#v[x,rfl,by rw[Fk I f l];exact n]
   | succ m=>exact b m t ⇑e2 C f
structure ZP(z TI TO:Addr)(ps:List Zp):Prop where
 TIz:TI≠z
 TOz:TO≠z
 TITO:TI≠TO
 jz:∀ q∈ps,q.j≠z/\q.j≠TI/\q.j≠TO
 cz:∀ q∈ps,q.c≠z/\q.c≠TO/\∀ r∈ps,q.c≠r.j
 nd:(ps.map (·.j)).Nodup
def ZP.za{z TI TO}{ps}{its}(D:ZP z TI TO ps)(e:its.map (λr=>(#v[r.j,r.c,r.k]:Zp))=ps):ZA z TI TO its:=by
 subst e;refine#v[D.TIz,D.TOz,D.TITO,λq a=>D.jz _<|List.mem_map_of_mem a,λq a=>?_,by have:=D.nd;rwa [U3] at this];have:=D.cz _<|List.mem_map_of_mem a;exact#v[this.1,this.2.1,λr b=>this.2.2 _<|List.mem_map_of_mem b]
def fH.obj(q:fH h j c n k):∃ o,h.get? j=some o/\∀ v,o.data≠.cell v:=by
 cases k <;>
 ·let[o,e,_,d]:=q;exact#v[o,e,λv z=>by rw[d] at z;cases z]
def fH.up(q:fH h j c n b)(a:∀ o,h.get? j=some o->k.get? j=some o):fH k j c n b:=by
 cases b <;>
 ·let[o,e,t]:=q;exact#v[o,a _ e,t]
def cC.itB(q:cC h j c n vs k):fH h j c n k:=by
 cases k<;>exact q.1
def Fn{P}{w}{K}{elts}{n}{pos}(z TI TO)(ps)(D:ZP z TI TO ps)(hn:ps≠[])(hl:ps.length<=1000):
  dG P w K (.Tuple elts n pos) (p6 K<|ps.map λp=>(p.c,p.k)) (z::TI::TO::ps.map (·.j)) z (λi h=>IsZip h z TI TO .none/\xD h TI (ps.map λp=>.ref p.j)/\(∃ os,os.length=ps.length/\xD h TO os)/\∀ p∈ps,fH h p.j p.c i p.k) where
 mem:=by simp
 obj:=λi h l b f=>by
  obtain⟨u,y,⟨os,_,F⟩,C⟩:=l;rcases(⇑f:b=z\/b=TI\/b=TO \/ ∃ p∈ps,p.j=b) with q | q | q | ⟨p,d,q⟩<;>subst q
  ·exact#v[_,u,λv q=>by cases q]
  ·exact#v[_,y,λv q=>by cases q]
  ·exact#v[_,F,λv q=>by cases q]
  ·exact(C p d).obj
 keep:=λi h h' l k=>by
  obtain⟨u,y,⟨os,N,F⟩,C⟩:=l;exact#v[k z (by simp) _ u,k TI (by simp) _ y,#v[os,N,k TO (by simp) _ F],λp d=>(C p d).up (k p.j<|by simp;exact .inr<|.inr<|.inr #v[p,d,rfl])]
 item:=by
  intro X R S T hc i G s σ H E I O l U;subst R S T;obtain⟨u,y,⟨os,N,F⟩,C⟩:=l;let[A,xs,e,J,hi,hx]:=Fm I ps (λp d=>U (p.c,p.k)<|M7.mpr #v[p,d,rfl]) C;have el:A.length=ps.length:=by rw[<- e,L1]
  have ej:(A.map λq=>Value.ref q.j)=ps.map λp=>Value.ref p.j:=by rw[<- e,U3];rfl
  have mp:∀ p∈ps,∃ r∈A,r.j=p.j/\r.c=p.c/\r.k=p.k:=λp d=>by
   rw[<- e] at d;let[r,L,rfl]:=M7.mp d;exact#v[r,L,rfl,rfl,rfl]
  refine Fd (D.za e) u (by rw[ej];exact y) F (λz=>hn<|by rw[<- e,z];rfl) (by rw[N,el]) ∅ hi λhh a1 a2 a3 a4 Q=>?_;refine#v[_,rfl,wpAny_letOwnedTupleGo_zip a1 λh7 V g=>?_];have lt:∀{c o},s.heap.get? c=some o->c < ↥s:=N2;have M:=(g.2 _<|Nat.ne_of_gt<|lt u).trans a4;have nj:∀{b},(∀ p∈ps,b≠p.j)->∀ r∈A,b≠r.j:=λh r L=>by
   have:=h #v[r.j,r.c,r.k] (by rw[<- e];exact List.mem_map_of_mem L);exact this
  have kk:∀ b o,b∉z::TI::TO::ps.map (·.j)->s.heap.get? b=some o->h7.get? b=some o:=λb o f q=>by
   have B:b≠z/\b≠TI/\b≠TO/\∀ p∈ps,b≠p.j:=by
    simp at f;exact#v[f.1,f.2.1,f.2.2.1,λp d x=>f.2.2.2 p d x.symm]
   exact(g.2 b B.1).trans (Q b o B.1 B.2.2.1 (nj B.2.2.2) q)
  have I1:=I.turnedNew (t':=s.toks) kk O (N0 _) #v[#v[_,M,rfl,_,rfl],_,M,rfl] ⇑J (by have:=J.length;simp at this;exact N8 (by lia:xs.length<=1000)<|by decide);refine#v[.ref ↥s,_,I1,rfl,#v[_,xs,by have:=J.length;simp at this;simp;lia,λm a em q W=>?_,rfl,I.hok.fresh<|N0 _,rfl],#v[V,(g.2 TI D.TIz).trans (Q _ _ D.TIz D.TITO (nj λp d x=>(D.jz p d).2.1 x.symm) y),#v[_,by rw[L1,el],(g.2 TO D.TOz).trans a2],λp d=>?_],λb f=>?_]
  ·rw[List.getElem?_map] at em;let[p,ep,rfl]:=Option.map_eq_some_iff.mp em;exact hx m p ep q W
  ·let[r,L,rj,rc,rk]:=mp p d;rw[<- rj,<- rc,<- rk];refine(a3 r L).itB.up λo q=>(g.2 _ ?_).trans q;rw[rj];exact(D.jz p d).1
  ·rw[je]
   ·exact(O b f).1
   ·intro q;have:b < ↥s:=by
     rcases(⇑f:b=z\/b=TI\/b=TO \/ ∃ p∈ps,p.j=b) with w | w | w | ⟨p,d,w⟩
     ·rw[w];exact lt u
     ·rw[w];exact lt y
     ·rw[w];exact lt F
     ·let[o,e,_]:=(C p d).obj;rw[<- w];exact lt e
    exact absurd this (by rw[q];exact Nat.lt_irrefl _)
 done:=by
  intro X R S T hc i G s σ H E I O l U;subst R S T;obtain⟨u,y,⟨os,N,F⟩,C⟩:=l;let[a,r,q,ea,W,hx]:=U;cases ps with
  | nil=>cases ea
  | cons p ps=>
   cases ea;let[us,J,it]:=zl I W<|C p (by simp);have hl1:=J.length;have ee:((#v[p.j,p.c,us.toArray,.none,p.k]:Zi)::ps.map λp=>#v[p.j,p.c,#[],.none,p.k]).map (λr=>(#v[r.j,r.c,r.k]:Zp))=p::ps:=by
    rw[L5,U3];exact congrArg (p::·)<|List.map_id _
   refine Fe (I.ok.hd hc) (D.za ee) u (by rw[show xD s.heap TI _=xD s.heap TI ((p::ps).map λp=>.ref p.j) by rw[L5,U3];rfl];exact y) it (by simp;lia) λhh Q=>#v[rfl,I.turnedL (λb o f q=>?_) O];simp only[M5,M7,not_or,L5] at f;refine Q b o f.1 f.2.2.1 (λt Y x=>?_) q;rcases M5.mp Y with rfl | Y
   ·exact f.2.2.2.1 x
   ·let[p',Z,rfl]:=M7.mp Y;exact f.2.2.2.2 #v[p',Z,x.symm]
 self:=λ_ _ _ _ _ l h=>wpAny_pyIter_zip l.1 h
end L2
namespace PySem
end PySem
namespace L2
open PySem PySem.Spec PyProof.Rows
def lZ(K:W4)(m:Nat)(tl:TA):TI:=λs H R=>tl s H λvs H1=>∃ as:List (Addr×Bool),as.length=m/\vs=as.map (λa=>.ref a.1)/\(∀ a∈as,∃ q,fm K H1 a.1 a.2 q)/\R (p6 K as) H1
theorem zp(I:bL X pins u H s):∀ as:List (Addr×Bool),(∀ a∈as,∃ q,fm X.K H a.1 a.2 q)->∃ l:List (Addr×Array Value×Bool),l.map (λp=>(p.1,p.2.2))=as/\∀ p∈l,fG s.heap p.1 p.2.1 p.2.2/\p.1 < ↥s
 | [],_=>#v[[],rfl,by simp]
 | (a,k)::as,h=>by
  let[l,e,d]:=zp I as λb f=>h b (by simp[f]);let[q,c]:=h (a,k) (by simp);have:∃ vs:Array Value,fG s.heap a vs k/\a < ↥s:=by
   cases k with
   | true=>
    let[g,i,p,_]:=I.list c;let[o,_,e,_]:=id p;exact#v[_,p.isList,N2 e]
   | false=>
    let[g,i,p,_]:=I.tuple c;let[o,e,_]:=id p;exact#v[_,p,N2 e]
  let[vs,j,m]:=this;exact#v[(a,vs,k)::l,by rw[L5,e],λp n=>(M5.mp n).elim (λz=>by rw[z];exact#v[j,m]) (d p)]
def gr(S:Nat)(l:List<|Addr×Array Value×Bool):List Zp:=(l.zipIdx S).map λq=>#v[q.2,q.1.1,q.1.2.2]
def Fo(S):∀ l:List (Addr×Array Value×Bool),(gr S l).map (·.j)=List.range' S l.length:=by
 intro l
 induction l generalizing S with
 | nil=>rfl
 | cons p l a=>have:=a<|S+1;unfold gr at this ⊢;rw[List.zipIdx_cons,L5,L5,this,M3,List.range'_succ]
def Fp(S):∀ l:List (Addr×Array Value×Bool),(gr S l).map (λp=>(p.c,p.k))=l.map λp=>(p.1,p.2.2):=by
 intro l
 induction l generalizing S with
 | nil=>rfl
 | cons p l a=>have:=a<|S+1;unfold gr at this ⊢;rw[List.zipIdx_cons,L5,L5,this,L5]
def K8{S}:∀{l}{q},q∈gr S l->∃ i p,l[i]?=some p/\q=#v[S+i,p.1,p.2.2]:=by
 intro l q h;obtain⟨⟨p,m⟩,a,rfl⟩:=M7.mp h;have:=List.mem_zipIdx a;refine#v[m-S,p,?_,?_]
 ·rw[E1 ∅];exact congrArg some this.2.2.symm
 ·have:S+(m-S)=m:=by lia
  rw[this]
def p_(N):N≠N+2/\N+1≠N+2/\N≠N+1:=by lia
def Fq{S L i N}(h:i<L)(e:N=S+L):S+i≠N+2/\S+i≠N/\S+i≠N+1:=by lia
def Fr{c S L N}(h:c<S)(e:N=S+L):c≠N+2/\c≠N+1/\∀ i,c≠S+i:=#v[by lia,by lia,λi=>by lia]
def qm{S L N b}(e:N=S+L)(h:b=N+2\/b=N\/b=N+1):S<=b:=by lia
def zv(I:bL X pins W H s)  (y:as≠[]) (S:as.length<=1000) (d:∀ a∈as,∃ q,fm X.K H a.1 a.2 q) (q:R (p6 X.K as) H)
  (f:checkTypeCall "zip" #v[as.map λp=>.ref p.1,[]]=pure ()) (g:checkBuiltinCall "zip.__new__" #v[.type "zip"::as.map λp=>.ref p.1,[]]=pure ()) (hok:∀ obj,argsOk "object.__init__" #v[obj::as.map λp=>.ref p.1,[]]):
  wpAny (model X.prog X.w) X.A (call (.type "zip")<|as.map λp=>.ref p.1) (λv s1=>wpAny (model X.prog X.w) X.A (pyIter v) (lM X pins W (.Tuple elts n tpos) R) X.xe s1) X.xe s:=by
 let[l,e,t]:=zp I as d;have U:l.length=as.length:=by rw[<- e,L1]
 have B:(as.map λp=>Value.ref p.1)=l.map λp=>Value.ref p.1:=by rw[<- e,U3];rfl
 rw[B] at f g hok ⊢;refine Fj ∅ f g hok (λp C=>(t p C).1) λE N h u F G J L=>?_;have M:bL X pins W H {s with heap:=E}:=I.kept L;refine PySem.wpAny_pyIter_zip u ?_;have k:=Fo ↥s l;have x:=Fp ↥s l;have D:ZP (N+2) N (N+1) (gr ↥s l):=by
  refine#v[(p_ N).1,(p_ N).2.1,(p_ N).2.2,λq d=>?_,λq d=>?_,by rw[k];exact List.nodup_range']
  ·let[i,p,m,rfl]:=K8 d;exact Fq (L9.mp m).1 h
  ·let[i,p,m,rfl]:=K8 d;have:=Fr (t p<|List.mem_of_getElem? m).2 h;refine#v[this.1,this.2.1,λr O=>?_];let[Q,V,_,rfl]:=K8 O;exact this.2.2 Q
 have T:=Fn (P:=X.prog) (w:=X.w) (K:=X.K) (elts:=elts) (n:=n) (pos:=tpos) (N+2) N (N+1) (gr ↥s l) D (λz=>y<|by rw[<- e,<- x,z];rfl) (by have:=congrArg List.length k;rw[L1,List.length_range'] at this;lia);rw[x,e] at T;refine#v[N+2,_,_,_,H,rfl,M,T,#v[u,?_,#v[_,?_,G],λq d=>?_],λb c=>?_,q]
 ·rw[show(gr ↥s l).map (λp=>Value.ref p.j)=((gr ↥s l).map (·.j)).map Value.ref by rw[U3];rfl,k];exact F
 ·have:=congrArg List.length k;rw[L1,List.length_range'] at this;rw[L1];lia
 ·let[i,p,m,rfl]:=K8 d;exact(J i p m).itB
 ·have o:↥s<=b:=by
   rw[k] at c;rcases M5.mp c with z | c
   ·exact qm h<|.inl z
   rcases M5.mp c with z | c
   ·exact qm h<|.inr<|.inl z
   rcases M5.mp c with z | c
   ·exact qm h<|.inr<|.inr z
   exact(List.mem_range'_1.mp c).1
  exact I.fpOk o<|I.hok.fresh o
theorem VE:∀{as:List (Addr×Bool)}{us},bM (as.map λa=>V.ref a.1) us->us=as.map λa=>Value.ref a.1
 | [],_,h=>by cases h;rfl
 | a::as,_,h=>by
  cases h with
  | cons b c=>cases b;rw[VE c];rfl
def len2{s:Type}{l:List s}(h:l.length=2):∃ x y,l=[x,y]:=by
 rcases l with _ | ⟨x,_ | ⟨y,_ | _⟩⟩<;>first | exact#v[_,_,rfl] | cases h
def Fs{s:Type}{l:List s}(h:l.length=3):∃ x y z,l=[x,y,z]:=by
 rcases l with _ | ⟨x,_ | ⟨y,_ | ⟨z,_ | _⟩⟩⟩<;>first | exact#v[_,_,_,rfl] | cases h
def Ft(e:Gl X "zip")(f:X.mg "zip" = none)(g:PA X [a,b] ta)(i:starEach [a,b] X.env=[(false,eval a X.env),(false,eval b X.env)]:=by rfl)(c:starEach [b] X.env=[(false,eval b X.env)]:=by rfl):
  PI X (.Tuple elts n tpos) (.Call (.Name "zip" p) [a,b] [] pos) (lZ X.K 2 ta):=by
 intro d s u H R I h;refine Call_<|qX I e f (show bootBuiltins "zip" = some (.type "zip") by decide +kernel)<|PyProof.Rows.callWith_type1 (thn (g pos d s u H _ I h) λm s1 ⟨vs,r,j,r1,k⟩=>?_) (by rw[i,c]) (by rw[c];rfl);let[t,l2,rfl,l,q]:=k;cases VE r1;let[x,y,rfl]:=len2 l2;exact zv j (by simp) (by simp) l q (F.typeCall_zip_2 _ _) (F.newCall_zip_2 _ _) λo=>F.args_object_init_3 o _ _
def Fu(f:Gl X "zip")(g:X.mg "zip" = none)(i:PA X [a,b,c] ta)(j:starEach [a,b,c] X.env=[(false,eval a X.env),(false,eval b X.env),(false,eval c X.env)]:=by rfl)(d:starEach [b,c] X.env=[(false,eval b X.env),(false,eval c X.env)]:=by rfl):
  PI X (.Tuple elts n tpos) (.Call (.Name "zip" p) [a,b,c] [] pos) (lZ X.K 3 ta):=by
 intro e s v H R I h;refine Call_<|qX I f g (show bootBuiltins "zip" = some (.type "zip") by decide +kernel)<|PyProof.Rows.callWith_type1 (thn (i pos e s v H _ I h) λr s1 ⟨vs,t,k,r1,l⟩=>?_) (by rw[j,d]) (by rw[d];rfl);let[u,l2,rfl,m,q]:=l;cases VE r1;let[x,y,z,rfl]:=Fs l2;exact zv k (by simp) (by simp) m q ((by kernel_rfl)) ((by kernel_rfl)) λo=>(by unfold argsOk;kernel_rfl)
end L2
namespace PySem
open Sem (wp)
open PySem.W PyProof.Rows PySem.Calls
structure d3(lo:Addr)(es:Array DictEntry)(h:Heap)(as:W5):Prop where
 up:as.Pairwise (· < ·)
 ab:∀ a∈as,lo<a/\a<h.objs.size
 at_:∀(j:Nat) (a:Addr),as[j]?=some a->∃ en,es[j]?=some en/\h.get? a=some {cls:=.type "tuple",data:=.seq #[en.key,en.val]}
section
variable {prog:Program}{w:World}{A:Around}{E:J0}{s:Shared}{S I d r:Addr}{es:Array DictEntry}{ep:Nat}{od:Obj}{R:Result->Shared->Prop}
def Fv(h:Heap)(I d S:Addr)(i n ep:Nat):Prop:=∃ x y ok ov,gM h I d x y i n ep ok ov/\((x=.none/\y=.bool false) \/ ∃(a:Addr) (f:Bool) (o:Obj),x=rawInt a/\y=.bool f/\h.get? a=some o/\a≠I/\a≠S)
def Fw(U:A.handled=none)(K:S<I)(L:d≠S)(M:d≠I)(z:od.data=.dict es ep)(hn:es.size<=1000)(B){h₁:Heap}
  (V:∀ h' as,(∀ b o,b≠S->b≠I->h₁.get? b=some o->h'.get? b=some o)->(∃ c,h'.get? S=some {cls:=.type "list",data:=.seq (as.map Value.ref).toArray c})->as.length=es.size->d3 I es h' as->R (.ok<|.ret B) {s with heap:=h'}):
  ∀ k i h as,es.size-i=k->i<=es.size->Fv h I d S i es.size ep->h.get? d=some od->(∀ b o,b≠S->b≠I->h₁.get? b=some o->h.get? b=some o) ->
   (∃ c,h.get? S=some {cls:=.type "list",data:=.seq (as.map Value.ref).toArray c})->as.length=i->d3 I es h as->codeAny (model prog w) A (.builtin "list.extend.loop" #v[[.ref S,.ref I,B],[]]) R {s with heap:=h}:=by
 have q:=N7 K;intro k
 induction k with
 | zero=>
  intro i h as W hi ⟨x,y,ok,X,hit,_⟩ hd r ⟨c,G⟩ t l;refine codeAny_builtin PySem.F.entry_extend_loop ?_;refine(L3<|y1 U hit hd z (by simp;lia) λh' H=>M8<|V h' as (λb o p n e=>H b o n<|r b o p n e) #v[c,H S _ q G] ∅ #v[l.up,λa g=>?_,λj a m=>?_])
  ·let[j,m]:=List.mem_iff_getElem?.mp g;let[en,J,e2]:=l.at_ j a m;exact#v[(l.ab a g).1,N2<|H a _ (Nat.ne_of_gt (l.ab a g).1) e2]
  ·let[en,J,e2]:=l.at_ j a m;exact#v[en,J,H a _ (Nat.ne_of_gt (l.ab a<|List.mem_of_getElem? m).1) e2]
 | succ k Y=>
  intro i h as W hi ⟨x,y,ok,X,hit,P⟩ hd r ⟨c,G⟩ t l;have u:i<es.size:=by lia
  refine codeAny_builtin PySem.F.entry_extend_loop<|L3<|y0 hit (P.imp id λ⟨a,f,o,p,n,Z,h4,_⟩=>#v[a,f,o,p,n,Z,h4]) hd z (Array.getElem?_eq_getElem u) λh' x' y' ok' ov' C _ ho Q hz kp=>?_;have D:=kp S _ q G;have v:=N2 G;have up:∀ b o,b≠S->h'.get? b=some o->(h'.update S (Obj.mapSeq (·.push (Value.ref h.objs.size)))).get? b=some o:=λb o E e=>(Heap.get?_update_other _ _<|Ne.symm E).trans e;have zu:(h'.update S (Obj.mapSeq (·.push (Value.ref h.objs.size)))).objs.size=h.objs.size+1:=(Heap.size_update ..).trans hz;refine(L3<|wpAny_updateSeq D rfl (M8 #v[plainId_quiet PySem.F.plain_extend_loop _,Y (i+1) _ (as++[h.objs.size]) ∅ u ?_ (up d od L<|kp d od M hd) (λb o p n e=>up b o p<|kp b o n<|r b o p n e) ?_ (by simp[t]) ?_]) (by rw[sizeLine_eq];simp;lia)<|by rw[sizeLine_eq];simp;lia)
  ·let[a,f,rfl,rfl,N,hx]:=ho;refine#v[_,_,_,_,up _ _ q.symm C,.inr ?_];rcases hx with rfl | rfl
   ·rcases P with⟨e,_⟩ | ⟨T,f',o,e,_,g,p,n⟩
    ·cases e
    ·have:(a:Int)=T:=by injection e
     obtain rfl:a=T:=by lia
     exact#v[a,f,o,rfl,rfl,up _ _ n<|kp _ _ p g,p,n]
   ·exact#v[_,f,_,rfl,rfl,up _ _ (Nat.ne_of_gt v) Q,N,Nat.ne_of_gt v]
  ·have e:=Heap.get?_update_self (Obj.mapSeq (·.push (Value.ref h.objs.size))) D rfl;simp only[Obj.mapSeq,List.push_toArray] at e;exact#v[_,by rw[N6];exact e]
  ·refine#v[List.pairwise_append.mpr #v[l.up,List.pairwise_singleton _ _,λa g b E=>by rw[M9.mp E];exact(l.ab a g).2],λa g=>?_,λj a m=>?_]
   ·rw[zu];rcases N3.mp g with g | g
    ·have:=l.ab a g;lia
    ·rw[M9.mp g];exact#v[N2 hit,by lia]
   ·rw[List.getElem?_append] at m;split at m
    ·let[en,J,e2]:=l.at_ j a m;exact#v[en,J,up a _ ∅ (kp a _ ∅ e2)]
    ·have O:j=as.length:=by
      rcases Nat.lt_or_ge j (as.length+1) with h | h
      ·lia
      ·rw[List.getElem?_eq_none<|by simp;lia] at m;cases m
     subst O;have E:h.objs.size=a:=by simpa using m
     subst E;exact#v[_,by rw[t];exact Array.getElem?_eq_getElem u,up _ _ (Nat.ne_of_gt v) Q]
def Fx{Q:List Value->Shared->Prop}(K:A.handled=none)(y:s.heap.IsItemsView r d)(f:s.heap.get? d=some od)(l:od.data=.dict es ep)(L:es.size<=1000)
  (q:∀ h' as,(∀ b o,s.heap.get? b=some o->h'.get? b=some o)->↥s<=h'.objs.size->as.length=es.size->d3 ↥s es h' as->Q (as.map Value.ref) {s with heap:=h'}):wpAny (model prog w) A (collect<|.ref r) Q E s:=by
 have M:=let ⟨_,ho,_⟩:=y;N2 ho
 have hd:=N2 f;refine L3<|wpAny_runValue<|codeAny_builtin entry_proto_collect'<|L3<|wpAny_newObj_type<|M8 #v[plainId_quiet F.plain_list_iadd _,codeAny_builtin entry_list_iadd' ?_];have I:(s.heap.push {cls:=.type "list",data:=.seq ([]:List Value).toArray}).get? ↥s=some {cls:=.type "list",data:=.seq #[]}:=E3 _ rfl;have u:∀ b o,s.heap.get? b=some o->(s.heap.push {cls:=.type "list",data:=.seq ([]:List Value).toArray}).get? b=some o:=λb o e=>L8 _ e;have N:(s.heap.push {cls:=.type "list",data:=.seq ([]:List Value).toArray}).objs.size=↥s+1:=Heap.size_push ..;have g:(s.heap.push {cls:=.type "list",data:=.seq ([]:List Value).toArray}).IsItemsView r d:=let ⟨o,ho,x⟩:=y;#v[o,u r o ho,x]
 generalize s.heap.push {cls:=.type "list",data:=.seq ([]:List Value).toArray}=h0 at I u N g;refine(show wpAny _ A.in1 (Builtin.List.listExtendWith (.ref ↥s) (.ref r)<|.ref ↥s) _ _ _ from L3 (wpAny_typeOf g.typeIs ?_));have O:Builtin.List.listSameRef (.ref ↥s) (.ref r)=false:=by simp[Builtin.List.listSameRef,Nat.ne_of_gt M]
 have P:(Value.type "dict_items"==Value.type "list")=false:=by decide
 have S:(Value.type "dict_items"==Value.type "tuple")=false:=by decide
 simp only[O,P,S,Bool.or_false,Bool.false_eq_true,if_false];refine L3<|y3 g (u d od f) l ?_;have i:=L8 {cls:=.type "dict_itemiterator",data:=.fields #[.none,.bool false,.ref d,.int 0 0,.int es.size 0,.int ep 0,.none,.none]} I;have k:∀ b o,s.heap.get? b=some o->(h0.push {cls:=.type "dict_itemiterator",data:=.fields #[.none,.bool false,.ref d,.int 0 0,.int es.size 0,.int ep 0,.none,.none]}).get? b=some o:=λb o e=>L8 _<|u b o e;have z:=let ⟨o,ho,B,_⟩:=y;(#v[o,k r o ho,B]:Shared.TypeIs { s with heap:=h0.push {cls:=.type "dict_itemiterator",data:=.fields #[.none,.bool false,.ref d,.int 0 0,.int es.size 0,.int ep 0,.none,.none]} } (.ref r) "dict_items")
 have key:∀{R:Result->Shared->Prop},(∀ h' c as,(∀ b o,s.heap.get? b=some o->h'.get? b=some o)->h'.get? ↥s=some {cls:=.type "list",data:=.seq (as.map Value.ref).toArray c}->as.length=es.size->d3 ↥s es h' as->R (.ok<|.ret<|.ref ↥s) {s with heap:=h'}) ->
   ∀ h c,(∀ b o,b≠↥s->(h0.push {cls:=.type "dict_itemiterator",data:=.fields #[.none,.bool false,.ref d,.int 0 0,.int es.size 0,.int ep 0,.none,.none]}).get? b=some o->h.get? b=some o)->h.get? ↥s=some {cls:=.type "list",data:=.seq #[] c} ->
   codeAny (model prog w) A (.builtin "list.extend.loop" #v[[.ref ↥s,.ref h0.objs.size,.ref ↥s],[]]) R {s with heap:=h}:=by
  intro R T h c C B;refine Fw K ∅ (N7 hd) ∅ l L _ (λh' as D ⟨c,v⟩ G m=>T h' c as (λb o e=>D b o (N7<|N2 e) (by have:=N2 e;lia) e) v G #v[m.up,λa H=>?_,m.at_]) es.size 0 h [] (Nat.sub_zero _) (U7 _) #v[_,_,_,_,C _ _ ∅ (E3 h0 (o:={cls:=.type "dict_itemiterator",data:=.fields #[.none,.bool false,.ref d,.int 0 0,.int es.size 0,.int ep 0,.none,.none]}) rfl),.inl #v[rfl,rfl]] (C d od (N7 hd)<|k d od f) (λb o n _ e=>C b o n<|k b o e) #v[c,B] rfl #v[.nil,λ_ H=>(nomatch H),λj a U=>by simp at U];have:=m.ab a H
  lia
 have p:∀ h' c as,(∀ b o,s.heap.get? b=some o->h'.get? b=some o)->h'.get? ↥s=some {cls:=.type "list",data:=.seq (as.map Value.ref).toArray c}->as.length=es.size->d3 ↥s es h' as ->
   wpAny (model prog w) A (do match (<- load ↥s).data with | .seq V _=>pure V.toList | _=>unsupported "internal:collect") Q E {s with heap:=h'}:=λh' c as D v G m=>
  L3 (wpAny_load v<|M8 ⇑(q h' as D (Nat.le_of_lt<|N2 v) G m))
 refine L3<|wpAny_holding<|PySem.W.kdx_hint z<|wpAny_ite_split (λ_=>(L3<|wpAny_rule<|L3<|L3<|wpAny_updateSeq i rfl ?_))<|λ_=>M8 #v[plainId_quiet F.plain_extend_loop _,key p _ _ (λb o _ e=>e) i];have t:=Heap.get?_update_self (Obj.mapSeq (·.push Value.none)) i rfl;exact wpAny_updateSeq t rfl (M8 #v[plainId_quiet F.plain_extend_loop _,key p _ _ (λb o J e=>(Heap.get?_update_other _ _<|Ne.symm J).trans ((Heap.get?_update_other _ _<|Ne.symm J).trans e)) (Heap.get?_update_self (Obj.mapSeq (·.pop)) t rfl)])
end
section
variable {prog:Program}{w:World}{A:Around}{E:J0}{s:Shared}
noncomputable abbrev gO:=Int×Str×Int
def qq(x y:gO):Bool:=if x.1=y.1 then(if x.2.1=y.2.1 then decide (x.2.2<y.2.2) else decide (x.2.1.cps.toList<y.2.1.cps.toList)) else decide (x.1<y.1)
def dy(h:Heap)(b:Addr)(r:Int×Str):Prop:=∃ o n t1 t2,h.get? b=some o/\o.cls=.type "tuple"/\o.data=.seq #[.int r.1 t1,.str r.2 t2] n
def qz(h:Heap)(v:Value)(r:gO):Prop:=∃ a b t,v=.ref a/\h.get? a=some {cls:=.type "tuple",data:=.seq #[.ref b,.int r.2.2 t]}/\dy h b (r.1,r.2.1)
def dy.tk{b}{x}(h:dy s.heap b x):IsTupleKey (L2.bT prog w) s.heap [.inl x.1,.inr x.2] b:=let ⟨o,n,t1,t2,e1,e2,e3⟩:=h;#v[o,_,n,e1,e2,e3,.cons (L2.dk prog w _ _)<|.cons (L2.dl prog w _ _) .nil]
def Fy{a b}{x y}{Q}(l:A.units<cLine)(m:dy s.heap a x)(n:dy s.heap b y)(ne:x≠y)(h:Q (if x.1=y.1 then decide (x.2.cps.toList<y.2.cps.toList) else decide (x.1<y.1)) s):wpAny (model prog w) A (oneLt' false (.ref a)<|.ref b) Q E s:=by
 let[p,q,r,t,f,e2,e3]:=m;let[ob,u,B,C,g,j,o]:=n;refine kat_one _ _<|wpAny_richCompare_same_room (op:=.Lt) #v[_,f,e2] #v[_,g,j] F.slot_tuple_lt (wpAny_call_entry F.slot_tuple_lt #v[_,f,e2] F.entry_tuple_lt (show wpAny _ _ (isInstance (.ref b) (.type "tuple") >>= _) _ _ s from(L3<|wpAny_isInstance #v[_,g,j] isSubtype_tuple_tuple<|L3<|wpAny_tupleItemsOf f e3<|L3<|wpAny_tupleItemsOf g o<|L3 ?_))<|F.args_tuple_lt_2 _ _) l;have k:∀{v i},W.BoolBack Q v i->v≠.notImplemented:=λ{v _} h e=>by rw[e] at h;exact h
 refine L3<|L3<|wpAny_eqBool_int ?_;by_cases c:x.1=y.1
 ·rw[if_pos c] at h;simp only[c,beq_self_eq_true,Bool.not_true,Bool.false_eq_true,if_false];refine M8<|L3<|L3<|wpAny_eqBool_str ?_;simp only[X6<|λz=>ne<|Prod.ext c z,Bool.not_false,if_true];exact L3<|wpAny_rule<|L3<|wpAny_mono (lt_str h) (λv i d=>L3 (M8<|M8<|M8<|M8 #v[_,rfl,k d,d]) ) λ_ _ z=>z
 ·rw[if_neg c] at h;simp only[show(x.1==y.1)=false by simp[c],Bool.not_false,if_true];exact L3<|wpAny_rule<|L3<|wpAny_mono (wpAny_lt_int h) (λv i d=>L3 (M8<|M8<|M8<|M8 #v[_,rfl,k d,d]) ) λ_ _ z=>z
def Fz{v u}{x y}{Q}(d:A.units<cLine)(i:qz s.heap v x)(j:qz s.heap u y)(h:Q (qq x y) s):wpAny (model prog w) A (keyLt' (tuples' false) v u) Q E s:=by
 let[a,b,t,rfl,k,e]:=i;let[l,b',m,rfl,e2,f]:=j;refine kat_lt k rfl e2 rfl<|kat_cons<|wpAny_eqBool_tuple d e.tk f.tk ?_;unfold qq at h;by_cases ne:(x.1,x.2.1)=(y.1,y.2.1)
 ·let[c,g]:=Prod.mk.inj ne;rw[if_pos c,if_pos g] at h;simp only[c,g,decide_true];refine kat_yes<|kat_cons<|wpAny_eqBool_int ?_;by_cases e3:x.2.2=y.2.2
  ·rw[show(x.2.2==y.2.2)=true by simp[e3]];refine kat_yes<|kat_nil ?_;rw[show decide (x.2.2<y.2.2)=decide (2<2) by rw[e3];simp] at h;exact h
  ·rw[show(x.2.2==y.2.2)=false by simp[e3]];exact kat_no<|kat_one _ _<|wpAny_lt_int h
 ·rw[show decide (([.inl x.1,.inr x.2.1]:List L2.cW)=[.inl y.1,.inr y.2.1])=false by simpa using ne];refine kat_no<|Fy d e f ne ?_;by_cases c:x.1=y.1
  ·rw[if_pos c,if_neg λz=>ne<|Prod.ext c z] at h;rw[if_pos c];exact h
  ·rw[if_neg c] at h ⊢;exact h
end
end PySem
namespace PySem
open PySem.W PyProof.Rows PySem.Calls
section
variable {prog:Program}{w:World}{A:Around}{E:J0}{s:Shared}{r d:Addr}{es:Array DictEntry}{ep:Nat}{od:Obj}{rs:List gO}{Q:J0}
abbrev VM(rs:List gO)(i j:Nat):Bool:=qq (rs.getD i (0,"",0))<|rs.getD j (0,"",0)
def wa(R:A.handled=none)(hu:A.units+2<cLine)(p:s.heap.IsItemsView r d)(G:s.heap.get? d=some od)(H:od.data=.dict es ep)(S:es.size<64)
  (U:∀(j:Nat) en,es[j]?=some en->∃ r b t,rs[j]?=some r/\en.key=.ref b/\en.val=.int r.2.2 t/\dy s.heap b (r.1,r.2.1))
  (q:∀(k h':Heap) as c,(∀ b o,s.heap.get? b=some o->h'.get? b=some o)->as.length=es.size->d3 ↥s es h' as->↥s<=k.objs.size->(∀ a∈as,a<k.objs.size)->h'.get? k.objs.size=some (seqObj "list" (J6 (VM rs) (as.map Value.ref) Value.none).toArray c)->Q (.ref k.objs.size) {s with heap:=h'}):
  wpAny (model prog w) A (call (.builtin "sorted") [.ref r]) Q E s:=by
 have at_:∀{k}{as}{h'},(∀ b o,s.heap.get? b=some o->h'.get? b=some o)->(∀ b o,k.get? b=some o->h'.get? b=some o)->d3 ↥s es k as->∀(i:Nat) v,(as.map Value.ref)[i]?=some v->∃ r,rs[i]?=some r/\qz h' v r:=by
  intro k as h' m V g i v hi;rw[List.getElem?_map] at hi;let[a,x,rfl]:=Option.map_eq_some_iff.mp hi;let[en,l,e2]:=g.at_ i a x;let[r,b,t,W,I,X,o,n,M,N,Y,Z,h6]:=U i en l;rw[I,X] at e2;exact#v[r,W,a,b,t,rfl,V _ _ e2,o,n,M,N,m _ _ Y,Z,h6]
 refine Jw (κ:=tuples' false) (lt:=VM rs) (C:=λk vs=>∃ as,vs=as.map Value.ref/\(∀ b o,s.heap.get? b=some o->k.get? b=some o)/\as.length=es.size/\d3 ↥s es k as)
  (λgo=>Fx R p G H ∅ λh' as y J F z=>go h' _ y J #v[as,rfl,y,F,z]) (λk vs ⟨as,e,_,B,_⟩=>by rw[e,L1,B];exact S) (λk vs ⟨as,e,m,B,g⟩ I A' K u Q hq=>?_) (λk vs ⟨as,e,m,B,g⟩ A' hA K u i j hi O C D=>?_) λk vs h' c ⟨as,e,m,B,g⟩ _ J L D=>?_
 ·subst e;have kt:∀ f:List Addr,(∀ a∈f,a∈as)->∃ fs:List Value,KatTups K.heap (f.map Value.ref) fs/\fs.length=f.length/\∀ v∈fs,∃ b o,v=.ref b/\K.heap.get? b=some o/\o.cls=.type "tuple":=by
   intro f
   induction f with
   | nil=>intro _;exact#v[[],KatTups.nil,rfl,λv p=>(nomatch p)]
   | cons a f ih=>
    intro P;let[fs,y,F,z]:=ih λb hb=>P b<|L6 _ hb;let[i,hi]:=List.mem_iff_getElem?.mp<|P a L7;let[r,_,a',b,t,l,e2,o,n,M,N,e3,e4,e5]:=at_ (λb o e=>u b o<|m b o e) u g i (.ref a) (by rw[List.getElem?_map,hi];rfl);cases l;exact#v[.ref b::fs,KatTups.cons e2 rfl rfl rfl y,by simp[F],λv p=>(M5.mp p).elim (λe=>#v[b,o,e,e3,e4]) (z v)]
  let[fs,y,F,z]:=kt as λ_ h=>h;refine kat_kind (T:=.type "tuple") y (by simp at I;lia) (λv p=>?_) (by rfl) hq;let[b,o,rfl,l,e2]:=z v p;rw[<- e2];exact(Looks.ld l).andThen .now
 ·subst e;let[r1,l,a1]:=at_ (λb o e=>u b o<|m b o e) u g i _<|E1 hi;let[r2,e2,a2]:=at_ (λb o e=>u b o<|m b o e) u g j _<|E1 O;rw[List.getD_eq_getElem?_getD,E1 hi,List.getD_eq_getElem?_getD,E1 O];refine Fz ∅ a1 a2 ?_;unfold VM at D;rw[List.getD_eq_getElem?_getD,l,List.getD_eq_getElem?_getD,e2] at D;exact D
 ·subst e;exact q k h' as c (λb o e=>L b o<|m b o e) B #v[g.up,λa x=>#v[(g.ab a x).1,by
   let[i,hi]:=List.mem_iff_getElem?.mp x;let[en,l,e2]:=g.at_ i a hi;exact N2<|L a _ e2],λi a hi=>let ⟨en,l,e2⟩:=g.at_ i a hi;#v[en,l,L a _ e2]] J (λa x=>(g.ab a x).2) D
end
end PySem
namespace QD
open PySem L2
inductive KA where
 | int (i:Int) | str (s:List Nat)
 deriving DecidableEq
inductive D where
 | non | bl (b:Bool) | int (i:Int) | str (s:List Nat)
 | tup (l:List D) | lst (o:Bool) (l:List D)
 | dK (o:Bool) (ks:List KA) (l:List D)
 | dT (o:Bool) (ks:List (List KA)) (l:List D)
 | ins (o:Bool) (c:Nat) (ns:List Str) (l:List D)
 | dead
  | tok (a:Addr)
 | kt (k:List KA)
  | exc (c:Nat) (p:Int)
def xo(C a dx:Addr):Heap->Prop:=λh=>∃ o vs,h.get? a=some o/\o.cls=.ref C/\o.dict=some dx/\o.data=.fields vs
mutual
def fz:D->D
 | .tup l=>.tup<|bV l
 | .lst _ l=>.lst false<|bV l
 | .dK _ ks l=>.dK false ks<|bV l
 | .dT _ ks l=>.dT false ks<|bV l
 | .ins _ c ns l=>.ins false c ns<|bV l
 | .non=>.non | .bl b=>.bl b | .int i=>.int i | .str s=>.str s | .dead=>.dead | .tok a=>.tok a | .kt k=>.kt k | .exc c p=>.exc c p
def bV:List D->List D
 | []=>[]
 | d::l=>fz d::bV l
end
mutual
def frz:D->Bool
 | .tup l=>frzs l
 | .lst o l=>!o&&frzs l
 | .dK o _ l=>!o&&frzs l
 | .dT o _ l=>!o&&frzs l
 | .ins o _ _ l=>!o&&frzs l
 | .non=>true | .bl _=>true | .int _=>true | .str _=>true | .dead=>true | .tok _=>true | .kt _=>true | .exc _ _=>true
def frzs:List D->Bool
 | []=>true
 | d::l=>frz d&&frzs l
end
mutual
theorem uc:∀ d:D,frz d=true->fz d=d
 | .tup l,h=>by rw[frz] at h;rw[fz,jk l h]
 | .lst o l,h=>by rw[frz,M0] at h;rw[fz,jk l h.2];cases o<;>simp_all
 | .dK o ks l,h=>by rw[frz,M0] at h;rw[fz,jk l h.2];cases o<;>simp_all
 | .dT o ks l,h=>by rw[frz,M0] at h;rw[fz,jk l h.2];cases o<;>simp_all
 | .ins o c ns l,h=>by rw[frz,M0] at h;rw[fz,jk l h.2];cases o<;>simp_all
 | .non,_=>rfl | .bl _,_=>rfl | .int _,_=>rfl | .str _,_=>rfl | .dead,_=>rfl | .tok _,_=>rfl | .kt _,_=>rfl | .exc _ _,_=>rfl
theorem jk:∀ l:List D,frzs l=true->bV l=l
 | [],_=>rfl
 | d::l,h=>by rw[frzs,M0] at h;rw[bV,uc d h.1,jk l h.2]
end
mutual
theorem FC:∀ d:D,frz (fz d)=true
 | .tup l=>by rw[fz,frz];exact Jf l
 | .lst o l=>by rw[fz,frz,Jf l];rfl
 | .dK o ks l=>by rw[fz,frz,Jf l];rfl
 | .dT o ks l=>by rw[fz,frz,Jf l];rfl
 | .ins o c ns l=>by rw[fz,frz,Jf l];rfl
 | .non=>rfl | .bl _=>rfl | .int _=>rfl | .str _=>rfl | .dead=>rfl | .tok _=>rfl | .kt _=>rfl | .exc _ _=>rfl
theorem Jf:∀ l:List D,frzs (bV l)=true
 | []=>rfl
 | d::l=>by rw[bV,frzs,FC d,Jf l];rfl
end
theorem kQ:∀ l:List D,bV l=l.map fz
 | []=>rfl
 | d::l=>by rw[bV,kQ l];rfl
theorem JP:∀ l:List D,frzs l=l.all frz
 | []=>rfl
 | d::l=>by rw[frzs,JP l];rfl
structure RC where
 K:PySem.W.Frag
 cls:Nat->Addr
def bR:KA->cW
 | .int i=>.inl i
 | .str s=>.inr<|S s
noncomputable abbrev Zn:=Addr->Prop
def FT(R:RC)(Z:Zn)(H:Hp)(a:Addr)(vs:List V):Prop:=
 (Z a/\Rd H a (.tup vs)) \/ ∃ o its n,R.K.lookup a=some o/\o.cls=.type "tuple"/\o.data=.seq its n/\its.size<=sizeLine/\bM vs its.toList/\o.dict=none
def FL(R:RC)(Z:Zn)(H:Hp)(a:Addr)(vs:List V):Prop:=
 (Z a/\Rd H a (.lst vs)) \/ ∃ its n,R.K.lookup a=some {cls:=.type "list",data:=.seq its n}/\its.size<=sizeLine/\bM vs its.toList
def qO(o:Bool)(H:Hp)(a:Addr)(kvs:List<|cW×V):Prop:=bif o then H a=some (.dK kvs) else Rd H a (.dK kvs)
inductive nq (rs:List V->List Addr->Prop) (C:Addr->List V->List Addr->Prop) (v:V):Prop
 | mk:∀(a:Addr) (vs:List V) (O':W5),v=.ref a->rs vs O'->C a vs O'->nq rs C v
inductive zA (rd:V->List Addr->Prop) (rs:List V->List Addr->Prop) (vs:List V) (O:W5):Prop
 | mk:∀(v:V) (vs':List V) (O1 O2:W5),vs=v::vs'->O=O1++O2->rd v O1->rs vs' O2->zA rd rs vs O
mutual
def bK(R:RC)(Z:Zn)(H:Hp):D->V->List Addr->Prop
 | .non,v,O=>v=.non/\O=[]
 | .bl b,v,O=>v=.bl b/\O=[]
 | .int i,v,O=>v=.int i/\O=[]
 | .str s,v,O=>v=.str (S s)/\O=[]
 | .dead,_,O=>O=[]
 | .tok a,v,O=>v=.ref a/\O=[]
 | .kt k,v,O=>∃ a,v=.ref a/\Z a/\H a=some (.tup<|(k.map bR).map kV)/\O=[]
 | .exc c p,v,O=>∃ a dx,v=.ref a/\Z a/\Z dx/\H a=some (.ext<|xo (R.cls c) a dx)/\H dx=some (.xd [("place",.int p)])/\O=[]
 | .tup l,v,O=>∃ a vs,v=.ref a/\FT R Z H a vs/\a_ R Z H l vs O
 | .lst o l,v,O=>nq (λvs O'=>a_ R Z H l vs O') (λa vs O'=>bif o then H a=some (.lst vs)/\O=a::O' else FL R Z H a vs/\O'=[]/\O=[]) v
 | .dK o ks l,v,O=>nq (λvs O'=>a_ R Z H l vs O') (λa vs O'=>ks.length=l.length/\qO o H a ((ks.map bR).zip vs)/\bif o then O=a::O' else Z a/\O'=[]/\O=[]) v
 | .dT o ks l,v,O=>nq (λvs O'=>a_ R Z H l vs O') (λa vs O'=>ks.length=l.length/\H a=some (.dT<|(ks.map<|List.map bR).zip vs)/\bif o then O=a::O' else Z a/\O'=[]/\O=[]) v
 | .ins o c ns l,v,O=>∃ a dx vs O',v=.ref a/\a_ R Z H l vs O'/\ns.length=l.length/\H a=some (.ins (R.cls c) dx<|ns.zip vs)/\bif o then O=a::O' else Z a/\O'=[]/\O=[]
def a_(R:RC)(Z:Zn)(H:Hp):List D->List V->List Addr->Prop
 | [],vs,O=>vs=[]/\O=[]
 | d::ds,vs,O=>zA (λv O1=>bK R Z H d v O1) (λvs' O2=>a_ R Z H ds vs' O2) vs O
end
def FT.sq(h:FT R Z H a vs):cJ R.K H a vs:=by
 rcases h with⟨_,h⟩ | ⟨o,b,n,c,d,e,f,g,_⟩
 ·exact .inl h
 ·exact .inr #v[o,b,n,c,d,e,f,g]
def FL.sqx(h:FL R Z H a vs):fk R.K H a vs:=by
 rcases h with⟨_,h⟩ | h
 ·exact .inl h
 ·exact .inr h
def FL.sq(h:FL R Z H a vs):ck R.K H a vs:=h.sqx.sq
def Rd.agree(e:H' a=H a)(h:Rd H a u):Rd H' a u:=by
 unfold Rd at h ⊢;rw[e];exact h
def FT.frame(b:∀ a,Z a->Z' a)(c:∀ a,Z a->H' a=H a)(h:FT R Z H a vs):FT R Z' H' a vs:=by
 rcases h with⟨z,h⟩ | h
 ·exact .inl #v[b a z,Rd.agree (c a z) h]
 ·exact .inr h
def FL.frame(b:∀ a,Z a->Z' a)(c:∀ a,Z a->H' a=H a)(h:FL R Z H a vs):FL R Z' H' a vs:=by
 rcases h with⟨z,h⟩ | h
 ·exact .inl #v[b a z,Rd.agree (c a z) h]
 ·exact .inr h
mutual
theorem bK.frame(hz:∀ a,Z a->Z' a)(hH:∀ a,Z a->H' a=H a):∀{d:D}{v:V}{O:W5},bK R Z H d v O->(∀ a∈O,H' a=H a)->bK R Z' H' d v O
 | .non,_,_,h,_=>by rw[bK] at h ⊢;exact h
 | .bl _,_,_,h,_=>by rw[bK] at h ⊢;exact h
 | .int _,_,_,h,_=>by rw[bK] at h ⊢;exact h
 | .str _,_,_,h,_=>by rw[bK] at h ⊢;exact h
 | .dead,_,_,h,_=>by rw[bK] at h ⊢;exact h
 | .tok _,_,_,h,_=>by rw[bK] at h ⊢;exact h
 | .kt _,_,_,h,_=>by
  rw[bK] at h ⊢;let[a,e,z,x,o]:=h;exact#v[a,e,hz a z,(hH a z).trans x,o]
 | .exc _ _,_,_,h,_=>by
  rw[bK] at h ⊢;let[a,dx,e,z1,z2,h1,h2,h3]:=h;exact#v[a,dx,e,hz a z1,hz dx z2,(hH a z1).trans h1,(hH dx z2).trans h2,h3]
 | .tup l,_,_,h,hO=>by
  rw[bK] at h ⊢;let[a,vs,e,t,r]:=h;exact#v[a,vs,e,t.frame hz hH,a_.frame hz hH r hO]
 | .lst o l,_,_,h,hO=>by
  rw[bK] at h ⊢;let[a,vs,O',e,r,h]:=h;cases o with
  | true=>
   let[h1,rfl]:=h;exact#v[a,vs,O',e,a_.frame hz hH r λb hb=>hO b<|L6 _ hb,by rw[cond_true,hO a L7];exact#v[h1,rfl]]
  | false=>
   let[h1,rfl,rfl]:=h;exact#v[a,vs,[],e,a_.frame hz hH r (λb hb=>nomatch hb),h1.frame hz hH,rfl,rfl]
 | .dK o ks l,_,_,h,hO=>by
  rw[bK] at h ⊢;let[a,vs,O',e,r,hl,hd,h]:=h;cases o with
  | true=>
   have h:=(show _=_ from h);subst h;exact#v[a,vs,O',e,a_.frame hz hH r λb hb=>hO b<|L6 _ hb,hl,by show H' a=some _;rw[hO a L7];exact hd,rfl]
  | false=>
   let[h1,rfl,rfl]:=h;exact#v[a,vs,[],e,a_.frame hz hH r (λb hb=>nomatch hb),hl,Rd.agree (hH a h1) hd,hz a h1,rfl,rfl]
 | .dT o ks l,_,_,h,hO=>by
  rw[bK] at h ⊢;let[a,vs,O',e,r,hl,hd,h]:=h;cases o with
  | true=>
   have h:=(show _=_ from h);subst h;exact#v[a,vs,O',e,a_.frame hz hH r λb hb=>hO b<|L6 _ hb,hl,by rw[hO a L7];exact hd,rfl]
  | false=>
   let[h1,rfl,rfl]:=h;exact#v[a,vs,[],e,a_.frame hz hH r (λb hb=>nomatch hb),hl,by rw[hH a h1];exact hd,hz a h1,rfl,rfl]
 | .ins o c ns l,_,_,h,hO=>by
  rw[bK] at h ⊢;let[a,dx,vs,O',e,r,hl,hd,h]:=h;cases o with
  | true=>
   have h:=(show _=_ from h);subst h;exact#v[a,dx,vs,O',e,a_.frame hz hH r λb hb=>hO b<|L6 _ hb,hl,by rw[hO a L7];exact hd,rfl]
  | false=>
   let[h1,rfl,rfl]:=h;exact#v[a,dx,vs,[],e,a_.frame hz hH r (λb hb=>nomatch hb),hl,by rw[hH a h1];exact hd,hz a h1,rfl,rfl]
theorem a_.frame(hz:∀ a,Z a->Z' a)(hH:∀ a,Z a->H' a=H a):∀{l:List D}{vs:List V}{O:W5},a_ R Z H l vs O->(∀ a∈O,H' a=H a)->a_ R Z' H' l vs O
 | [],_,_,h,_=>by rw[a_] at h ⊢;exact h
 | d::l,_,_,h,hO=>by
  rw[a_] at h ⊢;let[v,vs,O1,O2,e,rfl,r1,r2]:=h;exact#v[v,vs,O1,O2,e,rfl,bK.frame hz hH r1 λa ha=>hO a<|List.mem_append_left _ ha,a_.frame hz hH r2 λa ha=>hO a<|U5 _ ha]
end
mutual
theorem bK.nil:∀{d:D}{v:V}{O:W5},bK R Z H d v O->frz d=true->O=[]
 | .non,_,_,h,_=>by rw[bK] at h;exact h.2
 | .bl _,_,_,h,_=>by rw[bK] at h;exact h.2
 | .int _,_,_,h,_=>by rw[bK] at h;exact h.2
 | .str _,_,_,h,_=>by rw[bK] at h;exact h.2
 | .dead,_,_,h,_=>by rw[bK] at h;exact h
 | .tok _,_,_,h,_=>by rw[bK] at h;exact h.2
 | .kt _,_,_,h,_=>by rw[bK] at h;let[_,_,_,_,h]:=h;exact h
 | .exc _ _,_,_,h,_=>by rw[bK] at h;let[_,_,_,_,_,_,_,h]:=h;exact h
 | .tup l,_,_,h,f=>by
  rw[bK] at h;rw[frz] at f;let[a,vs,e,t,r]:=h;exact a_.nil r f
 | .lst o l,_,_,h,f=>by
  rw[bK] at h;rw[frz] at f;let[a,vs,O',e,r,h]:=h;cases o with
  | true=>exact absurd f (by simp)
  | false=>exact h.2.2
 | .dK o ks l,_,_,h,f=>by
  rw[bK] at h;rw[frz] at f;let[a,vs,O',e,r,hl,hd,h]:=h;cases o with
  | true=>exact absurd f (by simp)
  | false=>exact h.2.2
 | .dT o ks l,_,_,h,f=>by
  rw[bK] at h;rw[frz] at f;let[a,vs,O',e,r,hl,hd,h]:=h;cases o with
  | true=>exact absurd f (by simp)
  | false=>exact h.2.2
 | .ins o c ns l,_,_,h,f=>by
  rw[bK] at h;rw[frz] at f;let[a,dx,vs,O',e,r,hl,hd,h]:=h;cases o with
  | true=>exact absurd f (by simp)
  | false=>exact h.2.2
theorem a_.nil:∀{l:List D}{vs:List V}{O:W5},a_ R Z H l vs O->frzs l=true->O=[]
 | [],_,_,h,_=>by rw[a_] at h;exact h.2
 | d::l,_,_,h,f=>by
  rw[a_] at h;rw[frzs,M0] at f;let[v,vs,O1,O2,e,rfl,r1,r2]:=h;rw[bK.nil r1 f.1,a_.nil r2 f.2];rfl
end
mutual
theorem bK.freeze:∀{d:D}{v:V}{O:W5},bK R Z H d v O->(∀ a,Z a->Z' a)->(∀ a∈O,Z' a)->bK R Z' H (fz d) v []
 | .non,_,_,h,_,_=>by rw[bK] at h;rw[fz,bK];exact#v[h.1,rfl]
 | .bl _,_,_,h,_,_=>by rw[bK] at h;rw[fz,bK];exact#v[h.1,rfl]
 | .int _,_,_,h,_,_=>by rw[bK] at h;rw[fz,bK];exact#v[h.1,rfl]
 | .str _,_,_,h,_,_=>by rw[bK] at h;rw[fz,bK];exact#v[h.1,rfl]
 | .dead,_,_,h,_,_=>by rw[fz,bK]
 | .tok _,_,_,h,_,_=>by rw[bK] at h;rw[fz,bK];exact#v[h.1,rfl]
 | .kt _,_,_,h,hz,_=>by
  rw[bK] at h;rw[fz,bK];let[a,e,z,x,o]:=h;exact#v[a,e,hz a z,x,rfl]
 | .exc _ _,_,_,h,hz,_=>by
  rw[bK] at h;rw[fz,bK];let[a,dx,e,z1,z2,h1,h2,_]:=h;exact#v[a,dx,e,hz a z1,hz dx z2,h1,h2,rfl]
 | .tup l,_,_,h,hz,hO=>by
  rw[bK] at h;rw[fz,bK];let[a,vs,e,t,r]:=h;exact#v[a,vs,e,t.frame hz λ_ _=>rfl,a_.freeze r hz hO]
 | .lst o l,_,_,h,hz,hO=>by
  rw[bK] at h;rw[fz,bK];let[a,vs,O',e,r,h]:=h;cases o with
  | true=>
   let[h1,rfl]:=h;exact#v[a,vs,[],e,a_.freeze r hz λb hb=>hO b<|L6 _ hb,.inl #v[hO a L7,.inl h1],rfl,rfl]
  | false=>
   let[h1,rfl,rfl]:=h;exact#v[a,vs,[],e,a_.freeze r hz (λb hb=>nomatch hb),h1.frame hz<|λ_ _=>rfl,rfl,rfl]
 | .dK o ks l,_,_,h,hz,hO=>by
  rw[bK] at h;rw[fz,bK];let[a,vs,O',e,r,hl,hd,h]:=h;have hl':ks.length=(bV l).length:=by rw[kQ,L1];exact hl
  cases o with
  | true=>
   have h:=(show _=_ from h);subst h;exact#v[a,vs,[],e,a_.freeze r hz λb hb=>hO b<|L6 _ hb,hl',.inl hd,hO a L7,rfl,rfl]
  | false=>
   let[h1,rfl,rfl]:=h;exact#v[a,vs,[],e,a_.freeze r hz (λb hb=>nomatch hb),hl',hd,hz a h1,rfl,rfl]
 | .dT o ks l,_,_,h,hz,hO=>by
  rw[bK] at h;rw[fz,bK];let[a,vs,O',e,r,hl,hd,h]:=h;have hl':ks.length=(bV l).length:=by rw[kQ,L1];exact hl
  cases o with
  | true=>
   have h:=(show _=_ from h);subst h;exact#v[a,vs,[],e,a_.freeze r hz λb hb=>hO b<|L6 _ hb,hl',hd,hO a L7,rfl,rfl]
  | false=>
   let[h1,rfl,rfl]:=h;exact#v[a,vs,[],e,a_.freeze r hz (λb hb=>nomatch hb),hl',hd,hz a h1,rfl,rfl]
 | .ins o c ns l,_,_,h,hz,hO=>by
  rw[bK] at h;rw[fz,bK];let[a,dx,vs,O',e,r,hl,hd,h]:=h;have hl':ns.length=(bV l).length:=by rw[kQ,L1];exact hl
  cases o with
  | true=>
   have h:=(show _=_ from h);subst h;exact#v[a,dx,vs,[],e,a_.freeze r hz λb hb=>hO b<|L6 _ hb,hl',hd,hO a L7,rfl,rfl]
  | false=>
   let[h1,rfl,rfl]:=h;exact#v[a,dx,vs,[],e,a_.freeze r hz (λb hb=>nomatch hb),hl',hd,hz a h1,rfl,rfl]
theorem a_.freeze:∀{l:List D}{vs:List V}{O:W5},a_ R Z H l vs O->(∀ a,Z a->Z' a)->(∀ a∈O,Z' a)->a_ R Z' H (bV l) vs []
 | [],_,_,h,_,_=>by rw[a_] at h;rw[bV,a_];exact#v[h.1,rfl]
 | d::l,_,_,h,hz,hO=>by
  rw[a_] at h;rw[bV,a_];let[v,vs,O1,O2,e,rfl,r1,r2]:=h;exact#v[v,vs,[],[],e,rfl,bK.freeze r1 hz λa ha=>hO a<|List.mem_append_left _ ha,a_.freeze r2 hz λa ha=>hO a<|U5 _ ha]
end
theorem a_.length:∀{l}{vs}{O},a_ R Z H l vs O->vs.length=l.length
 | [],_,_,h=>by rw[a_] at h;rw[h.1];rfl
 | d::l,_,_,h=>by
  let[v,vs,b,c,rfl,rfl,r1,a]:=h;rw[M3,M3,a_.length a]
theorem a_.append:∀{l m}{vs ws}{O P},a_ R Z H l vs O->a_ R Z H m ws P->a_ R Z H (l++m) (vs++ws) (O++P)
 | [],m,_,_,_,_,h,k=>by rw[a_] at h;let[rfl,rfl]:=h;exact k
 | d::l,m,_,_,_,_,h,k=>by
  let[v,vs,a,c,rfl,rfl,r1,b]:=h;exact#v[v,_,a,_,rfl,List.append_assoc ..,r1,a_.append b k]
def a_.one(h:bK R Z H d v O):a_ R Z H [d] [v] O:=by
 exact#v[v,[],O,[],rfl,(N1 O).symm,h,by rw[a_];exact#v[rfl,rfl]]
def a_.cons(h:bK R Z H d v O)(k:a_ R Z H l vs P):a_ R Z H (d::l) (v::vs) (O++P):=by
 exact#v[v,vs,O,P,rfl,rfl,h,k]
def a_.empty:a_ R Z H [] [] []:=by rw[a_];exact#v[rfl,rfl]
theorem a_.at:∀{l}{vs}{O}{i}{d},a_ R Z H l vs O->l[i]?=some d ->
  fA λv A P B=>d8 (vs[i]?=some v) (O=A++P++B) (bK R Z H d v P)<|∀{Z'}{H'}{d'}{v'}{P'},bK R Z' H' d' v' P'->(∀ a,Z a->Z' a)->(∀ a,Z a->H' a=H a)->(∀ a∈A,H' a=H a)->(∀ a∈B,H' a=H a)->a_ R Z' H' (l.set i d') (vs.set i v') (A++P'++B)
 | [],_,_,_,_,_,e=>by simp at e
 | c::l,_,_,0,d,h,e=>by
  let[v,vs,b,j,rfl,rfl,r1,m]:=h;have e:c=d:=by simpa using e
  subst e;exact#v[v,[],b,j,rfl,rfl,r1,λr f g n o=>#v[_,vs,_,j,rfl,rfl,r,a_.frame f g m o]]
 | c::l,_,_,i+1,d,h,e=>by
  let[v,vs,b,j,rfl,rfl,r1,m]:=h;let[w,A,P,B,q,rfl,s,k]:=a_.at m ⇑e;exact#v[w,b++A,P,B,by simpa using q,by simp,s,λ{Z' H' d' v' P'} r f g n o=>#v[v,_,b,A++P'++B,rfl,by simp,bK.frame f g r1 λa p=>n a<|List.mem_append_left _ p,k r f g (λa p=>n a<|U5 _ p) o]]
def a_.item{l}{vs}{i:Nat}(h:a_ R Z H l vs [])(e:l[i]?=some d):∃ v,vs[i]?=some v/\bK R Z H d v []:=by
 let[v,A,P,B,a,e2,r,_]:=h.at e;have:P=[]:=by
  have:=congrArg List.length e2;simp at this;exact List.eq_nil_of_length_eq_zero ∅
 subst this;exact#v[v,a,r]
theorem a_.take:∀{l}{vs} n,a_ R Z H l vs []->a_ R Z H (l.take n) (vs.take n) []
 | _,_,0,_=>by simp;exact .empty
 | [],_,n+1,h=>by rw[a_] at h;rw[h.1];exact .empty
 | d::l,_,n+1,h=>by
  let[v,vs,b,c,rfl,e,r1,a]:=h;let[rfl,rfl]:=List.append_eq_nil_iff.mp e.symm;exact .cons r1<|a_.take n a
theorem a_.drop:∀{l}{vs} n,a_ R Z H l vs []->a_ R Z H (l.drop n) (vs.drop n) []
 | _,_,0,h=>h
 | [],_,n+1,h=>by rw[a_] at h;rw[h.1];exact .empty
 | d::l,_,n+1,h=>by
  let[v,vs,b,c,rfl,e,r1,a]:=h;let[rfl,rfl]:=List.append_eq_nil_iff.mp e.symm;exact a_.drop n a
structure WF(Z:Zn)(H:Hp)(O:W5):Prop where
 nd:O.Nodup
 nz:∀ a∈O,¬ Z a
 od:∀ a∈O,H a≠none
 zd:∀ a,Z a->H a≠none
structure Go(Z:Zn)(H:Hp)(O:W5)(Z':Zn)(H':Hp)(O':W5):Prop where
 wf:WF Z' H' O'
 zz:∀ a,Z a->Z' a
 fr:∀ a,H a≠none->a∉O->H' a=H a
 zn:∀ a,Z' a->Z a\/a∈O\/H a=none
 sub:∀ a∈O',a∈O\/H a=none
 dm:∀ a,H a≠none->H' a≠none
def Go.refl(w:WF Z H O):Go Z H O Z H O:=#v[w,λ_ z=>z,λ_ _ _=>rfl,λ_ z=>.inl z,λ_ h=>.inl h,λ_ h=>h]
def Go.trans(g:Go Z H O Z' H' O')(k:Go Z' H' O' Z'' H'' O''):Go Z H O Z'' H'' O'':=by
 refine#v[k.wf,λa z=>k.zz a<|g.zz a z,λa h n=>?_,λa z=>?_,λa h=>?_,λa h=>k.dm a<|g.dm a h]
 ·rw[k.fr a (g.dm a h) λb=>(g.sub a b).elim n h,g.fr a h n]
 ·rcases k.zn a z with z | z | z
  ·exact g.zn a z
  ·rcases g.sub a z with q | q
   ·lia
   ·lia
  ·by_cases h:H a=none
   ·lia
   ·exact absurd z<|g.dm a h
 ·rcases k.sub a h with q | q
  ·exact g.sub a q
  ·by_cases h:H a=none
   ·lia
   ·exact absurd q<|g.dm a h
def Go.zH(w:WF Z H O)(g:Go Z H O Z' H' O'):∀ a,Z a->H' a=H a:=λa z=>g.fr a (w.zd a z) λh=>w.nz a h z
def WF.sub(w:WF Z H O)(h:∀ a∈O',a∈O)(n:O'.Nodup):WF Z H O':=#v[n,λa z=>w.nz a<|h a z,λa z=>w.od a<|h a z,w.zd]
def WF.mid(w:WF Z H<|A++O++B):WF Z H O:=w.sub (λa h=>by simp[h]) (by have:=w.nd;simp[X3] at this;exact this.2.1.1)
def WF.left(w:WF Z H<|A++B):WF Z H A:=w.sub (λa h=>by simp[h]) (X3.mp w.nd).1
def WF.right(w:WF Z H<|A++B):WF Z H B:=w.sub (λa h=>by simp[h]) (X3.mp w.nd).2.1
def Go.frame(w:WF Z H<|A++O++B)(g:Go Z H O Z' H' O'):Go Z H (A++O++B) Z' H' (A++O'++B):=by
 have nd:=w.nd;simp only[X3,N3] at nd;have new:∀ a∈O',a∉A/\a∉B:=λa h=>by
  rcases g.sub a h with q | q
  ·exact#v[λz=>nd.1.2.2 a z a q rfl,λz=>nd.2.2 a (.inr q) a z rfl]
  ·exact#v[λz=>w.od a (by simp[z]) q,λz=>w.od a (by simp[z]) q]
 have keep:∀ a,a∈A\/a∈B->a∉O:=λa h z=>by
  rcases h with h | h
  ·exact nd.1.2.2 a h a z rfl
  ·exact nd.2.2 a (.inr z) a h rfl
 refine#v[#v[?_,λa h z=>?_,λa h=>?_,g.wf.zd],g.zz,λa h n=>?_,λa z=>?_,λa h=>?_,g.dm]
 ·simp only[X3,N3];exact#v[#v[nd.1.1,g.wf.nd,λa h b k e=>(new b k).1 (e▸h)],nd.2.1,λa h b k e=>by
   rcases h with h | h
   ·exact nd.2.2 a (.inl h) b k e
   ·exact(new a h).2 (e▸k)]
 ·simp only[N3] at h;rcases h with(h | h) | h
  ·rcases g.zn a z with q | q | q
   ·exact w.nz a (by simp[h]) q
   ·exact keep a (.inl h) q
   ·exact w.od a (by simp[h]) q
  ·exact g.wf.nz a h z
  ·rcases g.zn a z with q | q | q
   ·exact w.nz a (by simp[h]) q
   ·exact keep a (.inr h) q
   ·exact w.od a (by simp[h]) q
 ·simp only[N3] at h;rcases h with(h | h) | h
  ·exact g.dm a<|w.od a (by simp[h])
  ·exact g.wf.od a h
  ·exact g.dm a<|w.od a (by simp[h])
 ·simp only[N3,not_or] at n;exact g.fr a h n.1.2
 ·rcases g.zn a z with q | q | q
  ·lia
  ·exact .inr<|.inl (by simp[q])
  ·lia
 ·simp only[N3] at h ⊢;rcases h with(h | h) | h
  ·lia
  ·rcases g.sub a h with q | q
   ·lia
   ·lia
  ·lia
def Go.keepA(w:WF Z H<|A++O++B)(g:Go Z H O Z' H' O'):(∀ a∈A,H' a=H a)/\∀ a∈B,H' a=H a:=by
 have nd:=w.nd;simp only[X3,N3] at nd;exact#v[λa h=>g.fr a (w.od a<|by simp[h]) λz=>nd.1.2.2 a h a z rfl,λa h=>g.fr a (w.od a<|by simp[h]) λz=>nd.2.2 a (.inr z) a h rfl]
def Go.drop(g:Go Z H O Z' H' O')(h:∀ a∈O'',a∈O')(n:O''.Nodup):Go Z H O Z' H' O'':=#v[g.wf.sub h n,g.zz,g.fr,g.zn,λa q=>g.sub a<|h a q,g.dm]
def Go.dropL(g:Go Z H O Z' H'<|A++B):Go Z H O Z' H' B:=g.drop (λa h=>by simp[h]) (X3.mp g.wf.nd).2.1
def Go.dropR(g:Go Z H O Z' H'<|A++B):Go Z H O Z' H' A:=g.drop (λa h=>by simp[h]) (X3.mp g.wf.nd).1
def Go.freeze(w:WF Z H O):Go Z H O (λa=>Z a\/a∈O) H []:=
 ⟨⟨List.nodup_nil,λa h=>(nomatch h),λa h=>(nomatch h),λa h=>h.elim (w.zd a)<|w.od a⟩,λa z=>.inl z,λ_ _ _=>rfl,λa z=>z.elim .inl λq=>.inr<|.inl q,λa h=>(nomatch h),λ_ h=>h⟩
def Go.newF(w:WF Z H O)(b:H p=none):Go Z H O (λa=>Z a\/a=p) (bO H p o) O:=by
 have ne:∀ a,H a≠none->a≠p:=λa h e=>h<|e▸b;refine#v[#v[w.nd,λa h z=>z.elim (w.nz a h)<|ne a<|w.od a h,λa h=>?_,λa z=>?_],λa z=>.inl z,λa h _=>je<|ne a h,λa z=>z.elim .inl λe=>.inr<|.inr<|e▸b,λa h=>.inl h,λa h=>?_]
 ·rw[je<|ne a<|w.od a h];exact w.od a h
 ·by_cases e:a=p
  ·rw[e,jj];exact λh=>nomatch h
  ·rw[je e];exact w.zd a<|z.resolve_right e
 ·rw[je<|ne a h];exact h
def Go.newO(w:WF Z H O)(b:H p=none):Go Z H O Z (bO H p o) (p::O):=by
 have ne:∀ a,H a≠none->a≠p:=λa h e=>h<|e▸b;refine#v[#v[List.nodup_cons.mpr #v[λh=>w.od p h b,w.nd],λa h z=>?_,λa h=>?_,λa z=>?_],λa z=>z,λa h _=>je<|ne a h,λa z=>.inl z,λa h=>?_,λa h=>?_]
 ·rcases M5.mp h with e | e
  ·exact w.zd a z<|e▸b
  ·exact w.nz a e z
 ·rcases M5.mp h with e | e
  ·rw[e,jj];exact λh=>nomatch h
  ·rw[je<|ne a<|w.od a e];exact w.od a e
 ·rw[je<|ne a<|w.zd a z];exact w.zd a z
 ·grind
 ·rw[je<|ne a h];exact h
def Go.put(w:WF Z H O)(c:p∈O):Go Z H O Z (bO H p o) O:=by
 have b:∀ a,bO H p o a=none->a≠p/\H a=none:=λa h=>by
  by_cases e:a=p
  ·rw[e,jj] at h;cases h
  ·rw[je e] at h;exact#v[e,h]
 exact#v[#v[w.nd,w.nz,λa h z=>w.od a h (b a z).2,λa z e=>w.zd a z (b a e).2],λa z=>z,λa h n=>je λe=>n<|e▸c,λa z=>.inl z,λa h=>.inl h,λa h z=>h (b a z).2]
def iV:D->Option Bool
 | .bl b=>some b
 | _=>none
@[simp] def nr(b):iV (.bl b)=some b:=rfl
def wJ(h:iV d=some b):d=.bl b:=by cases d<;>cases h<;>rfl
def yS:D->Option Int
 | .int i=>some i
 | _=>none
@[simp] def FD(i):yS (.int i)=some i:=rfl
def jE(h:yS d=some n):d=.int n:=by cases d<;>cases h<;>rfl
def xP:D->Option (List D)
 | .lst true l=>some l
 | _=>none
@[simp] def VG(l):xP (.lst true l)=some l:=rfl
def YZ(h:xP d=some l):d=.lst true l:=by
 cases d with
 | lst o _=>cases o<;>cases h;rfl
 | _=>cases h
def iW:D->Option (List D)
 | .tup l=>some l
 | _=>none
@[simp] def iX(l):iW (.tup l)=some l:=rfl
def gP:D->Option (List KA×List D)
 | .dK true ks l=>some (ks,l)
 | _=>none
@[simp] def nt(ks)(l):gP (.dK true ks l)=some (ks,l):=rfl
def wW(h:gP d=some p):d=.dK true p.1 p.2:=by
 cases d with
 | dK o _ _=>cases o<;>cases h;rfl
 | _=>cases h
def q0:D->Option (List KA×List D)
 | .dK _ ks l=>some (ks,l)
 | _=>none
@[simp] def nu(o)(ks)(l):q0 (.dK o ks l)=some (ks,l):=rfl
def FF(h:q0 d=some p):∃ o,d=.dK o p.1 p.2:=by
 cases d with
 | dK o _ _=>cases h;exact#v[o,rfl]
 | _=>cases h
def f5:D->Option (List (List KA)×List D)
 | .dT true ks l=>some (ks,l)
 | _=>none
@[simp] def nv(ks)(l):f5 (.dT true ks l)=some (ks,l):=rfl
def Vq(h:f5 d=some p):d=.dT true p.1 p.2:=by
 cases d with
 | dT o _ _=>cases o<;>cases h;rfl
 | _=>cases h
def zK:D->Option (Nat×List Str×List D)
 | .ins true c ns l=>some (c,ns,l)
 | _=>none
@[simp] def iY(c)(ns)(l):zK (.ins true c ns l)=some (c,ns,l):=rfl
def JR(h:zK d=some (c,ns,l)):d=.ins true c ns l:=by
 cases d with
 | ins o _ _ _=>cases o<;>cases h;rfl
 | _=>cases h
def q7:D->Option (Nat×List Str×List D)
 | .ins _ c ns l=>some (c,ns,l)
 | _=>none
@[simp] def l0(o)(c)(ns)(l):q7 (.ins o c ns l)=some (c,ns,l):=rfl
def FG(h:q7 d=some (c,ns,l)):∃ o,d=.ins o c ns l:=by
 cases d with
 | ins o _ _ _=>cases h;exact#v[o,rfl]
 | _=>cases h
def fP:D->Option (List D)
 | .lst _ l=>some l
 | _=>none
@[simp] def l4(o)(l):fP (.lst o l)=some l:=rfl
def qZ(h:fP d=some l):∃ o,d=.lst o l:=by
 cases d with
 | lst o _=>cases h;exact#v[o,rfl]
 | _=>cases h
def Y2(h:iW d=some l):d=.tup l:=by cases d<;>cases h<;>rfl
def ux:List D->Option D
 | [x]=>some x
 | _=>none
def q_:D->Option (List Nat)
 | .str s=>some s
 | _=>none
def zB{d}{n}(h:q_ d=some n):d=.str n:=by cases d<;>cases h<;>rfl
def vk(h:ux l=some x):l=[x]:=by
 match l with
 | [_]=>cases h;rfl
def two1:List D->Option (D×D)
 | [x,y]=>some (x,y)
 | _=>none
def two1_of(h:two1 l=some p):l=[p.1,p.2]:=by
 match l with
 | [_,_]=>cases h;rfl
def ob{s u:Type}{C:Prop}{o}{f:s->Option u}{b}(e:o.bind f=some b)(k:∀ a,o=some a->f a=some b->C):C:=by
 cases o with
 | none=>cases e
 | some a=>exact k a rfl e
def oc{s:Type}{C:Prop}{c}{x}{b:s}(e:(bif c then x else none)=some b)(k:c=true->x=some b->C):C:=by
 cases c with
 | false=>cases e
 | true=>exact k rfl e
noncomputable abbrev Rh:=List<|Option D
def Slots(R:RC)(Z:Zn)(H:Hp):Rh->St->List Addr->Prop
 | [],u,O=>u=[]/\O=[]
 | none::w,u,O=>∃ s σ',u=s::σ'/\Slots R Z H w σ' O
 | some d::w,u,O=>∃ v σ' O1 O2,u=some v::σ'/\O=O1++O2/\bK R Z H d v O1/\Slots R Z H w σ' O2
theorem Slots.frame(c:∀ a,Z a->Z' a)(f:∀ a,Z a->H' a=H a):∀{w}{u}{O},Slots R Z H w u O->(∀ a∈O,H' a=H a)->Slots R Z' H' w u O
 | [],_,_,h,_=>h
 | none::w,_,_,h,b=>by
  let[s,g,e,r]:=h;exact#v[s,g,e,Slots.frame c f r b]
 | some d::w,_,_,h,b=>by
  let[v,g,j,k,e,rfl,r1,l]:=h;exact#v[v,g,j,k,e,rfl,r1.frame c f λa i=>b a<|List.mem_append_left _ i,Slots.frame c f l λa i=>b a<|U5 _ i]
inductive l5 (R:RC) (Z:Zn) (H:Hp) (u:Rh) (s:St) (O:W5) (i:Nat):Prop
 | mk:∀(A P B:W5),O=A++P++B->(∀ d,u[i]?=some (some d)->∃ v,s[i]?=some (some v)/\bK R Z H d v P) ->
  (∀{Z':Zn}{H':Hp}{d':D}{v':V}{P':W5},bK R Z' H' d' v' P'->(∀ a,Z a->Z' a)->(∀ a,Z a->H' a=H a)->(∀ a∈A,H' a=H a)->(∀ a∈B,H' a=H a)->Slots R Z' H' (u.set i<|some d') (s.set i<|some v') (A++P'++B)) ->
  Slots R Z H (u.set i none) s (A++B)->l5 R Z H u s O i
theorem Slots.put:∀{ρ}{U}{O}{i},Slots R Z H ρ U O->i<ρ.length->l5 R Z H ρ U O i
 | [],_,_,_,_,hi=>absurd hi<|Nat.not_lt_zero _
 | none::ρ,_,_,0,h,hi=>by
  let[s,b,rfl,r]:=h;refine#v[[],[],_,rfl,λd e=>by simp at e,λq f g k j=>#v[_,b,_,_,rfl,rfl,q,Slots.frame f g r j],#v[s,b,rfl,r]]
 | some c::ρ,_,_,0,h,hi=>by
  let[v,b,l,u,rfl,rfl,r1,m]:=h;refine#v[[],l,u,rfl,λd e=>?_,λq f g k j=>#v[_,b,_,_,rfl,rfl,q,Slots.frame f g m j],#v[_,b,rfl,m]]
  ·have e:c=d:=by simpa using e
   subst e;exact#v[v,rfl,r1]
 | none::ρ,_,_,i+1,h,hi=>by
  let[s,b,rfl,r]:=h;let[A,P,B,rfl,n,o,p]:=Slots.put r ⇑hi;refine#v[A,P,B,rfl,λd e=>n d ⇑e,λq f g k j=>#v[s,_,rfl,o q f g k j],#v[s,b,rfl,p]]
 | some c::ρ,_,_,i+1,h,hi=>by
  let[v,b,l,u,rfl,rfl,r1,m]:=h;let[A,P,B,rfl,n,o,p]:=Slots.put m ⇑hi;refine#v[l++A,P,B,by simp,λd e=>n d ⇑e,λ{x y z C w} q f g k j=>#v[v,_,l,A++w++B,rfl,by simp,r1.frame f g λa t=>k a<|List.mem_append_left _ t,o q f g (λa t=>k a<|U5 _ t) j],#v[v,b,l,A++B,rfl,by simp,r1,p]]
theorem yK:∀{l:List s}{i}{x},l[i]?=some x->l.set i x=l
 | [],_,_,h=>by simp at h
 | y::l,0,x,h=>by simp at h;subst h;rfl
 | y::l,i+1,x,h=>by rw[List.set_cons_succ,yK ⇑h]
abbrev FE:=Rh->Option (D×Rh)
abbrev gQ:=Rh->Option (Bool×Rh)
abbrev FA:=Rh->Option (List D×Rh)
def DE(R:RC)(te:TE)(f:FE):Prop:=∀{s}{u ρ'}{Z}{H}{O}{d},WF Z H O->Slots R Z H u s O->f u=some (d,ρ') ->
 ∀{Q},(∀{v}{Z'}{H'}{P O'},Go Z H O Z' H' (P++O')->bK R Z' H' d v P->Slots R Z' H' ρ' s O'->Q v H')->te s H Q
def DT(R:RC)(tt:TT)(f:gQ):Prop:=∀{s}{u ρ'}{Z}{H}{O}{b},WF Z H O->Slots R Z H u s O->f u=some (b,ρ') ->
 ∀{Q:Bool->Hp->Prop},(∀{Z'}{H'}{O'},Go Z H O Z' H' O'->Slots R Z' H' ρ' s O'->Q b H')->tt s H Q
def DA(R:RC)(ta:TA)(f:FA):Prop:=∀{s}{u ρ'}{Z}{H}{O}{ds},WF Z H O->Slots R Z H u s O->f u=some (ds,ρ') ->
 ∀{Q:List V->Hp->Prop},(∀{vs}{Z'}{H'}{P O'},Go Z H O Z' H' (P++O')->a_ R Z' H' ds vs P->Slots R Z' H' ρ' s O'->Q vs H')->ta s H Q
def DO(R:RC)(r:R2)(g:D->D->Option D):Prop:=∀{Z}{H}{x y d}{v u}{O1 O2},WF Z H (O1++O2)->bK R Z H x v O1->bK R Z H y u O2->g x y=some d ->
 ∀{Q},(∀{w}{Z'}{H'}{P},Go Z H (O1++O2) Z' H' P->bK R Z' H' d w P->Q w H')->r v u H Q
def DC(R:RC)(r:List V->Hp->VK->Prop)(g:List D->Option D):Prop:=∀{Z}{H}{xs}{d}{vs}{O},WF Z H O->a_ R Z H xs vs O->g xs=some d ->
 ∀{Q},(∀{w}{Z'}{H'}{P},Go Z H O Z' H' P->bK R Z' H' d w P->Q w H')->r vs H Q
inductive cf where
 | nx (s:Rh) | rt (d:D) (s:Rh) | bk (s:Rh) | ct (s:Rh)
abbrev FS:=Rh->Option cf
def cf.thn:cf->FS->Option cf
 | .nx s,g=>g s
 | .rt d s,_=>some<|.rt d s
 | .bk s,_=>some<|.bk s
 | .ct s,_=>some<|.ct s
@[simp] def z0(s)(g):(cf.nx s).thn g=g s:=rfl
@[simp] def ra(d)(s)(g):(cf.rt d s).thn g=some (.rt d s):=rfl
@[simp] def rb(s)(g):(cf.bk s).thn g=some (.bk s):=rfl
@[simp] def re(s)(g):(cf.ct s).thn g=some (.ct s):=rfl
def cf.val:cf->Option D
 | .rt d _=>some d
 | .nx _=>some .non
 | _=>none
@[simp] def rh(d)(s):(cf.rt d s).val=some d:=rfl
@[simp] def ri(s):(cf.nx s).val=some .non:=rfl
def cf.loop:cf->FS->Option cf
 | .nx s,g=>g s
 | .ct s,g=>g s
 | .bk s,_=>some<|.nx s
 | .rt d s,_=>some<|.rt d s
@[simp] def JG(s)(g):(cf.nx s).loop g=g s:=rfl
@[simp] def ny(s)(g):(cf.ct s).loop g=g s:=rfl
@[simp] def nC(s)(g):(cf.bk s).loop g=some (.nx s):=rfl
@[simp] def nD(d)(s)(g):(cf.rt d s).loop g=some (.rt d s):=rfl
abbrev PF:=Rh->Option D
def pV(i:Nat):PF:=λρ=>match ρ[i]? with
 | some (some d)=>some d
 | _=>none
def YQ(h:pV i s=some d):s[i]?=some (some d):=by
 unfold pV at h;split at h
 ·lia
 ·cases h
def bX(pm:List Nat)(s σ':St):Prop:=∀ i∈pm,σ'[i]?=s[i]?
def e9(R:RC)(pm:List Nat)(Z:Zn)(H:Hp)(O:W5)(s:St)(D':ig):cf->Prop
 | .nx ρ'=>∀{σ'}{Z'}{H'}{O'},Go Z H O Z' H' O'->Slots R Z' H' ρ' σ' O'->bX pm s σ'->D'.nx σ' H'
 | .bk ρ'=>∀{σ'}{Z'}{H'}{O'},Go Z H O Z' H' O'->Slots R Z' H' ρ' σ' O'->bX pm s σ'->D'.bk σ' H'
 | .ct ρ'=>∀{σ'}{Z'}{H'}{O'},Go Z H O Z' H' O'->Slots R Z' H' ρ' σ' O'->bX pm s σ'->D'.ct σ' H'
 | .rt d ρ'=>∀{v}{σ'}{Z'}{H'}{P O'},Go Z H O Z' H' (P++O')->bK R Z' H' d v P->Slots R Z' H' ρ' σ' O'->bX pm s σ'->D'.rt v H'
def DS(R:RC)(pm:List Nat)(ts:TS)(f:FS):Prop:=∀{s}{u}{Z}{H}{O}{o},WF Z H O->Slots R Z H u s O->f u=some o->∀{D'},e9 R pm Z H O s D' o->ts D' s H
def DG(R:RC)(pm:List Nat)(tg:TG)(f:D->Rh->Option Rh):Prop:=∀{s}{u ρ'}{Z}{H}{O P}{d}{v},WF Z H (P++O)->bK R Z H d v P->Slots R Z H u s O->f d u=some ρ' ->
 ∀{Q:St->Hp->Prop},(∀{σ'}{Z'}{H'}{O'},Go Z H (P++O) Z' H' O'->Slots R Z' H' ρ' σ' O'->bX pm s σ'->Q σ' H')->tg v s H Q
def bX.refl(pm)(s):bX pm s s:=λ_ _=>rfl
def bX.trans(h:bX pm s σ')(k:bX pm σ' σ''):bX pm s σ'':=λi hi=>(k i hi).trans (h i hi)
def bX.set(h:i∉pm):bX pm s (s.set i x):=λj a=>by
 have ne:i≠j:=λe=>h ∅;rw[List.getElem?_set,if_neg ne]
@[simp] def c7(i:Nat)(s:Rh):Option (D×Rh):=(pV i s).bind λd=>some (d,s.set i none)
def z3:DE R (yj i) (c7 i):=by
 intro s u o Z H O d w h e Q k;refine ob e λc f e=>?_;have f:=YQ f;let[A,P,B,rfl,l,p,m]:=h.put (L9.mp f).1;let[v,n,r]:=l c f;cases e;refine#v[v,n,k ((Go.refl w).drop (λa q=>?_) ?_) r m]
 ·simp at q ⊢;rcases q with q | q | q<;>simp[q]
 ·have nd:=w.nd;simp only[X3,N3] at nd ⊢;exact#v[nd.1.2.1,#v[nd.1.1,nd.2.1,λa g b j=>nd.2.2 a (.inl g) b j],λa g b j e=>j.elim (λq=>nd.1.2.2 b q a g e.symm) λq=>nd.2.2 a (.inr g) b q e]
def z_(b:Go Z H O Z' H'<|P1++O1)(g2:Go Z' H' O1 Z'' H''<|P2++O2):Go Z H O Z'' H'' (P1++(P2++O2))/\(∀ a,Z' a->Z'' a)/\(∀ a,Z' a->H'' a=H' a)/\∀ a∈P1,H'' a=H' a:=by
 have w:WF Z' H' (P1++O1++[]):=by simpa using b.wf
 refine#v[b.trans<|by simpa using(g2.frame w),g2.zz,(g2.zH b.wf.right),(Go.keepA w g2).1]
@[simp] def eo(g:D->D->Option D)(fa:FE)(fb:FE)(s:Rh):Option (D×Rh):=(fa s).bind λr=>(fb r.2).bind λt=>(g r.1 t.1).bind λz=>some (z,t.2)
def nE(n:DO R r g)(o:DE R ta fa)(q:DE R tb fb):DE R (cT r ta tb) (eo g fa fb):=by
 intro U W D Z H O d w h e Q k;refine ob e λp s e=>?_;let[x,E]:=p;refine ob e λp e2 e=>?_;let[y,F]:=p;refine ob e λz e3 e=>?_;cases e;refine o w h s λ{v G I b J} c r1 s1=>(q c.wf.right s1 e2 λ{u f i j l} g2 t s2=>?_);let[g3,zz,A,B]:=z_ c g2;have a:Go Z H O f i (b++j++l):=by simpa using g3
 refine n a.wf.left (r1.frame zz A B) t e3 λ{K Z3 L M} g4 C=>?_;have m:WF f i ([]++(b++j)++l):=by simpa using a.wf
 refine k (a.trans<|by simpa using(g4.frame m)) C<|s2.frame g4.zz (g4.zH a.wf.left) (Go.keepA m g4).2
@[simp] def Js(ρ:Rh):Option (List D×Rh):=some ([],ρ)
@[simp] def jr(fa:FE)(fr:FA)(ρ:Rh):Option (List D×Rh):=(fa ρ).bind λx=>(fr x.2).bind λy=>some (x.1::y.1,y.2)
def f6(g:List D->Option D)(fa:FA):FE:=λs=>(fa s).bind λp5=>(g p5.1).bind λz=>some (z,p5.2)
def Aa(c:DC R r g)(f:DA R ta fa):DE R (f1 r ta) (f6 g fa):=by
 intro U W q Z H O d w h e Q k;refine ob e λp i e=>?_;let[x,s]:=p;refine ob e λz e3 e=>?_;cases e;refine f w h i λ{v j l m n} a r1 s1=>(c a.wf.left r1 e3 λ{t Z3 u y} g4 o=>?_);have b:WF j l ([]++m++n):=by simpa using a.wf
 refine k (a.trans<|by simpa using(g4.frame b)) o<|s1.frame g4.zz (g4.zH a.wf.left) (Go.keepA b g4).2
def Qd(fa:FA):FE:=f6 (λxs=>bif decide (xs.length<=1000) then some (.tup xs) else none) fa
def Ab(h:n<=1000):n<=sizeLine:=Nat.le_of_lt<|(E4 h<|by decide)
def bK.tupNew(w:WF Z H O)(b:H p=none)(r:a_ R Z H l vs O):bK R (λa=>Z a\/a=p) (bO H p<|.tup vs) (.tup l) (.ref p) O:=by
 have ne:∀ a,H a≠none->a≠p:=λa h e=>h<|e▸b;exact#v[p,vs,rfl,.inl #v[.inr rfl,.inl jj],r.frame (λa z=>.inl z) (λa z=>je<|ne a<|w.zd a z) λa h=>je<|ne a<|w.od a h]
def bK.lstNew(w:WF Z H O)(b:H p=none)(r:a_ R Z H l vs O):bK R Z (bO H p<|.lst vs) (.lst true l) (.ref p) (p::O):=by
 have ne:∀ a,H a≠none->a≠p:=λa h e=>h<|e▸b;exact#v[p,vs,O,rfl,r.frame (λa z=>z) (λa z=>je<|ne a<|w.zd a z) λa h=>je<|ne a<|w.od a h,jj,rfl]
def iZ(fa:FE):gQ:=λs=>match fa s with
 | some (.bl b,ρ1)=>some (b,ρ1)
 | _=>none
def bK.bl_of(r:bK R Z H (.bl b) v O):v=.bl b/\O=[]:=by rw[bK] at r;exact r
def FH(a:DE R ta fa):DT R (zY ta) (iZ fa):=by
 intro s u g Z H O b w h e Q k;unfold iZ at e;split at e
 ·rename_i c i d;cases e;refine a w h d λ{v j l m n} f r1 s1=>?_;let[rfl,rfl]:=r1.bl_of;exact#v[b,rfl,k f s1]
 ·cases e
def nF(fa fb:gQ):gQ:=λs=>(fa s).bind λp9=>bif p9.1 then some (true,p9.2) else fb p9.2
def bK.bl_mk:bK R Z H (.bl b) (.bl b) []:=by rw[bK];exact#v[rfl,rfl]
def e9.pre(g:Go Z H O Z1 H1 O1)(kp:bX pm s σ1)(k:e9 R pm Z H O s D' o):e9 R pm Z1 H1 O1 σ1 D' o:=by
 cases o with
 | nx u=>exact λg2 s2 a=>k (g.trans g2) s2<|kp.trans a
 | bk u=>exact λg2 s2 a=>k (g.trans g2) s2<|kp.trans a
 | ct u=>exact λg2 s2 a=>k (g.trans g2) s2<|kp.trans a
 | rt d u=>exact λg2 b s2 a=>k (g.trans g2) b s2<|kp.trans a
@[simp] def jT(s:Rh):Option cf:=some<|.nx s
def jf(f g:FS):FS:=λs=>match f s with
 | some (.nx ρ1)=>g ρ1
 | o=>o
@[simp] def zJ:jf f g s=(f s).bind λo=>o.thn g:=by
 unfold jf;cases h:f s with
 | none=>rfl
 | some o=>cases o<;>rfl
def FI(c:DS R pm t f)(i:DS R pm u g):DS R pm (oW t u) (jf f g):=by
 intro v x Z H O o w h e n k;rw[zJ] at e;refine ob e λj l e=>c w h l ?_;cases j with
 | nx a=>exact λ{p q r s} b s1 m=>i b.wf s1 e<|k.pre b m
 | bk a=>cases (e);exact k
 | ct a=>cases (e);exact k
 | rt d a=>cases (e);exact k
@[simp] def Ql(fe:FE)(s:Rh):Option cf:=(fe s).bind λx=>some<|.nx x.2
def FJ(a:DE R ta fa):DS R pm (Yc ta) (Ql fa):=by
 intro s u Z H O o w h e d k;refine ob e λp b e=>?_;let[x,f]:=p;cases e;exact a w h b λc r1 s1=>k c.dropL s1<|bX.refl _ _
@[simp] def yb(fe:FE)(s:Rh):Option cf:=(fe s).bind λx=>some<|.rt x.1 x.2
def FK(a:DE R ta fa):DS R pm (oX ta) (yb fa):=by
 intro s u Z H O o w h e d k;refine ob e λp b e=>?_;let[x,f]:=p;cases e;exact a w h b λc r1 s1=>k c r1 s1<|bX.refl _ _
@[simp] def cp(ft:gQ)(f:FS)(g:FS)(s:Rh):Option cf:=(ft s).bind λx=>bif x.1 then f x.2 else g x.2
def Ac(b:DT R tt ft)(d:DS R pm t f)(i:DS R pm u g):DS R pm (m5 tt t u) (cp ft f g):=by
 intro s v Z H O o w h e l k;refine ob e λp j e=>?_;let[c,m]:=p;refine b w h j λ{n q r} a s1=>?_;cases c with
 | true=>exact gk<|d a.wf s1 e<|k.pre a<|bX.refl _ _
 | false=>exact gL<|i a.wf s1 e<|k.pre a<|bX.refl _ _
@[simp] def jc(pm:List Nat)(i:Nat)(d:D)(ρ:Rh):Option Rh:=bif decide (i<ρ.length)&&!decide (i∈pm) then some (ρ.set i<|some d) else none
def V0:DG R pm (vJ i) (jc pm i):=by
 intro s u l Z H O P d v w r h e Q k;unfold jc at e;by_cases hi:i<u.length
 ·by_cases g:i∈pm
  ·lia
  ·rw[X5 hi,X6 g] at e;cases e;let[A,m,B,rfl,n,j,o]:=h.put hi;refine k ((Go.refl w).drop (λa q=>?_) ?_) (j r (λ_ z=>z) (λ_ _=>rfl) (λ_ _=>rfl)<|λ_ _=>rfl)<|bX.set g
   ·simp at q ⊢;rcases q with q | q | q<;>simp[q]
   ·have nd:=w.nd;simp only[X3,N3] at nd ⊢;exact#v[#v[nd.2.1.1.1,nd.1,λa f b c e=>nd.2.2 b c a (.inl<|.inl f) e.symm],nd.2.1.2.1,λa f b c e=>f.elim (λq=>nd.2.1.2.2 a (.inl q) b c e) λq=>nd.2.2 a q b (.inr c) e]
 ·lia
@[simp] def ju(fe:FE)(G:D->Rh->Option Rh)(s:Rh):Option cf:=(fe s).bind λx=>(G x.1 x.2).bind λr=>some<|.nx r
def nG(b:DE R ta fa)(c:DG R pm tg g):DS R pm (gH ta tg) (ju fa g):=by
 intro s u Z H O o w h e i k;refine ob e λp d e=>?_;let[x,j]:=p;refine ob e λl e2 e=>?_;cases e;exact b w h d λa r1 s1=>c a.wf r1 s1 e2 λg2 s2 f=>k (Go.trans a g2) s2 f
def gN:List D->Rh->Option Rh:=λds ρ=>match ds with
 | []=>some ρ
 | _=>none
def gC(g:D->Rh->Option Rh)(gs:List D->Rh->Option Rh):List D->Rh->Option Rh:=λds ρ=>match ds with
 | []=>none
 | d::r=>(g d ρ).bind λρ1=>gs r ρ1
def gT(n:Nat)(gs:List D->Rh->Option Rh):D->Rh->Option Rh:=λd ρ=>match d with
 | .tup l=>bif decide (l.length=n) then gs l ρ else none
 | _=>none
abbrev eq:=Rh->Option Bool
abbrev cF:=Rh->Option (List D)
mutual
theorem bK.dom:∀{d:D}{v:V}{O:W5},bK R Z H d v O->∀ a∈O,H a≠none
 | .non,_,_,h,a,ha=>by rw[bK] at h;rw[h.2] at ha;cases ha
 | .bl _,_,_,h,a,ha=>by rw[bK] at h;rw[h.2] at ha;cases ha
 | .int _,_,_,h,a,ha=>by rw[bK] at h;rw[h.2] at ha;cases ha
 | .str _,_,_,h,a,ha=>by rw[bK] at h;rw[h.2] at ha;cases ha
 | .dead,_,_,h,a,ha=>by rw[bK] at h;rw[h] at ha;cases ha
 | .tok _,_,_,h,a,ha=>by rw[bK] at h;rw[h.2] at ha;cases ha
 | .kt _,_,_,h,a,ha=>by rw[bK] at h;let[_,_,_,_,h]:=h;rw[h] at ha;cases ha
 | .exc _ _,_,_,h,a,ha=>by rw[bK] at h;let[_,_,_,_,_,_,_,h]:=h;rw[h] at ha;cases ha
 | .tup l,_,_,h,a,ha=>by
  rw[bK] at h;let[b,vs,e,t,r]:=h;exact a_.dom r a ha
 | .lst o l,_,_,h,a,ha=>by
  rw[bK] at h;let[b,vs,O',e,r,h]:=h;cases o with
  | true=>
   let[h1,rfl]:=h;rcases M5.mp ha with e | e
   ·rw[e,h1];exact λz=>(nomatch z)
   ·exact a_.dom r a e
  | false=>rw[h.2.2] at ha;cases ha
 | .dK o ks l,_,_,h,a,ha=>by
  rw[bK] at h;let[b,vs,O',e,r,hl,hd,h]:=h;cases o with
  | true=>
   have h:=(show _=_ from h);subst h;rcases M5.mp ha with e | e
   ·rw[e,hd];exact λz=>(nomatch z)
   ·exact a_.dom r a e
  | false=>rw[h.2.2] at ha;cases ha
 | .dT o ks l,_,_,h,a,ha=>by
  rw[bK] at h;let[b,vs,O',e,r,hl,hd,h]:=h;cases o with
  | true=>
   have h:=(show _=_ from h);subst h;rcases M5.mp ha with e | e
   ·rw[e,hd];exact λz=>(nomatch z)
   ·exact a_.dom r a e
  | false=>rw[h.2.2] at ha;cases ha
 | .ins o c ns l,_,_,h,a,ha=>by
  rw[bK] at h;let[b,dx,vs,O',e,r,hl,hd,h]:=h;cases o with
  | true=>
   have h:=(show _=_ from h);subst h;rcases M5.mp ha with e | e
   ·rw[e,hd];exact λz=>(nomatch z)
   ·exact a_.dom r a e
  | false=>rw[h.2.2] at ha;cases ha
theorem a_.dom:∀{l:List D}{vs:List V}{O:W5},a_ R Z H l vs O->∀ a∈O,H a≠none
 | [],_,_,h,a,ha=>by rw[a_] at h;rw[h.2] at ha;cases ha
 | d::l,_,_,h,a,ha=>by
  rw[a_] at h;let[v,vs,O1,O2,e,rfl,r1,r2]:=h;rcases N3.mp ha with q | q
  ·exact bK.dom r1 a q
  ·exact a_.dom r2 a q
end
theorem Slots.dom:∀{w}{u}{O},Slots R Z H w u O->∀ a∈O,H a≠none
 | [],_,_,h,a,b=>by rw[h.2] at b;cases b
 | none::w,_,_,h,a,b=>by let[s,c,rfl,r]:=h;exact Slots.dom r a b
 | some d::w,_,_,h,a,b=>by
  let[v,c,f,g,rfl,rfl,r1,e]:=h;rcases N3.mp b with q | q
  ·exact r1.dom a q
  ·exact Slots.dom e a q
abbrev Zd(Z:Zn)(H:Hp):Prop:=∀ a,Z a->H a≠none
def cS(z:Zd Z H):WF Z H []:=#v[List.nodup_nil,λa h=>(nomatch h),λa h=>(nomatch h),z]
def Go.id(z:Zd Z H):Go Z H [] Z H []:=Go.refl<|cS z
def Go.same(g:Go Z H [] Z' H' P):∀ a,H a≠none->H' a=H a:=λa h=>g.fr a h<|λz=>(nomatch z)
def Go.rep(z:Zd Z H)(g:Go Z H [] Z' H' P)(r:bK R Z H d v O):bK R Z' H' d v O:=r.frame g.zz (λa h=>g.same a<|z a h) λa h=>g.same a<|r.dom a h
def Go.reps(z:Zd Z H)(g:Go Z H [] Z' H' P)(r:a_ R Z H l vs O):a_ R Z' H' l vs O:=r.frame g.zz (λa h=>g.same a<|z a h) λa h=>g.same a<|r.dom a h
def Go.slots(z:Zd Z H)(g:Go Z H [] Z' H' P)(r:Slots R Z H u s O):Slots R Z' H' u s O:=r.frame g.zz (λa h=>g.same a<|z a h) λa h=>g.same a<|r.dom a h
def Go.pair(g:Go Z H [] Z' H' P)(k:Go Z' H' [] Z'' H'' P2):Go Z H [] Z'' H'' (P++P2):=by
 have w:WF Z' H' (P++[]++[]):=by simpa using g.wf
 exact g.trans (by simpa using(k.frame w))
def Go.to0(g:Go Z H O Z' H' P):Go Z H O Z' H' []:=g.drop (λa h=>(nomatch h)) List.nodup_nil
def Go.widen(w:WF Z H O)(g:Go Z H [] Z' H' P):Go Z H O Z' H' (P++O):=by
 simpa using(g.frame (A:=[]) ⇑w)
def PP(R:RC)(te:TE)(p:PF):Prop:=∀{s}{ρ}{Z}{H}{O}{d},Zd Z H->Slots R Z H ρ s O->p ρ=some d ->
 ∀{Q},(∀{v}{Z'}{H'}{P},Go Z H [] Z' H' P->bK R Z' H' d v P->Q v H')->te s H Q
def PB(R:RC)(te:TE)(p:PF):Prop:=∀{s}{u}{Z}{H}{O}{d},Zd Z H->Slots R Z H u s O->p u=some d ->
 ∀{Q},(∀{v}{Z'}{H'}{P},Go Z H [] Z' H' []->bK R Z' H' d v P->Q v H')->te s H Q
def f7(R:RC)(ta:TA)(p:cF):Prop:=∀{s}{u}{Z}{H}{O}{ds},Zd Z H->Slots R Z H u s O->p u=some ds ->
 ∀{Q:List V->Hp->Prop},(∀{vs}{Z'}{H'}{P},Go Z H [] Z' H' P->a_ R Z' H' ds vs P->Q vs H')->ta s H Q
def i0(R:RC)(ta:TA)(p:cF):Prop:=∀{s}{u}{Z}{H}{O}{ds},Zd Z H->Slots R Z H u s O->p u=some ds ->
 ∀{Q:List V->Hp->Prop},(∀{vs}{Z'}{H'}{P},Go Z H [] Z' H' []->a_ R Z' H' ds vs P->Q vs H')->ta s H Q
def f8(R:RC)(tt:TT)(p:eq):Prop:=∀{s}{u}{Z}{H}{O}{b},Zd Z H->Slots R Z H u s O->p u=some b ->
 ∀{Q:Bool->Hp->Prop},(∀{Z'}{H'},Go Z H [] Z' H' []->Q b H')->tt s H Q
def PP.b(h:PP R te p):PB R te p:=λz s e _ k=>h z s e λg r=>k g.to0 r
def f7.b(h:f7 R te p):i0 R te p:=λz s e _ k=>h z s e λg r=>k g.to0 r
@[simp] def pF(pa:PF)(ρ:Rh):Option D:=(pa ρ).bind λd=>bif frz d then some d else none
def PB.f(h:PB R te p):PP R te (pF p):=by
 intro u ρ Z H O d z s e Q k;refine ob e λc a e=>oc e λb e=>?_;cases e;exact h z s a λg r=>by
  cases r.nil b;exact k g r
@[simp] def dP(pa:PF)(ρ:Rh):Option (D×Rh):=(pa ρ).bind λd=>some (d,ρ)
@[simp] def cq(q:eq)(s:Rh):Option (Bool×Rh):=(q s).bind λd=>some (d,s)
theorem PP.d(h:PP R te p):DE R te (dP p):=by
 intro u ρ b Z H O d w s e Q k;refine ob e λc a e=>?_;cases e;exact h w.zd s a λg r=>k (g.widen w) r<|g.slots w.zd s
theorem f8.d(h:f8 R te p):DT R te (cq p):=by
 intro u ρ b Z H O d w s e Q k;refine ob e λc a e=>?_;cases e;exact h w.zd s a λg=>k ⇑(g.widen w) (g.slots w.zd s)
@[simp] def pC(d:D)(ρ:Rh):Option D:=some d
abbrev pI(i:Int):PF:=pC<|.int i
abbrev pS(l:List Nat):PF:=pC<|.str l
def Ad:PB R (yj i) (pV i):=by
 intro u w Z H O d z s e Q k;unfold pV at e;split at e
 ·rename_i c a;cases (e);let[A,P,B,rfl,b,_]:=s.put (L9.mp a).1;let[v,f,r]:=b d a;exact#v[v,f,k (Go.id z) r]
 ·cases e
def l6(a:∀ Z H,bK R Z H d v []):PP R (tC v) (pC d):=by
 intro u w Z H O b z s e Q k;cases e;exact k (Go.id z)<|a Z H
def bK.int_mk:bK R Z H (.int i) (.int i) []:=by rw[bK];exact#v[rfl,rfl]
def bK.str_mk:bK R Z H (.str s) (.str<|S s) []:=by rw[bK];exact#v[rfl,rfl]
def bK.non_mk:bK R Z H .non .non []:=by rw[bK];exact#v[rfl,rfl]
def bK.int_of(r:bK R Z H (.int i) v O):v=.int i/\O=[]:=by rw[bK] at r;exact r
def bK.str_of(r:bK R Z H (.str s) v O):v=.str (S s)/\O=[]:=by rw[bK] at r;exact r
def bK.non_of(r:bK R Z H .non v O):v=.non/\O=[]:=by rw[bK] at r;exact r
def BO(R:RC)(r:R2)(g:D->D->Option D):Prop:=∀{Z}{H}{x y d}{v u}{O1 O2},Zd Z H->bK R Z H x v O1->bK R Z H y u O2->g x y=some d ->
 ∀{Q},(∀{w}{Z'}{H'}{P},Go Z H [] Z' H' P->bK R Z' H' d w P->Q w H')->r v u H Q
def nH(R:RC)(r:R2)(g:D->D->Option D):Prop:=∀{Z}{H}{x y d}{v u}{O1 O2},Zd Z H->bK R Z H x v O1->bK R Z H y u O2->g x y=some d ->
 ∀{Q},(∀{w}{P},bK R Z H d w P->Q w H)->r v u H Q
def BU(R:RC)(r:V->Hp->VK->Prop)(g:D->Option D):Prop:=∀{Z}{H}{x d}{v}{O},Zd Z H->bK R Z H x v O->g x=some d ->
 ∀{Q},(∀{w}{Z'}{H'}{P},Go Z H [] Z' H' P->bK R Z' H' d w P->Q w H')->r v H Q
def BC(R:RC)(r:List V->Hp->VK->Prop)(g:List D->Option D):Prop:=∀{Z}{H}{xs}{d}{vs}{O},Zd Z H->a_ R Z H xs vs O->g xs=some d ->
 ∀{Q},(∀{w}{Z'}{H'}{P},Go Z H [] Z' H' P->bK R Z' H' d w P->Q w H')->r vs H Q
@[simp] def p2(G:D->D->Option D)(pa:PF)(pb:PF)(ρ:Rh):Option D:=(pa ρ).bind λx=>(pb ρ).bind λy=>G x y
@[simp] def p1(G:D->Option D)(pa:PF)(s:Rh):Option D:=(pa s).bind G
def KZ(b:BO R r g)(c:PB R ta pa)(f:PB R tb pb):PP R (cT r ta tb) (p2 g pa pb):=by
 intro w U Z H O d z s e Q k;exact ob e λx h e=>ob e λy e2 e=>(c z s h λ{v l m n} a r1=>(f a.wf.zd (a.slots z s) e2 λ{u o p q} g2 i=>(b g2.wf.zd (g2.rep a.wf.zd r1) i e λg3 j=>k ((a.pair g2).pair g3) j)))
@[simp] def pN(ρ:Rh):Option (List D):=some []
@[simp] def ja(pa:PF)(p:cF)(ρ:Rh):Option (List D):=(pa ρ).bind λx=>(p ρ).bind λxs=>some<|x::xs
def e_:f7 R YC pN:=by
 intro u v Z H O d z s e Q k;cases e;exact k (Go.id z) a_.empty
def FM(b:PP R ta pa)(c:f7 R tr pr):f7 R (jS ta tr) (ja pa pr):=by
 intro w y Z H O d z s e Q k;refine ob e λx f e=>ob e λh e2 e=>?_;cases e;exact b z s f λ{v i j l} a r1=>(c a.wf.zd (a.slots z s) e2 λ{u m n o} g2 g=>(k (a.pair g2)<|.cons (g2.rep a.wf.zd r1) g))
def Ae:i0 R YC pN:=e_.b
@[simp] def bZ(G:List D->Option D)(p:cF)(ρ:Rh):Option D:=(p ρ).bind G
def rm(b:BC R r g)(c:i0 R ta pa):PP R (f1 r ta) (bZ g pa):=by
 intro u w Z H O d z s e Q k;exact ob e λx f e=>(c z s f λ{v i j l} a r1=>b a.wf.zd r1 e λg3 h=>k ⇑(a.pair g3) h)
def bW(n:Nat):Bool:=decide<|n<=100000
def Jz(h:bW n=true):n<=sizeLine:=N8 (X7 h) (by decide)
def YB(h:bW n=true):n<sizeLine:=E4 (X7 h) (by decide)
@[simp] def yH(p:cF)(ρ:Rh):Option D:=(p ρ).bind λxs=>bif bW xs.length then some (.tup xs) else none
@[simp] def YK(p:cF)(s:Rh):Option D:=(p s).bind λxs=>bif bW xs.length then some (.lst true xs) else none
@[simp] def jt(pa:PF)(s:Rh):Option Bool:=(pa s).bind iV
@[simp] def fQ(q:eq)(q':eq)(s:Rh):Option Bool:=(q s).bind λb=>bif b then q' s else some false
@[simp] def Af(q:eq)(q':eq)(s:Rh):Option Bool:=(q s).bind λb=>bif b then some true else q' s
@[simp] def ro(q:eq)(s:Rh):Option Bool:=(q s).bind λb=>some<|!b
def Ag(a:PB R ta pa):f8 R (zY ta) (jt pa):=by
 intro u w Z H O b z s e Q k;refine ob e λx c e=>?_;cases wJ e;refine a z s c λ{v f g h} d r1=>?_;let[rfl,rfl]:=r1.bl_of;exact#v[b,rfl,k d]
@[simp] def i3(pa:PF)(pb:PF)(s:Rh):Option D:=(pa s).bind λd=>(iV d).bind λb=>bif b then pb s else some (.bl false)
@[simp] def Ah(pa:PF)(s:Rh):Option D:=(pa s).bind λd=>(iV d).bind λb=>some<|.bl<|!b
@[simp] def f9(q:eq)(pa:PF)(pb:PF)(s:Rh):Option D:=(q s).bind λb=>bif b then pa s else pb s
def l7(R:RC)(J:It)(Z:Zn)(H:Hp)(xs:List D):Prop:=∀{Z1}{H1},(∀ a,Z a->Z1 a)->(∀ a,Z a->H1 a=H a)->Zd Z1 H1->∀ i:Nat,
 (xs.length<=i->J.stop i H1)/\∀ x,xs[i]?=some x->J.go i H1/\∀ u H2,J.yld i H1 u H2->∃ Z2,Go Z1 H1 [] Z2 H2 []/\bK R Z2 H2 x u []
def gu(R:RC)(wi:TI)(p:cF):Prop:=∀{s}{u}{Z}{H}{O}{xs},Zd Z H->Slots R Z H u s O->p u=some xs ->
 ∀{Q:It->Hp->Prop},(∀{J}{Z'}{H'},Go Z H [] Z' H' []->l7 R J Z' H' xs->Q J H')->wi s H Q
def io(K:W4)(tl:TE):TI:=λs H Q=>tl s H λx H1=>
 (∃ a,x=.ref a/\(∃ xs,ck K H1 a xs)/\Q (oZ K a) H1)\/(∃ a,x=.ref a/\(∃ xs,cJ K H1 a xs)/\Q (o_ K a) H1) \/ ∃ l,x=.str (S l)/\Q (nk l) H1
def rx(z:PE X l tl):PI X tg l (io X.K tl):=by
 intro c s U H Q I h;have m:∀ v s1,EP X c U (λx f=>(∃ a,x=.ref a/\(∃ g,ck X.K f a g)/\Q (oZ X.K a) f)\/(∃ a,x=.ref a/\(∃ g,cJ X.K f a g)/\Q (o_ X.K a) f) \/ ∃ l,x=.str (S l)/\Q (nk l) f) v s1->wpAny (model X.prog X.w) X.A (pyIter v) (lM X c U tg Q) X.xe s1:=by
  rintro v s1 ⟨x,f,d,r1,B⟩;rcases B with⟨a,rfl,⟨g,n⟩,q⟩ | ⟨a,rfl,⟨g,n⟩,q⟩ | ⟨l,rfl,q⟩
  ·cases r1;let[r,C,p,D]:=d.list n;refine wpAny_pyIter_list p.isList #v[↥s1,[↥s1],_,_,f,rfl,d.kept λb o e=>L8 _ e,Dg a _,#v[_,E3 _ rfl,rfl,rfl],λb j=>?_,q];have e:b=↥s1:=by simpa using j
   subst e;exact d.fpOk (N0 _)<|d.hok.fresh<|N0 _
  ·cases r1;let[r,C,p,D]:=d.tuple n;refine wpAny_pyIter_tuple (p) #v[↥s1,[↥s1],_,_,f,rfl,d.kept λb o e=>L8 _ e,Dh a _,#v[_,E3 _ rfl,rfl,rfl],λb j=>?_,q];have e:b=↥s1:=by simpa using j
   subst e;exact d.fpOk (N0 _)<|d.hok.fresh<|N0 _
  ·let[t,rfl]:=r1;have k:∀ ty,(ty = "str_ascii_iterator" \/ ty = "str_iterator")->(∀ A:Around,A.handled=none->Walks X.prog X.w A ↥s1 [↥s1] [↥s1] (S l).cps.size (SignAt<|S l) (λi h=>h.IsStrIter ↥s1 ty (S l) t i)) ->
     lM X c U tg Q (.ref ↥s1) { s1 with heap:=s1.heap.push {cls:=.type ty,data:=.fields #[.str (S l) t,.int 0 0]} }:=λty u W=>by
    refine#v[↥s1,[↥s1],_,_,f,rfl,d.kept λb o e=>L8 _ e,Eh _ l t ty u W,#v[_,E3 _ rfl,rfl,rfl],λb j=>?_,q];have e:b=↥s1:=by simpa using j
    subst e;exact d.fpOk (N0 _)<|d.hok.fresh<|N0 _
   cases ha:(S l).cps.all (· < 128)
   ·exact wpAny_pyIter_wide ha<|k _ (.inr rfl) λE y=>Walks.strWide y _ (S l) t
   ·exact wpAny_pyIter_ascii ha<|k _ (.inl rfl) λE y=>Walks.strAscii y _ (S l) t
 exact thn (z c s U H _ I h) m
def KQ:D->Option (List D)
 | .lst _ l=>some<|bV l
 | .tup l=>some<|bV l
 | .str s=>some<|s.map λc=>.str [c]
 | _=>none
@[simp] def dQ(pa:PF)(s:Rh):Option (List D):=(pa s).bind KQ
def Ai:l7 R (nk s) Z H (s.map λc=>.str [c]):=by
 intro d g h j zd i;refine#v[λhi=>by show s.length<=i;simpa using hi,λx a=>?_];rw[List.getElem?_map] at a;cases e:s[i]? with
 | none=>rw[e] at a;cases a
 | some c=>
  rw[e] at a;cases a;refine#v[(L9.mp e).1,λu k f=>?_];let[rfl,l,b,rfl]:=f;rw[e] at b;cases b;exact#v[d,Go.id zd,.str_mk]
def Go.fz(g:Go Z H [] Z' H' P):Go Z H [] (λa=>Z' a\/a∈P) H' []:=g.trans<|Go.freeze g.wf
def FN(h:PP R te p):gu R (io R.K te) (dQ p):=by
 intro U W Z H O G z s e Q k;refine ob e λd D e=>(h z s D λ{v f B E} r r1=>?_);have C:=r1.freeze (Z':=λa=>f a\/a∈E) (λa z=>.inl z) λa z=>.inr z;cases d with
 | lst o l=>
  cases e;let[a,vs,I,rfl,g,j,rfl,_]:=C;exact .inl #v[a,rfl,#v[vs,FL.sq j],k r.fz ((by
    intro f B m n zd i;have b:=(j.frame m n).sq;refine#v[λhi=>#v[vs,b,by rw[g.length];exact hi],λx w=>?_];let[v,q,y]:=(g.frame m n λa A=>(nomatch A)).item w;refine#v[#v[vs,v,b,q],λu F c=>?_];let[rfl,c]:=c;have e:=c vs b;rw[q] at e;cases e;exact#v[f,Go.id zd,y]))]
 | tup l=>
  cases e;let[a,vs,rfl,j,g]:=C;exact .inr (.inl #v[a,rfl,#v[vs,FT.sq j],k r.fz ((by
    intro f B m n zd i;have b:=(j.frame m n).sq;refine#v[λhi=>#v[vs,b,by rw[g.length];exact hi],λx w=>?_];let[v,q,y]:=(g.frame m n λa A=>(nomatch A)).item w;refine#v[#v[vs,v,b,q],λu F c=>?_];let[rfl,c]:=c;have e:=c vs b;rw[q] at e;cases e;exact#v[f,Go.id zd,y]))])
 | str t=>
  cases e;let[rfl,rfl]:=r1.str_of;exact .inr<|.inr #v[t,rfl,k r Ai]
 | _=>cases e
def qp(lo:Int)(n:Nat):List D:=(List.range n).map λ(i:Nat)=>D.int<|lo+(i:Int)
def Aj:l7 R (pq lo n) Z H (qp lo n):=by
 intro b d e f zd i;refine#v[λhi=>by show n<=i;simpa [qp] using hi,λx a=>?_];unfold qp at a;rw[List.getElem?_map] at a;by_cases hi:i<n
 ·rw[List.getElem?_range hi] at a;cases a;refine#v[hi,λu g c=>?_];let[rfl,rfl]:=c;exact#v[b,Go.id zd,.int_mk]
 ·rw[List.getElem?_eq_none ⇑hi] at a;cases a
def Vg(i:Int):Bool:=Nat.ble i.natAbs 4611686018427387903
def qJ(h:Vg i=true):-(2 ^ 62)<=i/\i<2 ^ 62:=by
 have h:=Nat.le_of_ble_eq_true h;constructor<;>lia
def KH(l:List D):Option (List D):=(ux l).bind λx=>(yS x).bind λj=>bif Vg j then some (qp 0 j.toNat) else none
@[simp] def ql(p:cF)(s:Rh):Option (List D):=(p s).bind KH
def a_.one_of(r:a_ R Z H [d] vs O):∃ v,vs=[v]/\bK R Z H d v O:=by
 let[v,a,c,e,rfl,rfl,r1,b]:=r;let[rfl,rfl]:=b;exact#v[v,rfl,by simpa using r1]
def a_.two_of(r:a_ R Z H [d,e] vs O):fA λv u O1 O2=>d8 (vs=[v,u]) (O=O1++O2) (bK R Z H d v O1) (bK R Z H e u O2):=by
 let[v,a,O1,O2,rfl,rfl,r1,b]:=r;let[u,rfl,c]:=b.one_of;exact#v[v,u,O1,O2,rfl,rfl,r1,c]
def gR(R:RC)(pm:List Nat)(tg:TG)(f:D->Rh->Option Rh):Prop:=∀{s}{u ρ'}{Z}{H}{O}{d}{v},bK R Z H d v []->Slots R Z H u s O->f d u=some ρ' ->
 ∀{Q:St->Hp->Prop},(∀{σ'}{O'},(∀ a∈O',a∈O)->(O.Nodup->O'.Nodup)->Slots R Z H ρ' σ' O'->bX pm s σ'->Q σ' H)->tg v s H Q
def rA(R:RC)(pm:List Nat)(tg:ii)(f:List D->Rh->Option Rh):Prop:=∀{s}{u ρ'}{Z}{H}{O}{ds}{vs},a_ R Z H ds vs []->Slots R Z H u s O->f ds u=some ρ' ->
 ∀{Q:St->Hp->Prop},(∀{σ'}{O'},(∀ a∈O',a∈O)->(O.Nodup->O'.Nodup)->Slots R Z H ρ' σ' O'->bX pm s σ'->Q σ' H)->tg vs s H Q
def FO:gR R pm (vJ i) (jc pm i):=by
 intro s u f Z H O d v r h e Q k;unfold jc at e;by_cases hi:i<u.length
 ·by_cases b:i∈pm
  ·lia
  ·rw[X5 hi,X6 b] at e;cases e;let[A,g,B,rfl,j,c,l]:=h.put hi;refine k (λa q=>?_) (λnd=>?_) (c r (λ_ z=>z) (λ_ _=>rfl) (λ_ _=>rfl)<|λ_ _=>rfl)<|bX.set b
   ·simp at q ⊢;rcases q with q | q<;>simp[q]
   ·grind
 ·lia
def FP:rA R pm ge gN:=by
 intro s u c Z H O b vs r h e Q k;cases b with
 | cons _ _=>cases e
 | nil=>
  cases e;let[rfl,_]:=r;exact#v[rfl,k (λa h=>h) (λh=>h) h<|bX.refl _ _]
def FQ(f:rA R pm u gs):gR R pm (f0 R.K n u) (gT n gs):=by
 intro s w i Z H O d v r h e Q k;cases d with
 | tup l=>
  unfold gT at e;dsimp only at e;by_cases b:l.length=n
  ·rw[X5 b,cond_true] at e;let[a,vs,rfl,g,c]:=r;exact#v[a,vs,rfl,g.sq,by rw[c.length];exact b,f c h e k]
  ·lia
 | _=>cases e
def jY(g:D->Rh->Option Rh)(f:FS):List D->FS
 | [],ρ=>some<|.nx ρ
 | x::xs,ρ=>(g x ρ).bind λr=>(f r).bind λo=>o.loop<|jY g f xs
@[simp] def qu(p:cF)(G:D->Rh->Option Rh)(f:FS)(s:Rh):Option cf:=(p s).bind λxs=>jY G f xs s
def qP{l:List s}{i}(h:l[i]?=some x):l.drop i=x::l.drop (i+1):=by
 let[hi,rfl]:=L9.mp h;exact List.drop_eq_getElem_cons hi
inductive rB (R:RC) (pm:List Nat) (g:D->Rh->Option Rh) (f:FS) (s:L2.St) (Z0:Zn) (H0:Hp) (O:W5) (xs:List D) (o:cf) (i m:Nat) (σ':L2.St) (H':Hp):Prop
 | mk:m=xs.length-i->i<=xs.length->∀(ρ':Rh) (Z':Zn) (O':W5),Go Z0 H0 O Z' H' O'->Slots R Z' H' ρ' σ' O'->bX pm s σ'->jY g f (xs.drop i) ρ'=some o->rB R pm g f s Z0 H0 O xs o i m σ' H'
def FR(hi:gu R wi p)(M:gR R pm tg g)(N:DS R pm tb f):DS R pm (lO wi tg tb) (qu p g f):=by
 intro σ ρ Z H O o w s e D' k;refine ob e λc P e=>(hi w.zd s P λ{J y B} I Q=>?_);have a:Go Z H O y B O:=by simpa using I.widen w
 refine#v[rB R pm g f σ y B O c o,
  ⟨c.length,rfl,U7 _,ρ,y,O,Go.refl a.wf,I.slots w.zd s,bX.refl _ _,e⟩,?_]
 rintro i m σ' S ⟨rfl,T,ρ',U,K,h,s1,kp,e2⟩;have r:=Q h.zz (h.zH a.wf) h.wf.zd i;by_cases C:i<c.length
 ·right
  have L:c[i]?=some c[i]:=by simp
  let[go,V]:=r.2 _ L;rw[qP L] at e2;refine ob e2 λρ1 e3 e2=>ob e2 λW X e2=>#v[go,λD n=>∃ b q z,Go y B O q n z/\Slots R q n b D z/\bX pm σ D/\jY g f (c.drop<|i+1) b=some o,λD n ⟨b,q,z,Y,a2,a3,a4⟩=>#v[c.length-(i+1),by lia,rfl,C,b,q,z,Y,a2,a3,a4],λu n hy=>?_];let[q,g2,r2]:=V u n hy;have t:Go U S K q n K:=by simpa using g2.widen h.wf
  refine M r2 (g2.slots h.wf.zd s1) e3 λ{σ3 O3} sub nd s3 A=>?_;have g3:=(h.trans t).drop sub (nd t.wf.nd);refine N g3.wf s3 X ?_;cases W with
  | nx b=>exact λ{E v F x} g4 j l=>#v[b,v,x,g3.trans g4,j,kp.trans<|A.trans l,e2]
  | ct b=>exact λ{E v F x} g4 j l=>#v[b,v,x,g3.trans g4,j,kp.trans<|A.trans l,e2]
  | bk b=>cases e2;exact λ{E v F x} g4 j l=>k (a.trans<|g3.trans g4) j<|kp.trans<|A.trans l
  | rt d b=>cases e2;exact λ{v4 E v F P4 x} g4 r4 j l=>k (a.trans<|g3.trans g4) r4 j<|kp.trans<|A.trans l
 ·left
  have G:i=c.length:=by lia
  refine#v[r.1 ∅,?_];rw[G,List.drop_length] at e2;cases e2;exact k (a.trans h) s1 kp
def jq(ix:List<|Option Nat)(s:Rh):Rh:=ix.map λo=>o.bind λj=>(s[j]?).join
def Vu(s:Slots R Z H w u O):∀ ix:List (Option Nat),∃ O',Slots R Z H (jq ix w) (yw ix u) O':=by
 intro ix
 induction ix with
 | nil=>
  exact#v[[],rfl,rfl]
 | cons o ix a=>
  let[O',a]:=a;show ∃ O',Slots R Z H ((o.bind λj=>(w[j]?).join)::jq ix w) ((o.bind λj=>(u[j]?).join)::yw ix u) O';cases e:o.bind λj=>(w[j]?).join with
  | none=>exact#v[O',_,_,rfl,a]
  | some d=>
   cases o with
   | none=>cases e
   | some j=>
    have f:(w[j]?).join=some d:=e;have e2:w[j]?=some (some d):=by grind
    let[A,P,B,_,b,_]:=s.put (L9.mp e2).1;let[v,c,r]:=b d e2;refine#v[P++O',v,_,P,O',?_,rfl,r,a];show((u[j]?).join::yw ix u)=some v::yw ix u;rw[c];rfl
@[simp] def qT(ρ:Rh):Option Bool:=some true
def jU(g:D->Rh->Option Rh)(q:eq)(p:PF):List D->Rh->Option (List D)
 | [],_=>some []
 | x::xs,s=>(g x s).bind λρ1=>(q ρ1).bind λb=>bif b then((p ρ1).bind λy=>(jU g q p xs ρ1).bind λys=>some<|y::ys) else jU g q p xs ρ1
@[simp] def yi(pi:cF)(G:D->Rh->Option Rh)(q:eq)(pa:PF)(ix:List<|Option Nat)(ρ:Rh):Option D:=(pi ρ).bind λxs=>bif bW xs.length then((jU G q pa xs<|jq ix ρ).bind λys=>some<|.lst true ys) else none
def dn(R:RC)(m:List D->Option D)(n:Nat):Sp:=λvs H Q _=>∃ Z ds d,Zd Z H/\ds.length=n/\a_ R Z H ds vs []/\m ds=some d/\∀{v}{Z'}{H'}{P},Go Z H [] Z' H' P->bK R Z' H' d v P->Q v H'
def cH(n:Nat)(f:FS)(ds:List D):Option D:=(f<|ds.map some++List.replicate (n-ds.length) none).bind cf.val
theorem Yb:∀ n:Nat,Slots R Z H (List.replicate n none) (List.replicate n none) []
 | 0=>#v[rfl,rfl]
 | n+1=>#v[none,_,rfl,Yb n]
theorem Yu:∀{ds}{vs}{O}{w}{u}{P},a_ R Z H ds vs O->Slots R Z H w u P->Slots R Z H (ds.map some++w) (vs.map some++u) (O++P)
 | [],_,_,_,_,_,r,s=>by rw[a_] at r;let[rfl,rfl]:=r;exact s
 | d::ds,_,_,_,_,_,r,s=>by
  let[v,a,b,e,rfl,rfl,r1,c]:=r;exact#v[v,_,b,_,rfl,List.append_assoc ..,r1,Yu c s]
def FU(b:DS R [] ts f)(h:dn R (cH N.length f) n vs H Q E):ts {nx:=λ_ H'=>Q .non H',rt:=Q} (L2.cr N vs) H:=by
 let[Z,a,d,z,l,r,e,k]:=h;have s:Slots R Z H (a.map some++List.replicate (N.length-a.length) none) (L2.cr N vs) []:=by
  unfold L2.cr;rw[r.length];exact(Yu r<|Yb<|N.length-a.length)
 refine ob e λo c e=>?_;cases o with
 | rt m i=>cases e;exact b (cS z) s c λg j _ _=>k g.dropR j
 | nx i=>cases e;exact b (cS z) s c λg _ _=>k g.to0 .non_mk
 | _=>cases e
mutual
def vz:D->Bool
 | .tup l=>yh l
 | .lst o l=>o&&yh l
 | .dK o _ l=>o&&yh l
 | .dT o _ l=>o&&yh l
 | .ins o _ _ l=>o&&yh l
 | .non=>true | .bl _=>true | .int _=>true | .str _=>true | .dead=>true | .tok _=>true | .kt _=>false | .exc _ _=>false
def yh:List D->Bool
 | []=>true
 | d::l=>vz d&&yh l
end
mutual
theorem bK.thaw(ht:∀ a vs,Z a->Rd H a (.tup vs)->Z' a):∀{d:D}{v:V}{O:W5},bK R Z H d v O->vz d=true->bK R Z' H d v O
 | .non,_,_,h,_=>by rw[bK] at h ⊢;exact h
 | .bl _,_,_,h,_=>by rw[bK] at h ⊢;exact h
 | .int _,_,_,h,_=>by rw[bK] at h ⊢;exact h
 | .str _,_,_,h,_=>by rw[bK] at h ⊢;exact h
 | .dead,_,_,h,_=>by rw[bK] at h ⊢;exact h
 | .tok _,_,_,h,_=>by rw[bK] at h ⊢;exact h
 | .kt _,_,_,_,f=>by rw[vz] at f;cases f
 | .exc _ _,_,_,_,f=>by rw[vz] at f;cases f
 | .tup l,_,_,h,f=>by
  rw[bK] at h ⊢;rw[vz] at f;let[a,vs,e,t,r]:=h;refine#v[a,vs,e,?_,a_.thaw ht r f];rcases t with⟨z,q⟩ | q
  ·exact .inl #v[ht a vs z q,q]
  ·exact .inr q
 | .lst o l,_,_,h,f=>by
  rw[bK] at h ⊢;rw[vz,M0] at f;let[a,vs,O',e,r,h]:=h;cases f.1;exact#v[a,vs,O',e,a_.thaw ht r f.2,h]
 | .dK o ks l,_,_,h,f=>by
  rw[bK] at h ⊢;rw[vz,M0] at f;let[a,vs,O',e,r,h]:=h;cases f.1;exact#v[a,vs,O',e,a_.thaw ht r f.2,h]
 | .dT o ks l,_,_,h,f=>by
  rw[bK] at h ⊢;rw[vz,M0] at f;let[a,vs,O',e,r,h]:=h;cases f.1;exact#v[a,vs,O',e,a_.thaw ht r f.2,h]
 | .ins o c ns l,_,_,h,f=>by
  rw[bK] at h ⊢;rw[vz,M0] at f;let[a,dx,vs,O',e,r,h]:=h;cases f.1;exact#v[a,dx,vs,O',e,a_.thaw ht r f.2,h]
theorem a_.thaw(ht:∀ a vs,Z a->Rd H a (.tup vs)->Z' a):∀{l:List D}{vs:List V}{O:W5},a_ R Z H l vs O->yh l=true->a_ R Z' H l vs O
 | [],_,_,h,_=>by rw[a_] at h ⊢;exact h
 | d::l,_,_,h,f=>by
  rw[a_] at h ⊢;rw[yh,M0] at f;let[v,vs,O1,O2,e,rfl,r1,r2]:=h;exact#v[v,vs,O1,O2,e,rfl,bK.thaw ht r1 f.1,a_.thaw ht r2 f.2]
end
mutual
theorem bK.notTup:∀{d:D}{v:V}{O:W5},bK R Z H d v O->∀ a∈O,∀ vs,¬ Rd H a (.tup vs)
 | .non,_,_,h,a,ha=>by rw[bK] at h;rw[h.2] at ha;cases ha
 | .bl _,_,_,h,a,ha=>by rw[bK] at h;rw[h.2] at ha;cases ha
 | .int _,_,_,h,a,ha=>by rw[bK] at h;rw[h.2] at ha;cases ha
 | .str _,_,_,h,a,ha=>by rw[bK] at h;rw[h.2] at ha;cases ha
 | .dead,_,_,h,a,ha=>by rw[bK] at h;rw[h] at ha;cases ha
 | .tok _,_,_,h,a,ha=>by rw[bK] at h;rw[h.2] at ha;cases ha
 | .kt _,_,_,h,a,ha=>by rw[bK] at h;let[_,_,_,_,h]:=h;rw[h] at ha;cases ha
 | .exc _ _,_,_,h,a,ha=>by rw[bK] at h;let[_,_,_,_,_,_,_,h]:=h;rw[h] at ha;cases ha
 | .tup l,_,_,h,a,ha=>by
  rw[bK] at h;let[b,vs,e,t,r]:=h;exact a_.notTup r a ha
 | .lst o l,_,_,h,a,ha=>by
  rw[bK] at h;let[b,vs,O',e,r,h]:=h;cases o with
  | true=>
   let[h1,rfl]:=h;rcases M5.mp ha with e | e
   ·subst e;rintro ws (q | ⟨_,q⟩)<;>rw[h1] at q<;>cases q
   ·exact a_.notTup r a e
  | false=>rw[h.2.2] at ha;cases ha
 | .dK o ks l,_,_,h,a,ha=>by
  rw[bK] at h;let[b,vs,O',e,r,hl,hd,h]:=h;cases o with
  | true=>
   have h:=(show _=_ from h);subst h;rcases M5.mp ha with e | e
   ·subst e;rintro ws (q | ⟨_,q⟩)<;>rw[hd] at q<;>cases q
   ·exact a_.notTup r a e
  | false=>rw[h.2.2] at ha;cases ha
 | .dT o ks l,_,_,h,a,ha=>by
  rw[bK] at h;let[b,vs,O',e,r,hl,hd,h]:=h;cases o with
  | true=>
   have h:=(show _=_ from h);subst h;rcases M5.mp ha with e | e
   ·subst e;rintro ws (q | ⟨_,q⟩)<;>rw[hd] at q<;>cases q
   ·exact a_.notTup r a e
  | false=>rw[h.2.2] at ha;cases ha
 | .ins o c ns l,_,_,h,a,ha=>by
  rw[bK] at h;let[b,dx,vs,O',e,r,hl,hd,h]:=h;cases o with
  | true=>
   have h:=(show _=_ from h);subst h;rcases M5.mp ha with e | e
   ·subst e;rintro ws (q | ⟨_,q⟩)<;>rw[hd] at q<;>cases q
   ·exact a_.notTup r a e
  | false=>rw[h.2.2] at ha;cases ha
theorem a_.notTup:∀{l:List D}{vs:List V}{O:W5},a_ R Z H l vs O->∀ a∈O,∀ vs,¬ Rd H a (.tup vs)
 | [],_,_,h,a,ha=>by rw[a_] at h;rw[h.2] at ha;cases ha
 | d::l,_,_,h,a,ha=>by
  rw[a_] at h;let[v,vs,O1,O2,e,rfl,r1,r2]:=h;rcases N3.mp ha with q | q
  ·exact bK.notTup r1 a q
  ·exact a_.notTup r2 a q
end
@[simp] def js(m:List D->Option D)(p:cF)(s:Rh):Option D:=(p s).bind λds=>(m<|bV ds).bind λd=>bif frzs ds||vz d then some d else none
def vX(l):(bV l).length=l.length:=by rw[kQ,L1]
def Ak(f:Zd Z H)(r1:a_ R Z H ds vs P1)(g:ds.length=n)(e2:m (bV ds)=some d)(b:(frzs ds||vz d)=true)
  (k:∀{v}{Z'}{H'}{P},Go Z H [] Z' H' P->bK R Z' H' d v P->Q v H'):dn R m n (vs++[]) H Q E:=by
 refine#v[λa=>Z a\/a∈P1,bV ds,d,λa h=>h.elim (f a)<|r1.dom a,by rw[vX];exact g,by rw[N1];exact r1.freeze (λa z=>.inl z) λa z=>.inr z,e2,λ{v Z' H' P} g2 c=>?_];rw[Bool.or_eq_true] at b;rcases b with b | b
 ·cases r1.nil b;exact k #v[g2.wf,λa z=>g2.zz a<|.inl z,g2.fr,λa z=>(g2.zn a z).imp (λq=>q.resolve_right<|λq=>(nomatch q)) id,g2.sub,g2.dm] c
 ·refine k (Z':=λa=>Z' a/\(a∉P1\/Z a)) #v[#v[g2.wf.nd,λa h q=>g2.wf.nz a h q.1,g2.wf.od,λa q=>g2.wf.zd a q.1],λa z=>#v[g2.zz a<|.inl z,.inr z],g2.fr,λa z=>?_,g2.sub,g2.dm]<|c.thaw (λa ws za i=>#v[za,?_]) b
  ·rcases g2.zn a z.1 with(q | q) | q
   ·lia
   ·lia
   ·lia
  ·by_cases e:a∈P1
   ·exact absurd (Rd.agree (g2.same a<|r1.dom a e).symm i)<|r1.notTup a e ws
   ·lia
def Al(f:i0 R ta p)(g:∀ v ds,p v=some ds->ds.length=n):PP R (Vr (dn R m n) [] E0 ta) (js m p):=by
 intro u v Z H O d z s e Q k;refine ob e λds a e=>ob e λc e2 e=>oc e λh e=>?_;cases e;exact f z s a λb r1=>Ak b.wf.zd r1 (g v ds a) e2 h λg2 i=>k ⇑(b.pair g2) i
@[simp] def cU(i:Nat)(f:FS)(s:Rh):Option cf:=match pV i s with | some d=>f (s.set i<|some<|fz d) | none=>f s
def K7{l m:W5}(h:∀ c,l.count c<=m.count c)(n:m.Nodup):l.Nodup:=List.nodup_iff_count.mpr λc=>N8 (h c)<|List.nodup_iff_count.mp n c
def rC{l m:W5}(h:∀ c,l.count c<=m.count c):∀ c∈l,c∈m:=λc a=>List.count_pos_iff.mp<|U6 (List.count_pos_iff.mpr a)<|h c
def Go.at(g:Go Z H O Z' H' P)(b:a∉O)(h:H a=some o):H' a=some o:=(g.fr a ∅ b).trans h
def Go.at0(g:Go Z H [] Z' H' P)(h:H a=some o):H' a=some o:=g.at (λz=>nomatch z) h
noncomputable abbrev Ln:=D->Option (D×(D->D))
inductive Am (R:RC) (Z:Zn) (H:Hp) (u:Rh) (s:L2.St) (O:W5) (tb:TE) (i:Nat) (x:D) (k:D->D):Prop
 | mk:∀(v:V) (A P B:W5),O=A++P++B->bK R Z H x v P->(∀{Q:VK},Q v H->tb s H Q) ->
  (∀{Z':Zn}{H':Hp}{x':D}{P':W5},bK R Z' H' x' v P'->(∀ a,Z a->Z' a)->(∀ a,Z a->H' a=H a)->(∀ a∈A,H' a=H a)->(∀ a∈B,H' a=H a)->Slots R Z' H' (u.set i<|some<|k x') s (A++P'++B))->Am R Z H u s O tb i x k
def i4(R:RC)(tb:TE)(i:Nat)(L:Ln):Prop:=∀{s}{u}{Z}{H}{O}{d x}{k},Slots R Z H u s O->u[i]?=some (some d)->L d=some (x,k)->Am R Z H u s O tb i x k
def kR:Ln:=λd=>some (d,λx=>x)
def Ju:i4 R (yj i) i kR:=by
 intro u w Z H O d x k s h e;cases e;let[A,P,B,rfl,b,c,_]:=s.put (L9.mp h).1;let[v,a,r]:=b _ h;refine#v[v,A,P,B,rfl,r,λq=>#v[v,a,q],λf g j l m=>?_];have q:=c f g j l m;rw[yK a] at q;exact q
inductive An (R:RC) (Z:Zn) (H:Hp) (l:List D) (sh:Addr->List V->HO) (sd:Prop) (v:V) (O:W5):Prop
 | mk:∀(a dx:Addr) (vs:List V) (O':W5),v=.ref a->a_ R Z H l vs O'->sd->H a=some (sh dx vs)->O=a::O'->An R Z H l sh sd v O
def i5(R:RC)(T:D)(l:List D)(sh:Addr->List V->HO)(sd:Prop):Prop:=∀{Z}{H}{v}{O},bK R Z H T v O↔An R Z H l sh sd v O
def YD:i5 R (.lst true l) l (λ_ vs=>.lst vs) True:=by
 intro Z H v O;exact#v[λh=>by let[a,vs,b,e,c,d,f]:=h;exact#v[a,0,vs,b,e,c,trivial,d,f],λh=>by let[a,_,vs,b,e,c,_,d,f]:=h;exact#v[a,vs,b,e,c,d,f]]
def i6:i5 R (.dK true ks l) l (λ_ vs=>.dK<|(ks.map bR).zip vs) (ks.length=l.length):=by
 intro Z H v O;exact#v[λh=>by let[a,vs,b,e,c,h,d,f]:=h;exact#v[a,0,vs,b,e,c,h,d,f],λh=>by let[a,_,vs,b,e,c,h,d,f]:=h;exact#v[a,vs,b,e,c,h,d,f]]
def nI:i5 R (.dT true ks l) l (λ_ vs=>.dT<|(ks.map<|List.map bR).zip vs) (ks.length=l.length):=by
 intro Z H v O;exact#v[λh=>by let[a,vs,b,e,c,h,d,f]:=h;exact#v[a,0,vs,b,e,c,h,d,f],λh=>by let[a,_,vs,b,e,c,h,d,f]:=h;exact#v[a,vs,b,e,c,h,d,f]]
def dz:i5 R (.ins true c ns l) l (λdx vs=>.ins (R.cls c) dx<|ns.zip vs) (ns.length=l.length):=by
 intro Z H v O;exact#v[λh=>by let[a,dx,vs,b,e,d,h,f,g]:=h;exact#v[a,dx,vs,b,e,d,h,f,g],λh=>by let[a,dx,vs,b,e,d,h,f,g]:=h;exact#v[a,dx,vs,b,e,d,h,f,g]]
def qU{R}{Z}{H}{C:Prop}{Y}{ρ}{O P0}{i}{tb}{L}{t y}{o}{l}{p}{u}(F:i4 R tb i L)(w:WF Z H<|P0++O)(s:Slots R Z H ρ Y O)(hi:pV i ρ=some t)(e:L t=some (y,o))(G:i5 R y l p u)
  (k:∀ a dx vs O',a_ R Z H l vs O'->u->H a=some (p dx vs)->(∀{Q},Q (.ref a) H->tb Y H Q)->(∀{O2 P1}{Z2}{H2}{x'}{l'}{vs'}{sh':Addr->List V->HO}{sd'},i5 R x' l' sh' sd'->sd'->Go Z H [] Z2 H2 P1->a_ R Z2 H2 l' vs' O2->(∀ q,O2.count q<=O'.count q+P0.count q+P1.count q) ->
   ∃ O3,Go Z H (P0++O) Z2 (bO H2 a<|sh' dx vs') O3/\Slots R Z2 (bO H2 a<|sh' dx vs') (ρ.set i<|some<|o x') Y O3)->C):C:=by
 let[v,A,P,B,rfl,r,I,J]:=F s (YQ hi) e;let[a,dx,vs,O',rfl,K,hd,M,rfl]:=G.mp r;refine k a dx vs O' K hd M I λ{O2 P1 Z2 H2 x' l' vs' sh' sd'} j n g N d_=>?_;have h:=g.widen w;have nd:=h.wf.nd;have ct:=List.nodup_iff_count.mp nd a;simp only[X0,List.count_cons,if_true] at ct;have pos:∀{m:W5},a∈m->0<m.count a:=List.count_pos_iff.mpr;generalize S:sh' dx vs'=ob;have d:∀ b,Z2 b->bO H2 a ob b=H2 b:=λb c=>je λz=>h.wf.nz a (by simp)<|z▸c;have f:∀ m:List Addr,(∀ b∈m,b∈A++(a::O')++B)->m.count a=0->∀ b∈m,bO H2 a ob b=H b:=λm T W b c=>(je λz=>by subst z;have:=pos c;lia).trans (g.same b<|w.od b<|U5 _<|T b c);have U:=J (j.mpr #v[a,dx,vs',O2,rfl,N.frame (λ_ z=>z) d λb c=>je λz=>by subst z;have:=pos c;have:=d_ b;lia,n,by rw[S];exact jj,rfl]) g.zz (λx D=>(d x<|g.zz x D).trans (g.same x<|w.zd x D)) (f A (λb c=>by simp[c]) ∅)<|f B (λb c=>by simp[c]) ∅;have E:∀ q,(A++(a::O2)++B).count q<=(P1++(P0++(A++(a::O')++B))).count q:=λq=>by
  have:=d_ q;simp only[X0,List.count_cons];lia
 exact#v[_,(h.trans<|Go.put h.wf<|by simp).drop (rC E) (K7 E nd),U]
@[simp] def qt(i:Nat)(L:Ln)(pv:PF)(s:Rh):Option cf:=(pv s).bind λd=>(pV i s).bind λt=>(L t).bind λy=>(xP y.1).bind λl=>bif bW l.length then some (.nx<|s.set i<|some<|y.2<|.lst true<|l++[d]) else none
def Ao{R}{pm}{i}{tb te}{L}{p}(j:i4 R tb i L)(h:PP R te p):DS R pm (Yc<|fF R.K "list" Ys tb<|jS te YC) (qt i L p):=by
 intro U W Z H O o w s e x k;refine ob e λd m e=>ob e λt hi e=>ob e λ⟨y,z⟩ e3 e=>ob e λl n e=>oc e λb e=>?_;cases e;cases YZ n;refine qU (P0:=[]) j w s hi e3 YD λa _ vs A f _ g r put=>r #v[.inl #v[rfl,vs,ck.of g],h w.zd s m λ{u B C D} c r1=>?_];let[E,g3,v]:=put YD trivial c ((c.reps w.zd f).append (.one r1)) λq=>by simp
 exact#v[a,vs,u,rfl,rfl,c.at0 g,by rw[f.length];exact YB b,k g3 v<|bX.refl _ _]
@[simp] def fI(i:Nat)(pa:PF)(s:Rh):Option cf:=(pa s).bind λd=>(pV i s).bind λx=>(xP x).bind λl=>bif bW l.length then some (.nx<|s.set i<|some<|.lst true<|l++[d]) else none
def YF(h:c_ X f r)(h':c_ X f r'):c_ X f (λx y H Q=>r x y H Q\/r' x y H Q):=by
 intro a s w H x y v u Q I b c q;rcases q with q | q
 ·exact h a s w H x y v u Q I b c q
 ·exact h' a s w H x y v u Q I b c q
def bK.lst_of(r:bK R Z H (.lst o l) v O):dF λa vs O'=>cX (v=.ref a) (fk R.K H a vs) (a_ R Z H l vs O'):=by
 let[a,vs,O',rfl,b,h]:=r;cases o with
 | true=>exact#v[a,vs,O',rfl,fk.of h.1,b]
 | false=>exact#v[a,vs,O',rfl,FL.sqx h.1,b]
def bK.tup_of(r:bK R Z H (.tup l) v O):dv λa vs=>cX (v=.ref a) (cJ R.K H a vs) (a_ R Z H l vs O):=by
 let[a,vs,rfl,h,b]:=r;exact#v[a,vs,rfl,h.sq,b]
def a_.frozen(r:a_ R Z H l vs O)(f:frzs l=true):a_ R Z H l vs []:=by
 cases r.nil f;exact r
def l8(i:Int):Bool:=decide<|Builtin.Int.intBits i<=2 ^ 20
def Ap(h:i.natAbs<2 ^ 1000):l8 i=true:=X5<|(N8 (PySem.intBits_le_iff.mpr h)<|by decide)
def jh(x y:D):Option D:=match x with
 | .int i=>(match y with
  | .int j=>some<|.int<|i+j
  | _=>none)
 | .str a=>(match y with
  | .str b=>bif bW (a.length+b.length) then some (.str<|a++b) else none
  | _=>none)
 | .lst _ a=>(match y with
  | .lst _ b=>bif bW (a.length+b.length)&&(frzs a&&frzs b) then some (.lst true<|a++b) else none
  | _=>none)
 | .tup a=>(match y with
  | .tup b=>bif bW (a.length+b.length)&&(frzs a&&frzs b)&&!a.isEmpty then some (.tup<|a++b) else none
  | _=>none)
 | _=>none
def FV:R2:=λx y H Q=>∃ a b,x=.str (S a)/\y=.str (S b)/\a.length+b.length<=sizeLine/\Q (.str<|S<|a++b) H
def l9(K:W4):R2:=λx y H Q=>eY (λi j=>.int<|i+j) x y H Q\/FV x y H Q\/vc K x y H Q\/D3 K x y H Q
def Aq:c_ X (binaryOp .Add) (l9 X.K):=YF Dl (YF Ek (YF Em (by
  intro d s U H x y v u Q I g i h;let[a,b,p,r,rfl,rfl,j,k,l,e,m,n]:=h;cases g;cases i;let[o,r1,p1,_]:=I.tuple j;let[f,c,p2,_]:=I.tuple k;refine HT.gf p1 p2 (λz=>l<|r1.nil_iff.mp z) (λz=>#v[.ref a,H,I,rfl,m<|c.nil_iff.mp z]) (λz=>?_) (by rw[<- r1.length,<- c.length];exact e);refine#v[.ref ↥s,_,I.laid (λb ob q=>L8 _ q) (N0 _) ?_,rfl,n (λw=>z<|c.nil_iff.mpr w) _<|I.hok.fresh<|N0 _];exact#v[by rw[N5];exact e,_,r1.append c,cM.new _ _])))
def Ar:BO R (l9 R.K) jh:=by
 intro Z H x y d v u D E z g l e Q k;cases x with
 | int i=>
  cases y with
  | int j=>
   cases e;let[rfl,_]:=g.int_of;let[rfl,_]:=l.int_of;exact .inl #v[i,j,rfl,rfl,k (Go.id z) .int_mk]
  | _=>cases e
 | str a=>
  cases y with
  | str b=>
   refine oc e λc e=>?_;cases e;let[rfl,_]:=g.str_of;let[rfl,_]:=l.str_of;exact .inr<|.inl #v[a,b,rfl,rfl,Jz c,k (Go.id z) .str_mk]
  | _=>cases e
 | lst o a=>
  cases y with
  | lst F b=>
   refine oc e λc e=>?_;cases e;simp only[M0] at c;let[p,vs,G,rfl,m,f]:=g.lst_of;let[q,ws,t,rfl,n,rt]:=l.lst_of;have w:=(f.frozen c.2.1).append (rt.frozen c.2.2);exact .inr<|.inr<|.inl #v[p,q,vs,ws,rfl,rfl,m,n,by rw[f.length,rt.length];exact Jz c.1,λb h=>k (Go.newO (cS z) h)<|bK.lstNew (cS z) h w]
  | _=>cases e
 | tup a=>
  cases y with
  | tup b=>
   refine oc e λc e=>?_;cases e;simp only[M0] at c;let[p,vs,rfl,m,f]:=g.tup_of;let[q,ws,rfl,n,rt]:=l.tup_of;have r:vs≠[]:=by
    intro A;have:=f.length;rw[A] at this;have s:=List.eq_nil_of_length_eq_zero this.symm;rw[s] at c;simp at c
   refine .inr<|.inr<|.inr #v[p,q,vs,ws,rfl,rfl,m,n,r,by rw[f.length,rt.length];exact Jz c.1.1,(λs=>?_),λ_ b h=>k (Go.newF (cS z) h)<|bK.tupNew (cS z) h<|(f.frozen c.1.2.1).append (rt.frozen c.1.2.2)];have B:=List.eq_nil_of_length_eq_zero (by rw[<- rt.length,s];rfl);subst B;rw[N1] at k;have C:=f.nil c.1.2.1;subst C;exact k (Go.id z) g
  | _=>cases e
 | _=>cases e
def two(f:Int->Int->Option D)(x y:D):Option D:=(yS x).bind λi=>(yS y).bind λj=>f i j
def two_of(e:two f x y=some d):dv λi j=>cX (x=.int i) (y=.int j) (f i j=some d):=ob e λi a e=>ob e λj e2 e=>#v[i,j,jE a,jE e2,e]
def Yo:D->D->Option D:=two λi j=>some<|.int<|i-j
def FW:BO R (eY λi j=>.int<|i-j) Yo:=by
 intro Z H x y d v u c f z a b e Q k;replace e:=two_of e;let[i,j,rfl,rfl,e]:=e;cases e;let[rfl,_]:=a.int_of;let[rfl,_]:=b.int_of;exact#v[i,j,rfl,rfl,k (Go.id z) .int_mk]
def va(x y:D):Option D:=match y with
 | .int n=>(match x with
  | .int i=>bif l8 i&&l8 n then some (.int<|i*n) else none
  | .str a=>bif decide (a.length<=1000)&&(decide (0<=n)&&decide (n<=1000)) then some (.str (List.replicate n.toNat a).flatten) else none
  | _=>none)
 | _=>none
def rD:R2:=λx y H Q=>rI (λi j=>Builtin.Int.intBits i<=2 ^ 20/\Builtin.Int.intBits j<=2 ^ 20) (λi j=>.int<|i*j) x y H Q \/
 ∃ a n,x=.str (S a)/\y=.int n/\a.length<=1000/\0<=n/\n<=1000/\Q (.str<|S (List.replicate n.toNat a).flatten) H
def FX:c_ X (binaryOp .Mult) rD:=YF El (by
  intro f s U H x y v u Q I g i h;let[a,n,rfl,rfl,j,w,l,q]:=h;obtain⟨k,rfl⟩:∃ k:Nat,n=k:=#v[n.toNat,by lia];have m:k<=1000:=by lia
  let[t,rfl]:=g;let[o,rfl]:=i;have hok:MulOk (S a) k:=by
   refine#v[by simp;lia,λd c=>?_,λd c=>?_]
   ·rw[JC];have A:1000<=(2 ^ 63-1)/(k:Int):=by
     rw[Int.le_ediv_iff_mul_le ∅]
     lia
    lia
   ·rw[JC,N9];have B:a.length*k<=sizeLine:=N8 (Nat.mul_le_mul j m) (by decide);exact X6 ∅
  have e:Txt.mul (S a) k=S (List.replicate k a).flatten:=by
   have p:∀ n b,((List.replicate n a.toArray).foldl (·++·) b).toList=b.toList++(List.replicate n a).flatten:=by
    intro n
    induction n with
    | zero=>intro b;simp
    | succ n r=>intro b;rw[List.replicate_succ,X4,r];simp[List.replicate_succ]
   unfold Txt.mul;apply PyProof.Rows.ext_toList;rw[Jv];by_cases d:(k:Int)<1
   ·have:k=0:=by lia
    subst this;simp[Str.empty]
   ·rw[if_neg d];by_cases c:((k:Int)==1||(S a).length==0)=true
    ·rw[if_pos c,Jv];rw[JC] at c;simp at c;rcases c with z | z
     ·have:k=1:=by lia
      subst this;simp
     ·subst z;simp
    ·rw[if_neg c,N9];exact(p k #[])
  refine SB.mul hok λo C=>?_;rw[e];exact#v[.str _,H,I.tok _,#v[_,rfl],q])
def FY:BO R rD va:=by
 intro Z H x y d v u g h z c f e Q k;cases y with
 | int n=>
  cases x with
  | int i=>
   refine oc e λb e=>?_;cases e;rw[M0] at b;let[rfl,_]:=c.int_of;let[rfl,_]:=f.int_of;exact .inl #v[i,n,rfl,rfl,#v[X7 b.1,X7 b.2],k (Go.id z) .int_mk]
  | str a=>
   refine oc e λb e=>?_;cases e;simp only[M0,decide_eq_true_eq] at b;let[rfl,_]:=c.str_of;let[rfl,_]:=f.int_of;exact .inr #v[a,n,rfl,rfl,b.1,b.2.1,b.2.2,k (Go.id z) .str_mk]
  | _=>cases e
 | _=>cases e
def l_(j:Int):Bool:=decide (0<j)&&decide (j<2 ^ 300)
def FZ:c_ X (binaryOp .FloorDiv) (rI (λ_ j=>l_ j=true) λi j=>.int<|i/j):=lP λi j t u s Q E a q=>by
 let[b,c]:=(show 0<j/\j.natAbs.log2<9000 from by 
   unfold l_ at a;simp only[M0,decide_eq_true_eq] at a;refine#v[a.1,?_];have d:j.natAbs<2 ^ 300:=by lia
   have b:j.natAbs≠0:=by lia
   have:=(Nat.log2_lt b).mpr d
   lia)
 rw[(Int.fdiv_eq_ediv_of_nonneg i<|Int.le_of_lt b).symm] at q;exact PyProof.Rows.floordiv_int ∅ q (.inl<|PyProof.noPylong_of_log2 c)
def jK:D->D->Option D:=two λi j=>bif l_ j then some (.int<|i/j) else none
def ji:D->D->Option D:=two λi j=>bif decide (0<j) then some (.int<|i%j) else none
def vR:D->D->Option D:=two λi j=>bif decide (0<=j)&&decide (j<=100)&&decide (i.natAbs<2 ^ 64) then some (.int<|i ^ j.toNat) else none
def F0:BO R (rI (λ_ j=>l_ j=true) λi j=>.int<|i/j) jK:=by
 intro Z H x y d v u f g z a b e Q k;replace e:=two_of e;let[i,j,rfl,rfl,e]:=e;refine oc e λc e=>?_;cases e;let[rfl,_]:=a.int_of;let[rfl,_]:=b.int_of;exact#v[i,j,rfl,rfl,c,k (Go.id z) .int_mk]
def As:BO R (rI (λ_ j=>0<j) λi j=>.int<|i%j) ji:=by
 intro Z H x y d v u f g z b c e Q k;replace e:=two_of e;let[i,j,rfl,rfl,e]:=e;by_cases a:0<j
 ·rw[X5 a] at e;cases e;let[rfl,_]:=b.int_of;let[rfl,_]:=c.int_of;exact#v[i,j,rfl,rfl,a,k (Go.id z) .int_mk]
 ·lia
def F1:BO R (rI pz λi j=>.int<|i ^ j.toNat) vR:=by
 intro Z H x y d v u f g z b c e Q k;replace e:=two_of e;let[i,j,rfl,rfl,e]:=e;refine oc e λa e=>?_;cases e;simp only[M0,decide_eq_true_eq] at a;let[rfl,_]:=b.int_of;let[rfl,_]:=c.int_of;exact#v[i,j,rfl,rfl,#v[a.1.1,by lia,a.2],k (Go.id z) .int_mk]
def xK:D->Option D
 | .int i=>some<|.int<|-i
 | _=>none
def F2:BU R (rU λi=>.int<|-i) xK:=by
 intro Z H x d v O z a e Q k;cases x with
 | int i=>
  cases e;let[rfl,_]:=a.int_of;exact#v[i,rfl,k (Go.id z) .int_mk]
 | _=>cases e
def ma(g:Int->Int->Bool):D->D->Option D:=two λi j=>some<|.bl<|g i j
def rE:BO R (eY λi j=>.bl<|g i j) (ma g):=by
 intro Z H x y d v u c f z a b e Q k;replace e:=two_of e;let[i,j,rfl,rfl,e]:=e;cases e;let[rfl,_]:=a.int_of;let[rfl,_]:=b.int_of;exact#v[i,j,rfl,rfl,k (Go.id z) .bl_mk]
abbrev i7:D->D->Option D:=ma λi j=>decide<|i<j
abbrev Km:D->D->Option D:=ma λi j=>decide<|j<i
abbrev rF:D->D->Option D:=ma λi j=>decide<|j<=i
def nJ:D->Bool
 | .non=>true
 | _=>false
def F3:D->Bool
 | .dead=>true
 | _=>false
def gS(x y:D):Option D:=bif nJ y&&!F3 x then some (.bl<|nJ x) else none
def F4(h:nJ y=true):y=.non:=by
 cases y with
 | non=>rfl
 | _=>cases h
def F5(r:bK R Z H x v O)(hd:∀(h:x=.dead),False):decide (v=V.non)=nJ x:=by
 cases x with
 | non=>let[rfl,_]:=r.non_of;rfl
 | bl b=>let[rfl,_]:=r.bl_of;rfl
 | int i=>let[rfl,_]:=r.int_of;rfl
 | str s=>let[rfl,_]:=r.str_of;rfl
 | tup l=>rw[bK] at r;let[a,vs,rfl,_]:=r;rfl
 | lst o l=>rw[bK] at r;let[a,vs,d,rfl,_]:=r;rfl
 | dK o e l=>rw[bK] at r;let[a,vs,d,rfl,_]:=r;rfl
 | dT o e l=>rw[bK] at r;let[a,vs,d,rfl,_]:=r;rfl
 | ins o c ns l=>rw[bK] at r;let[a,f,vs,d,rfl,_]:=r;rfl
 | tok a=>rw[bK] at r;let[rfl,_]:=r;rfl
 | kt k=>rw[bK] at r;let[a,rfl,_]:=r;rfl
 | exc c p=>rw[bK] at r;let[a,f,rfl,_]:=r;rfl
 | dead=>exact(hd rfl).elim
def JD:D->Bool
 | .non=>true | .bl _=>true | .int _=>true | .str _=>true
 | _=>false
def ip:D->D->Bool
 | .non,y=>match y with | .non=>true | _=>false
 | .bl a,y=>match y with | .bl b=>a==b | _=>false
 | .int a,y=>match y with | .int b=>a==b | _=>false
 | .str a,y=>match y with | .str b=>a==b | _=>false
 | _,_=>false
def K5:D->D->Bool
 | .bl _,.int _=>false
 | .int _,.bl _=>false
 | _,_=>true
def Au(d:bK R Z H x v O1)(c:bK R Z H y u O2)(h:(JD x&&JD y&&K5 x y)=true):pA v u=true/\decide (v=u)=ip x y:=by
 cases x with
 | non=>
  let[rfl,_]:=d.non_of;cases y with
  | non=>let[rfl,_]:=c.non_of;exact#v[rfl,rfl]
  | bl b=>let[rfl,_]:=c.bl_of;exact#v[rfl,rfl]
  | int b=>let[rfl,_]:=c.int_of;exact#v[rfl,rfl]
  | str b=>let[rfl,_]:=c.str_of;exact#v[rfl,rfl]
  | _=>cases h
 | bl a=>
  let[rfl,_]:=d.bl_of;cases y with
  | non=>let[rfl,_]:=c.non_of;exact#v[rfl,rfl]
  | bl b=>let[rfl,_]:=c.bl_of;exact#v[rfl,by rw[pD];rfl]
  | str b=>let[rfl,_]:=c.str_of;exact#v[rfl,rfl]
  | _=>cases h
 | int a=>
  let[rfl,_]:=d.int_of;cases y with
  | non=>let[rfl,_]:=c.non_of;exact#v[rfl,rfl]
  | int b=>let[rfl,_]:=c.int_of;exact#v[rfl,by rw[wy];rfl]
  | str b=>let[rfl,_]:=c.str_of;exact#v[rfl,rfl]
  | _=>cases h
 | str a=>
  let[rfl,_]:=d.str_of;cases y with
  | non=>let[rfl,_]:=c.non_of;exact#v[rfl,rfl]
  | bl b=>let[rfl,_]:=c.bl_of;exact#v[rfl,rfl]
  | int b=>let[rfl,_]:=c.int_of;exact#v[rfl,rfl]
  | str b=>
   let[rfl,_]:=c.str_of;refine#v[rfl,?_];rw[Bool.eq_iff_iff];simp[ip,pT]
  | _=>cases h
 | _=>cases h
def gU(x:D)(l:List D):Bool:=l.any λy=>ip y x
def gV(x:D)(l:List D):Bool:=JD x&&l.all λy=>JD y&&K5 y x
def QH(neg:Bool)(x y:D):Option D:=match y with
 | .str s=>(match x with
  | .str [c]=>some<|.bl<|neg != decide (c∈s)
  | _=>none)
 | .lst _ l=>bif gV x l then some (.bl<|neg != gU x l) else none
 | .tup l=>bif gV x l then some (.bl<|neg != gU x l) else none
 | _=>none
def a_.flat(c:bK R Z H x v P)(d:JD x=true):∀{l}{vs}{O},a_ R Z H l vs O->(l.all λy=>JD y&&K5 y x)=true->Vv v=true/\vs.all Vv=true/\nh v vs=gU x l:=by
 intro l
 induction l with
 | nil=>
  intro _ _ h _;let[rfl,_]:=h;refine#v[?_,rfl,rfl];cases x with
  | non=>let[rfl,_]:=c.non_of;rfl
  | bl b=>let[rfl,_]:=c.bl_of;rfl
  | int b=>let[rfl,_]:=c.int_of;rfl
  | str b=>let[rfl,_]:=c.str_of;rfl
  | _=>cases d
 | cons y l e=>
  intro _ _ h f;let[u,vs,m,n,rfl,rfl,r1,g]:=h;rw[List.all_cons,M0] at f;let[i,j,k]:=e g f.2;have key:Vv u=true/\f3 u v=ip y x:=by
   cases y with
   | non=>
    let[rfl,_]:=r1.non_of;cases x with
    | non=>let[rfl,_]:=c.non_of;exact#v[rfl,rfl]
    | bl b=>let[rfl,_]:=c.bl_of;exact#v[rfl,rfl]
    | int b=>let[rfl,_]:=c.int_of;exact#v[rfl,rfl]
    | str b=>let[rfl,_]:=c.str_of;exact#v[rfl,rfl]
    | _=>cases d
   | bl a=>
    let[rfl,_]:=r1.bl_of;cases x with
    | non=>let[rfl,_]:=c.non_of;exact#v[rfl,rfl]
    | bl b=>let[rfl,_]:=c.bl_of;exact#v[rfl,rfl]
    | str b=>let[rfl,_]:=c.str_of;exact#v[rfl,rfl]
    | int b=>exact absurd f.1 (by simp[K5])
    | _=>cases d
   | int a=>
    let[rfl,_]:=r1.int_of;cases x with
    | non=>let[rfl,_]:=c.non_of;exact#v[rfl,rfl]
    | int b=>let[rfl,_]:=c.int_of;exact#v[rfl,rfl]
    | str b=>let[rfl,_]:=c.str_of;exact#v[rfl,rfl]
    | bl b=>exact absurd f.1 (by simp[K5])
    | _=>cases d
   | str a=>
    let[rfl,_]:=r1.str_of;cases x with
    | non=>let[rfl,_]:=c.non_of;exact#v[rfl,rfl]
    | bl b=>let[rfl,_]:=c.bl_of;exact#v[rfl,rfl]
    | int b=>let[rfl,_]:=c.int_of;exact#v[rfl,rfl]
    | str b=>
     let[rfl,_]:=c.str_of;refine#v[rfl,?_];show(S a==S b)=(a==b);rw[Bool.eq_iff_iff];simp[pT]
    | _=>cases d
   | _=>exact absurd f.1 (by simp[JD])
  refine#v[i,by rw[List.all_cons,key.1,j];rfl,?_];show(f3 u v||nh v vs)=(ip y x||gU x l);rw[key.2,k]
def F6(neg:Bool):R2:=λx y H Q=>∃ c l,x=.str (S [c])/\y=.str (S l)/\Q (.bl<|if neg then !decide (c∈l) else decide (c∈l)) H
def nK(K:W4)(neg:Bool):R2:=λx y H Q=>F6 neg x y H Q\/pL K neg x y H Q
def wH(a b):(if a=true then !b else b)=(a != b):=by cases a<;>cases b<;>rfl
def Av:BO R (nK R.K neg) (QH neg):=by
 intro Z H x y d v u q r z b g e Q k;cases y with
 | str s=>
  cases x with
  | str t=>
   match t,e,b with
   | [c],e,b=>
    cases e;let[rfl,_]:=b.str_of;let[rfl,_]:=g.str_of;refine .inl #v[c,s,rfl,rfl,?_];rw[wH];exact k (Go.id z) .bl_mk
   | [],e,b=>cases e
   | _::_::_,e,b=>cases e
  | _=>cases e
 | lst o l=>
  have f:=e;refine oc f λa f=>?_;cases f;unfold gV at a;rw[M0] at a;let[p,vs,w,rfl,h,i]:=g.lst_of;let[j,m,n]:=i.flat b a.1 a.2;refine .inr #v[p,vs,rfl,.inl h.sq,j,m,?_];rw[n,wH];exact k (Go.id z) .bl_mk
 | tup l=>
  have f:=e;refine oc f λa f=>?_;cases f;unfold gV at a;rw[M0] at a;let[p,vs,rfl,h,i]:=g.tup_of;let[j,m,n]:=i.flat b a.1 a.2;refine .inr #v[p,vs,rfl,.inr h,j,m,?_];rw[n,wH];exact k (Go.id z) .bl_mk
 | _=>cases e
def jd(x y:D):Option D:=match y with
 | .int i=>(match x with
  | .lst _ l=>atI l i
  | .tup l=>atI l i
  | .str s=>bif bW s.length then(atI s i).bind λc=>some (.str [c]) else none
  | _=>none)
 | _=>none
def a_.atI(r:a_ R Z H l vs O)(e:L2.atI l i=some d):∃ v P,L2.atI vs i=some v/\bK R Z H d v P:=by
 unfold L2.atI at e ⊢;rw[r.length];cases h:dI l.length i with
 | none=>rw[h] at e;cases e
 | some j=>
  rw[h] at e;let[v,A,P,B,a,_,r1,_]:=r.at<|e;exact#v[v,P,a,r1]
def Aw:nH R (eh R.K) jd:=by
 intro Z H x y d v u n q z a j e Q k;cases y with
 | int i=>
  let[rfl,_]:=j.int_of;cases x with
  | lst o l=>
   let[p,vs,r,rfl,b,f]:=a.lst_of;let[w,P,g,r1]:=f.atI e;exact .inl #v[p,vs,i,w,rfl,rfl,b.sq,g,k r1]
  | tup l=>
   let[p,vs,rfl,b,f]:=a.tup_of;let[w,P,g,r1]:=f.atI e;exact .inr<|.inl #v[p,vs,i,w,rfl,rfl,b,g,k r1]
  | str s=>
   let[rfl,_]:=a.str_of;refine oc e λm e=>ob e λc h e=>?_;cases e;refine .inr<|.inr #v[S s,i,c,rfl,rfl,by rw[JC];exact Jz m,by rw[Jv];exact h,?_];exact k .str_mk
  | _=>cases e
 | _=>cases e
abbrev OF:=Rh->Option (Option Int)
def rG(R:RC)(t:TO)(p:OF):Prop:=∀{s}{u}{Z}{H}{O}{i},Zd Z H->Slots R Z H u s O->p u=some i ->
 ∀{Q:Option Int->Hp->Prop},(∀{Z'}{H'},Go Z H [] Z' H' []->Q i H')->t s H Q
@[simp] def oN(s:Rh):Option (Option Int):=some none
@[simp] def oS(pa:PF)(s:Rh):Option (Option Int):=(pa s).bind λd=>(yS d).bind λi=>some<|some i
def rH(lo hi:Option Int):D->Option D
 | .str s=>bif bW s.length then some (.str<|Yp s lo hi) else none
 | .lst _ l=>bif frzs l then some (.lst true<|Yp l lo hi) else none
 | .tup l=>bif frzs l&&decide ((Yp l lo hi).length<l.length) then some (.tup<|Yp l lo hi) else none
 | _=>none
def rJ(K:W4):V->Option Int->Option Int->Hp->VK->Prop:=λx lo hi H Q=>ul x lo hi H Q\/tZ K x lo hi H Q\/D0 K x lo hi H Q
def F7:gh X (rJ X.K):=gh.or Eg (gh.or D6 (by
  intro f s u H x v o p lo hi t Q I j k pl l h;let[a,d,rfl,m,n,q]:=h;cases j;let[e,r,g,i]:=I.tuple m;have c:e.toArray.size=d.length:=by rw[N4];exact r.length.symm
  refine#v["tuple",_,PyProof.Rows.slot_tuple_getitem.lookup,g.typeIs,?_];refine HT.da g k pl l (by rw[c];exact n) ?_ (by rw[c];exact i);rw[c];refine#v[.ref ↥s,_,I.laid (λb ob q=>L8 _ q) (N0 _) ?_,rfl,q _<|I.hok.fresh<|N0 _];exact#v[N8 (VR d lo hi) i,_,(r.drop<|HT.sIx d.length 0 lo).take (HT.sIx d.length d.length hi-HT.sIx d.length 0 lo),cM.new _ _]))
@[simp] def i8(pa:PF)(pl:OF)(ph:OF)(s:Rh):Option D:=(pa s).bind λx=>(pl s).bind λlo=>(ph s).bind λhi=>rH lo hi x
def a_.cut(r:a_ R Z H l vs [])(lo hi):a_ R Z H (Yp l lo hi) (iQ vs lo hi) []:=by
 unfold Yp iQ;rw[r.length];exact(r.drop _).take _
def F8(r:PB R te pa)(u:rG R tl pl)(w:rG R th ph):PP R (tV (rJ R.K) te tl th) (i8 pa pl ph):=by
 intro U W Z H O d z s e Q k;refine ob e λx y e=>ob e λlo e2 e=>ob e λhi e3 e=>(r z s y λ{v A B C} i r1=>(u i.wf.zd (i.slots z s) e2 λ{D E} g2=>?_));have f:=i.pair g2;refine w g2.wf.zd (f.slots z s) e3 λ{Z3 F} g3=>?_;have a:=f.pair g3;have m:=(g2.pair g3).rep i.wf.zd r1;cases x with
 | str t=>
  refine oc e λc e=>?_;cases e;let[rfl,_]:=m.str_of;exact .inl #v[t,rfl,Jz c,k a .str_mk]
 | lst o l=>
  refine oc e λc e=>?_;cases e;let[p,vs,G,rfl,n,j]:=m.lst_of;have g:=g3.wf.zd;exact .inr<|.inl #v[p,vs,rfl,n.sq,λb h=>k ⇑(a.pair<|Go.newO (cS g) h) (bK.lstNew (cS g) h<|(j.frozen c).cut lo hi)]
 | tup l=>
  refine oc e λc e=>?_;cases e;simp only[M0,decide_eq_true_eq] at c;let[p,vs,rfl,n,j]:=m.tup_of;have g:=g3.wf.zd;refine .inr<|.inr #v[p,vs,rfl,n,?_,λb h=>k ⇑(a.pair<|Go.newF (cS g) h) (bK.tupNew (cS g) h<|(j.frozen c.1).cut lo hi)];rintro⟨w1,w2⟩;have q:=c.2;unfold Yp at q;rw[j.length] at w1 w2;rw[w1,w2,List.drop_zero,Nat.sub_zero,List.take_length] at q;exact absurd q<|Nat.lt_irrefl _
 | _=>cases e
def F9:D->Option D
 | .lst _ l=>some<|.int l.length
 | .tup l=>some<|.int l.length
 | .str s=>bif bW s.length then some (.int s.length) else none
 | _=>none
def Jq(l:List D):Option D:=(ux l).bind F9
def F_:BC R (λxs H Q=>∃ x n,xs=[x]/\pG R.K x H n/\Q (.int n) H) Jq:=by
 intro Z H xs d vs O z r e Q k;refine ob e λx c e=>?_;rw[vk c] at r;let[v,rfl,r1]:=r.one_of;cases x with
 | lst o l=>
  cases e;let[p,ws,g,rfl,a,b]:=r1.lst_of;exact#v[_,_,rfl,.inl #v[ws,a.sq,rfl],by rw[b.length];exact k (Go.id z) .int_mk]
 | tup l=>
  cases e;let[p,ws,rfl,a,b]:=r1.tup_of;exact#v[_,_,rfl,.inr #v[ws,a,rfl],by rw[b.length];exact k (Go.id z) .int_mk]
 | str s=>
  refine oc e λf e=>?_;cases e;let[rfl,_]:=r1.str_of;exact#v[_,_,rfl,#v[by rw[JC];exact Jz f,rfl],by rw[JC];exact k (Go.id z) .int_mk]
 | _=>cases e
def wv:List D->Option (List Int)
 | []=>some []
 | d::l=>match d with
  | .int i=>((wv l).bind λr=>some<|i::r)
  | _=>none
def a_.ints:∀{l}{vs}{O}{ns},a_ R Z H l vs O->wv l=some ns->vs=ns.map V.int:=by
 intro l
 induction l with
 | nil=>intro vs O ns h e;rw[a_] at h;cases e;exact h.1
 | cons d l a=>
  intro vs O ns h e;let[v,vs,f,g,rfl,rfl,r1,b]:=h;cases d with
  | int i=>
   refine ob e λr c e=>?_;cases e;rw[a b c,r1.int_of.1];rfl
  | _=>cases e
def fR(l:List D):Option D:=(ux l).bind λx=>(fP x).bind λl=>(wv l).bind λns=>some<|.int ns.sum
def Ga:BC R (λxs H Q=>∃(p:Addr) (ns:List Int),xs=[.ref p]/\ck R.K H p (ns.map V.int)/\Q (.int ns.sum) H) fR:=by
 intro Z H xs d vs O z r e Q k;refine ob e λx a e=>ob e λl b e=>ob e λns c e=>?_;cases e;let[o,rfl]:=qZ b;rw[vk a] at r;let[v,rfl,r1]:=r.one_of;let[p,ws,h,rfl,f,g]:=r1.lst_of;have:=g.ints c;subst this;exact#v[p,ns,rfl,f.sq,k (Go.id z) .int_mk]
def nL(g:Int->Int->Int)(l:List D):Option D:=(two1 l).bind λp=>two (λi j=>some<|.int<|g i j) p.1 p.2
def rK:BC R (λxs H Q=>∃ i j,xs=[.int i,.int j]/\Q (.int<|g i j) H) (nL g):=by
 intro Z H xs d vs O z r e Q k;refine ob e λp a e=>?_;let[i,j,e2,e3,e]:=two_of e;cases e;rw[two1_of a,e2,e3] at r;let[v,u,c,f,rfl,_,r1,b]:=r.two_of;let[rfl,_]:=r1.int_of;let[rfl,_]:=b.int_of;exact#v[i,j,rfl,k (Go.id z) .int_mk]
abbrev me:List D->Option D:=nL λi j=>if j>i then j else i
abbrev xB:List D->Option D:=nL λi j=>if j<i then j else i
def Gb:D->Option D
 | .lst _ l=>bif frzs l then some (.lst true l) else none
 | .tup l=>bif frzs l then some (.lst true l) else none
 | _=>none
def YO(l:List D):Option D:=(ux l).bind Gb
def Kb(l:List D):Option D:=(ux l).bind λx=>(fP x).bind λl=>bif frzs l then some (.tup l) else none
def Gc:BC R (λxs H Q=>∃ p ys,xs=[.ref p]/\(ck R.K H p ys\/cJ R.K H p ys)/\∀ l,H l=none->Q (.ref l) (bO H l<|.lst ys)) YO:=by
 intro Z H xs d vs O z r e Q k;refine ob e λx h e=>?_;rw[vk h] at r;let[v,rfl,r1]:=r.one_of;cases x with
 | lst o l=>
  refine oc e λc e=>?_;cases e;let[p,ws,i,rfl,f,g]:=r1.lst_of;exact#v[p,ws,rfl,.inl f.sq,λb a=>k (Go.newO (cS z) a)<|bK.lstNew (cS z) a<|g.frozen c]
 | tup l=>
  refine oc e λc e=>?_;cases e;let[p,ws,rfl,f,g]:=r1.tup_of;exact#v[p,ws,rfl,.inr f,λb a=>k (Go.newO (cS z) a)<|bK.lstNew (cS z) a<|g.frozen c]
 | _=>cases e
def Gd:BC R (λxs H Q=>∃ p ys,xs=[.ref p]/\((ck R.K H p ys/\∀ l,H l=none->Q (.ref l) (bO H l<|.tup ys))\/(cJ R.K H p ys/\Q (.ref p) H))) Kb:=by
 intro Z H xs d vs O z r e Q k;refine ob e λx c e=>ob e λl f e=>oc e λg e=>?_;cases e;let[o,rfl]:=qZ f;rw[vk c] at r;let[v,rfl,r1]:=r.one_of;let[p,ws,j,rfl,h,i]:=r1.lst_of;exact#v[p,ws,rfl,.inl #v[h.sq,λb a=>k (Go.newF (cS z) a)<|bK.tupNew (cS z) a<|i.frozen g]]
def gW:D->Option String
 | .non=>some "NoneType" | .bl _=>some "bool" | .int _=>some "int" | .str _=>some "str" | .tup _=>some "tuple" | .lst _ _=>some "list"
 | .dK true _ _=>some "dict"
 | _=>none
def i9(t T:String):Bool:=t==T||(t=="bool"&&T=="int")
@[simp] def xC(T:String)(pa:PF)(s:Rh):Option D:=(pa s).bind λd=>(gW d).bind λt=>some<|.bl<|i9 t T
def bK.ty(r:bK R Z H x v O)(e:gW x=some t):f4 R.K H v t/\t∈["NoneType","bool","int","str","tuple","list","dict"]:=by
 cases x with
 | non=>cases e;let[rfl,_]:=r.non_of;exact#v[.non,by simp]
 | bl b=>cases e;let[rfl,_]:=r.bl_of;exact#v[.bl _,by simp]
 | int i=>cases e;let[rfl,_]:=r.int_of;exact#v[.int _,by simp]
 | str s=>cases e;let[rfl,_]:=r.str_of;exact#v[.str _,by simp]
 | tup l=>cases e;let[p,ws,rfl,c,d]:=r.tup_of;exact#v[.tup c,by simp]
 | lst o l=>cases e;let[p,ws,f,rfl,c,d]:=r.lst_of;exact#v[.lst c.sq,by simp]
 | dK o g l=>cases o with
  | false=>cases e
  | true=>cases e;rw[bK] at r;let[a,vs,f,rfl,_,_,hd,_]:=r;exact#v[.dK hd,by simp]
 | _=>cases e
def vf:Nat->List D->List D
 | _,[]=>[]
 | k,x::l=>.tup [.int k,x]::vf (k+1) l
theorem JY:∀ k l,(vf k l).length=l.length
 | _,[]=>rfl
 | k,x::l=>by rw[vf,M3,M3,JY]
theorem zC:∀ k l i (y:D),(vf k l)[i]?=some y->∃ x,l[i]?=some x/\y=.tup [.int ((k+i:Nat):Int),x]
 | _,[],_,_,e=>by simp[vf] at e
 | k,x::l,0,y,e=>by simp[vf] at e;exact#v[x,rfl,e.symm]
 | k,x::l,i+1,y,e=>by
  let[z,a,e2]:=zC (k+1) l i y (by simpa [vf] using e);exact#v[z,by simpa using a,by rw[e2];congr 3;lia]
def JV:List D->List D->List D
 | x::l,y::m=>.tup [x,y]::JV l m
 | _,_=>[]
theorem KK:∀ l m,(JV l m).length=min l.length m.length
 | [],_=>by simp[JV]
 | _::_,[]=>by simp[JV]
 | x::l,y::m=>by rw[JV,M3,KK];simp
def Ax(l:List D):Option (List D):=(ux l).bind λx=>(fP x).bind λl=>some<|vf 0<|bV l
@[simp] def xj(p:cF)(s:Rh):Option (List D):=(p s).bind Ax
def Ay(k:FL R Z H a ws)(rs:a_ R Z H l ws [])(m:L.length=l.length)(o:∀(i:Nat) y,L[i]?=some y->∃ x,l[i]?=some x/\y=.tup [.int<|n+i,x]):l7 R (np R.K a n) Z H L:=by
 intro A B d e zd i;have b:=(k.frame d e).sq;have f:=rs.frame d e λa p=>(nomatch p);refine#v[λhi=>#v[ws,b,by rw[f.length,<- m];exact hi],λx r=>?_];let[y,s,rfl]:=o i x r;let[u,g,v]:=f.item s;refine#v[#v[ws,u,b,g],λw C c=>?_];let[q,t,z,rfl,h,rfl]:=c;have j:=z ws b;rw[g] at j;cases j;exact#v[_,Go.newF (cS zd) h,(bK.tupNew (cS zd) h<|.cons .int_mk<|.cons v .empty)]
def Az(h:dI n i=some j):j<n:=(wI h).2.1
@[simp] def nM(pm:List Nat)(i:Nat)(pi:PF)(d:D)(s:Rh):Option Rh:=(pi s).bind λk=>(yS k).bind λk=>(pV i s).bind λx=>(xP x).bind λl=>(dI l.length k).bind λj=>some<|s.set i<|some<|.lst true<|l.set j d
def AB(rs:a_ R Z H l vs O)(a:j<l.length)(rd:bK R Z H d u P):∃ O2,a_ R Z H (l.set j d) (vs.set j u) O2/\∀ q,O2.count q<=O.count q+P.count q:=by
 let[b,c,e,f,g,rfl,h,put]:=rs.at (show l[j]?=some l[j] by simp[a]);exact#v[_,put rd (λ_ z=>z) (λ_ _=>rfl) (λ_ _=>rfl)<|λ_ _=>rfl,λq=>by simp only[X0];lia]
def Ge(h:PB R te pi):DG R pm (tG (yj i) te ng) (nM pm i pi):=by
 intro U W B Z H O P d v w r s e Q k;refine ob e λx f e=>ob e λn e3 e=>ob e λy g e=>ob e λl m e=>ob e λj e2 e=>?_;cases e;cases jE e3;cases YZ m;refine qU Ju w s g rfl YD λa _ vs C c _ o p put=>p<|h w.zd s f λ{u D E F} b r1=>?_;let[rfl,_]:=r1.int_of;let[G,t,z]:=AB (b.reps w.zd c) (Az e2)<|b.rep w.zd r;let[I,g3,A]:=put YD trivial b t λq=>by have:=z q;simp;lia
 exact#v[a,vs,n,j,rfl,rfl,b.at0 o,by rw[c.length];exact e2,k g3 A<|bX.refl _ _]
@[simp] def u4(i:Nat)(pi:PF)(g:Int->Int->Int)(pe:PF)(s:Rh):Option cf:=(pi s).bind λk=>(yS k).bind λk=>(pV i s).bind λx=>(xP x).bind λl=>(dI l.length k).bind λj=>(l[j]?).bind λy=>(yS y).bind λa=>(pe s).bind λz=>(yS z).bind λb=>some<|.nx<|s.set i<|some<|.lst true<|l.set j<|.int<|g a b
end QD
namespace QD
open PySem L2 PySem.Spec PyProof.Rows
section
variable (c:Nat->Addr)(pm:List Nat)(X:Cx)
structure QP(e:Expr)(te:TE)(p:PF):Prop where
 sem:PE X e te
 den:PP #v[X.K,c] te p
structure QB(e:Expr)(te:TE)(p:PF):Prop where
 sem:PE X e te
 den:PB #v[X.K,c] te p
structure d9(es:List Expr)(ta:TA)(p:cF):Prop where
 sem:PA X es ta
 den:f7 #v[X.K,c] ta p
structure fo(es:List Expr)(ta:TA)(p:cF):Prop where
 sem:PA X es ta
 den:i0 #v[X.K,c] ta p
 n:∀ s ds,p s=some ds->ds.length=es.length
structure QT(e:Expr)(tt:TT)(q:eq):Prop where
 sem:PT X e tt
 den:f8 #v[X.K,c] tt q
structure QW(e:Expr)(tt:TT)(q:eq):Prop where
 sem:PW X e tt
 den:f8 #v[X.K,c] tt q
structure QI(tg e:Expr)(wi:TI)(p:cF):Prop where
 sem:PI X tg e wi
 den:gu #v[X.K,c] wi p
structure QG(tg:Expr)(t:TG)(g:D->Rh->Option Rh):Prop where
 sem:PG X tg t
 den:gR #v[X.K,c] pm t g
structure i_(tg:List Expr)(t:ii)(g:List D->Rh->Option Rh):Prop where
 sem:C_ X tg t
 den:rA #v[X.K,c] pm t g
structure QE(e:Expr)(te:TE)(f:FE):Prop where
 sem:PE X e te
 den:DE #v[X.K,c] te f
structure QS(st:Stmt)(ts:TS)(f:FS):Prop where
 sem:PS X st ts
 den:DS #v[X.K,c] pm ts f
structure fq(st:List Stmt)(ts:TS)(f:FS):Prop where
 sem:fD X st ts
 den:DS #v[X.K,c] pm ts f
structure QO(e:Option Expr)(t:TO)(p:OF):Prop where
 sem:PO X e t
 den:rG #v[X.K,c] t p
structure mf(ifs:List Expr)(tc:TT)(q:eq):Prop where
 sem:ni X ifs tc
 den:f8 #v[X.K,c] tc q
end
section
variable {cl:Nat->Addr}{pm:List Nat}{X:Cx}{a b c e o:Expr}{es:List Expr}{ta tb tc te:TE}{pa pb pc pe:PF}{tA tB:TT}{qa qb:eq}{tr:TA}{pr:cF}{pos:Pos}
def QP.bb(h:QP cl X e te pe):QB cl X e te pe:=#v[h.sem,PP.b h.den]
def QB.f(h:QB cl X e te pe):QP cl X e te (pF pe):=#v[h.sem,PB.f h.den]
def QP.d(h:QP cl X e te pe):QE cl X e te (dP pe):=#v[h.sem,PP.d h.den]
def Gf(i){x}(b:X.N[i]?=some x:=by rfl)(c:lL X.env.scope x:=by first | exact Or.inl rfl | exact Or.inr (Or.inl rfl) | exact Or.inr<|Or.inr rfl)(hd:Nd x:=by decide)
  (a:(x==("__classdict__" : Str))=false:=by decide):QB cl X (.Name x pos) (yj i) (pV i):=#v[tq b c hd a,Ad]
def Gg(i){x}(b:X.N[i]?=some x:=by rfl)(c:lL X.env.scope x:=by first | exact Or.inl rfl | exact Or.inr (Or.inl rfl) | exact Or.inr<|Or.inr rfl)(hd:Nd x:=by decide)
  (a:(x==("__classdict__" : Str))=false:=by decide):QE cl X (.Name x pos) (yj i) (c7 i):=#v[tq b c hd a,z3]
def AD{i}{j}:QP cl X (.Constant (.int i) j pos) (tC<|.int i) (pI i):=#v[(λ_ _ _ H _ I h=>wpAny_Constant_int #v[.int i,H,I.tok _,#v[_,rfl],h]),l6 λ_ _=>.int_mk]
def Gh{i}{j}:QP cl X (.Constant (.bool i) j pos) (tC<|.bl i) (pC<|.bl i):=#v[(λ_ _ _ H _ I h=>Constant_bool #v[.bl i,H,I,rfl,h]),l6 λ_ _=>.bl_mk]
def Gi{j}:QP cl X (.Constant .none j pos) (tC .non) (pC .non):=#v[(λ_ _ _ H _ I h=>Constant_none #v[.non,H,I,rfl,h]),l6 λ_ _=>.non_mk]
def Gj{x}{p}(d)(a:X.mg x=some (.ref p))(b:∀ Z H,bK #v[X.K,cl] Z H d (.ref p) [])(c:Gl X x:=by rfl)(hd:Nd x:=by decide):QP cl X (.Name x pos) (tC<|.ref p) (pC d):=
 ⟨(λ_ _ _ H _ I h=>Qt I c a #v[(V.ref p),H,I,rfl,h] hd),l6 b⟩
def AE(c:QB cl X a ta pa)(d:QB cl X b tb pb):QP cl X (.BinOp a .Add b pos) (cT (l9 X.K) ta tb) (p2 jh pa pb):=#v[K6 Aq c.sem d.sem,KZ Ar c.den d.den]
def Gk(c:QB cl X a ta pa)(d:QB cl X b tb pb):QP cl X (.BinOp a .Sub b pos) (cT (eY λi j=>.int<|i-j) ta tb) (p2 Yo pa pb):=#v[K6 Dm c.sem d.sem,KZ FW c.den d.den]
def Gm(c:QB cl X a ta pa)(d:QB cl X b tb pb):QP cl X (.BinOp a .Mult b pos) (cT rD ta tb) (p2 va pa pb):=#v[K6 FX c.sem d.sem,KZ FY c.den d.den]
def Gn(c:QB cl X a ta pa)(d:QB cl X b tb pb):QP cl X (.BinOp a .FloorDiv b pos) (cT (rI (λ_ j=>l_ j=true) λi j=>.int<|i/j) ta tb) (p2 jK pa pb):=#v[K6 FZ c.sem d.sem,KZ F0 c.den d.den]
def Gp(c:QB cl X a ta pa)(d:QB cl X b tb pb):QP cl X (.BinOp a .Mod b pos) (cT (rI (λ_ j=>0<j) λi j=>.int<|i%j) ta tb) (p2 ji pa pb):=#v[K6 tN c.sem d.sem,KZ As c.den d.den]
def Gq(c:QB cl X a ta pa)(d:QB cl X b tb pb):QP cl X (.BinOp a .Pow b pos) (cT (rI pz λi j=>.int<|i ^ j.toNat) ta tb) (p2 vR pa pb):=#v[K6 Dn c.sem d.sem,KZ F1 c.den d.den]
def Gr(c:QB cl X a ta pa):QP cl X (.UnaryOp .USub a pos) (Dk (rU λi=>.int<|-i) ta) (p1 xK pa):=#v[(by
  intro b s u H Q I h;exact UnaryOp_<|thn (c.sem b s u H _ I h) λv s1 ⟨x,f,j,r1,l⟩=>Dp b s1 u f x v Q j r1 l),(by
    intro u w Z H O d z s e Q k;exact ob e λx m e=>(c.den z s m λ{v o f p} g r1=>F2 g.wf.zd r1 e λg3 n=>k ⇑(g.pair g3) n))]
def Gu(g:QB cl X a ta pa):QP cl X (.UnaryOp .Not a pos) (C4 ta) (Ah pa):=#v[(by
  intro b s u H Q I h;refine UnaryOp_<|thn (g.sem b s u H _ I h) λv s1 j=>?_;let[x,i,l,r1,f]:=j;let[c,rfl,f]:=f;cases r1;exact not_of<|wpAny_truthy_bool #v[.bl<|!c,i,l,rfl,f]),(by
    intro u w Z H O d z s e Q k;refine ob e λx m e=>ob e λc e2 e=>?_;cases wJ e2;cases e;refine g.den z s m λ{v o i p} n r1=>?_;let[rfl,rfl]:=r1.bl_of;exact#v[c,rfl,k n .bl_mk])]
structure dg(cl:Nat->Addr)(X:Cx)(op:CmpOp)(b:Expr)(r:R2)(g:D->D->Option D):Prop where
 o:c_ X (compareOp op) r
 g:BO #v[X.K,cl] r g
 m:behindInMarks op b=false
def Gv:dg cl X .Lt b (eY λi j=>.bl<|decide<|i<j) i7:=#v[(py λ_ _ _ _ _ _ _ q=>lt_int q),rE,Kt _]
def Gw:dg cl X .Gt b (eY λi j=>.bl<|decide<|j<i) Km:=#v[(py λ_ _ _ _ _ _ _ q=>gt_int q),rE,Kt _]
def Gx:dg cl X .GtE b (eY λi j=>.bl<|decide<|j<=i) rF:=#v[(py λ_ _ _ _ _ _ _ q=>ge_int q),rE,Kt _]
def Gy:dg cl X .Is b (λx y H Q=>y=.non/\Q (.bl<|decide<|x=.non) H) gS:=#v[(by
  intro g s w H x y v u Q I a f h;let[rfl,q]:=h;cases f;refine is_none_gen<|jO I q ?_;cases x<;>first
   | (cases a;rfl)
   | (let[t,rfl]:=a;rfl)),(by
     intro Z H x y d v u i j z a f e Q k;refine oc e λc e=>?_;cases e;rw[M0] at c;have hd:∀(h:x=.dead),False:=λh=>by rw[h] at c;exact absurd c.2 (by decide)
     cases F4 c.1;let[rfl,_]:=f.non_of;refine#v[rfl,?_];rw[F5 a hd];exact k (Go.id z) .bl_mk),Kt _]
def Gz(a:behindInMarks .In b=false):dg cl X .In b (nK X.K false) (QH false):=#v[(YF Ei D8),Av,a]
def dL(a:behindInMarks .NotIn b=false):dg cl X .NotIn b (nK X.K true) (QH true):=#v[(YF Ej zW),Av,a]
def GA{op}{r}{g}(h:dg cl X op b r g)(c:QB cl X a ta pa)(d:QB cl X b tb pb):QP cl X (.Compare a [op] [b] pos) (cT r ta tb) (p2 g pa pb):=#v[Dt h.o c.sem d.sem h.m,KZ h.g c.den d.den]
def GB{op}{r}{g}(h:dg cl X op b r g)(c:QB cl X a ta pa)(d:QB cl X b tb pb):QT cl X (.Compare a [op] [b] pos) (zY<|cT r ta tb) (jt<|p2 g pa pb):=#v[tQ h.o c.sem d.sem h.m,Ag<|PP.b<|KZ h.g c.den d.den]
def GC(c:QB cl X a ta pa)(e:∀ whole,isTrue a X.env whole=(do let v <- whole;standAt a.pos;holding [v] (truthy v)):=by intro _;rfl):QT cl X a (L2.tB ta) (jt pa):=#v[(by
  intro b s u H Q I f;refine isTrue_plain (thn (c.sem b s u H _ I f) λv s1 ⟨x,g,h,r1,i⟩=>?_)<|e _;let[d,rfl,q]:=i;cases r1;exact wpAny_truthy_bool #v[g,h,q]),Ag c.den]
def GD(f:QT cl X a tA qa):QT cl X (.UnaryOp .Not a pos) (C2 tA) (ro qa):=#v[(by
  intro d s u H Q I h;exact isTrue_not<|f.sem d s u H (λc g=>Q (!c) g) I h),(by
    intro u w Z H O b z s e Q k;refine ob e λc i e=>?_;cases e;exact f.den z s i λ{l g} j=>k j)]
def GF(d:QT cl X a tA qa):QW cl X (.BoolOp .And [a] pos) tA qa:=#v[(by
  intro f b s u H Q I h;refine isTrue_and<|thn (d.sem b s u H Q I h) λc s1 e=>?_;cases c with
  | true=>exact isTrue_and_nil e
  | false=>exact e),d.den]
def GH(b:QT cl X a tA qa):QW cl X (.BoolOp .Or [a] pos) tA qa:=#v[tw b.sem,b.den]
def GI(i:QT cl X a tA qa)(j:QW cl X (.BoolOp .And (b::es) pos) tB qb):QW cl X (.BoolOp .And (a::b::es) pos) (C1 tA tB) (fQ qa qb):=#v[(by
  intro n d s u H Q I h;refine isTrue_and<|thn (i.sem d s u H _ I h) λc s1 ⟨g,l,m⟩=>?_;cases c with
  | true=>exact j.sem n d s1 u g Q l m
  | false=>exact#v[g,l,m]),(by
    intro u w Z H O b z s e Q k;refine ob e λc o e=>(i.den z s o λ{p g} f=>?_);cases c with
    | true=>exact gk<|j.den f.wf.zd (f.slots z s) e λg2=>k<|f.pair g2
    | false=>cases e;exact gL<|k f)]
def GJ(f:QT cl X a tA qa)(g:QW cl X (.BoolOp .Or (b::es) pos) tB qb):QW cl X (.BoolOp .Or (a::b::es) pos) (oV tA tB) (Af qa qb):=#v[tz f.sem g.sem,(by
  intro u w Z H O b z s e Q k;refine ob e λc h e=>(f.den z s h λ{i j} d=>?_);cases c with
  | true=>cases e;exact gk<|k d
  | false=>exact gL<|g.den d.wf.zd (d.slots z s) e λg2=>k<|d.pair g2)]
def QW.t(h:QW cl X a tA qa):QT cl X a tA qa:=#v[PW.pt h.sem,h.den]
def GK{op}(h:QP cl X a ta pa):QP cl X (.BoolOp op [a] pos) ta pa:=#v[(λb s u H Q I c=>BoolOp_one<|h.sem b s u H Q I c),h.den]
def GL(l:QB cl X a ta pa)(m:QP cl X (.BoolOp .And (b::es) pos) tb pb):QP cl X (.BoolOp .And (a::b::es) pos) (C3 ta tb) (i3 pa pb):=#v[(by
  intro f s u H Q I h;refine BoolOp_and<|thn (l.sem f s u H _ I h) λv s1 o=>?_;let[x,j,n,r1,g]:=o;let[c,rfl,g]:=g;cases r1;refine wpAny_truthy_bool ?_;cases c with
  | true=>exact m.sem f s1 u j Q n g
  | false=>exact#v[.bl false,j,n,rfl,g]),(by
    intro u w Z H O d z s e Q k;refine ob e λx p e=>ob e λc e2 e=>?_;cases wJ e2;refine l.den z s p λ{v r j t} i r1=>?_;let[rfl,rfl]:=r1.bl_of;refine#v[c,rfl,?_];cases c with
    | true=>exact gk<|m.den i.wf.zd (i.slots z s) e λg2 q=>k ⇑(i.pair g2) q
    | false=>cases e;exact gL<|k i .bl_mk)]
def GM(l:QT cl X c tA qa)(m:QP cl X a ta pa)(n:QP cl X b tb pb):QP cl X (.IfExp c a b pos) (C5 tA ta tb) (f9 qa pa pb):=#v[(by
  intro f s u H Q I h;refine wpAny_IfExp<|thn (l.sem f s u H _ I h) λd s1 ⟨i,o,p⟩=>?_;cases d with
  | true=>exact m.sem f s1 u i Q o p
  | false=>exact n.sem f s1 u i Q o p),(by
    intro u w Z H O d z s e Q k;refine ob e λc q e=>(l.den z s q λ{r i} g=>?_);cases c with
    | true=>exact gk<|m.den g.wf.zd (g.slots z s) e λg2 j=>k ⇑(g.pair g2) j
    | false=>exact gL<|n.den g.wf.zd (g.slots z s) e λg2 j=>k ⇑(g.pair g2) j)]
def GN:d9 cl X [] YC pN:=#v[vU,e_]
def GO(a:QP cl X e te pe)(b:d9 cl X es tr pr)(c:dw X e es:=by rfl):d9 cl X (e::es) (jS te tr) (ja pe pr):=#v[jJ a.sem b.sem c,FM a.den b.den]
def GP:fo cl X [] YC pN:=#v[vU,Ae,λs a e=>by cases e;rfl]
def GQ(c:QB cl X e te pe)(b:fo cl X es tr pr)(i:dw X e es:=by rfl):fo cl X (e::es) (jS te tr) (ja pe pr):=
 ⟨jJ c.sem b.sem i,(by
   intro w y Z H O d z s e Q k;refine ob e λx f e=>ob e λg e2 e=>?_;cases e;exact c.den z s f λ{v l m o} a r1=>(b.den a.wf.zd (a.slots z s) e2 λ{u p q r} g2 j=>(k (a.pair g2)<|.cons (g2.rep a.wf.zd r1) j))),λy t h=>by
  refine ob h λx f h=>ob h λg e2 h=>?_;cases h;rw[M3,M3,b.n y g e2]⟩
def GR{c}(h:d9 cl X es tr pr):QP cl X (.Tuple es c pos) (fg tr) (yH pr):=#v[JQ h.sem,(by
  intro u w Z H O d z s e Q k;refine ob e λi f e=>oc e λg e=>?_;cases e;exact h.den z s f λ{v j l m} a r1=>#v[by rw[r1.length];exact Jz g,λp b=>k (a.trans<|Go.newF a.wf b)<|bK.tupNew a.wf b r1])]
def GS(h:d9 cl X es tr pr):QP cl X (.List es pos) (DM tr) (YK pr):=#v[(by
  intro a s x H Q I l;refine wpAny_List_spliced<|thn (h.sem pos a s x H _ I l) λm s1 ⟨f,g,i,r,z,q⟩=>#v[by rw[<- r.length];exact z,?_];refine#v[.ref ↥s1,bO g ↥s1 (.lst f),i.laid (λb u e=>L8 _ e) (N0 _) ?_,rfl,q _<|i.hok.fresh<|N0 _];exact#v[z,m,0,r,E3 _ rfl]),(by
    intro x y Z H O d z s e Q k;refine ob e λf n e=>oc e λo e=>?_;cases e;exact h.den z s n λ{v t g w} c r1=>#v[by rw[r1.length];exact Jz o,λp j=>k (c.trans<|Go.newO c.wf j)<|bK.lstNew c.wf j r1])]
def AF(f:QB cl X a ta pa)(g:QB cl X b tb pb)(h:KS b:=by exact λ_ _=>rfl):QB cl X (.Subscript a b pos) (cT (eh X.K) ta tb) (p2 jd pa pb):=#v[tW tY f.sem g.sem h,(by
  intro w U Z H O d z s e Q k;exact ob e λx i e=>ob e λy e2 e=>(f.den z s i λ{v l m n} c r1=>(g.den c.wf.zd (c.slots z s) e2 λ{u o p q} g2 j=>(Aw g2.wf.zd (g2.rep c.wf.zd r1) j e<|k<|c.pair g2))))]
def GU:QO cl X none DY oN:=#v[(by
  intro a s u H Q I h;exact M8 #v[none,H,I,.none,h]),(by
    intro u w Z H O i z s e Q k;cases e;exact k<|Go.id z)]
def GV(h:QB cl X e te pe):QO cl X (some e) (DZ te) (oS pe):=#v[(by
  intro a s w H Q I c;refine thn (h.sem a s w H _ I c) λu s1 d=>?_;let[x,b,f,r1,g]:=d;let[i,rfl,q]:=g;let[t,rfl]:=r1;exact#v[some i,b,f,.int i t,q]),(by
    intro w y Z H O i z s e Q k;refine ob e λx l e=>ob e λj e2 e=>?_;cases e;cases jE e2;refine h.den z s l λ{v n b o} m r1=>?_;let[rfl,_]:=r1.int_of;exact#v[j,rfl,k m])]
def GW{lo hi}{tl th}{pl j}{f}(k:QB cl X a ta pa)(m:QO cl X lo tl pl)(d:QO cl X hi th j):QP cl X (.Subscript a (.Slice lo hi none f) pos) (tV (rJ X.K) ta tl th) (i8 pa pl j):=
 ⟨(by
   intro c s U H Q I h;refine Subscript_<|thn (k.sem c s U H _ I h) λv s1 d=>?_;let[x,o,p,r1,r]:=d;refine wpAny_Slice<|thn (m.sem c s1 U o _ p r) λg s2 ⟨l,t,w,pl,y⟩=>thn (d.sem c s2 U t _ w y) λi e d=>?_;let[u,n,z,A,B]:=d;refine M8 ?_;have C:bL X c U n { e with heap:=e.heap.push {cls:=.type "slice",data:=.fields #[g,i,.none]} }:=z.kept λb ob q=>L8 _ q;let[T,id,D,E,F]:=F7 c { e with heap:=e.heap.push {cls:=.type "slice",data:=.fields #[g,i,.none]} } U n x v g i l u ↥e Q C r1 (Heap.IsSliceOf.new ..) pl A B;exact tail_any E D F<|by with_unfolding_all rfl),F8 k.den m.den d.den⟩
def fJ(P:Program)(w:World)(K:W4)(mg:W6)(x:Str)(st:Stmt)(k:Nat)(ps:List Str)(sp:Sp):Prop:=∃ f fd,df K mg x x st f fd ps/\∀ base,cB P w K mg base dY k f fd ps sp
def AG{k n}{ps}{m}{x}{st}{p}(O:fJ X.prog X.w X.K X.mg x st k ps<|dn #v[X.K,cl] m n)(d:bS k X.A)
  (a:fo cl X (e::es) tr pr) (f:(e::es).length=n:=by rfl) (g:Gl X x:=by rfl) (b:Nd x:=by decide)
  (i:dw X e es:=by rfl) (c:dH X pos es:=by rfl):QP cl X (.Call (.Name x p) (e::es) [] pos) (Vr (dn #v[X.K,cl] m n) [] E0 tr) (js m pr):=by
 let[_,_,F,G]:=O;exact#v[nl F (G _) d a.sem g b i c,Al a.den λs j h=>(a.n s j h).trans f]
def VI{x}{p}{id}{r}{g}(d:qG X (.builtin id) r)(f:BC #v[X.K,cl] r g)(h:X.mg x=none)(i:bootBuiltins x=some (.builtin id))(c:fo cl X (e::es) tr pr)(j:Gl X x:=by rfl)
  (k:x≠"__name__":=by decide) (a:Nd x:=by decide) (l:dw X e es:=by rfl) (b:dH X pos es:=by rfl):
  QP cl X (.Call (.Name x p) (e::es) [] pos) (f1 r tr) (bZ g pr):=#v[QF d j h i c.sem k a l b,rm f c.den]
def Qh{x}{p}{T}{r}{g}(d:qG X (.type T) r)(f:BC #v[X.K,cl] r g)(h:X.mg x=none)(i:bootBuiltins x=some (.type T))(c:fo cl X (e::es) tr pr)(j:Gl X x:=by rfl)
  (k:x≠"__name__":=by decide) (a:Nd x:=by decide) (l:dw X e es:=by rfl) (b:dH X pos es:=by rfl):
  QP cl X (.Call (.Name x p) (e::es) [] pos) (f1 r tr) (bZ g pr):=#v[zw d j h i c.sem k a l b,rm f c.den]
def GX(b:X.mg "len" = none){p}(c:fo cl X [e] tr pr)(d:Gl X "len":=by rfl)(f:starEach [e] X.env=(false,eval e X.env)::starEach [] X.env:=by rfl)(a:(backTo pos<|starEach [] X.env).any (·.1)=false:=by rfl):
  QP cl X (.Call (.Name "len" p) [e] [] pos) (f1 (λxs H Q=>∃ x n,xs=[x]/\pG X.K x H n/\Q (.int n) H) tr) (bZ Jq pr):=VI Dw F_ b PySem.boot_len c d (by decide) (by decide) f a
def zF:bootBuiltins "sum" = some (.builtin "sum"):=by decide +kernel
def GY:bootBuiltins "max" = some (.builtin "max"):=by decide +kernel
def xg:bootBuiltins "min" = some (.builtin "min"):=by decide +kernel
def YN:bootBuiltins "isinstance" = some (.builtin "isinstance"):=by decide +kernel
def xk:bootBuiltins "int" = some (.type "int"):=by decide +kernel
def GZ:bootBuiltins "str" = some (.type "str"):=by decide +kernel
def Yr:bootBuiltins "list" = some (.type "list"):=by decide +kernel
def Vj:bootBuiltins "tuple" = some (.type "tuple"):=by decide +kernel
def G0:bootBuiltins "bool" = some (.type "bool"):=by decide +kernel
def G3:bootBuiltins "dict" = some (.type "dict"):=by decide +kernel
def mh{T}{x}{p p1}(l:T∈["bool","int","str","tuple","list","dict"])(q:X.mg "isinstance" = none)(c:X.mg x=none)(f:bootBuiltins x=some (.type T))(m:QB cl X a ta pa)(r:Gl X "isinstance":=by rfl)(g:Gl X x:=by rfl)
  (u:x≠"__name__":=by decide) (i:Nd x:=by decide) (n:starEach [a,.Name x p1] X.env=(false,eval a X.env)::starEach [.Name x p1] X.env:=by rfl) (j:(backTo pos<|starEach [.Name x p1] X.env).any (·.1)=false:=by rfl)
  (h1:starEach [.Name x p1] X.env=(false,eval (.Name x p1) X.env)::starEach [] X.env:=by rfl):
  QP cl X (.Call (.Name "isinstance" p) [a,.Name x p1] [] pos) (f1 (λxs H Q=>∃ x T t b,xs=[x,.ty T]/\f4 X.K H x t/\PySem.W.kitOne X.K (.type t) (.type T)=some b/\Q (.bl b) H)<|jS ta<|jS (tC<|.ty T) YC) (xC T pa):=
 ⟨QF QU r q YN (jJ m.sem (jJ ((λ_ _ _ H _ I h=>qX I g c f #v[(V.ty T),H,I,rfl,h] u i)) vU h1) n) (by decide) (by decide) n j,(by
   intro U Y Z H O d z s e Q k;refine ob e λx w e=>ob e λt e2 e=>?_;cases e;refine m.den z s w λ{v A B C} y r1=>?_;let[h1,o]:=r1.ty e2;exact#v[v,T,t,i9 t T,rfl,h1,(by
     simp only[M5,List.not_mem_nil,or_false] at o l;rcases o with rfl | rfl | rfl | rfl | rfl | rfl | rfl<;>rcases l with rfl | rfl | rfl | rfl | rfl | rfl<;>rfl),k y .bl_mk])⟩
variable {tg iter elt:Expr}{ifs:List Expr}{wi:TI}{pi:cF}{t:TG}{g:D->Rh->Option Rh}
def G4(h:QP cl X e te pe):QI cl X tg e (io X.K te) (dQ pe):=#v[rx h.sem,FN h.den]
def G5{p}(c:X.mg "range" = none)(h:fo cl X [a] tr pr)(d:Gl X "range":=by rfl)(b:starEach [a] X.env=[(false,eval a X.env)]:=by rfl):QI cl X tg (.Call (.Name "range" p) [a] [] pos) (pu tr) (ql pr):=#v[xl d c h.sem b,(by
  intro w y Z H O m z s e Q k;refine ob e λl f e=>ob e λx e2 e=>ob e λj e3 e=>oc e λb e=>?_;cases e;cases vk e2;cases jE e3;refine h.den z s f λ{v n o q} g r1=>?_;let[u,rfl,i]:=r1.one_of;let[rfl,_]:=i.int_of;exact#v[j,rfl,(qJ b).1,(qJ b).2,k g Aj])]
def G6{elts}{n}{tpos p}(c:X.mg "enumerate" = none)(h:d9 cl X [a] tr pr)(d:Gl X "enumerate":=by rfl)(f:starEach [a] X.env=[(false,eval a X.env)]:=by rfl):QI cl X (.Tuple elts n tpos) (.Call (.Name "enumerate" p) [a] [] pos) (vo X.K tr) (xj pr):=#v[Es d c h.sem f,(by
  intro U W Z H O t z s e Q k;refine ob e λx g e=>ob e λy e2 e=>ob e λl e3 e=>?_;cases e;let[o,rfl]:=qZ e3;cases vk e2;refine h.den z s g λ{vs i u j} m r1=>?_;let[v,rfl,q]:=r1.one_of;let[a,ws,w,rfl,r,b,rfl,_]:=(q.freeze (Z':=λa=>i a\/a∈j) (λa z=>.inl z) λa z=>.inr z);exact#v[a,ws,rfl,FL.sq b,k m.fz<|Ay b r (JY _ _) ⇑(zC 0 _)])]
def G7{i}{x}(a:X.N.Nodup)(hi:X.N[i]?=some x:=by rfl)(b:fC X.env.scope x:=by first | exact Or.inl rfl | exact Or.inr rfl)(c:X.fn x=true\/X.env.scope.names.lookup x=some .local:=by first | exact .inl rfl | exact .inr rfl):
  QG cl pm X (.Name x pos) (vJ i) (jc pm i):=#v[tF a hi b c,FO]
def G8:i_ cl pm X [] ge gN:=#v[(by
  intro a s u H vs b Q I r h;let[e,h]:=h;subst e;cases r;exact assignInOrder_nil #v[u,H,I,h]),FP]
def G9{ts}{i}(h1:QG cl pm X e t g)(h2:i_ cl pm X es ts i)(l:(assignEach (e::es) X.env).map (·.2)=assign e X.env::(assignEach es X.env).map (·.2):=by rfl):i_ cl pm X (e::es) (JL t ts) (gC g i):=#v[(by
  intro b s U H vs C Q I r h;let[v,D,c,h]:=h;subst c;cases r with
  | cons r m=>
   rw[l];refine assignInOrder_cons<|thn (h1.sem b s U H _ _ _ I r h) λ_ s1 n=>?_;let[o,p,u,w]:=n;exact h2.sem b s1 o p _ _ Q u m w),(by
     intro U W E Z H O j vs r h e Q k;cases j with
     | nil=>cases e
     | cons d j=>
      refine ob e λF c e=>?_;let[v,f,G,J,rfl,e3,r1,x]:=r;let[rfl,rfl]:=List.append_eq_nil_iff.mp e3.symm;exact#v[v,f,rfl,h1.den r1 h c λs1 y h1 z=>h2.den x h1 e λs2 A h2 B=>k (λa q=>s1 a<|s2 a q) (λq=>A<|y q) h2<|z.trans B])]
def AH{ts}{g}{k n}(j:X.calm=true)(h:i_ cl pm X es ts g)(l:(assignEach es X.env).length=n:=by rfl)(d:(assignEach es X.env).findIdx? (·.1)=none:=by rfl):QG cl pm X (.Tuple es k pos) (f0 X.K n ts) (gT n g):=#v[(by
  intro c s U H v u Q I r f;let[a,m,p,q,t,f]:=f;subst p;cases r;let[w,i,x,B]:=I.tuple q;refine assign_Tuple_tuple (I.ok.hd j) x (by simp[l,<- t,i.length]) d λy z=>?_;have A:bL X c U H {s with heap:=y}:=I.kept λb o e=>z b o (N7<|N2 e) e;exact h.sem c _ U H m _ Q A ⇑i f),FQ h.den]
def G_:mf cl X [] (λ_ H Q=>Q true H) qT:=#v[.inl #v[rfl,rfl],(by
  intro u w Z H O b z s e Q k;cases e;exact k<|Go.id z)]
def Ha(h:QT cl X c tA qa):mf cl X [c] tA qa:=#v[.inr #v[c,rfl,h.sem],h.den]
variable {st:Stmt}{YL:List Stmt}{ts tu:TS}{f fe:FS}{fE:FE}
def Hb:fq cl pm X [] C7 jT:=#v[(λ_ _ s H _ I h=>wpAny_execs_nil #v[s,H,I,h]),(by
  intro s u Z H O o w h e a k;cases e;exact k (Go.refl w) h<|bX.refl _ _)]
def Hc(h:QS cl pm X st ts f):fq cl pm X [st] ts f:=#v[C9 h.sem,h.den]
def Hd(h:QS cl pm X st ts f)(k:fq cl pm X YL tu fe):fq cl pm X (st::YL) (oW ts tu) (jf f fe):=#v[C8 h.sem k.sem,FI h.den k.den]
def He(h:QE cl X e te fE)(a:swapsWith e none pos.line X.env=pure false:=by rfl):QS cl pm X (.Expr e pos) (Yc te) (Ql fE):=#v[Ym h.sem a,FJ h.den]
def Hf(h:QE cl X e te fE):QS cl pm X (.Return (some e) pos) (oX te) (yb fE):=#v[C' h.sem,FK h.den]
def Hg{x y}(a:QT cl X c tA qa)(b:fq cl pm X x ts f)(e:fq cl pm X y tu fe):QS cl pm X (.If c x y pos) (m5 tA ts tu) (cp (cq qa) f fe):=#v[tD a.sem b.sem e.sem,Ac (f8.d a.den) b.den e.den]
def Hh{i}{x}{pos'}(a:X.N.Nodup)(h:QE cl X e te fE)(hi:X.N[i]?=some x:=by rfl)(b:fC X.env.scope x:=by first | exact Or.inl rfl | exact Or.inr rfl)(c:swapsWith e (some<|.Name x pos') pos.line X.env=pure false:=by rfl)
  (d:X.fn x=true\/X.env.scope.names.lookup x=some .local:=by first | exact .inl rfl | exact .inr rfl):QS cl pm X (.Assign [.Name x pos'] e pos) (gH te<|vJ i) (ju fE<|jc pm i):=#v[Db a hi b h.sem c d,nG h.den V0]
def Hi{i}{x}{a c}(g:QB cl X (.Name x a) (yj i)<|pV i)(hi:QB cl X b tb pb)(h:QE cl X e te fE)
  (B:∀ v,assign (.Subscript (.Name x a) b c) X.env v=(do
   let ov <- holding [v] (eval (.Name x a) X.env)
   let iv <- holding [v,ov] (eval b X.env)
   standAt c
   holding [v,ov,iv] (setItem ov iv v)
   release [v,ov,iv] []):=by intro _;rfl)
  (j:swapsWithSole [.Subscript (.Name x a) b c] e pos.line X.env=pure false:=by rfl) (k:swappedStores [.Subscript (.Name x a) b c] e X.env=pure none:=by rfl)
  (h1:(assignEach [.Subscript (.Name x a) b c] X.env).map (·.2)=[assign (.Subscript (.Name x a) b c) X.env]:=by rfl):
  QS cl pm X (.Assign [.Subscript (.Name x a) b c] e pos) (gH te<|tG (yj i) tb ng) (ju fE<|nM pm i pb):=#v[Da h.sem ((by
    intro d s U H v u Q I r h;refine L3<|wpAny_holding<|thn (g.sem d s U H _ I h) λov s1 f=>?_;let[x,l,m,r1,n]:=f;refine L3<|wpAny_holding<|thn (hi.sem d s1 U l _ m n) λiv s2 f=>?_;let[y,o,p,q,t]:=f;exact L3<|wpAny_standAt<|L3<|wpAny_holding<|thn (uJ d s2 U o x y v ov iv u _ p r1 q r t) λ_ C ⟨w,z,A⟩=>(wpAny_release #v[U,w,z,A]))) j k h1,nG h.den<|Ge hi.den]
def Hj:tJ X (nc X.K):=by
 intro a s U H o i B C Q I r1 m h;let[p,D,k,z,rfl,rfl,n,u,q]:=h;cases r1;let[t,rfl]:=m;let[d,r,pl,E]:=I.list n;let[j,c,v,F,x,y]:=KJ u;let[w,g,e]:=r.get v;have A:=r.length;have G:=QM;have b:EP X a U Q w s:=#v[z,H,I,e,q];by_cases l:0<=k
 ·have f:k.toNat=j:=by
   rw[seqIndex_of l y] at c;exact X8 c
  exact wpAny_getItem_list pl.isList l ∅ (by rw[f];simpa using g) b
 ·have f:(k+d.toArray.size).toNat=j:=by
   rw[seqIndex_neg ∅ x] at c;rw[N4,<- A];exact X8 c
  exact wpAny_getItem_list_neg pl.isList ∅ (by rw[N4]<;>lia) ∅ (by rw[f];simpa using g) b
def Hk{i}{x}{c f}{op}{m}(z:QB cl X (.Name x c) (yj i)<|pV i)(hi:QB cl X b tb pb)(A:iO X op<|iP m)(h:QB cl X e te pe)
  (B:∀ ov iv new,augStore b ov iv new=(do holding [new,ov,iv] (setItem ov iv new);release [new,ov,iv] [];pure .next):=by intros;rfl):QS cl pm X (.AugAssign (.Subscript (.Name x c) b f) op e pos) (tI (yj i) tb te (nc X.K) (iP m) ng) (u4 i pb m pe):=
 ⟨Dd z.sem hi.sem Hj h.sem A uJ B,(by
   intro σ ρ Z H O o w s e P k;refine ob e λc1 C e=>ob e λn D e=>ob e λt E e=>ob e λl e5 e=>ob e λj e2 e=>ob e λQ F e=>ob e λx G e=>ob e λR e3 e=>ob e λy e7 e=>?_;cases e;cases jE D;cases YZ e5;cases jE G;cases jE e7;refine qU (P0:=[]) Ju w s E rfl YD λa _ vs S p _ v I put=>I<|hi.den w.zd s C λ{u T U V} g r1=>?_;let[rfl,_]:=r1.int_of;let[W,Y,r,J]:=p.atI (by unfold L2.atI;rw[e2];exact F);let[rfl,_]:=J.int_of;refine#v[a,vs,n,.int x,rfl,rfl,ck.of<|g.at0 v,r,h.den g.wf.zd (g.slots w.zd s) e3 λ{u3 Z3 H3 P3} g3 L=>?_];let[rfl,_]:=L.int_of;have d:=g.pair g3;let[O2,M,t]:=AB (d.reps w.zd p) (Az e2)<|bK.int_mk;let[O3,g4,N]:=put YD trivial d M λq=>by have:=t q;simp at this ⊢;lia
   exact#v[x,y,rfl,rfl,a,vs,n,j,rfl,rfl,d.at0 v,by rw[p.length];exact e2,k g4 N<|bX.refl _ _])⟩
@[simp] def rL(pm:List Nat)(i:Nat)(g:Int->Int->Int)(pa:PF)(s:Rh):Option cf:=(pV i s).bind λx=>(yS x).bind λa=>(pa s).bind λy=>(yS y).bind λb=>(jc pm i (.int<|g a b) s).bind λr=>some<|.nx r
def Hl{i}{x}{pos'}{op}{b}(f:X.N.Nodup)(g:iO X op<|iP b)(h:QB cl X e te pe)(hi:X.N[i]?=some x:=by rfl)(a:fC X.env.scope x:=by first | exact Or.inl rfl | exact Or.inr rfl)
  (j:X.fn x=true\/X.env.scope.names.lookup x=some .local:=by first | exact .inl rfl | exact .inr rfl):QS cl pm X (.AugAssign (.Name x pos') op e pos) (tH i te<|iP b) (rL pm i b pe):=#v[Dc f hi a h.sem g j,(by
    intro U W Z H O o w s e t k;refine ob e λc1 a e=>ob e λx e3 e=>ob e λz l e=>ob e λy m e=>ob e λC e2 e=>?_;cases e;cases jE e3;cases jE m;have a:=YQ a;let[A,P,B,rfl,n,_,_]:=s.put (L9.mp a).1;let[v,p,r]:=n _ a;let[rfl,_]:=r.int_of;refine#v[_,p,h.den w.zd s l λ{u D E F} c r1=>?_];let[rfl,_]:=r1.int_of;have d:=c.widen w;exact#v[x,y,rfl,rfl,V0 d.wf (bK.int_mk) (c.slots w.zd s) e2 λg2 s2 q=>k (d.trans g2) s2 q])]
def Hm{i}{x}{a apos cpos}(j:QB cl X (.Name x a) (yj i)<|pV i)(h:QP cl X e te pe)(c:attributeBase (.Name x a) "append" X.env (eval (.Name x a) X.env)=eval (.Name x a) X.env:=by rfl)
  (f:((backTo cpos<|starEach [e] X.env).all (λx=>!x.1)&&(backToKw cpos<|keywordEach [] X.env).all (λx=>x.1.isSome)
   && decide ([e].length+([]:List Keyword).length+(if([]:List Keyword).isEmpty then 0 else 1)<30))=true:=by rfl)
  (d:(apos.endLine==cpos.line)=true:=by rfl) (g:starEach [e] X.env=(false,eval e X.env)::starEach [] X.env:=by rfl) (b:(backTo cpos<|starEach [] X.env).any (·.1)=false:=by rfl)
  (hsw:swapsWith (.Call (.Attribute (.Name x a) "append" apos) [e] [] cpos) none pos.line X.env=pure false:=by rfl):
  QS cl pm X (.Expr (.Call (.Attribute (.Name x a) "append" apos) [e] [] cpos) pos) (Yc<|fF X.K "list" Ys (yj i)<|jS te YC) (fI i pe):=
 ⟨Ym (iR PySem.F.plainAttrs_list PySem.F.slot_list_append PySem.F.type_list_append J3 j.sem (jJ h.sem vU g) c f d g b) hsw,(Ao Ju h.den)⟩
def Hn{body}(c:PassesOwn (model X.prog X.w) X.A X.env X.xe)(d:X.calm=true)(hi:QI cl X tg iter wi pi)(a:QG cl pm X tg t g)(b:fq cl pm X body ts f)(e:∀ x,foldedSetIterable iter X.env x=pure x:=by intro _;rfl):QS cl pm X (.For tg iter body [] pos) (lO wi t ts) (qu pi g f):=
 ⟨tK c d hi.sem a.sem b.sem e,FR hi.den a.den b.den⟩
def QS.fz(i)(h:QS cl pm X st ts f):QS cl pm X st ts (cU i f):=#v[h.sem,(by
  intro u ρ Z H O o w s e l k;unfold cU at e;split at e
  ·rename_i d hd;have hd:=YQ hd;let[A,P,B,rfl,b,c,_]:=s.put (L9.mp hd).1;let[v,j,r]:=b d hd;have g:=(Go.freeze w.mid).frame w;have s2:=c (r.freeze (Z':=λa=>Z a\/a∈P) (λa z=>.inl z) λa z=>.inr z) (λa z=>.inl z) (λ_ _=>rfl) (λ_ _=>rfl)<|λ_ _=>rfl;rw[yK j] at s2;exact h.den g.wf s2 e<|k.pre g<|bX.refl _ _
  ·exact h.den w s e k)]
def Ho{P}{w}{K}{mg}{base}{x qual}{a}{fa}{fd}{N ps}{k n}{fs}(F:gj K x qual a fa fd)(e:ce N ps<|jG a)(c:ps.length=n)
  (b:∀ cdv A outer s H E,bS k (A.deeper<|envOfC qual (jG a) ↥s fa cdv) ->
   ∃ ts,fq cl [] (gJ dY P w K mg base N qual (jG a) fa cdv A outer s H E).nox (kg a) ts fs):cB P w K mg base dY (k+1) fa fd ps (dn #v[K,cl] (cH N.length fs) n):=by
 refine F.ok e (λvs H Q E h=>by rw[(show vs.length=n from by 
   let[Z,g,d,z,c,r,_]:=h;rw[r.length,c]),c]) λcdv A outer s H vs Q E f h=>?_
 let[ts,q]:=b cdv A outer s H E f;exact#v[ts,q.sem,FU q.den h]
end
mutual
def fS:D->PyData
 | .non=>.none | .bl b=>.bool b | .int i=>.int i | .str s=>.str<|S s
 | .tup l=>.tuple<|qA l
 | .lst _ l=>.list<|qA l
 | .dK _ _ _=>.none | .dT _ _ _=>.none | .ins _ _ _ _=>.none | .dead=>.none | .tok _=>.none | .kt _=>.none | .exc _ _=>.none
def qA:List D->List PyData
 | []=>[]
 | d::l=>fS d::qA l
end
mutual
def d4:Nat->D->Bool
 | _,.non=>true | _,.bl _=>true | _,.int _=>true
 | _,.str s=>s.all λc=>decide<|c<1114112
 | n+1,.tup l=>w8 n l
 | n+1,.lst _ l=>w8 n l
 | _,_=>false
def w8:Nat->List D->Bool
 | _,[]=>true
 | n,d::l=>d4 n d&&w8 n l
end
mutual
def j5:D->D->Bool
 | .non,y=>match y with | .non=>true | _=>false
 | .bl a,y=>match y with | .bl b=>a==b | .int j=>(if a then 1 else 0)==j | _=>false
 | .int i,y=>match y with | .bl b=>i==(if b then 1 else 0) | .int j=>i==j | _=>false
 | .str a,y=>match y with | .str b=>a==b | _=>false
 | .tup l,y=>match y with | .tup m=>f_ l m | _=>false
 | .lst _ l,y=>match y with | .lst _ m=>f_ l m | _=>false
 | _,_=>false
def f_:List D->List D->Bool
 | [],[]=>true
 | x::l,y::m=>j5 x y&&f_ l m
 | _,_=>false
end
def Hq:D->Bool
 | .non=>true | .bl _=>true | .int _=>true | .str _=>true | .tup _=>true | .lst _ _=>true | _=>false
def j7{n x}{p:Prop}(h:d4 n x=true)(k:Hq x=false):p:=by
 cases x<;>cases k<;>cases n<;>cases h
theorem uu:∀ n l,w8 n l=l.all (d4 n)
 | _,[]=>rfl
 | n,d::l=>by rw[w8,uu n l];rfl
mutual
theorem rM:∀(n:Nat) (x y:D),d4 n x=true->d4 n y=true->PyData.eqv (fS x) (fS y)=j5 x y
 | n,.non,y,hx,hy=>by cases y<;>first | rfl | exact j7 hy rfl
 | n,.bl a,y,hx,hy=>by cases y<;>first | rfl | exact j7 hy rfl
 | n,.int a,y,hx,hy=>by cases y<;>first | rfl | exact j7 hy rfl
 | n,.str a,y,hx,hy=>by
  cases y with
  | str b=>
   show(S a==S b)=(a==b);rw[Bool.eq_iff_iff];simp[pT]
  | _=>first | rfl | exact j7 hy rfl
 | 0,.tup l,y,hx,hy=>absurd hx M4
 | n+1,.tup l,y,hx,hy=>by
  cases y with
  | tup m=>show PyData.eqvAll (qA l) (qA m)=f_ l m;exact we n l m hx hy
  | _=>first | rfl | exact j7 hy rfl
 | 0,.lst o l,y,hx,hy=>absurd hx M4
 | n+1,.lst o l,y,hx,hy=>by
  cases y with
  | lst o' m=>show PyData.eqvAll (qA l) (qA m)=f_ l m;exact we n l m hx hy
  | _=>first | rfl | exact j7 hy rfl
 | n,.dK _ _ _,y,hx,hy=>j7 hx rfl
 | n,.dT _ _ _,y,hx,hy=>j7 hx rfl
 | n,.ins _ _ _ _,y,hx,hy=>j7 hx rfl
 | n,.dead,y,hx,hy=>j7 hx rfl
 | n,.tok _,y,hx,hy=>j7 hx rfl
 | n,.kt _,y,hx,hy=>j7 hx rfl
 | n,.exc _ _,y,hx,hy=>j7 hx rfl
theorem we:∀(n:Nat) (l m:List D),w8 n l=true->w8 n m=true->PyData.eqvAll (qA l) (qA m)=f_ l m
 | n,[],[],_,_=>rfl
 | n,[],_::_,_,_=>rfl
 | n,_::_,[],_,_=>rfl
 | n,x::l,y::m,hx,hy=>by
  rw[w8,M0] at hx hy;show(PyData.eqv (fS x) (fS y)&&PyData.eqvAll (qA l) (qA m))=(j5 x y&&f_ l m);rw[rM n x y hx.1 hy.1,we n l m hx.2 hy.2]
end
mutual
theorem uh:∀(n:Nat) (x:D),d4 n x=true->(fS x).canLay0=true/\(fS x).depth<=n
 | n,.non,_=>#v[rfl,U7 _]
 | n,.bl _,_=>#v[rfl,U7 _]
 | n,.int _,_=>#v[rfl,U7 _]
 | n,.str s,h=>by
  refine#v[?_,U7 _];have h:(s.all λc=>decide<|c<1114112)=true:=by cases n<;>exact h
  show PyData.strOk (S s)=true;unfold PyData.strOk S;rw[Array.all_eq_true'];intro c hc;rw[List.all_eq_true] at h;exact h c ⇑hc
 | 0,.tup l,h=>absurd h M4
 | n+1,.tup l,h=>by
  let[h1,h2]:=Vz n l h;exact#v[h1,Nat.succ_le_succ h2]
 | 0,.lst o l,h=>absurd h M4
 | n+1,.lst o l,h=>by
  let[h1,h2]:=Vz n l h;exact#v[h1,Nat.succ_le_succ h2]
 | n,.dK _ _ _,hx=>j7 hx rfl
 | n,.dT _ _ _,hx=>j7 hx rfl
 | n,.ins _ _ _ _,hx=>j7 hx rfl
 | n,.dead,hx=>j7 hx rfl
 | n,.tok _,hx=>j7 hx rfl
 | n,.kt _,hx=>j7 hx rfl
 | n,.exc _ _,hx=>j7 hx rfl
theorem Vz:∀(n:Nat) (l:List D),w8 n l=true->PyData.canLayAll0 (qA l)=true/\PyData.depthAll (qA l)<=n
 | n,[],_=>#v[rfl,U7 _]
 | n,x::l,h=>by
  rw[w8,M0] at h;let[h1,h2]:=uh n x h.1;let[h3,h4]:=Vz n l h.2;rw[qA];refine#v[?_,?_]
  ·show((fS x).canLay0&&PyData.canLayAll0 (qA l))=true;rw[h1,h3];rfl
  ·show max (fS x).depth (PyData.depthAll<|qA l)<=n;exact Nat.max_le.mpr #v[h2,h4]
end
mutual
theorem bK.reads(I:bL X pins y H s):∀(n:Nat) {x:D}{v:V}{u:Value}{O:W5},bK #v[X.K,cl] Z H x v O->bN v u->d4 n x=true->∃ as,Reads s.heap u (fS x) as
 | n,.non,_,_,_,r,q,_=>by let[rfl,_]:=r.non_of;cases q;exact#v[_,.none]
 | n,.bl b,_,_,_,r,q,_=>by let[rfl,_]:=r.bl_of;cases q;exact#v[_,.bool b]
 | n,.int i,_,_,_,r,q,_=>by let[rfl,_]:=r.int_of;let[t,rfl]:=q;exact#v[_,.int i t]
 | n,.str w,_,_,_,r,q,_=>by let[rfl,_]:=r.str_of;let[t,rfl]:=q;exact#v[_,.str _ t]
 | 0,.tup l,_,_,_,r,q,h=>absurd h M4
 | n+1,.tup l,_,_,_,r,q,h=>by
  let[a,vs,rfl,hx,rs]:=r.tup_of;cases q;obtain⟨its,rv,⟨o,h1,h2,k,h3⟩,_⟩:=I.tuple hx;let[as,hr]:=a_.reads I n rs rv h;exact#v[_,reads_tuple_at h1 h2 h3 ⇑hr]
 | 0,.lst o l,_,_,_,r,q,h=>absurd h M4
 | n+1,.lst o l,_,_,_,r,q,h=>by
  let[a,vs,O',rfl,hx,rs]:=r.lst_of;cases q;obtain⟨its,rv,⟨o,k,h1,h2,_,h3⟩,_⟩:=I.list hx.sq;let[as,hr]:=a_.reads I n rs rv h;exact#v[_,reads_list_at h1 h2 h3 ⇑hr]
 | n,.dK _ _ _,_,_,_,_,_,hx=>j7 hx rfl
 | n,.dT _ _ _,_,_,_,_,_,hx=>j7 hx rfl
 | n,.ins _ _ _ _,_,_,_,_,_,hx=>j7 hx rfl
 | n,.dead,_,_,_,_,_,hx=>j7 hx rfl
 | n,.tok _,_,_,_,_,_,hx=>j7 hx rfl
 | n,.kt _,_,_,_,_,_,hx=>j7 hx rfl
 | n,.exc _ _,_,_,_,_,_,hx=>j7 hx rfl
theorem a_.reads(I:bL X pins u H s):∀(n:Nat) {l:List D}{vs:List V}{us:List Value}{O:W5},a_ #v[X.K,cl] Z H l vs O->bM vs us->w8 n l=true->∃ as,ReadsAll s.heap us (qA l) as
 | n,[],_,_,_,r,q,_=>by rw[a_] at r;let[rfl,_]:=r;cases q;exact#v[_,.nil]
 | n,x::l,_,_,_,r,q,h=>by
  rw[a_] at r;let[v,vs,O1,O2,rfl,rfl,r1,r2]:=r;rw[w8,M0] at h;cases q with
  | cons q1 q2=>
   let[as,h1]:=bK.reads I n r1 q1 h.1;let[bs,h2]:=a_.reads I n r2 q2 h.2;exact#v[_,.cons h1 h2]
end
def mi(R:RC)(neg:Bool):R2:=λx y H Q=>∃ Z d e O P,bK R Z H d x O/\bK R Z H e y P/\d4 20 d=true/\d4 20 e=true/\Q (.bl<|neg != j5 d e) H
def nN(h:d4 20 x=true):SeqAt.shaped (fS x)=true:=by
 let[a,b]:=uh 20 x h;unfold SeqAt.shaped;rw[a,Bool.true_and];exact X5<|N8 b (by decide)
def qr(x y:D):Option D:=bif JD x&&JD y&&K5 x y then some (.bl<|ip x y) else bif d4 20 x&&d4 20 y then some (.bl<|j5 x y) else none
def wX(x y:D):Option D:=bif JD x&&JD y&&K5 x y then some (.bl<|!ip x y) else bif d4 20 x&&d4 20 y then some (.bl<|!j5 x y) else none
def Hr:BO R (λx y H Q=>pB x y H Q\/mi R false x y H Q) qr:=by
 intro Z H x y d v u f g z b c e Q k;unfold qr at e;cases hl:JD x&&JD y&&K5 x y with
 | true=>
  rw[hl] at e;cases e;let[h,i]:=Au b c hl;exact .inl #v[h,by rw[i];exact k (Go.id z) .bl_mk]
 | false=>
  rw[hl,cond_false] at e;refine oc e λa e=>?_;cases e;rw[M0] at a;exact .inr #v[Z,x,y,f,g,b,c,a.1,a.2,by simpa using k (Go.id z) .bl_mk]
def Ht:BO R (λx y H Q=>m7 x y H Q\/mi R true x y H Q) wX:=by
 intro Z H x y d v u f g z b c e Q k;unfold wX at e;cases hl:JD x&&JD y&&K5 x y with
 | true=>
  rw[hl] at e;cases e;let[h,i]:=Au b c hl;exact .inl #v[h,by rw[i];exact k (Go.id z) .bl_mk]
 | false=>
  rw[hl,cond_false] at e;refine oc e λa e=>?_;cases e;rw[M0] at a;exact .inr #v[Z,x,y,f,g,b,c,a.1,a.2,by simpa using k (Go.id z) .bl_mk]
def Hu(g:bS k X.A):dg cl X .Eq b (λx y H Q=>pB x y H Q\/mi #v[X.K,cl] false x y H Q) qr:=#v[YF Dq ((by
  intro f s w H x y v u Q I i j h;let[Z,d,e,O,P,r1,l,a,c,q]:=h;let[o,m]:=r1.reads I 20 i a;let[bs,n]:=l.reads I 20 j c;refine eq_dataH m n (nN a) (nN c) g.units ?_;rw[rM 20 d e a c];exact#v[.bl _,H,I,rfl,by simpa using q])),Hr,Kt _]
def gv(g:bS k X.A):dg cl X .NotEq b (λx y H Q=>m7 x y H Q\/mi #v[X.K,cl] true x y H Q) wX:=#v[YF Dr ((by
  intro f s w H x y v u Q I i j h;let[Z,d,e,O,P,r1,l,a,c,q]:=h;let[o,m]:=r1.reads I 20 i a;let[bs,n]:=l.reads I 20 j c;refine ne_dataH m n (nN a) (nN c) g.units ?_;rw[rM 20 d e a c];exact#v[.bl _,H,I,rfl,by simpa using q])),Ht,Kt _]
def BM(R:RC)(T:String)(r:V->List V->Hp->VK->Prop)(g:D->List D->Option D):Prop:=∀{Z}{H}{x d}{xs}{v}{vs}{O1 O2},Zd Z H->bK R Z H x v O1->a_ R Z H xs vs O2->g x xs=some d ->
 ∀{Q},(∀{w}{Z'}{H'}{P},Go Z H [] Z' H' P->bK R Z' H' d w P->Q w H')->r v vs H Q
def rN:String->D->Bool
 | "str",.str _=>true
 | _,_=>false
@[simp] def mj(T:String)(g:D->List D->Option D)(pa:PF)(pr:cF)(s:Rh):Option D:=(pa s).bind λx=>bif rN T x then(pr s).bind λxs=>g x xs else none
end QD
namespace QD
open PySem L2
section
variable {R:RC}{Z Z':Zn}{H H':Hp}{pm:List Nat}
def fH(R:RC)(J:It)(Z:Zn)(H:Hp)(xs:List D):Prop:=∀{Z1}{H1},(∀ a,Z a->Z1 a)->(∀ a,H a≠none->H1 a=H a)->Zd Z1 H1->∀ i:Nat,
 (xs.length<=i->J.stop i H1)/\∀ x,xs[i]?=some x->J.go i H1/\∀ u H2,J.yld i H1 u H2->∃ Z2,Go Z1 H1 [] Z2 H2 []/\bK R Z2 H2 x u []
def nP(R:RC)(wi:TI)(p:cF):Prop:=∀{s}{u}{Z}{H}{O}{xs},Zd Z H->Slots R Z H u s O->p u=some xs ->
 ∀{Q:It->Hp->Prop},(∀{J}{Z'}{H'},Go Z H [] Z' H' []->fH R J Z' H' xs->Q J H')->wi s H Q
def gu.b(h:gu R wi p):nP R wi p:=by
 intro u ρ Z H O j z s e Q k;refine h z s e λg c=>k g ?_;intro l m d f zd i;exact c d (λa z=>f a<|g.wf.zd a z) zd i
def itB:D->Option (List D)
 | .lst _ l=>bif frzs l then some l else none
 | .tup l=>bif frzs l then some l else none
 | .str s=>some<|s.map λc=>.str [c]
 | _=>none
@[simp] def YS(p:PF)(ρ:Rh):Option (List D):=(p ρ).bind itB
def Hv(h:PB R te p):nP R (io R.K te) (YS p):=by
 intro U W Z H O P z s e Q k;refine ob e λc C e=>?_;cases c with
 | lst o l=>
  refine oc e λD e=>?_;cases e;refine h z s C λ{v J L M} g r1=>?_;let[a,vs,S,rfl,d,r]:=r1.lst_of;have E:=r.frozen D;refine .inl #v[a,rfl,#v[vs,d.sq],k g ?_];intro B F y j zd i;have f:=fk.sq ((by
    rcases d with d | d
    ·refine .inl<|Rd.agree (j a ?_) d;rcases d with d | ⟨o,d⟩<;>rw[d]<;>exact λz=>(nomatch z)
    ·exact .inr d))
  have m:=E.frame y (λb z=>j b<|g.wf.zd b z) λb G=>(nomatch G);refine#v[λhi=>#v[vs,f,by rw[r.length];exact hi],λx n=>?_];let[u,A,I]:=m.item n;refine#v[#v[vs,u,f,A],λw N q=>?_];let[rfl,q]:=q;have e2:=q vs f;rw[A] at e2;cases e2;exact#v[B,Go.id zd,I]
 | tup l=>
  refine oc e λD e=>?_;cases e;refine h z s C λ{v J L M} g r1=>?_;let[a,vs,rfl,d,r]:=r1.tup_of;refine .inr<|.inl #v[a,rfl,#v[vs,d],k g ?_];intro B F y j zd i;have f:cJ R.K F a vs:=by 
    rcases d with d | d
    ·refine .inl<|Rd.agree (j a ?_) d;rcases d with d | ⟨o,d⟩<;>rw[d]<;>exact λz=>(nomatch z)
    ·exact .inr d
  have m:=(r.frozen D).frame y (λb z=>j b<|g.wf.zd b z) λb G=>(nomatch G);refine#v[λhi=>#v[vs,f,by rw[r.length];exact hi],λx n=>?_];let[u,A,I]:=m.item n;refine#v[#v[vs,u,f,A],λw N q=>?_];let[rfl,q]:=q;have e2:=q vs f;rw[A] at e2;cases e2;exact#v[B,Go.id zd,I]
 | str t=>
  cases e;refine h z s C λ{v J L M} g r1=>?_;let[rfl,_]:=r1.str_of;refine .inr<|.inr #v[t,rfl,k g ?_];intro B F y j zd i;exact Ai y (λb z=>j b<|g.wf.zd b z) zd i
 | _=>cases e
inductive AI (R:RC) (g:D->Rh->Option Rh) (q:eq) (p:PF) (Z0:Zn) (H0:Hp) (a:Addr) (xs all:List D) (i m:Nat) (σ2:L2.St) (H2:Hp):Prop
 | mk:m=xs.length-i->i<=xs.length->∀(ρ2:Rh) (Z2:Zn) (O2:W5) (ys:List D) (vs:List V) (Py:W5) (YL:List D),Go Z0 H0 [] Z2 H2 (a::Py)->H2 a=some (.lst vs)->a_ R Z2 H2 ys vs Py->(∀ b∈O2,b≠a)->Slots R Z2 H2 ρ2 σ2 O2->jU g q p (xs.drop i) ρ2=some YL->all=ys++YL->ys.length<=i->AI R g q p Z0 H0 a xs all i m σ2 H2
def JW{tg}{tc}{te}{g}{q}{p}{ix}(hg:gR R [] tg g)(hq:f8 R tc q)(he:PP R te p)
  {J:It}{h:Zn}{c:Hp}{ρ:Rh}{σ:L2.St}{O:W5}{xs all:List D}(x:Zd h c) (s:Slots R h c ρ σ O) (it:fH R J h c xs) (hl:bW xs.length=true) (e2:jU g q p xs (jq ix ρ)=some all)
  {Q:VK}(k:∀{v}{Z'}{H'}{P},Go h c [] Z' H' P->bK R Z' H' (.lst true all) v P->Q v H'):∀ a,c a=none->u7 tc te tg J a (yw ix σ) (bO c a<|.lst []) λH2=>Q (.ref a) H2:=by
 intro a Y;let[Oi,Z]:=Vu s ix;have gp:Go h c [] h (bO c a<|.lst []) [a]:=Go.newO (cS x) Y;refine#v[AI R g q p h c a xs all,
  ⟨xs.length,rfl,U7 _,_,h,Oi,[],[],[],all,gp,jj,a_.empty,λb d e=>Z.dom b d<|e▸Y,gp.slots x Z,e2,rfl,N0 _⟩,?_]
 rintro i m σ2 H2 ⟨rfl,M,ρ2,Z2,O2,ys,vs,n,YL,g2,N,G,S,s2,e3,H,o⟩;have A:=it g2.zz (g2.same) g2.wf.zd i;by_cases C:i<xs.length
 ·right
  have hx:xs[i]?=some xs[i]:=by simp
  let[go,yl]:=A.2 _ hx;refine#v[go,λu H3 hy=>?_];let[Z3,g3,r3]:=yl u H3 hy;rw[qP hx] at e3;refine ob e3 λρ3 e5 e3=>(hg r3 (g3.slots g2.wf.zd s2) e5 λ{σ4 O4} sub nd I _=>(ob e3 λb e6 e3=>(hq g3.wf.zd I e6 λ{Z5 H5} E=>?_)));have j:=g3.pair E;cases b with
  | true=>
   refine gk<|ob e3 λy e7 e3=>ob e3 λT e8 e3=>?_;cases e3;refine he E.wf.zd (E.slots g3.wf.zd I) e7 λ{K t l w} g6 r6=>?_;have r:Go Z2 H2 [] t l w:=by simpa using j.pair g6
   have U:l a=some (.lst vs):=by rw[r.same a ∅];exact N
   have V:vs.length<sizeLine:=by
    rw[G.length];exact YB<|X5<|N8 o<|N8 M<|X7 hl
   have L:Go h c [] t l (a::n++w):=by
    have f:=r.frame (B:=[]) ⇑g2.wf;exact g2.trans ⇑f
   have W:=L.wf;have gB:Go t l (a::n++w) t (bO l a<|.lst<|vs++[K]) (a::n++w):=Go.put W L7;have ne:∀ b,b∈n++w->bO l a (.lst<|vs++[K]) b=l b:=λb d=>je λz=>(List.nodup_cons.mp W.nd).1 (z▸d);have F:∀ b,t b->bO l a (.lst<|vs++[K]) b=l b:=λb d=>je λz=>W.nz a L7<|z▸d;refine#v[vs,U,V,xs.length-(i+1),by lia,rfl,C,ρ3,t,O4,ys++[y],vs++[K],n++w,T,L.trans gB,jj,?_,λb d=>S b<|sub b d,(((E.pair g6).slots g3.wf.zd I).frame (λb z=>z) F λb d=>je<|S b<|sub b d),e8,by rw[H];simp,by rw[N5];exact Nat.add_le_add_right o 1]
   ·refine((r.reps g2.wf.zd G).append (.one r6)).frame (λb z=>z) F ne
  | false=>
   refine gL ?_;have L:Go h c [] Z5 H5 (a::n):=by
    exact g2.trans (by simpa using(j.frame (B:=[]) ⇑g2.wf))
   exact#v[xs.length-(i+1),by lia,rfl,C,ρ3,Z5,O4,ys,vs,n,YL,L,by rw[j.same a ∅];exact N,j.reps g2.wf.zd G,λb d=>S b<|sub b d,E.slots g3.wf.zd I,e3,H,Nat.le_succ_of_le o]
 ·left
  have X:i=xs.length:=by lia
  refine#v[A.1 ∅,?_];rw[X,List.drop_length] at e3;cases e3;rw[N1] at H;subst H;exact k g2 #v[a,vs,n,rfl,G,N,rfl]
def AJ{wi}{tg}{tc}{te}{pi}{g}{q}{p}{ix}(hi:nP R wi pi)(b:gR R [] tg g)(c:f8 R tc q)(f:PP R te p):
  PP R (Vb wi tg tc te ix) (yi pi g q p ix):=by
 intro u v Z H O d z s e Q k;refine ob e λm h e=>oc e λi e=>ob e λall e2 e=>?_;cases e;exact hi z s h λ{J n o} a j=>(JW b c f a.wf.zd (a.slots z s) j i e2 λl r1=>k ⇑(a.pair l) r1)
end
section
variable {cl:Nat->Addr}{pm:List Nat}{X:Cx}{c e elt tg iter:Expr}{te:TE}{pe:PF}{ifs:List Expr}{wi:TI}{pi:cF}{t:TG}{g:D->Rh->Option Rh}{pos:Pos}{ts:TS}{f:FS}
structure ml(cl:Nat->Addr)(X:Cx)(tg e:Expr)(wi:TI)(p:cF):Prop where
 sem:PI X tg e wi
 den:nP #v[X.K,cl] wi p
def QI.b'(h:QI cl X tg e wi pi):ml cl X tg e wi pi:=#v[h.sem,gu.b h.den]
def Hw(h:QB cl X e te pe):ml cl X tg e (io X.K te) (YS pe):=#v[rx h.sem,Hv h.den]
def Hx{scope}{N'}{ix}{a}{c}(B:ca X scope N' ix)(f:X.calm=true)(hi:ml cl X tg iter wi pi)
  (d:∀ C s H fp,QG cl [] (ya X scope N' C s H fp) tg t g) (b:∀ C s H fp,mf cl (ya X scope N' C s H fp) ifs a c) (e:∀ C s H fp,QP cl (ya X scope N' C s H fp) elt te pe)
  (h:∀ x,foldedSetIterable iter X.env x=pure x:=by intro _;rfl):QP cl X (.ListComp elt [#v[tg,iter,ifs,0]] scope pos) (Vb wi t a te ix) (yi pi g c pe ix):=
 ⟨wD B f hi.sem (λC s H fp=>(d C s H fp).sem) (λC s H fp=>(b C s H fp).sem) (λC s H fp=>(e C s H fp).sem) h,
  AJ hi.den (d 0 X.s₀ X.H₀ []).den (b 0 X.s₀ X.H₀ []).den (e 0 X.s₀ X.H₀ []).den⟩
def wb{i}{x}{pos' a}{scope}{N'}{ix}{b}{f}(B:ca X scope N' ix)(k:X.calm=true)(hi:ml cl X tg iter wi pi)
  (h:∀ C s H fp,QG cl [] (ya X scope N' C s H fp) tg t g) (c:∀ C s H fp,mf cl (ya X scope N' C s H fp) ifs b f) (j:∀ C s H fp,QP cl (ya X scope N' C s H fp) elt te pe)
  (l:X.N.Nodup) (e:X.N[i]?=some x:=by rfl) (m:fC X.env.scope x:=by first | exact Or.inl rfl | exact Or.inr rfl)
  (hsw:swapsWith (.ListComp elt [#v[tg,iter,ifs,0]] scope pos) (some<|.Name x pos') a.line X.env=pure true:=by with_unfolding_all rfl)
  (n:∀ x,foldedSetIterable iter X.env x=pure x:=by intro _;rfl)
  (o:X.fn x=true\/X.env.scope.names.lookup x=some .local:=by first | exact .inl rfl | exact .inr rfl):
  QS cl pm X (.Assign [.Name x pos'] (.ListComp elt [#v[tg,iter,ifs,0]] scope pos) a) (gH (Vb wi t b te ix)<|vJ i) (ju (dP<|yi pi g f pe ix)<|jc pm i):=
 ⟨Ko B k hi.sem (λC s H fp=>(h C s H fp).sem) (λC s H fp=>(c C s H fp).sem) (λC s H fp=>(j C s H fp).sem) l e m hsw n o,
  nG (PP.d<|AJ hi.den (h 0 X.s₀ X.H₀ []).den (c 0 X.s₀ X.H₀ []).den (j 0 X.s₀ X.H₀ []).den) V0⟩
end
@[simp] def Hy:pV 0 (o::s)=o:=by unfold pV;cases o<;>rfl
@[simp] def Hz:pV (i+1) (o::s)=pV i s:=rfl
@[simp] def HA:gN [] s=some s:=rfl
@[simp] def HB:gC G Gs (d::r) s=(G d s).bind λρ1=>Gs r ρ1:=rfl
@[simp] def HC:gT n Gs (.tup l) s=bif decide (l.length=n) then Gs l s else none:=rfl
@[simp] def nQ(o)(l):itB (.lst o l)=bif frzs l then some l else none:=rfl
@[simp] def nR(l):itB (.tup l)=bif frzs l then some l else none:=rfl
@[simp] def nS(l):itB (.str l)=some (l.map λc=>D.str [c]):=rfl
@[simp] def mq(o)(l):Ax [.lst o l]=some (vf 0<|bV l):=rfl
def z5(h:-(2 ^ 62)<j)(k:j<2 ^ 62):Vg j=true:=Nat.ble_eq_true_of_le ∅
def yf(h:-(2 ^ 62)<j)(k:j<2 ^ 62):KH [.int j]=some (qp 0 j.toNat):=by
 show(bif Vg j then some (qp 0 j.toNat) else none)=_;rw[z5 h k];rfl
def jx(n)(f)(ds):cH n f ds=(f<|ds.map some++List.replicate (n-ds.length) none).bind cf.val:=rfl
@[simp] def j':jY G f [] s=some (.nx s):=rfl
def jQ:jY G f (x::xs) s=(G x s).bind λr=>(f r).bind λo=>o.loop (jY G f xs):=rfl
@[simp] def j_:jU G q p [] s=some []:=rfl
def yD:jU G q p (x::xs) s=(G x s).bind λr=>(q r).bind λb=>bif b then((p r).bind λy=>(jU G q p xs r).bind λys=>some<|y::ys) else jU G q p xs r:=rfl
def vy(P:Nat->Rh->Prop)(step:∀ i x ρ,xs[i]?=some x->P i ρ->∃ ρ1 ρ2,G x ρ=some ρ1/\(f ρ1=some (.nx ρ2)\/f ρ1=some (.ct ρ2))/\P (i+1) ρ2)  (c:P 0 ρ):
  ∃ ρ',jY G f xs ρ=some (.nx ρ')/\P xs.length ρ':=by
 have key:∀ n i ρ,xs.length-i=n->i<=xs.length->P i ρ->∃ ρ',jY G f (xs.drop i) ρ=some (.nx ρ')/\P xs.length ρ':=by
  intro n
  induction n with
  | zero=>
   intro i ρ d hi p;have:i=xs.length:=by lia
   subst this;exact#v[ρ,by rw[List.drop_length];rfl,p]
  | succ n e=>
   intro i ρ d hi p;have a:i<xs.length:=by lia
   have b:xs[i]?=some xs[i]:=by simp[a]
   let[ρ1,ρ2,g,e2,p2]:=step i _ ρ b p;let[ρ',e3,p3]:=e (i+1) ρ2 ∅ a p2;refine#v[ρ',?_,p3];rw[qP b,jQ,g];rcases e2 with e2 | e2<;>simp[e2,e3]
 exact key _ 0 ρ rfl (U7 _) c
def jA{G}{xs}{l:List u}{en}{out}(a:xs=l.map en)(P:Rh->Prop)(step:∀ x∈l,∀ s,P s->∃ ρ1,G (en x) s=some ρ1/\p ρ1=some (out x)/\P ρ1){s}(b:P s):jU G qT p xs s=some (l.map out):=by
 subst a
 induction l generalizing s with
 | nil=>rfl
 | cons x l c=>
  let[ρ1,d,e2,p1]:=step x L7 s b;rw[L5,yD,d];simp[e2,c (λy e=>step y<|L6 _ e) p1]
@[simp] def mr(p) [Decidable p] (x y:s):(bif decide p then x else y)=if p then x else y:=by by_cases h:p<;>simp[h]
@[simp] def gw(i j:Int)(x y:s):(bif i==j then x else y)=if i=j then x else y:=by
 by_cases h:i=j
 ·subst h;simp
 ·rw[if_neg h,U4.mpr h];rfl
@[simp] def mu(p) [Decidable p] (x y:Option s) (f:s->Option u):(if p then x else y).bind f=if p then x.bind f else y.bind f:=by by_cases h:p<;>simp[h]
@[simp] def rO(i j):jh (.int i) (.int j)=some (.int<|i+j):=rfl
@[simp] def rP(i j):Yo (.int i) (.int j)=some (.int<|i-j):=rfl
def qH(h:i.natAbs<2 ^ 1000)(k:j.natAbs<2 ^ 1000):va (.int i) (.int j)=some (.int<|i*j):=by
 show(bif l8 i&&l8 j then some (D.int<|i*j) else none)=_;rw[Ap h,Ap k];rfl
def jL(h:0<j)(k:j<2 ^ 300):jK (.int i) (.int j)=some (.int<|i/j):=by
 show(bif decide (0<j)&&decide (j<2 ^ 300) then some (D.int<|i/j) else none)=_;rw[X5 h,X5 k];rfl
def jl(h:0<j):ji (.int i) (.int j)=some (.int<|i%j):=by
 show(bif decide (0<j) then some (D.int<|i%j) else none)=_;rw[X5 h];rfl
@[simp] def rQ(g)(i j):ma g (.int i) (.int j)=some (.bl<|g i j):=rfl
@[simp] def AK(i j):qr (.int i) (.int j)=some (.bl<|i==j):=rfl
@[simp] def AL(i j):wX (.int i) (.int j)=some (.bl<|!(i==j)):=rfl
@[simp] def rR(g)(i j):nL g [.int i,.int j]=some (.int<|g i j):=rfl
@[simp] def nT(i):frz (.int i)=true:=rfl
@[simp] def rS(i):frz (.bl i)=true:=rfl
@[simp] def nU(i):frz (.str i)=true:=rfl
@[simp] def nV:frz .non=true:=rfl
@[simp] def rT(i):fz (.int i)=.int i:=rfl
@[simp] def AM(i):fz (.bl i)=.bl i:=rfl
@[simp] def rV(i):fz (.str i)=.str i:=rfl
@[simp] def rW:fz .non=.non:=rfl
@[simp] def rX(o)(l):fz (.lst o l)=.lst false (bV l):=rfl
@[simp] def rY(l):fz (.tup l)=.tup (bV l):=rfl
@[simp] def nW(o)(l):frz (.lst o l)=(!o&&frzs l):=rfl
@[simp] def nX(l):frz (.tup l)=frzs l:=rfl
@[simp] def nY:bV []=[]:=rfl
@[simp] def HD(d)(l):bV (d::l)=fz d::bV l:=rfl
@[simp] def mw:frzs []=true:=rfl
@[simp] def kU(d)(l):frzs (d::l)=(frz d&&frzs l):=rfl
@[simp] def ka(i):vz (.int i)=true:=rfl
@[simp] def mx(i):vz (.bl i)=true:=rfl
@[simp] def kb(i):vz (.str i)=true:=rfl
@[simp] def kx:vz .non=true:=rfl
@[simp] def kz(o)(l):vz (.lst o l)=(o&&yh l):=rfl
@[simp] def kA(l):vz (.tup l)=yh l:=rfl
@[simp] def iq:yh []=true:=rfl
@[simp] def gX(d)(l):yh (d::l)=(vz d&&yh l):=rfl
@[simp] def my(l:List Int):bV (l.map D.int)=l.map D.int:=by
 rw[kQ,U3];rfl
@[simp] def k7(l:List Int):frzs (l.map D.int)=true:=by
 rw[JP,List.all_map,List.all_eq_true];intro x _;rfl
theorem yz:∀ l:List D,yh l=l.all vz
 | []=>rfl
 | d::l=>by rw[yh,yz l];rfl
@[simp] def gY(l:List Int):yh (l.map D.int)=true:=by
 rw[yz,List.all_map,List.all_eq_true];intro x _;rfl
@[simp] def ir(l):wv (l.map D.int)=some l:=by
 induction l with
 | nil=>rfl
 | cons x l a=>show(wv<|l.map D.int).bind _=_;rw[a];rfl
@[simp] def mz(o)(l):fR [.lst o l]=(wv l).bind λns=>some (.int ns.sum):=rfl
@[simp] def mB(o)(l):Jq [.lst o l]=some (.int l.length):=rfl
@[simp] def mC(l):Jq [.tup l]=some (.int l.length):=rfl
@[simp] def k_(o)(l):YO [.lst o l]=bif frzs l then some (.lst true l) else none:=rfl
@[simp] def gZ(o)(l):KQ (.lst o l)=some (bV l):=rfl
@[simp] def g'(l):KQ (.tup l)=some (bV l):=rfl
@[simp] def nZ(i):gW (.int i)=some "int":=rfl
@[simp] def rZ(i):gW (.bl i)=some "bool":=rfl
@[simp] def n0(i):gW (.str i)=some "str":=rfl
@[simp] def n4:gW .non=some "NoneType":=rfl
@[simp] def n7(o)(l):gW (.lst o l)=some "list":=rfl
@[simp] def n8(l):gW (.tup l)=some "tuple":=rfl
theorem zS:∀(l m:List Int),f_ (l.map D.int) (m.map D.int)=decide (l=m)
 | [],[]=>rfl
 | [],_::_=>rfl
 | _::_,[]=>rfl
 | x::l,y::m=>by
  show((x==y)&&f_ (l.map D.int) (m.map D.int))=_;rw[zS l m];by_cases h:x=y<;>simp[h]
def Q9(n)(l:List Int):w8 n (l.map D.int)=true:=by
 rw[uu,List.all_map,List.all_eq_true];intro x _;cases n<;>rfl
def HE{c}{m}{ns:List Int}(h:m [.lst false<|ns.map D.int]=some (.bl true))(d:fk K H a<|ns.map V.int):dn #v[K,c] m 1 [.ref a] H (λv _=>v=.bl true) E:=by
 refine#v[λb=>b=a/\H a≠none,[.lst false<|ns.map D.int],.bl true,λb e=>by rw[e.1];exact e.2,rfl,.one ?_,h,λg r=>r.bl_of.1];have f:∀(l:List Int),a_ #v[K,c] (λb=>b=a/\H a≠none) H (l.map D.int) (l.map V.int) []:=by
  intro l
  induction l with
  | nil=>exact .empty
  | cons x l i=>exact .cons .int_mk i
 refine#v[a,ns.map V.int,[],rfl,f ns,#v[?_,rfl,rfl]];rcases d with d | d
 ·refine .inl #v[#v[rfl,?_],d];rcases d with d | ⟨o,d⟩<;>rw[d]<;>exact λz=>(nomatch z)
 ·exact .inr d
end QD
namespace L2
open PySem PySem.Spec PyProof.Rows
theorem VA:∀{ws}{us},bM (ws.map V.str) us->∃ l:List (Str×Tok),us=strValues l/\l.map (·.1)=ws
 | [],us,h=>by
  cases h;exact#v[[],rfl,rfl]
 | w::ws,us,h=>by
  cases h with
  | cons a b=>
   let[t,rfl]:=a;let[l,rfl,e]:=VA b;exact#v[(w,t)::l,rfl,by rw[L5,e]]
def HF{X}:nb X "str.join" (λx vs H Q=>∃ a p ws,x=.str a/\vs=[.ref p]/\ck X.K H p (ws.map V.str)/\JoinOk a ws=true/\Q (.str<|Txt.join a ws) H):=by
 intro c s w H x vs v j Q I d b h;let[a,p,ws,rfl,rfl,f,hok,q]:=h;let[t,rfl]:=d;let[u,rfl,g]:=b.one;cases g;let[i,b,pl,m]:=I.list f;let[l,rfl,e]:=VA b;exact SC.join pl.isList e hok λn k=>#v[.str _,H,I.tok _,#v[_,rfl],q]
end L2
namespace QD
open PySem L2 PySem.Spec PyProof.Rows
def V4(sep:List Nat):List (List Nat)->List Nat
 | []=>[]
 | [x]=>x
 | x::y::r=>x++sep++V4 sep (y::r)
theorem AN(a):∀ ws:List (List Nat),Str.join (S a) (ws.map S)=S (V4 a ws)
 | []=>rfl
 | [x]=>rfl
 | x::y::r=>by
  show S x++S a++Str.join (S a) ((y::r).map S)=_;rw[AN a<|y::r,pU,pU];rfl
def V7:List D->Option (List<|List Nat)
 | []=>some []
 | .str w::l=>match V7 l with
  | some ws=>some<|w::ws
  | none=>none
 | _::_=>none
@[simp] def iu(l):V7 (l.map D.str)=some l:=by
 induction l with
 | nil=>rfl
 | cons x l a=>simp[V7,a]
section
variable {R:RC}{Z:Zn}{H:Hp}
theorem AO:∀{l}{ws}{vs}{O},V7 l=some ws->a_ R Z H l vs O->vs=(ws.map S).map V.str
 | [],ws,vs,O,e,r=>by
  cases e;have:=r.length;exact List.length_eq_zero_iff.mp this
 | x::l,ws,vs,O,e,r=>by
  cases x with
  | str w=>
   simp only[V7] at e;cases e1:V7 l with
   | none=>rw[e1] at e;cases e
   | some a=>
    rw[e1] at e;cases e;obtain⟨v,b,P,d,rfl,-,r1,c⟩:=r;let[rfl,_]:=r1.str_of;rw[AO e1 c];rfl
  | _=>cases e
def Yh(sep:List Nat)(ws:W1):Bool:=decide<|(ws.map List.length).sum+ws.length*sep.length<=1000000
def HG{a}{ws}(h:Yh a ws=true):JoinOk (S a) (ws.map S)=true:=by
 have h:=X7 h;unfold JoinOk;rw[StrLaws.joinTotal];have e:((ws.map S).map (·.length))=ws.map List.length:=by
  rw[U3];exact List.map_congr_left λw _=>JC w
 rw[e,L1,JC];unfold Builtin.Str.tooLong;have:sizeLine=16777216:=by decide
 simp
 lia
def la:D->List D->Option D
 | .str sep,[.lst _ l]=>match V7 l with
  | some ws=>bif Yh sep ws then some (.str<|V4 sep ws) else none
  | none=>none
 | _,_=>none
def HH:BM R "str" (λx vs H Q=>∃ a p ws,x=.str a/\vs=[.ref p]/\ck R.K H p (ws.map V.str)/\JoinOk a ws=true/\Q (.str<|Txt.join a ws) H) la:=by
 intro Z H x d g v vs h i z r c e Q k;unfold la at e;split at e
 ·rename_i b o l;cases e1:V7 l with
  | none=>rw[e1] at e;cases e
  | some ws=>
   rw[e1] at e;dsimp only at e;cases hm:Yh b ws with
   | false=>rw[hm] at e;cases e
   | true=>
    rw[hm] at e;cases e;let[rfl,_]:=r.str_of;let[v,rfl,r1]:=c.one_of;clear c;let[p,j,m,rfl,f,c]:=r1.lst_of;have:=AO e1 c;subst this;refine#v[S b,p,ws.map S,rfl,rfl,f.sq,HG hm,?_];have e2:Txt.join (S b) (ws.map S)=S (V4 b ws):=(StrLaws.glued_eq_join _ _).trans (AN b ws);rw[e2];exact k (Go.id z) .str_mk
 ·cases e
def AQ(a b:List Nat):List (List Nat):=(Txt.split (S a)<|S b).map λw=>w.cps.toList
def zc:D->List D->Option D
 | .str a,[.str b]=>bif !b.isEmpty&&decide (a.length<=1000000) then some (.lst true<|(AQ a b).map D.str) else none
 | _,_=>none
def HI(ws:List Str):a_ R Z H ((ws.map λw=>w.cps.toList).map D.str) (ws.map V.str) []:=by
 induction ws with
 | nil=>exact .empty
 | cons w ws a=>
  exact .cons (O:=[]) .str_mk a
def HJ:BM R "str" (λx vs H Q=>∃ a b,x=.str a/\vs=[.str b]/\(b.length==0)=false/\a.length+2<=sizeLine/\∀ p,H p=none->Q (.ref p) (bO H p<|.lst<|(Txt.split a b).map V.str)) zc:=by
 intro Z H x d h v vs i j z r c e Q k;unfold zc at e;split at e
 ·rename_i a b;refine oc e λf e=>?_;cases e;simp only[M0,decide_eq_true_eq,Bool.not_eq_true',List.isEmpty_eq_false_iff] at f;let[rfl,_]:=r.str_of;let[v,rfl,r1]:=c.one_of;clear c;let[rfl,_]:=r1.str_of;have l:sizeLine=16777216:=by decide
  refine#v[_,_,rfl,rfl,?_,?_,λp g=>k (Go.newO (cS z) g)<|bK.lstNew (cS z) g<|HI _]
  ·rw[JC];have:=List.length_pos_iff.mpr f.1;exact U4.mpr ∅
  ·rw[JC];lia
 ·cases e
end
section
variable {cl:Nat->Addr}{X:Cx}{o e:Expr}{es:List Expr}{to:TE}{po:PF}{tr:TA}{pr:cF}{name:Str}{apos cpos:Pos}{T id:String}{r:V->List V->Hp->VK->Prop}{g:D->List D->Option D}
def AR(pa:PlainAttrs T)(slot:Slot T name id)(i:typeOf (.builtin id)=pure (.type "method_descriptor"))(n:nb X id r)(p:BM #v[X.K,cl] T r g)(l:QB cl X o to po)(m:fo cl X (e::es) tr pr)
  (b:attributeBase o name X.env (eval o X.env)=eval o X.env:=by rfl)
  (f:((backTo cpos<|starEach (e::es) X.env).all (λx=>!x.1)&&(backToKw cpos<|keywordEach [] X.env).all (λx=>x.1.isSome)
   && decide ((e::es).length+([]:List Keyword).length+(if([]:List Keyword).isEmpty then 0 else 1)<30))=true:=by rfl)
  (c:(apos.endLine==cpos.line)=true:=by rfl) (q:dw X e es:=by rfl) (a:dH X cpos es:=by rfl):
  QP cl X (.Call (.Attribute o name apos) (e::es) [] cpos) (fF X.K T r to tr) (mj T g po pr):=
 ⟨iR pa slot i n l.sem m.sem b f c q a,(by
   intro U W Z H O d z s e Q k;exact ob e λx t e=>oc e λj e=>ob e λy e2 e=>(l.den z s t λ{v A B C} h r1=>#v[(by
     unfold rN at j;split at j
     ·let[rfl,_]:=r1.str_of;rfl
     ·cases j),(m.den h.wf.zd (h.slots z s) e2 λ{vs D E F} g2 u=>(p g2.wf.zd (g2.rep h.wf.zd r1) u e λg3 w=>k ((h.pair g2).pair g3) w))]))⟩
end
@[simp] def n9(w):rN "str" (.str w)=true:=rfl
@[simp] def n_(a)(o)(l):la (.str a) [.lst o l]=(V7 l).bind λws=>bif Yh a ws then some (.str<|V4 a ws) else none:=by
 unfold la;cases h:V7 l<;>simp[h]
end QD
namespace QK
open PySem L2 QD PySem.Spec PyProof.Rows
section
variable {cl:Nat->Addr}{pm:List Nat}{X:Cx}{a b c e o:Expr}{es:List Expr}{ta tb tc te to:TE}{pa pb pc pe po:PF}{tr:TA}{pr:cF}{pos:Pos}{K:W4}
variable {tg iter elt:Expr}{ifs:List Expr}{wi:TI}{pi:cF}{t:TG}{g:D->Rh->Option Rh}
def add(c:X.K=K)(d:QB cl X a ta pa)(e:QB cl X b tb pb):QP cl X (.BinOp a .Add b pos) (cT (l9 K) ta tb) (p2 jh pa pb):=by subst c;exact AE d e
def ix(c:X.K=K)(d:QB cl X a ta pa)(e:QB cl X b tb pb)(f:KS b:=by exact λ_ _=>rfl):QB cl X (.Subscript a b pos) (cT (eh K) ta tb) (p2 jd pa pb):=by subst c;exact AF d e f
def call{k n}{ps}{m}{x}{st}{p}(c:X.K=K)(O:fJ X.prog X.w X.K X.mg x st k ps<|dn #v[X.K,cl] m n)(d:bS k X.A)
  (f:fo cl X (e::es) tr pr) (g:(e::es).length=n:=by rfl) (h:Gl X x:=by rfl) (a:Nd x:=by decide)
  (i:dw X e es:=by rfl) (b:dH X pos es:=by rfl):QP cl X (.Call (.Name x p) (e::es) [] pos) (Vr (dn #v[K,cl] m n) [] E0 tr) (js m pr):=by
 subst c;exact AG O d f g h a i b
theorem dL(a:X.K=K)(c:behindInMarks .NotIn b=false):dg cl X .NotIn b (nK K true) (QH true):=by subst a;exact QD.dL c
theorem gv{k}(a:X.K=K)(c:bS k X.A):dg cl X .NotEq b (λx y H Q=>m7 x y H Q\/mi #v[K,cl] true x y H Q) wX:=by subst a;exact QD.gv c
def mD{ts}{b}{k n}(c:X.K=K)(d:X.calm=true)(h:i_ cl pm X es ts b)(e:(assignEach es X.env).length=n:=by rfl)(a:(assignEach es X.env).findIdx? (·.1)=none:=by rfl):QG cl pm X (.Tuple es k pos) (f0 K n ts) (gT n b):=by subst c;exact AH d h e a
end
end QK
namespace QD
open PySem L2 PySem.Spec PyProof.Rows
@[simp] def r9(i:Nat)(p:cF)(s:Rh):Option (D×Rh):=(pV i s).bind λd=>(p s).bind λds=>bif bW (ds.length+1) then some (.tup<|d::ds,s.set i none) else none
def HK(t:f7 R ta p):DE R (fg<|jS (yj i) ta) (r9 i p):=by
 intro U W G Z H O d w h e Q k;refine ob e λc l e=>ob e λI u e=>oc e λx e=>?_;cases e;have l:=YQ l;let[A,P,B,rfl,y,J,C]:=h.put (L9.mp l).1;let[v,D,r]:=y c l;refine#v[v,D,t w.zd h u λ{vs E o F} m r1=>#v[by rw[M3,r1.length];exact Jz x,λq n=>?_]];have s:=m.widen w;have f:=s.wf.nd;have g2:Go Z H (A++P++B) E o ((P++F)++(A++B)):=s.drop (λa q=>by simp at q ⊢;rcases q with q | q | q | q<;>simp[q]) (by
  simp only[X3,N3] at f ⊢;refine#v[#v[f.2.1.1.2.1,f.1,λa j b g e=>f.2.2 b g a (.inl<|.inr j) e.symm],#v[f.2.1.1.1,f.2.1.2.1,λa j b g=>f.2.1.2.2 a (.inl j) b g],λa j b g e=>?_];rcases j with j | j
  ·rcases g with g | g
   ·exact f.2.1.1.2.2 b g a j e.symm
   ·exact f.2.1.2.2 a (.inr j) b g e
  ·rcases g with g | g
   ·exact f.2.2 a j b (.inl<|.inl g) e
   ·exact f.2.2 a j b (.inr g) e)
 have ne:∀ a,o a≠none->a≠q:=λa h e=>h<|e▸n;have s1:=m.slots w.zd C;refine k (g2.trans<|Go.newF g2.wf n) (bK.tupNew g2.wf.left n<|a_.cons (m.rep w.zd r) r1)<|s1.frame (λa z=>.inl z) (λa z=>je<|ne a<|g2.wf.zd a z) λa j=>je<|ne a<|s1.dom a j
def HL{a}(i)  (b:QB cl X (.Name x xpos) (yj i)<|pV i) (h:d9 cl X es tr pr) (c:starEach (.Name x xpos::es) X.env=(false,eval (.Name x xpos) X.env)::starEach es X.env:=by rfl):
  QE cl X (.Tuple (.Name x xpos::es) a pos) (fg<|jS (yj i) tr) (r9 i pr):=#v[JQ<|jJ b.sem h.sem c,HK h.den]
structure HM(cl:Nat->Addr)(pm:List Nat)(X:Cx)(tg:Expr)(t:TG)(g:D->Rh->Option Rh):Prop where
 sem:PG X tg t
 den:DG #v[X.K,cl] pm t g
def HN(a:X.N.Nodup)(hi:X.N[i]?=some x:=by rfl)(b:fC X.env.scope x:=by first | exact Or.inl rfl | exact Or.inr rfl)(c:X.fn x=true\/X.env.scope.names.lookup x=some .local:=by first | exact .inl rfl | exact .inr rfl):
  HM cl pm X (.Name x pos) (vJ i) (jc pm i):=#v[tF a hi b c,V0]
section
variable {R:RC}{Z Z':Zn}{H H':Hp}{pm:List Nat}
def vT:D->Option KA
 | .int i=>some<|.int i
 | .str s=>some<|.str s
 | _=>none
def yX(e:vT d=some k)(r:bK R Z H d v O):v=kV (bR k)/\O=[]:=by
 cases d with
 | int i=>cases e;rw[bK] at r;exact r
 | str s=>cases e;rw[bK] at r;exact r
 | _=>cases e
def Qf(h:bR a=bR b):a=b:=by
 cases a<;>cases b<;>simp only[bR] at h
 ·cases h;rfl
 ·cases h
 ·cases h
 ·have:=t_<|Sum.inr.inj h;rw[this]
def qv:List KA->List D->KA->Option D
 | k::ks,d::l,a=>if k=a then some d else qv ks l a
 | _,_,_=>none
theorem qg:∀{ks}{l}{vs}{O}{a},a_ R Z H l vs O->ks.length=l.length ->
  (∀ d,qv ks l a=some d->∃ v P,V5 ((ks.map bR).zip vs) (bR a)=some v/\bK R Z H d v P)/\(qv ks l a=none->V5 ((ks.map bR).zip vs) (bR a)=none)
 | [],l,vs,O,a,r,c=>#v[λd e=>(by cases l<;>cases e),λ_=>rfl]
 | k::ks,[],vs,O,a,r,c=>by simp at c
 | k::ks,x::l,vs,O,a,r,c=>by
  let[v,b,f,j,rfl,rfl,r1,g]:=r;by_cases e:k=a
  ·subst e;refine#v[λd h=>?_,λh=>?_]
   ·simp only[qv,if_true] at h;cases h;exact#v[v,f,JS rfl,r1]
   ·simp[qv] at h
  ·have i:=λz=>e<|Qf z;have q:V5 (((k::ks).map bR).zip (v::b)) (bR a)=V5 ((ks.map bR).zip b) (bR a):=JX i;rw[q];simp only[qv,if_neg e];exact(qg (a:=a) g ⇑c)
def qO.rd(h:qO o H a kvs):Rd H a (.dK kvs):=by
 cases o with
 | true=>exact .inl h
 | false=>exact h
def cy.r(e:Rd H a<|.dK kvs):cy H a (kV k) (V5 kvs k):=.inl #v[kvs,k,e,rfl,rfl]
def bK.dK_of(r:bK R Z H (.dK o ks l) v O):dF λa vs O'=>d8 (v=.ref a) (Rd H a<|.dK<|(ks.map bR).zip vs) (a_ R Z H l vs O') (ks.length=l.length):=by
 let[a,vs,O',rfl,b,c,d,_]:=r;exact#v[a,vs,O',rfl,d.rd,b,c]
def yW:D->D->Option D
 | .dK _ ks l,y=>(vT y).bind λk=>qv ks l k
 | _,_=>none
def HP(c:PB R td pa)(f:PB R ty pb):PB R (wO td ty) (p2 yW pa pb):=by
 intro U W Z H O d z s e Q k;refine ob e λx g e=>ob e λy e2 e=>(c z s g λ{v q t A} b r1=>(f b.wf.zd (b.slots z s) e2 λ{u B C D} g2 h=>?_));cases x with
 | dK o E l=>
  refine ob e λa e3 e=>?_;let[p,vs,F,rfl,i,j,m]:=(g2.rep b.wf.zd r1).dK_of;let[rfl,_]:=yX e3 h;let[w,P,n,rw]:=(qg j m).1 d e;exact#v[p,w,rfl,n▸cy.r i,k (b.pair g2) rw]
 | _=>cases e
def KI(x y z:D):Option D:=match x with
 | .dK _ ks l=>(vT y).bind λk=>some<|(qv ks l k).getD z
 | _=>none
@[simp] def p3(g:D->D->D->Option D)(pa:PF)(pb:PF)(pc:PF)(s:Rh):Option D:=(pa s).bind λx=>(pb s).bind λy=>(pc s).bind λz=>g x y z
def mE(neg:Bool)(y x:D):Option D:=match x with
 | .dK _ ks l=>(vT y).bind λk=>some<|.bl<|neg != (qv ks l k).isSome
 | _=>none
def HQ{td ty}{pa pb}{b}(i:PB R ty pa)(j:PB R td pb){U}{W}{Z}{H}{O}{d}(z:Zd Z H)(s:Slots R Z H W U O)(e:p2 (mE b) pa pb W=some d)
  {Q:VK}(k:∀{v}{Z'}{H'}{P},Go Z H [] Z' H' P->bK R Z' H' d v P->Q v H'):ty U H λy H1=>td U H1 λx H2=>∃ a o,x=.ref a/\cy H2 a y o/\Q (.bl<|b != o.isSome) H2:=by
 refine ob e λy m e=>ob e λx e2 e=>(i z s m λ{v B H1 C} c r1=>(j c.wf.zd (c.slots z s) e2 λ{u D H2 E} g2 n=>?_));cases x with
 | dK o q l=>
  refine ob e λa e3 e=>?_;cases e;let[p,vs,F,rfl,f,g,h]:=n.dK_of;let[rfl,_]:=yX e3 r1;cases ev:qv q l a with
  | none=>
   refine#v[p,none,rfl,(qg g h).2 ev▸cy.r f,k (c.pair g2) ?_];rw[ev];exact .bl_mk
  | some d=>
   let[w,P,t,A]:=(qg g h).1 d ev;refine#v[p,some w,rfl,t▸cy.r f,k (c.pair g2) ?_];rw[ev];exact .bl_mk
 | _=>cases e
def wj:List KA->List D->KA->D->List D
 | k::ks,x::l,a,d=>(if k=a then d else x)::wj ks l a d
 | _,_,_,_=>[]
theorem Qr:∀{ks}{l} a d,ks.length=l.length->(wj ks l a d).length=l.length
 | [],[],_,_,_=>rfl
 | [],_::_,_,_,h=>by simp at h
 | _::_,[],_,_,h=>by simp at h
 | k::ks,x::l,a,d,h=>by rw[wj,M3,M3,Qr a d ⇑h]
theorem u8(rd:bK R Z H d v [])(a):∀{ks}{l}{vs}{O},a_ R Z H l vs O->ks.length=l.length ->
  dv λvs2 O2=>cX (a_ R Z H (wj ks l a d) vs2 O2) ((ks.map bR).zip vs2=((ks.map bR).zip vs).map (λkv=>if kv.1=bR a then(kv.1,v) else kv))<|O2.Sublist O
 | [],[],vs,O,r,b=>by
  let[rfl,rfl]:=r;exact#v[[],[],.empty,rfl,.slnil]
 | [],_::_,_,_,_,h=>by simp at h
 | _::_,[],_,_,_,h=>by simp at h
 | k::ks,x::l,vs,O,r,b=>by
  let[w,j,m,O2,rfl,rfl,r1,n]:=r;let[c,f,g,e3,i]:=u8 rd a n ⇑b;by_cases e:k=a
  ·subst e;refine#v[v::c,[]++f,?_,?_,(i.trans<|List.sublist_append_right _ _)]
   ·rw[wj,if_pos rfl];exact a_.cons rd g
   ·simp only[L5,U9,if_true,e3]
  ·have o:=λz=>e<|Qf z;refine#v[w::c,m++f,?_,?_,(List.Sublist.append (List.Sublist.refl _) i)]
   ·rw[wj,if_neg e];exact a_.cons r1 g
   ·simp only[L5,U9,if_neg o,e3]
theorem wq(a):∀{ks:List KA}{vs:List V},ks.length=vs.length->(((ks.map bR).zip vs).any λkv=>decide<|kv.1=bR a)=decide (a∈ks)
 | [],vs,_=>by simp
 | k::ks,[],h=>by simp at h
 | k::ks,v::vs,h=>by
  rw[L5,U9,List.any_cons,wq a ⇑h];by_cases e:k=a
  ·subst e;simp
  ·have b:¬ (bR k=bR a):=λz=>e<|Qf z;have e2:¬ (a=k):=λz=>e z.symm;simp[b,e2]
def ki(ks:List KA)(l:List D)(a:KA)(d:D):List KA×List D:=if a∈ks then(ks,wj ks l a d) else(ks++[a],l++[d])
def YX(rd:bK R Z H d v [])(a)  (r:a_ R Z H l vs O) (b:ks.length=l.length):
  dv λvs2 O2=>d8 (a_ R Z H (ki ks l a d).2 vs2 O2) ((((ki ks l a d).1).map bR).zip vs2=J9 ((ks.map bR).zip vs) (bR a) v) (O2.Sublist O) ((ki ks l a d).1.length=(ki ks l a d).2.length):=by
 have c:ks.length=vs.length:=by rw[r.length];exact b
 unfold ki J9;rw[wq a c];by_cases e:a∈ks
 ·rw[if_pos e,X5 e,if_pos rfl];let[f,P,g,e2,h]:=u8 rd a r b;exact#v[f,P,g,e2,h,by rw[Qr a d b];exact b]
 ·rw[if_neg e,X6 e,if_neg<|λz=>(nomatch z)];refine#v[vs++[v],O++[],r.append<|a_.one rd,?_,by simp,by simp[b]];rw[N6,List.zip_append ⇑c];rfl
@[simp] def AS(i:Nat)(pk:PF)(pv:PF)(s:Rh):Option cf:=(pv s).bind λd=>(pV i s).bind λx=>(gP x).bind λp=>(pk s).bind λy=>(vT y).bind λa=>bif frz d&&bW p.1.length then some (.nx<|s.set i<|some<|.dK true (ki p.1 p.2 a d).1 (ki p.1 p.2 a d).2) else none
def VH{ks:List s}{vs:List V}{f:s->u}(h:bW ks.length=true):((ks.map f).zip vs).length<sizeLine:=by rw[List.length_zip,L1];exact E4 (Nat.min_le_left _ _)<|YB h
end
def HR:QP cl X (.Dict [] [] pos) Ex (pC<|.dK true [] []):=#v[(λa s u H Q I h=>
  wpAny_Dict_empty #v[.ref ↥s,_,I.laid (λ_ _ q=>L8 _ q) (N0 _)<|u6 s.heap I.big,rfl,h _<|I.hok.fresh<|N0 _]),(by
    intro u w Z H O d z s e Q k;cases e;intro p b;exact k (Go.newO (cS z) b) #v[p,[],[],rfl,.empty,rfl,jj,rfl])]
def HS(n:bS k X.A)(l:QB cl X a ta pa)(m:QB cl X b tb pb)(o:wM b:=by exact λ_ _=>rfl):QB cl X (.Subscript a b pos) (wO ta tb) (p2 yW pa pb):=#v[(by
  intro c s U H Q I h;refine Ev PySem.F.slot_dict_getitem.lookup o<|thn (l.sem c s U H _ I h) λu s1 ⟨x,p,q,r,t⟩=>thn (m.sem c s1 U p _ q t) λE s2 w=>?_;let[y,z,d,B,a,v,ex,g,C]:=w;subst ex;obtain rfl:u=Value.ref a:=r;exact#v[(by
    rcases g with⟨f,k,e,_,_⟩ | ⟨f,k,b,e,_,_,_⟩
    ·let[_,_,vs,_,i]:=wV d.hok e;exact i.typeIs
    ·let[_,_,G,_,i]:=iS d.hok e;exact i.typeIs),zV (Yn n) d g B λJ K D j=>#v[v,z,D,j,C]]),HP l.den m.den]
def HU(C:bS k X.A)(n:QB cl X o to po)(q:QB cl X e te pe)(B:QB cl X f tf pf)(m:M2 X o "get" apos e f cpos:=by exact#v[rfl,rfl,rfl,rfl]):
  QB cl X (.Call (.Attribute o "get" apos) [e,f] [] cpos) (uN to te tf) (p3 KI po pe pf):=#v[Qk (Yn C) n.sem q.sem B.sem m,(by
    intro σ ρ Z H O d z s e Q k;refine ob e λx D e=>ob e λy e2 e=>ob e λc E e=>?_;cases x with
    | dK o F l=>
     refine ob e λa e3 e=>?_;cases e;refine n.den z s D λ{v R S T} j r1=>?_;let[p,vs,U,rfl,G,V,W]:=r1.dK_of;refine#v[p,rfl,.inl #v[_,G],(q.den j.wf.zd (j.slots z s) e2 λ{u Y H2 P2} g2 I=>?_)];have b:=j.pair g2;refine B.den g2.wf.zd (b.slots z s) E λ{t Z3 H3 P3} g3 J=>?_;let[p',K,L,M,g,h,i,_]:=((g2.pair g3).rep j.wf.zd r1);cases M;let[rfl,_]:=yX e3 I;cases ev:qv F l a with
     | none=>exact#v[none,(qg g h).2 ev▸cy.r i.rd,k (b.pair g3)<|by rw[ev];exact J]
     | some d=>
      let[w,P,N,rw]:=(qg g h).1 d ev;exact#v[some w,N▸cy.r i.rd,k (b.pair g3)<|by rw[ev];exact rw]
    | _=>cases e)]
def HV(r:bS k X.A)(v:QB cl X (.Name x xpos) (yj i)<|pV i)(n:QB cl X b tb pb)(p:QB cl X e te pe)(z:swapsWith e (some<|.Subscript (.Name x xpos) b pos') pos.line X.env=pure false:=by rfl):
  QS cl pm X (.Assign [.Subscript (.Name x xpos) b pos'] e pos) (xH (yj i) tb te) (AS i pb pe):=#v[Qy (Yn r) v.sem n.sem p.sem z,(by
    intro σ ρ Z H O o w s e M k;refine ob e λd B e=>ob e λx C e=>ob e λ⟨N,l⟩ g e=>ob e λy e2 e=>ob e λc e3 e=>oc e λh e=>?_;cases e;cases wW g;rw[M0] at h;refine p.den w.zd s B λ{u P Q R} f r1=>?_;cases r1.nil h.1;have s1:=f.slots w.zd s;have q:=f.widen w;refine qU Ju q.wf s1 C rfl i6 λa _ vs S D j E F put=>F<|n.den f.wf.zd s1 e2 λ{t T U V} g2 G=>?_;let[rfl,_]:=yX e3 G;let[I,W,J,g,K,m]:=YX (g2.rep f.wf.zd r1) c (g2.reps f.wf.zd D) j;let[Y,g3,L]:=put i6 m g2 J ⇑K.count_le;refine#v[a,_,rfl,cR.k (g2.at0 E)<|VH h.2,?_];rw[<- g];exact k (q.trans g3) L<|bX.refl _ _)]
@[simp] def lb(i):vT (.int i)=some (.int i):=rfl
@[simp] def lc(s):vT (.str s)=some (.str s):=rfl
@[simp] def oa(o)(ks)(l)(y):yW (.dK o ks l) y=(vT y).bind λk=>qv ks l k:=rfl
@[simp] def mF(o)(ks)(l)(y z):KI (.dK o ks l) y z=(vT y).bind λk=>some ((qv ks l k).getD z):=rfl
@[simp] def oe(a o)(ks)(l)(y):mE a y (.dK o ks l)=(vT y).bind λk=>some (.bl<|a != (qv ks l k).isSome):=rfl
def Ve:List D->Option (List<|KA×D)
 | []=>some []
 | x::l=>(iW x).bind λt=>(two1 t).bind λp=>(vT p.1).bind λa=>(Ve l).bind λr=>some<|(a,p.2)::r
def wo(ps:List<|KA×D):List KA×List D:=ps.foldl (λacc kv=>ki acc.1 acc.2 kv.1 kv.2) ([],[])
def yZ(l:List D):Option D:=(ux l).bind λx=>(fP x).bind λl=>(Ve l).bind λps=>bif frzs (ps.map (·.2))&&bW ps.length then some (.dK true (wo ps).1 (wo ps).2) else none
def HW:∀{l}{ps}{ys}{O},Ve l=some ps->a_ R Z H l ys O->frzs (ps.map (·.2))=true ->
  ∃(ws:List V),cX (a_ R Z H (ps.map (·.2)) ws []) (ys.length=ps.length) (∀(j:Nat) y,ys[j]?=some y->∃ kv t,((ps.map λp=>bR p.1).zip ws)[j]?=some kv/\y=.ref t/\cJ R.K H t [kV kv.1,kv.2]):=by
 intro l
 induction l with
 | nil=>
  intro ps ys O e r b;cases e;let[rfl,rfl]:=r;exact#v[[],.empty,rfl,λj y c=>by simp at c]
 | cons d l h=>
  intro ps ys O e r b;refine ob e λt i m=>ob m λq n o=>?_;let[k,v]:=q;cases Y2 i;cases two1_of n
  ·refine ob o λa s x=>ob x λz e2 A=>?_;cases A;let[J,B,L,M,rfl,rfl,r1,C]:=r;rw[L5,kU,M0] at b;let[ws,f,D,q]:=h e2 C b.2;let[t,vs,rfl,E,F]:=r1;obtain⟨u,w,N,P,rfl,-,G,g⟩:=F.two_of;let[rfl,_]:=yX s G;have I:=g.nil b.1;subst I;refine#v[w::ws,a_.cons g f,by simp[D],λj y c=>?_];cases j with
   | zero=>
    cases c;exact#v[(bR a,w),t,rfl,rfl,E.sq]
   | succ j=>exact q j y ⇑c
def HX:∀{ps:List (KA×D)}{ws}{ks}{l}{us},a_ R Z H (ps.map (·.2)) ws []->a_ R Z H l us []->ks.length=l.length ->
  ∃ us',cX (a_ R Z H (ps.foldl (λacc kv=>ki acc.1 acc.2 kv.1 kv.2) (ks,l)).2 us' []) ((((ps.foldl (λacc kv=>ki acc.1 acc.2 kv.1 kv.2) (ks,l)).1).map bR).zip us'=(((ps.map λp=>bR p.1).zip ws).foldl (λa kv=>J9 a kv.1 kv.2) ((ks.map bR).zip us))) ((ps.foldl (λacc kv=>ki acc.1 acc.2 kv.1 kv.2) (ks,l)).1.length=(ps.foldl (λacc kv=>ki acc.1 acc.2 kv.1 kv.2) (ks,l)).2.length):=by
 intro ps
 induction ps with
 | nil=>
  intro ws ks l us b r c;exact#v[us,r,by simp,c]
 | cons p ps g=>
  intro ws ks l us b r c;let[w,h,q,s,rfl,e,r1,i]:=b;let[rfl,rfl]:=List.append_eq_nil_iff.mp e.symm;let[j,t,k,e3,m,d]:=YX r1 p.1 r c;have:=List.sublist_nil.mp m;subst this;let[us',n,o,f]:=g i k d;refine#v[us',n,?_,f];rw[L5,U9,X4,X4,o,e3]
def HY:BC R (λxs H Q=>∃(p:Addr) (ys:List V) (ps:List<|cW×V),xs=[.ref p]/\ck R.K H p ys/\ys.length=ps.length/\ps.length<=100000 /\
  (∀(j:Nat) y,ys[j]?=some y->∃ kv t,ps[j]?=some kv/\y=.ref t/\cJ R.K H t [kV kv.1,kv.2])/\∀ D,H D=none->Q (.ref D) (bO H D<|.dK<|ps.foldl (λa kv=>J9 a kv.1 kv.2) [])) yZ:=by
 intro Z H xs d vs O z r e Q k;refine ob e λx n s=>ob s λl u w=>?_;let[o,rfl]:=qZ u;rw[vk n] at r
 ·refine ob w λps A B=>oc B λf C=>?_;cases C;rw[M0] at f;let[v,rfl,r1]:=r.one_of;let[p,ys,L,rfl,E,F]:=r1.lst_of;let[ws,b,G,q]:=HW A F f.1;let[g,I,J,i]:=HX (ks:=[]) b .empty rfl;have c:ws.length=ps.length:=by rw[b.length];simp
  refine#v[p,ys,(ps.map λp=>bR p.1).zip ws,rfl,E.sq,by simp[G,c],by simp[c];exact X7 f.2,q,λD m=>?_];refine k (Go.newO (cS z) m) ?_;have ne:∀ a,H a≠none->a≠D:=λa h e=>h<|e▸m;exact#v[D,g,[],rfl,I.frame (λa z=>z) (λa h=>je<|ne a<|z a h)<|λa h=>(nomatch h),i,by show bO H D _ D=some _;rw[jj];exact congrArg (λx=>some<|HO.dK x) J.symm,rfl]
@[simp] def og(o)(l):yZ [.lst o l]=(Ve l).bind λps=>bif frzs (ps.map (·.2))&&bW ps.length then some (.dK true (wo ps).1 (wo ps).2) else none:=rfl
structure gy(cl:Nat->Addr)(X:Cx)(es:List Expr)(ta:TA)(f:FA):Prop where
 sem:PA X es ta
 den:DA #v[X.K,cl] ta f
def HZ:gy cl X [] YC Js:=#v[vU,(by
  intro s u a Z H O d w h e Q k;cases e;exact k (Go.refl w) a_.empty h)]
def H9(h1:QE cl X e te fE)(h2:gy cl X es tr fr)(b:dw X e es:=by rfl):gy cl X (e::es) (jS te tr) (jr fE fr):=#v[jJ h1.sem h2.sem b,(by
  intro U W j Z H O d w h e Q k;refine ob e λp c e=>?_;let[x,l]:=p;refine ob e λp e2 e=>?_;let[m,n]:=p;cases e;refine h1.den w h c λ{v o q r s} a r1 s1=>(h2.den a.wf.right s1 e2 λ{t u y z A} g2 f s2=>?_);let[g3,zz,g,i]:=z_ a g2;exact k ⇑g3 (.cons (r1.frame zz g i) f) s2)]
def H_{c}(h:gy cl X es tr fr):QE cl X (.Tuple es c pos) (fg tr) (Qd fr):=#v[JQ h.sem,(by
  refine Aa ?_ h.den;intro Z H f d vs O w r e Q k;dsimp only at e;by_cases a:f.length<=1000
  ·rw[X5 a,cond_true] at e;cases e;exact#v[by rw[r.length];exact Ab a,λp b=>k (Go.newF w b)<|bK.tupNew w b r]
  ·lia)]
@[simp] def Ia:Qd fa s=(fa s).bind λx=>bif decide (x.1.length<=1000) then some (.tup x.1,x.2) else none:=by
 unfold Qd f6;cases fa s with
 | none=>rfl
 | some x=>
  let[d,r]:=x;dsimp only[Option.bind];cases decide (d.length<=1000)<;>rfl
section
variable {R:RC}{Z Z':Zn}{H H':Hp}{pm:List Nat}
@[simp] def AT(i:Nat)(pk:PF)(g:Int->Int->Int)(pv:PF)(s:Rh):Option cf:=(pk s).bind λy=>(vT y).bind λc=>(pV i s).bind λx=>(gP x).bind λkl=>(qv kl.1 kl.2 c).bind λm=>(yS m).bind λm=>(pv s).bind λn=>(yS n).bind λn=>
  bif bW kl.1.length then some (.nx<|s.set i<|some<|.dK true (ki kl.1 kl.2 c<|.int<|g m n).1 (ki kl.1 kl.2 c<|.int<|g m n).2) else none
def vH(i:Nat)(L:Ln)(pk:PF)(g:Int->Int->Int)(pv:PF)(ρ:Rh):Option cf:=(pk ρ).bind λy=>(vT y).bind λc=>(pV i ρ).bind λt=>(L t).bind λy=>(gP y.1).bind λkl=>(qv kl.1 kl.2 c).bind λm=>(yS m).bind λm=>(pv ρ).bind λn=>(yS n).bind λn=>
  bif bW kl.1.length then some (.nx<|ρ.set i<|some<|y.2<|.dK true (ki kl.1 kl.2 c<|.int<|g m n).1 (ki kl.1 kl.2 c<|.int<|g m n).2) else none
def K2{i}{L}{tb ty tv}{pk pv}{g}{rd}(j:∀{m n}{H}{Q},Q (.int<|g m n) H->rd (.int m) (.int n) H Q)(C:i4 R tb i L)(D:PB R ty pk)(E:PB R tv pv):DS R pm (iT tb ty tv rd) (vH i L pk g pv):=by
 intro σ ρ Z H O o w s e W k;refine ob e λq F e=>ob e λc e5 e=>ob e λt hi e=>ob e λ⟨y,X⟩ e3 e=>ob e λ⟨Y,l⟩ G e=>ob e λx I e=>ob e λm J e=>ob e λx' K e=>ob e λn e2 e=>oc e λd e=>?_;cases e;cases wW G;cases jE J;cases jE e2;refine qU (P0:=[]) C w s hi e3 i6 λa _ vs O' A f B M put=>M<|D w.zd s F λ{z Z1 H1 P1} h r1=>?_;let[rfl,_]:=yX e5 r1;let[mv,P3,p,r]:=(qg A f).1 _ I;let[rfl,_]:=r.int_of;refine#v[a,.int m,rfl,by rw[<- p];exact cy.k<|h.at0 B,E h.wf.zd (h.slots w.zd s) K λ{u Z2 H2 P4} g2 N=>?_];let[rfl,_]:=N.int_of;have b:=h.trans g2;let[P,O2,S,e7,T,v]:=YX (bK.int_mk) c (b.reps w.zd A) f;let[O3,U,V]:=put i6 v b S ⇑T.count_le;refine j #v[_,cR.k (b.at0 B)<|VH d,?_];rw[<- e7];exact k U V<|bX.refl _ _
def d5:KA->D
 | .int i=>.int i
 | .str s=>.str s
@[simp] def yP(pd:PF)(s:Rh):Option D:=(pd s).bind λd=>(q0 d).bind λk=>bif frzs k.2 then some (.lst true<|(k.1.zip k.2).map λp=>.tup [d5 p.1,p.2]) else none
def ua(a):bK R Z H (d5 a) (kV<|bR a) []:=by
 cases a with
 | int i=>exact .int_mk
 | str s=>exact .str_mk
def Ib(h:PB R td pd):PP R (xm td) (yP pd):=by
 intro σ ρ Z H O d z s e Q k;refine ob e λx e1 e=>ob e λ⟨y,l⟩ e2 e=>oc e λhf e=>?_;cases e;let[o,rfl]:=FF e2;refine h z s e1 λ{v F A P} g r=>?_;let[a,vs,O',rfl,rs,G,ea,f]:=r;refine#v[a,_,rfl,(by cases o with | true=>exact .inl ea | false=>exact ea),λt m N D S has=>?_];have n:=List.nodup_cons.mp S;have M:∀ b,A b≠none->jZ A m ((y.map bR).zip vs) t b=A b:=λb f=>by
  unfold jZ;rw[if_neg λq=>f<|by rw[q];exact N,yV λq=>f<|has b q]
 have zd:=g.wf.zd;have I:∀ b∈m,jZ A m ((y.map bR).zip vs) t b≠none:=λb f=>by
  let[j,hj]:=List.mem_iff_getElem?.mp f;have T:j<((y.map bR).zip vs).length:=by rw[<- D];exact(L9.mp hj).1
  unfold jZ;rw[if_neg<|show ¬ b=t from λq=>n.1<|q▸f,YV n.2 hj<|E1 T];exact λz=>nomatch z
 have J:jZ A m ((y.map bR).zip vs) t t=some (.lst<|m.map V.ref):=by unfold jZ;rw[if_pos rfl]
 have g2:Go F A [] (λb=>F b\/b∈m) (jZ A m ((y.map bR).zip vs) t) [t]:=by
  refine#v[#v[by simp,λb f q=>?_,λb f=>?_,λb q=>?_],λb q=>.inl q,λb f _=>M b f,λb q=>?_,λb f=>?_,λb f=>?_]
  ·rw[M9.mp f] at q;rcases q with q | q
   ·exact zd _ q N
   ·exact n.1 q
  ·rw[M9.mp f,J];exact λz=>nomatch z
  ·rcases q with q | q
   ·rw[M b<|zd b q];exact zd b q
   ·exact I b q
  ·rcases q with q | q
   ·exact .inl q
   ·exact .inr<|.inr<|has b q
  ·rw[M9.mp f];exact .inr N
  ·rw[M b f];exact f
 refine k (g.trans g2) #v[t,m.map V.ref,[],rfl,?_,J,rfl];have U:a_ R (λb=>F b\/b∈m) (jZ A m ((y.map bR).zip vs) t) l vs []:=(rs.frozen hf).frame (λb q=>.inl q) (λb q=>M b<|zd b q) (λb f=>nomatch f);have key:∀(w:W5) (i:List KA) E B,a_ R (λb=>F b\/b∈m) (jZ A m ((y.map bR).zip vs) t) E B []->i.length=E.length->w.length=i.length ->
   (∀(j:Nat) b c u,w[j]?=some b->i[j]?=some c->B[j]?=some u->b∈m/\jZ A m ((y.map bR).zip vs) t b=some (.tup [kV<|bR c,u])) ->
   a_ R (λb=>F b\/b∈m) (jZ A m ((y.map bR).zip vs) t) ((i.zip E).map λp=>.tup [d5 p.1,p.2]) (w.map V.ref) []:=by
  intro w
  induction w with
  | nil=>
   intro i E B _ W C _;have:=List.length_eq_zero_iff.mp C.symm;subst this;exact .empty
  | cons b w ih=>
   intro i E B rr W C hp;cases i with
   | nil=>simp at C
   | cons c i=>
    cases E with
    | nil=>simp at W
    | cons d E=>
     let[u,K,O1,O2,rfl,eO,r1,r2]:=rr;let[rfl,rfl]:=List.append_eq_nil_iff.mp eO.symm;let[f,eb]:=hp 0 b c u rfl rfl rfl;exact a_.cons (O:=[]) #v[b,[kV<|bR c,u],rfl,.inl #v[.inr f,.inl eb],a_.cons (ua c)<|.one r1]<|ih i E K r2 ⇑W ⇑C λj b' c' u' L X Y=>hp (j+1) b' c' u' ⇑L ⇑X ⇑Y
 refine key m y l vs U G (by rw[D,List.length_zip,L1,rs.length,G];simp) λj b c u L X Y=>#v[List.mem_of_getElem? L,?_];have hz:((y.map bR).zip vs)[j]?=some (bR c,u):=by
  rw[List.getElem?_zip_eq_some];exact#v[by rw[List.getElem?_map,X];rfl,Y]
 unfold jZ;rw[if_neg<|show ¬ b=t from λq=>n.1<|q▸List.mem_of_getElem? L,YV n.2 L hz]
end
section
variable {cl:Nat->Addr}{pm:List Nat}{X:Cx}{a b e o tg iter:Expr}{body:List Stmt}{ta tb te to:TE}{pa pb pe po:PF}{pos:Pos}{k:Nat}{t:TG}{g:D->Rh->Option Rh}{fE:FE}{ts:TS}{f:FS}
def Ic{i}{x}{a tpos}(f:bS k X.A)(g:QB cl X (.Name x a) (yj i)<|pV i)(c:QB cl X b tb pb)(d:QB cl X e te pe)
  (h:∀ ov iv new,augStore b ov iv new=(do holding [new,ov,iv] (setItem ov iv new);release [new,ov,iv] [];pure .next):=by intros;rfl):
  QS cl pm X (.AugAssign (.Subscript (.Name x a) b tpos) .Sub e pos) (iT (yj i) tb te lU) (AT i pb (λm n=>m-n) pe):=#v[K3 (Yn f) g.sem c.sem d.sem m9 h,(K2 (λq=>#v[_,_,rfl,rfl,q]) Ju c.den d.den)]
def Ie(U:X.calm=true)(V:X.mg "list" = none)(M:QB cl X o to po)(Y:Gl X "list":=by rfl)
  (m:attributeBase o "items" X.env (eval o X.env)=eval o X.env:=by rfl) (n:(apos.endLine==cpos.line)=true:=by rfl)
  (Z:starEach [.Call (.Attribute o "items" apos) [] [] cpos] X.env=(false,eval (.Call (.Attribute o "items" apos) [] [] cpos) X.env)::starEach [] X.env:=by rfl)
  (G:(backTo pos<|starEach [] X.env).any (·.1)=false:=by rfl)
  (hbt:backTo pos (starEach [.Call (.Attribute o "items" apos) [] [] cpos] X.env)=[(false,eval (.Call (.Attribute o "items" apos) [] [] cpos) X.env)]:=by rfl):
  QP cl X (.Call (.Name "list" p) [.Call (.Attribute o "items" apos) [] [] cpos] [] pos) (xm to) (yP po):=#v[(by
    intro C s σ H Q I h;refine wpAny_Call_Name_kw<|qX I Y V Yr (PyProof.Rows.callWith_type1 (Calls.spliced_cons<|wpAny_Call_method0_late m n<|thn (M.sem C s σ H _ I h) λv s1 hh=>?_) Z G) (by decide) (by decide);let[x,H1,i,r1,a,r,ex,N,O]:=hh;subst ex;obtain rfl:v=Value.ref a:=r1;let[P,hd,vs,J,K]:=wV i.hok N;let[t1,t2,_]:=pW i<|.inl #v[r,N];refine#v["dict","dict.items",PySem.F.plainAttrs_dict,PySem.F.slot_dict_items,PySem.F.type_dict_items,t1,t2,Calls.callWith_builtin rfl<|PySem.evalArgs_none<|call_meetsIn PySem.F.slot_dict_items K.typeIs PySem.F.entry_dict_items (PySem.F.args_dict_items_1 _) (meets_dict_items (bT X.prog X.w) a hd) #v[#v[vs,K],(Calls.spliced_nil ?_)]];let[ob,es,ep,d1,d2]:=K;have L:(s1.heap.push {cls:=.type "dict_items",data:=.fields #[.ref a]}).DictAt (bT X.prog X.w) a vs ep:=#v[ob,es,L8 _ d1,d2];refine PySem.W.kdx_call (i.ok.hd U) #v[_,E3 _ rfl,rfl,rfl] L (by rw[<- J.length];exact P) λh' tk acc c k hk R S D l=>?_;have f:(s1.heap.push ({cls:=.type "dict_items",data:=.fields #[.ref a]}:Obj)).objs.size=↥s1+1:=Heap.size_push _ _;have nd:=D.rise.imp N7;have t:k.length=r.length:=by rw[S,J.length]
    have g:∀ b∈k,↥s1<=b:=λb d=>by have q:=D.above b d;rw[f] at q;lia
    have E:=λb d=>Nat.ne_of_gt<|D.above b d;refine#v[.ref _,jZ H1 k r (s1.heap.push ({cls:=.type "dict_items",data:=.fields #[.ref a]}:Obj)).objs.size,i.layAll (λb u e=>hk b u<|L8 _ e) (λb d=>?_)<|λb u d e=>?_,rfl,O _ k (i.hok.fresh<|by rw[f];lia) t (List.nodup_cons.mpr #v[λz=>E _ z rfl,nd]) λb d=>i.hok.fresh<|g b d]
    ·unfold jZ;rw[if_neg<|λz=>d<|by rw[z];exact i.hok.fresh<|by rw[f];lia,yV λz=>d<|i.hok.fresh<|g b z]
    ·unfold jZ at e;by_cases A:b=(s1.heap.push ({cls:=.type "dict_items",data:=.fields #[.ref a]}:Obj)).objs.size
     ·rw[if_pos A] at e;cases e;subst A;refine#v[by rw[f];lia,by rw[L1,t];exact P,k.map Value.ref,c,?_,?_]
      ·clear R l D S nd t g E O
       induction k with
       | nil=>exact .nil
       | cons x k ih=>exact .cons rfl ih
      ·rw[R,<- l]
     ·rw[if_neg A] at e;by_cases B:b∈k
      ·let[j,T]:=List.mem_iff_getElem?.mp B;let[key,kk,x,e1,e2,e3]:=D.pairs j b T;let[y,ey,r1]:=EM J e1;rw[YV nd T ey] at e;cases e;exact#v[g b B,show 2<=sizeLine by decide,[key,x],.cons (EL e2)<|.cons r1 .nil,#v[_,e3,rfl,0,rfl],_,e3,rfl]
      ·rw[yV B] at e;exact absurd e<|by rw[d];exact λz=>nomatch z),Ib M.den]
end
def r_:List Str->List Tok->List Value
 | x::xs,t::ts=>.str x t::r_ xs ts
 | _,_=>[]
theorem zg:∀{xs}{ts},xs.length=ts.length->bM (xs.map V.str) (r_ xs ts)
 | [],[],_=>.nil
 | x::xs,t::ts,h=>.cons #v[t,rfl]<|zg ⇑h
 | [],_::_,h=>by simp at h
 | _::_,[],h=>by simp at h
def Ig(ws:W1):a_ R Z H (ws.map D.str) ((ws.map S).map V.str) []:=by
 induction ws with
 | nil=>exact .empty
 | cons w ws a=>exact .cons .str_mk a
def Ih{K}{n}{sl}{xs}{ts}{ws:W1}(c:ws.map S=xs)(h:K.lookup a=some #v[.type "tuple",none,.seq (r_ xs ts).toArray n,sl])(d:xs.length=ts.length)(e:xs.length<=1000)(cl)(Z)(H):bK #v[K,cl] Z H (.tup<|ws.map D.str) (.ref a) []:=by
 subst c;have b:=zg d;refine#v[a,(ws.map S).map V.str,rfl,.inr #v[_,_,n,h,rfl,rfl,?_,by simpa using b],Ig ws];have:=b.length;rw[L1] at this;rw[N4,<- this];exact Ab e
def er(R:RC)(m:List D->Option (D×D))(n j:Nat):Sp:=λvs H Q _=>∃ Z ds d c O u,WF Z H O/\ds.length=n/\a_ R Z H ds vs O/\vs[j]?=some u/\m ds=some (d,c) /\
 ∀{v}{Z'}{H'}{P O'},Go Z H O Z' H' (P++O')->bK R Z' H' d v P->bK R Z' H' c u O'->Q v H'
def YG(j:Nat):cf->Option (D×D)
 | .rt d ρ=>(pV j ρ).bind λc=>some (d,c)
 | .nx ρ=>(pV j ρ).bind λc=>some (.non,c)
 | _=>none
def et(n j:Nat)(f:FS):List D->Option (D×D):=λds=>(f<|ds.map some++List.replicate (n-ds.length) none).bind (YG j)
def km:et n j f ds=(f<|ds.map some++List.replicate (n-ds.length) none).bind (YG j):=rfl
def Go.pick(g:Go Z H O Z' H'<|P++(A++Q++B)):Go Z H O Z' H' (P++Q):=g.drop (λa h=>by simp at h ⊢;rcases h with h | h<;>simp[h]) (by
 have nd:=g.wf.nd;simp only[X3,N3] at nd ⊢;exact#v[nd.1,nd.2.1.1.2.1,λa c b d=>nd.2.2 a c b<|.inl<|.inr d])
def Ii(y:DS R [j] ts f)(h:er R (et N.length j f) n j vs H Q E):ts {nx:=λ_ H'=>Q .non H',rt:=Q} (L2.cr N vs) H:=by
 let[Z,m,d,c,O,u,w,K,r,z,e,k]:=h;have s:Slots R Z H (m.map some++List.replicate (N.length-m.length) none) (L2.cr N vs) O:=by
  have q:=Yu r<|Yb<|N.length-m.length;unfold L2.cr;rw[r.length];rw[N1] at q;exact q
 have p:(L2.cr N vs)[j]?=some (some u):=by
  unfold L2.cr;rw[List.getElem?_append_left<|by simpa using((L9.mp z).1),List.getElem?_map,z];rfl
 have key:∀{a}{i}{l}{H'}{P t}{v},a[j]?=some (some c)->Go Z H O l H' (P++t)->bK R l H' d v P->Slots R l H' a i t->bX [j] (L2.cr N vs) i->Q v H':=by
  intro a i l H' P t v b g D x kp;let[A,L,B,rfl,F,_,_]:=x.put (L9.mp b).1;let[M,G,I]:=F c b;have:i[j]?=some (some u):=by rw[kp j<|by simp,p]
  rw[G] at this;cases this;exact k g.pick D I
 refine ob e λo C e=>?_;cases o with
 | rt S a=>exact ob e λJ b e=>by cases e;exact y w s C<|key<|YQ b
 | nx a=>exact ob e λJ b e=>by cases e;exact y w s C λg x kp=>key (YQ b) ⇑g .non_mk x kp
 | bk a=>cases e
 | ct a=>cases e
def PJ(R:RC)(i j:Nat)(ta:TA)(p:cF):Prop:=∀{s}{v}{Z}{H}{O}{ds},Zd Z H->Slots R Z H v s O->p v=some ds->∀{u},s[i]?=some (some u) ->
 ∀{Q:List V->Hp->Prop},(∀{v1 v2}{Z'}{H'},Go Z H [] Z' H' []->v1.length=j->a_ R Z' H' (ds.take j) v1 []->a_ R Z' H' (ds.drop j) v2 []->Q (v1++u::v2) H')->ta s H Q
@[simp] def du(p:cF)(ρ:Rh):Option (List D):=(p ρ).bind λds=>bif frzs ds then some ds else none
def Ij(h:PB R ta pa)(m:PJ R i j tr pr):PJ R i (j+1) (jS ta tr) (ja (pF pa) pr):=by
 intro U W Z H O x z s e u n Q k;refine ob e λd a e=>ob e λl e2 e=>?_;cases e;have o:frz d=true:=by
  refine ob a λc e3 a=>?_;cases hc:frz c with
  | false=>rw[hc] at a;cases a
  | true=>rw[hc] at a;cases a;exact hc
 refine h.f z s a λ{v y A B} b r1=>?_;cases r1.nil o;refine m b.wf.zd (b.slots z s) e2 n λ{g C p q} g2 r t w=>?_;have g3:Go Z H [] p q []:=by simpa using b.pair g2
 exact k (v1:=v::g) g3 (by simp[r]) (.cons (g2.rep b.wf.zd r1) t) ⇑w
@[simp] def j9(m:List D->Option (D×D))(i:Nat)(j:Nat)(p:cF)(ρ:Rh):Option (D×Rh):=(p ρ).bind λds=>(pV i ρ).bind λc=>(m<|ds.take j++c::ds.drop j).bind λr=>some (r.1,ρ.set i<|some r.2)
def Go.turn(g:Go Z H O Z' H'<|A++(P++Q)++B):Go Z H O Z' H' (P++(A++Q++B)):=g.drop (λa h=>by simp at h ⊢;rcases h with h | h | h | h<;>simp[h]) (by
 have nd:=g.wf.nd;simp only[X3,N3] at nd ⊢;obtain⟨⟨j,⟨k,l,m⟩,f⟩,n,i⟩:=nd;refine#v[k,#v[#v[j,l,λa d b c=>f a d b<|.inr c],n,λa d b c=>i a (d.elim .inl λq=>.inr<|.inr q) b c],λa d b c e=>?_];rcases c with(c | c) | c
 ·exact f b c a (.inl d) e.symm
 ·exact m a d b c e
 ·exact i a (.inr<|.inl d) b c e)
def Ik(h:PJ R i j ta p)(y:∀ ρ ds,p ρ=some ds->ds.length+1=n/\j<=ds.length):DE R (Vr (er R m n j) [] E0 ta) (j9 m i j p):=by
 intro σ ρ T Z H O d w s e Q k;refine ob e λds q e=>ob e λc a e=>ob e λ⟨z,C⟩ e2 e=>?_;cases e;have a:=YQ a;have hi:=(L9.mp a).1;let[U,V,W,_,D,_,_]:=s.put hi;let[u,g,_]:=D c a;refine h w.zd s q g λ{E F l r} t G I J=>?_;have b:Go Z H O l r O:=by simpa using t.widen w
 let[A,P,B,rfl,K,L,_]:=(t.slots w.zd s).put hi;let[X,f,M]:=K c a;rw[g] at f;cases f;let[Y,n2]:=y ρ ds q;have N:a_ R l r (ds.take j++c::ds.drop j) (E++u::F) P:=by
  have:=I.append<|a_.cons M J;simpa using this
 refine#v[l,ds.take j++c::ds.drop j,z,C,P,u,b.wf.mid,by simp;lia,by rw[N1];exact N,by rw[N1,List.getElem?_append_right ∅,G];simp,e2,λ{v Z2 H2 P2 O2} g2 S o=>?_];have x:=Go.keepA b.wf g2;have s2:=L o g2.zz (g2.zH b.wf.mid) x.1 x.2;rw[yK g] at s2;exact k (b.trans<|g2.frame b.wf).turn S s2
def oh(i:Nat)(r:D×Rh):Option cf:=match r.2[i]? with
 | some (some (.lst true l))=>bif bW l.length then some (.nx<|r.2.set i<|some<|.lst true<|l++[r.1]) else none
 | _=>none
def oj:Option (Option D)->Bool
 | some (some (.lst true _))=>true
 | _=>false
def Vs(i:Nat)(fe:FE):FS:=λs=>bif oj s[i]? then(fe s).bind (oh i) else none
def Il(h:DE R te fe):DS R pm (Yc<|fF R.K "list" Ys (yj i)<|jS te YC) (Vs i fe):=by
 intro σ ρ Z H O o w s e D' k;unfold Vs at e;cases hown:oj ρ[i]? with
 | false=>rw[hown] at e;cases e
 | true=>
 rw[hown,cond_true] at e;obtain⟨G,D⟩:∃ G,ρ[i]?=some (some<|.lst true G):=by
  unfold oj at hown;split at hown
  ·rename_i G q;exact#v[G,q]
  ·lia
 refine ob e λr W e=>?_;let[d,ρ1]:=r;unfold oh at e;split at e
 ·rename_i l S;refine oc e λE e=>?_;cases e;let[A0,P0,B0,_,X,_,_]:=s.put (L9.mp D).1;let[v0,m,Y]:=X _ D;let[a,I,O0,rfl,rs0,J,_]:=Y;refine#v[.ref a,m,.inl #v[rfl,I,ck.of J],(h w s W λ{u p F t O1} T r1 s1=>?_)];let[A,P,B,rfl,k1,k2,_]:=s1.put (L9.mp S).1;let[v,U,rl]:=k1 _ S;rw[m] at U;cases U;let[a',vs,C,L,V,ea,rfl]:=rl;cases L;refine#v[a,vs,u,rfl,rfl,ea,by rw[V.length];exact YB E,?_];have w1:=T.wf;have nd:=w1.nd;simp only[X3,N3,List.nodup_cons,M5] at nd;obtain⟨n1,⟨⟨nA,⟨na,nO⟩,nAO⟩,nB,j⟩,M⟩:=nd;have ne:∀ b,b∈t\/b∈A\/b∈C\/b∈B\/p b->b≠a:=by
   intro b c e;subst e;rcases c with c | c | c | c | c
   ·lia
   ·lia
   ·lia
   ·exact j b (.inr<|.inl rfl) b c rfl
   ·exact w1.nz b (by simp) c
  have N:a_ R p (bO F a<|.lst<|vs++[u]) l vs C:=V.frame (λ_ z=>z) (λb z=>je<|ne b<|.inr<|.inr<|.inr<|.inr z) λb c=>je<|ne b<|.inr<|.inr<|.inl c;have Q:bK R p (bO F a<|.lst<|vs++[u]) d u t:=r1.frame (λ_ z=>z) (λb z=>je<|ne b<|.inr<|.inr<|.inr<|.inr z) λb c=>je<|ne b<|.inl c;have r2:bK R p (bO F a<|.lst<|vs++[u]) (.lst true<|l++[d]) (.ref a) (a::(C++t)):=by
   refine#v[a,vs++[u],C++t,rfl,?_,jj,rfl];have:=N.append<|a_.cons Q a_.empty;simpa using this
  have s2:=k2 r2 (λ_ z=>z) (λb z=>je<|ne b<|.inr<|.inr<|.inr<|.inr z) (λb c=>je<|ne b<|.inr<|.inl c)<|λb c=>je<|ne b<|.inr<|.inr<|.inr<|.inl c;rw[yK m] at s2;have g2:Go p F (t++(A++a::C++B)) p (bO F a<|.lst<|vs++[u]) (A++(a::(C++t))++B):=by
   refine#v[#v[?_,λb c=>w1.nz b (by simp at c ⊢;rcases c with c | c | c | c | c<;>simp[c]),λb c=>?_,λb c=>?_],λ_ z=>z,λb c hn=>je<|λe=>hn<|by simp[e],λ_ z=>.inl z,λb c=>.inl (by simp at c ⊢;rcases c with c | c | c | c | c<;>simp[c]),λb c=>?_]
   ·simp only[X3,N3,List.nodup_cons,M5];refine#v[#v[nA,#v[λz=>z.elim na λq=>M a q a (.inl<|.inr<|.inl rfl) rfl,nO,n1,λx g y n e=>M y n x (.inl<|.inr<|.inr g) e.symm],λx g y n e=>?_],nB,λx g y n e=>?_]
    ·grind
    ·rcases g with g | g | g | g
     ·exact j x (.inl g) y n e
     ·exact j x (.inr<|.inl g) y n e
     ·exact j x (.inr<|.inr g) y n e
     ·exact M x g y (.inr n) e
   ·by_cases f:b=a
    ·rw[f,jj];exact λz=>(nomatch z)
    ·rw[je f];exact w1.od b (by simp at c ⊢;rcases c with c | c | c | c | c<;>simp[c])
   ·by_cases f:b=a
    ·rw[f,jj];exact λz=>(nomatch z)
    ·rw[je f];exact w1.zd b c
   ·by_cases f:b=a
    ·rw[f,jj];exact λz=>(nomatch z)
    ·rw[je f];exact c
  exact k (T.trans g2) s2<|bX.refl _ _
 ·cases e
structure QJ(cl:Nat->Addr)(X:Cx)(i j:Nat)(es:List Expr)(ta:TA)(p:cF):Prop where
 sem:PA X es ta
 den:PJ #v[X.K,cl] i j ta p
 n:∀ s ds,p s=some ds->ds.length+1=es.length/\j<=ds.length
def Im(d:QB cl X (.Name x pos) (yj i)<|pV i)(c:d9 cl X es tr pr)(f:∀ y ds,pr y=some ds->ds.length=es.length)(g:starEach (.Name x pos::es) X.env=(false,eval (.Name x pos) X.env)::starEach es X.env:=by rfl):QJ cl X i 0 (.Name x pos::es) (jS (yj i) tr) (du pr):=
 ⟨jJ d.sem c.sem g,(by
   intro w y Z H O ds z s e u j Q k;refine ob e λl b e=>oc e λa e=>?_;cases e;refine#v[u,j,c.den z s b λ{vs n o p} m r1=>?_];cases r1.nil a;exact k m rfl ⇑a_.empty ⇑r1),λy ds h=>by
  refine ob h λl b h=>?_;cases a:frzs l with
  | false=>rw[a] at h;cases h
  | true=>rw[a] at h;cases h;exact#v[by rw[M3,f y _ b],U7 _]⟩
def Io(b:QB cl X e te pe)(a:QJ cl X i j es tr pr)(c:dw X e es:=by rfl):QJ cl X i (j+1) (e::es) (jS te tr) (ja (pF pe) pr):=
 ⟨jJ b.sem a.sem c,Ij b.den a.den,λs f h=>by
  refine ob h λd g h=>ob h λl e2 h=>?_;cases h;have:=a.n s l e2;simp only[M3]
  lia⟩
def Ip{cl}{P}{w}{K}{mg}{base}{x qual}{a}{fa}{fd}{N ps}{k n j}{fs}(F:gj K x qual a fa fd)(f:ce N ps<|jG a)(e:ps.length=n)
  (b:∀ cdv A outer s H E,bS k (A.deeper<|envOfC qual (jG a) ↥s fa cdv) ->
   ∃ ts,fq cl [j] (gJ dY P w K mg base N qual (jG a) fa cdv A outer s H E).nox (kg a) ts fs):cB P w K mg base dY (k+1) fa fd ps (er #v[K,cl] (et N.length j fs) n j):=by
 refine F.ok f (λvs H Q E h=>by rw[(show vs.length=n from by 
   let[Z,i,d,c,O,u,w,e,r,_]:=h;rw[r.length,e]),e]) λcdv A outer s H vs Q E g h=>?_
 let[ts,q]:=b cdv A outer s H E g;exact#v[ts,q.sem,Ii q.den h]
def BO.o(h:BO R r g):DO R r g:=λw r1 a e _ k=>h w.zd r1 a e λg3 b=>k (g3.widen w).dropR b
def oF(g:D->D->Option D):D->D->Option D:=λx y=>(g x y).bind λd=>bif frz d then some d else none
def nH.o(h:nH R r g):DO R r (oF g):=by
 intro Z H x y d v u j l w r1 b e Q k;refine ob e λc f e=>oc e λi e=>?_;cases e;refine h w.zd r1 b f λ{m P} a=>?_;cases a.nil i;exact k ((Go.refl w).to0) a
def kr(m:List D->Option D)(fa:FA):FE:=λρ=>(fa ρ).bind λr=>bif frzs r.1 then(m r.1).bind λd=>some (d,r.2) else none
def qL(g:D->Rh->Option Rh)(fe:FE):List D->Rh->Option (List D×Rh)
 | [],s=>some ([],s)
 | x::xs,s=>(g x s).bind λρ1=>(fe ρ1).bind λr=>(qL g fe xs r.2).bind λt=>some (r.1::t.1,t.2)
def YA(i:Nat)(s:Rh):Bool:=(s.set i none).all λo=>match o with
 | none=>true
 | some d=>frz d
def QY(pi:cF)(g:D->Rh->Option Rh)(fe:FE)(ix:List<|Option Nat)(i i':Nat):FE:=λs=>(pi s).bind λxs=>match s[i]? with
 | some (some _)=>bif bW xs.length&&YA i' (jq ix s) then(qL g fe xs<|jq ix s).bind λt=>match t.2[i']? with
   | some (some c)=>some (.lst true t.1,s.set i<|some c)
   | _=>none
  else none
 | _=>none
theorem Vo:∀{w}{u}{O},Slots R Z H w u O->(∀ o∈w,∀ d,o=some d->frz d=true)->Slots R Z H w u []
 | [],_,_,h,_=>#v[h.1,rfl]
 | none::w,_,_,h,f=>by
  let[s,a,e,r]:=h;exact#v[s,a,e,Vo r λo b=>f o<|by simp[b]]
 | some d::w,_,_,h,f=>by
  let[v,a,g,i,e,_,r1,c]:=h;cases r1.nil (f (some d) (by simp) d rfl);exact#v[v,a,[],[],e,rfl,r1,Vo c λo b=>f o<|by simp[b]]
def xw(s:Slots R Z H W U O)(a:ix[i']?=some (some i))(h:W[i]?=some (some c))(j:U[i]?=some (some u))(k:bK R Z H c u P)(l:YA i' (jq ix W)=true):
  Slots R Z H (jq ix W) (yw ix U) P/\(yw ix U)[i']?=some (some u):=by
 let[x,m]:=Vu s ix;have n:=(L9.mp a).1;have f:(jq ix W)[i']?=some (some c):=by
  unfold jq;rw[List.getElem?_map,a];show some ((W[i]?).join)=_;rw[h];rfl
 have g:(yw ix U)[i']?=some (some u):=by
  unfold yw;rw[List.getElem?_map,a];show some ((U[i]?).join)=_;rw[j];rfl
 have b:=(L9.mp f).1;let[A,y,B,_,_,_,p]:=m.put b;have r:=Vo p λo t d hd=>by
  have:=List.all_eq_true.mp l o t;rw[hd] at this;exact this
 let[C,D,E,v,_,w,_]:=r.put (by rw[List.length_set];exact b);have q:=w k (λ_ z=>z) (λ_ _=>rfl) (λ_ _=>rfl)<|λ_ _=>rfl;have e:=v.symm;rw[List.append_eq_nil_iff,List.append_eq_nil_iff] at e;rw[e.1.1,e.2,List.set_set,yK f,yK g] at q;exact#v[by simpa using q,g]
def Iq(hi:gu R wi pi)(hg:gR R [i'] tg g)(he:DE R te fe)(hix:ix[i']?=some (some i)):
  DE R (Vb wi tg (λ_ H Q=>Q true H) te ix) (QY pi g fe ix i i'):=by
 intro σ ρ ρ' Z H O d w s e Q k;refine ob e λl e1 e=>?_;split at e
 ·rename_i c hc;refine oc e λhl e=>?_;rw[M0] at hl;refine ob e λt e2 e=>?_;let[all,ρE]:=t;split at e
  ·rename_i c' D;cases e;refine hi w.zd s e1 λ{J p v} g0 it=>?_;intro a ha;have Y:Go Z H O p v O:=by simpa using g0.widen w
   have s0:=g0.slots w.zd s;let[A,P,B,rfl,k1,k2,_]:=s0.put (L9.mp hc).1;let[u,hu,rc]:=k1 c hc;let[si,hsu]:=xw s0 hix hc hu rc hl.2;have E:=Y.wf.mid;have gp:Go p v P p (bO v a<|.lst []) (a::P):=Go.newO E ha;have F:∀ b,v b≠none->b≠a:=λb h e=>h<|e▸ha;refine#v[λi m σ2 C=>m=l.length-i/\i<=l.length/\∃ ρ2 G I K vs j YL,Go p v P G C (a::j++I)/\C a=some (.lst vs)/\a_ R G C K vs j/\Slots R G C ρ2 σ2 I/\bX [i'] (yw ix σ) σ2/\qL g fe (l.drop i) ρ2=some (YL,ρE)/\all=K++YL/\K.length<=i,
    ⟨l.length,rfl,U7 _,_,p,P,[],[],[],all,by simpa using gp,jj,a_.empty,si.frame (λ_ z=>z) (λb z=>je<|F b<|E.zd b z)<|λb f=>je<|F b<|E.od b f,bX.refl _ _,e2,rfl,N0 _⟩,?_]
   rintro n m σ2 C ⟨rfl,hn',ρ2,G,I,K,vs,j,YL,g2,ea,ry,s2,kp,e3,e4,L⟩;have M:=it g2.zz (g2.zH E) g2.wf.zd n;by_cases N:n<l.length
   ·right
    have hx:l[n]?=some l[n]:=by simp[N]
    let[go,yl]:=M.2 _ hx;refine#v[go,λu3 H3 hy=>?_];let[Z3,g3,r3]:=yl u3 H3 hy;have S:Go G C (a::j++I) Z3 H3 (a::j++I):=by simpa using g3.widen g2.wf
    rw[qP hx] at e3;refine ob e3 λρ3 e5 e3=>(hg r3 (g3.slots g2.wf.zd s2) e5 λ{σ4 O4} sub nd s4 k4=>(gk<|ob e3 λr e6 e3=>?_));let[y,ρ6]:=r;refine ob e3 λt e8 e3=>?_;let[ys2,ρF]:=t;cases e3;have n3:=X3.mp S.wf.nd;have g4:=(g2.trans S).drop (λb f=>by rcases N3.mp f with q | q<;>simp only[N3];exact .inl q;exact .inr<|sub b q) (X3.mpr #v[n3.1,nd n3.2.1,λx hx y hy=>n3.2.2 x hx y<|sub y hy]);refine he g4.wf.right s4 e6 λ{v6 T o U V} g6 r6 s6=>?_;have w4:WF Z3 H3 (a::j++O4++[]):=by simpa using g4.wf
    have W:=(Go.keepA w4 g6).1;have gA:Go p v P T o (a::j++(U++V)):=by
     exact g4.trans (by simpa using(g6.frame w4))
    have w6:=gA.wf;have ea6:o a=some (.lst vs):=by rw[W a<|by simp,g3.same a<|by rw[ea];exact λz=>(nomatch z)];exact ea
    have hvl:vs.length<sizeLine:=by
     rw[ry.length];exact YB<|X5<|N8 L<|N8 hn'<|X7 hl.1
    have gB:Go T o (a::j++(U++V)) T (bO o a<|.lst<|vs++[v6]) (a::j++(U++V)):=Go.put w6 (by simp);have ne:∀ b,b∈j++(U++V)->bO o a (.lst<|vs++[v6]) b=o b:=λb f=>je λz=>(List.nodup_cons.mp w6.nd).1 (z▸f);have X:∀ b,T b->bO o a (.lst<|vs++[v6]) b=o b:=λb f=>je λz=>w6.nz a (by simp)<|z▸f;refine#v[vs,ea6,hvl,l.length-(n+1),by lia,rfl,N,ρ6,T,V,K++[y],vs++[v6],j++U,ys2,?_,jj,?_,(s6.frame (λb z=>z) X λb f=>ne b<|by simp[f]),kp.trans k4,e8,by rw[e4];simp,by rw[N5];exact Nat.add_le_add_right L 1]
    ·have:=gA.trans gB;simpa using this
    ·refine(((g3.reps g2.wf.zd ry).frame g6.zz (g6.zH g4.wf.right) λb f=>W b<|by simp[f]).append (.one r6)).frame (λb z=>z) X λb f=>ne b ?_;rcases N3.mp f with q | q<;>simp[q]
   ·left
    have hi2:n=l.length:=by lia
    refine#v[M.1 ∅,?_];rw[hi2,List.drop_length] at e3;cases e3;rw[N1] at e4;subst e4;let[A',P',B',rfl,k1',_,_]:=s2.put (L9.mp D).1;let[u',hu',rc']:=k1' c' D;have:σ2[i']?=some (some u):=by rw[kp i'<|by simp,hsu]
    rw[hu'] at this;cases this;have g5:=g2.pick;have W:=Go.keepA Y.wf g5;have s5:=k2 rc' g5.zz (g5.zH E) W.1 W.2;rw[yK hu] at s5;exact k (Y.trans<|g5.frame Y.wf).turn #v[a,vs,j,rfl,ry,ea,rfl] s5
  ·cases e
 ·cases e
def BC.o(h:BC R r g):DC R r g:=λw r1 e _ k=>h w.zd r1 e λg3 a=>k (g3.widen w).dropR a
def AU(R:RC)(wi:TI)(fi:FA):Prop:=∀{s}{u ρ'}{Z}{H}{O}{xs},WF Z H O->Slots R Z H u s O->fi u=some (xs,ρ') ->
 ∀{Q:It->Hp->Prop},(∀{J}{Z'}{H'}{O'},Go Z H O Z' H' O'->Slots R Z' H' ρ' s O'->l7 R J Z' H' xs->Q J H')->wi s H Q
def ol(fa:FA):FA:=λs=>(fa s).bind λr=>(KH r.1).bind λxs=>some (xs,r.2)
def mG(p:FA)(g:D->Rh->Option Rh)(f:FS):FS:=λs=>(p s).bind λr=>jY g f r.1 r.2
def Ir(hi:AU R wi p)(M:gR R pm tg g)(N:DS R pm tb f):DS R pm (lO wi tg tb) (mG p g f):=by
 intro σ ρ Z H O o w s e D' k;refine ob e λr P e=>?_;let[c,Q]:=r;refine hi w s P λ{J C I O0} a s0 S=>?_;refine#v[rB R pm g f σ C I O0 c o,
  ⟨c.length,rfl,U7 _,Q,C,O0,Go.refl a.wf,s0,bX.refl _ _,e⟩,?_]
 rintro i m σ' T ⟨rfl,U,ρ',V,K,h,s1,kp,e2⟩;have t:=S h.zz (h.zH a.wf) h.wf.zd i;by_cases v:i<c.length
 ·right
  have L:c[i]?=some c[i]:=by simp[v]
  let[go,W]:=t.2 _ L;rw[qP L] at e2;refine ob e2 λρ1 e3 e2=>ob e2 λX Y e2=>#v[go,λD n=>∃ b q A,Go C I O0 q n A/\Slots R q n b D A/\bX pm σ D/\jY g f (c.drop<|i+1) b=some o,λD n ⟨b,q,A,a1,a2,a3,a4⟩=>#v[c.length-(i+1),by lia,rfl,v,b,q,A,a1,a2,a3,a4],λu n hy=>?_];let[q,g2,r2]:=W u n hy;have x:Go V T K q n K:=by simpa using g2.widen h.wf
  refine M r2 (g2.slots h.wf.zd s1) e3 λ{σ3 O3} sub nd s3 B=>?_;have g3:=(h.trans x).drop sub (nd x.wf.nd);refine N g3.wf s3 Y ?_;cases X with
  | nx b=>exact λ{E y F z} g4 j l=>#v[b,y,z,g3.trans g4,j,kp.trans<|B.trans l,e2]
  | ct b=>exact λ{E y F z} g4 j l=>#v[b,y,z,g3.trans g4,j,kp.trans<|B.trans l,e2]
  | bk b=>cases e2;exact λ{E y F z} g4 j l=>k (a.trans<|g3.trans g4) j<|kp.trans<|B.trans l
  | rt d b=>cases e2;exact λ{v4 E y F P4 z} g4 r4 j l=>k (a.trans<|g3.trans g4) r4 j<|kp.trans<|B.trans l
 ·left
  have G:i=c.length:=by lia
  refine#v[t.1 ∅,?_];rw[G,List.drop_length] at e2;cases e2;exact k (a.trans h) s1 kp
structure iw(cl:Nat->Addr)(X:Cx)(e:Expr)(tt:TT)(f:gQ):Prop where
 sem:PT X e tt
 den:DT #v[X.K,cl] tt f
structure iy(cl:Nat->Addr)(X:Cx)(e:Expr)(tt:TT)(f:gQ):Prop where
 sem:PW X e tt
 den:DT #v[X.K,cl] tt f
def QT.d(h:QT cl X e tA qa):iw cl X e tA (cq qa):=#v[h.sem,f8.d h.den]
def Iu{cl}{X}{a b}{ta tb}{fa fb}{pos}{K}(e:X.K=K)(c:QE cl X a ta fa)(d:QE cl X b tb fb):QE cl X (.BinOp a .Add b pos) (cT (l9 K) ta tb) (eo jh fa fb):=by subst e;exact#v[K6 Aq c.sem d.sem,nE (BO.o Ar) c.den d.den]
def Iv(c:QE cl X a ta fa)(d:QE cl X b tb fb):QE cl X (.BinOp a .Mod b pos) (cT (rI (λ_ j=>0<j) λi j=>.int<|i%j) ta tb) (eo ji fa fb):=#v[K6 tN c.sem d.sem,nE (BO.o As) c.den d.den]
def Iw(h:dg cl X op b r gg)(c:QE cl X a ta fa)(d:QE cl X b tb fb):iw cl X (.Compare a [op] [b] pos) (zY<|cT r ta tb) (iZ<|eo gg fa fb):=#v[tQ h.o c.sem d.sem h.m,FH<|nE (BO.o h.g) c.den d.den]
def Ix(b:iw cl X a tA ft):iy cl X (.BoolOp .Or [a] pos) tA ft:=#v[tw b.sem,b.den]
def Iy{cl}{X}{a b}{es}{tA tB}{ft fu}{pos}(f:iw cl X a tA ft)(g:iy cl X (.BoolOp .Or (b::es) pos) tB fu):iy cl X (.BoolOp .Or (a::b::es) pos) (oV tA tB) (nF ft fu):=#v[tz f.sem g.sem,(by
  intro u x j Z H O b w h e Q k;refine ob e λp i e=>?_;let[c,l]:=p;refine f.den w h i λ{m n o} d s1=>?_;cases c with
  | true=>cases e;exact gk<|k d s1
  | false=>exact gL<|g.den d.wf s1 e λ{q r s} g2 s2=>k (d.trans g2) s2)]
def iy.test(h:iy cl X a tA ft):iw cl X a tA ft:=#v[PW.pt h.sem,h.den]
def Iz(a:iw cl X c tA ft)(b:fq cl pm X x ts f)(d:fq cl pm X y tu f2):QS cl pm X (.If c x y pos) (m5 tA ts tu) (cp ft f f2):=#v[tD a.sem b.sem d.sem,Ac a.den b.den d.den]
def IA{cl}{X}{a b}{ta tb}{fa fb}{pos}{K}(e:X.K=K)(c:QE cl X a ta fa)(d:QE cl X b tb fb)(f:KS b:=by exact λ_ _=>rfl):QE cl X (.Subscript a b pos) (cT (eh K) ta tb) (eo (oF jd) fa fb):=by subst e;exact#v[tW tY c.sem d.sem f,nE (nH.o Aw) c.den d.den]
def IB{cl}{X}{e}{es}{tr}{fr}{pos}{K}{k n}{fn}{fd}{ps}{m}{x qual}{st}{p}(i:X.K=K)(F:df X.K X.mg x qual st fn fd ps)(G:cB X.prog X.w X.K X.mg X.base dY k fn fd ps<|dn #v[X.K,cl] m n)(j:bS k X.A)
  (g:gy cl X (e::es) tr fr) (l:∀ W r,fr W=some r->r.1.length=n) (o:Gl X x:=by rfl) (b:Nd x:=by decide)
  (q:dw X e es:=by rfl) (f:dH X pos es:=by rfl):QE cl X (.Call (.Name x p) (e::es) [] pos) (Vr (dn #v[K,cl] m n) [] E0 tr) (kr m fr):=by
 subst i;exact#v[nl F G j g.sem o b q f,(by
   intro U W B Z H O d w s e Q k;refine ob e λr h e=>?_;let[t,C]:=r;refine oc e λu e=>ob e λc e2 e=>?_;cases e;refine g.den w s h λ{vs y D E I} a r1 s1=>?_;cases r1.nil u;refine#v[y,t,d,a.wf.zd,l W _ h,by rw[N1];exact r1,e2,λ{v J L M} g2 z=>?_];exact k (a.trans<|by simpa using(g2.widen a.wf)) z<|g2.slots a.wf.zd s1)]
def AV{cl}{X}{e}{es}{tr}{fr}{pos}{K:W4}{x}{p}{id}{r}{c}(f:qG X (.builtin id) r)(g:BC #v[X.K,cl] r c)(h:X.mg x=none)(i:bootBuiltins x=some (.builtin id))(d:gy cl X (e::es) tr fr)(j:Gl X x:=by rfl)
  (k:x≠"__name__":=by decide) (a:Nd x:=by decide) (l:dw X e es:=by rfl) (b:dH X pos es:=by rfl):
  QE cl X (.Call (.Name x p) (e::es) [] pos) (f1 r tr) (f6 c fr):=#v[QF f j h i d.sem k a l b,Aa (BC.o g) d.den]
structure AW(cl:Nat->Addr)(X:Cx)(tg e:Expr)(wi:TI)(p:FA):Prop where
 sem:PI X tg e wi
 den:AU #v[X.K,cl] wi p
def IC(c:X.mg "range" = none)(h:gy cl X [a] tr fr)(d:Gl X "range":=by rfl)(b:starEach [a] X.env=[(false,eval a X.env)]:=by rfl):AW cl X tg (.Call (.Name "range" p) [a] [] pos) (pu tr) (ol fr):=#v[xl d c h.sem b,(by
  intro U W m Z H O n w s e Q k;refine ob e λ⟨o,q⟩ f e=>ob e λr e2 e=>ob e2 λx e3 e2=>ob e2 λj g e2=>oc e2 λb e2=>?_;cases e;cases e2;cases vk e3;cases jE g;refine h.den w s f λ{vs t v y z} i r1 s1=>?_;let[u,rfl,l]:=r1.one_of;let[rfl,rfl]:=l.int_of;exact#v[j,rfl,(qJ b).1,(qJ b).2,k ⇑i s1 Aj])]
def ID(c:PassesOwn (model X.prog X.w) X.A X.env X.xe)(d:X.calm=true)(hi:AW cl X tg iter wi fi)(a:QG cl pm X tg t g)(b:fq cl pm X body ts f)(e:∀ x,foldedSetIterable iter X.env x=pure x:=by intro _;rfl):QS cl pm X (.For tg iter body [] pos) (lO wi t ts) (mG fi g f):=
 ⟨tK c d hi.sem a.sem b.sem e,Ir hi.den a.den b.den⟩
def IE(g:QB cl X (.Name x xpos) (yj i)<|pV i)(h:QE cl X e te fe)(b:attributeBase (.Name x xpos) "append" X.env (eval (.Name x xpos) X.env)=eval (.Name x xpos) X.env:=by rfl)
  (d:((backTo cpos<|starEach [e] X.env).all (λx=>!x.1)&&(backToKw cpos<|keywordEach [] X.env).all (λx=>x.1.isSome)
   && decide ([e].length+([]:List Keyword).length+(if([]:List Keyword).isEmpty then 0 else 1)<30))=true:=by rfl)
  (c:(apos.endLine==cpos.line)=true:=by rfl) (f:starEach [e] X.env=(false,eval e X.env)::starEach [] X.env:=by rfl) (a:(backTo cpos<|starEach [] X.env).any (·.1)=false:=by rfl)
  (hsw:swapsWith (.Call (.Attribute (.Name x xpos) "append" apos) [e] [] cpos) none pos.line X.env=pure false:=by rfl):
  QS cl pm X (.Expr (.Call (.Attribute (.Name x xpos) "append" apos) [e] [] cpos) pos) (Yc<|fF X.K "list" Ys (yj i)<|jS te YC) (Vs i fe):=
 ⟨Ym (iR PySem.F.plainAttrs_list PySem.F.slot_list_append PySem.F.type_list_append J3 g.sem (jJ h.sem vU f) b d c f a) hsw,Il h.den⟩
def IF(B:ca X scope N' ix)(e:X.calm=true)(hi:QI cl X tg iter wi pi)(a:ix[o']?=some (some o))
  (c:∀ C s H fp,QG cl [o'] (ya X scope N' C s H fp) tg t g) (d:∀ C s H fp,QE cl (ya X scope N' C s H fp) elt te fe)
  (f:X.N.Nodup) (b:X.N[i]?=some x:=by rfl) (h:fC X.env.scope x:=by first | exact Or.inl rfl | exact Or.inr rfl)
  (hsw:swapsWith (.ListComp elt [#v[tg,iter,[],0]] scope pos) (some<|.Name x pos') spos.line X.env=pure true:=by with_unfolding_all rfl)
  (j:∀ x,foldedSetIterable iter X.env x=pure x:=by intro _;rfl)
  (k:X.fn x=true\/X.env.scope.names.lookup x=some .local:=by first | exact .inl rfl | exact .inr rfl):
  QS cl pm X (.Assign [.Name x pos'] (.ListComp elt [#v[tg,iter,[],0]] scope pos) spos) (gH (Vb wi t (λ_ H Q=>Q true H) te ix)<|vJ i) (ju (QY pi g fe ix o o')<|jc pm i):=
 ⟨Ko B e hi.sem (λC s H fp=>(c C s H fp).sem) (λC s H fp=>.inl #v[rfl,rfl]) (λC s H fp=>(d C s H fp).sem) f b h hsw j k,
  nG (Iq hi.den (c 0 X.s₀ X.H₀ []).den (d 0 X.s₀ X.H₀ []).den a) V0⟩
def AX:∀ s ds,pN s=some ds->ds.length=0:=λs ds h=>by cases h;rfl
def xf(h:∀ s ds,pr s=some ds->ds.length=n):∀ s ds,ja p pr s=some ds->ds.length=n+1:=λs ds e=>by
 refine ob e λd a e=>ob e λl e2 e=>?_;cases e;rw[M3,h s l e2]
def IG:∀ s r,Js s=some r->r.1.length=0:=λs r h=>by cases h;rfl
def IH(h:∀ s r,fr s=some r->r.1.length=n):∀ s r,jr fe fr s=some r->r.1.length=n+1:=λs r e=>by
 refine ob e λq b e=>?_;let[d,a]:=q;refine ob e λt e2 e=>?_;let[l,c]:=t;cases e;exact congrArg (·+1)<|h a _ e2
def AY:D->Option (List D)
 | .lst _ m=>bif frzs m then some m else none
 | .tup m=>bif frzs m then some m else none
 | _=>none
def iz(i:Nat)(p:PF)(ρ:Rh):Option cf:=(p ρ).bind λe=>(AY e).bind λm=>(pV i ρ).bind λx=>(xP x).bind λl=>bif bW (l.length+m.length) then some (.nx<|ρ.set i<|some<|.lst true<|l++m) else none
def II(h:PB R te p):DS R pm (Yc<|fF R.K "list" (pX R.K) (yj i)<|jS te YC) (iz i p):=by
 intro U W Z H O o w s e I k;refine ob e λd z e=>ob e λm e2 e=>ob e λx A e=>ob e λl e3 e=>oc e λc e=>?_;cases e;cases YZ e3;unfold Yc fF;refine qU (P0:=[]) Ju w s A rfl YD λa _ vs J t _ v B put=>B #v[.inl #v[rfl,vs,ck.of v],h w.zd s z λ{u C f L} g r1=>?_];have D:∃ b zs,u=.ref b/\(ck R.K f b zs\/cJ R.K f b zs)/\a_ R C f m zs []:=by
  cases d with
  | lst M E=>
   refine oc e2 λj e2=>?_;cases e2;let[b,zs,F,rfl,n,r]:=r1.lst_of;exact#v[b,zs,rfl,.inl n.sq,r.frozen j]
  | tup E=>
   refine oc e2 λj e2=>?_;cases e2;let[b,zs,rfl,n,r]:=r1.tup_of;exact#v[b,zs,rfl,.inr n,r.frozen j]
  | _=>cases e2
 let[b,zs,rfl,G,y]:=D;let[N,g2,s2]:=put YD trivial g ((g.reps w.zd t).append y) λq=>by simp
 exact#v[a,b,vs,zs,rfl,rfl,g.at0 v,G,by rw[t.length,y.length];exact Jz c,k g2 s2<|bX.refl _ _]
def mH:List D->Option D
 | [.bl b]=>some<|.int (if b then 1 else 0)
 | _=>none
def IJ:BC R (λxs H Q=>∃ b:Bool,xs=[.bl b]/\Q (.int<|if b then 1 else 0) H) mH:=by
 intro Z H xs d vs O z r e Q k;unfold mH at e;split at e
 ·rename_i b;cases e;let[v,rfl,r1]:=r.one_of;let[rfl,_]:=r1.bl_of;exact#v[b,rfl,k (Go.id z) .int_mk]
 ·cases e
@[simp] def om(b):mH [.bl b]=some (.int<|if b then 1 else 0):=rfl
def IK(g:QB cl X (.Name x xpos) (yj i)<|pV i)(h:QB cl X e te pe)(b:attributeBase (.Name x xpos) "extend" X.env (eval (.Name x xpos) X.env)=eval (.Name x xpos) X.env:=by rfl)
  (d:((backTo cpos<|starEach [e] X.env).all (λx=>!x.1)&&(backToKw cpos<|keywordEach [] X.env).all (λx=>x.1.isSome)
   && decide ([e].length+([]:List Keyword).length+(if([]:List Keyword).isEmpty then 0 else 1)<30))=true:=by rfl)
  (c:(apos.endLine==cpos.line)=true:=by rfl) (f:starEach [e] X.env=(false,eval e X.env)::starEach [] X.env:=by rfl) (a:(backTo cpos<|starEach [] X.env).any (·.1)=false:=by rfl)
  (hsw:swapsWith (.Call (.Attribute (.Name x xpos) "extend" apos) [e] [] cpos) none pos.line X.env=pure false:=by rfl):
  QS cl pm X (.Expr (.Call (.Attribute (.Name x xpos) "extend" apos) [e] [] cpos) pos) (Yc<|fF X.K "list" (pX X.K) (yj i)<|jS te YC) (iz i pe):=
 ⟨Ym (iR PySem.F.plainAttrs_list PySem.F.slot_list_extend PySem.F.type_list_extend ER g.sem (jJ h.sem vU f) b d c f a) hsw,II h.den⟩
end QD
namespace QD
open PySem L2
def jb(h:n<=100000):bW n=true:=X5 h
def yI{f:s->u}{l:List s}(h:l.length<=100000):bW (l.map f).length=true:=jb (by rw[L1];exact h)
def wg(a:0<=i)(h:i<l.length):atI l i=l[i.toNat]?:=by
 unfold atI dI;rw[if_pos ∅,if_pos ∅];rfl
def kG(h:(qp lo n)[i]?=some x):x=.int (lo+i)/\i<n:=by
 unfold qp at h;rw[List.getElem?_map] at h;by_cases hi:i<n
 ·rw[List.getElem?_range hi] at h;cases h;exact#v[rfl,hi]
 ·rw[List.getElem?_eq_none ⇑hi] at h;cases h
def jM(lo)(n):(qp lo n).length=n:=by simp[qp]
@[simp] def AZ(a b):qr (.str a) (.str b)=some (.bl<|a==b):=rfl
@[simp] def A1(a b):wX (.str a) (.str b)=some (.bl<|!(a==b)):=rfl
@[simp] def IL(i):gS (.int i) .non=some (.bl false):=rfl
@[simp] def IM:gS .non .non=some (.bl true):=rfl
@[simp] def IN(a):gS (.str a) .non=some (.bl false):=rfl
@[simp] def A2(a)(c)(s):QH a (.str [c]) (.str s)=some (.bl<|a != decide (c∈s)):=rfl
@[simp] def A3(i):xK (.int i)=some (.int<|-i):=rfl
def u9(h:a.length+b.length<=100000):jh (.str a) (.str b)=some (.str<|a++b):=by
 show(bif bW (a.length+b.length) then some (D.str<|a++b) else none)=_;rw[jb h];rfl
def IP(a:s.length<=100000)(b:0<=i)(h:i<s.length):jd (.str s) (.int i)=some (.str [s.getD i.toNat 0]):=by
 show(bif bW s.length then((atI s i).bind λc=>some<|D.str [c]) else none)=_;rw[jb a,wg b h];have:i.toNat<s.length:=by lia
 simp[this]
def IQ(xs:List s)  (h:0<=k):Yp xs none (some k)=xs.take k.toNat:=by
 obtain⟨n,rfl⟩:∃ n:Nat,k=n:=#v[k.toNat,by lia];rw[Ed];simp
def IR(xs:List s)  (h:0<=k):Yp xs (some k) none=xs.drop k.toNat:=by
 obtain⟨n,rfl⟩:∃ n:Nat,k=n:=#v[k.toNat,by lia];rw[Ee];simp
@[simp] def g_(s):KQ (.str s)=some (s.map λc=>D.str [c]):=rfl
@[simp] def iA(o)(l):Kb [.lst o l]=bif frzs l then some (.tup l) else none:=rfl
def zZ(w)(l:W1):gV (.str w) (l.map D.str)=true:=by
 unfold gV;rw[M0];refine#v[rfl,List.all_eq_true.mpr λy a=>?_];let[z,_,rfl]:=M7.mp a;rfl
def uG(w)(l:W1):gU (.str w) (l.map D.str)=decide (w∈l):=by
 unfold gU;rw[Bool.eq_iff_iff,List.any_eq_true,decide_eq_true_eq];constructor
 ·rintro⟨y,a,e⟩;let[z,b,rfl]:=M7.mp a;have:z=w:=by
   exact eq_of_beq e
  exact this▸b
 ·intro h;exact#v[.str w,M7.mpr #v[w,h,rfl],by show(w==w)=true;simp]
theorem qQ:∀{l},(∀ d∈l,frz d=true)->frzs l=true
 | [],_=>rfl
 | d::l,h=>by rw[kU,h d<|by simp,qQ λx a=>h x<|by simp[a]];rfl
theorem oq:∀{l},(∀ d∈l,fz d=d)->bV l=l
 | [],_=>rfl
 | d::l,h=>by rw[HD,h d<|by simp,oq λx a=>h x<|by simp[a]]
def yn{f:s->D}(h:∀ x,frz (f x)=true)(l:List s):frzs (l.map f)=true:=qQ λd hd=>by let[p,_,rfl]:=M7.mp hd;exact h p
def vD{f:s->D}(h:∀ x,fz (f x)=f x)(l:List s):bV (l.map f)=l.map f:=oq λd hd=>by let[p,_,rfl]:=M7.mp hd;exact h p
@[simp] def ou(n)(i):d4 n (.int i)=true:=by cases n<;>rfl
theorem Kf(a):∀ w ws,V4 a (w::ws)=w++(ws.map (a++·)).flatten
 | w,[]=>by simp[V4]
 | w,v::ws=>by rw[V4,Kf a v ws];simp
theorem KO{G}{Good:D->Prop}{P:Rh->Prop}:∀{xs}(_:∀ x∈xs,∀ ρ,P ρ->∃ ρ1 y,G x ρ=some ρ1/\p ρ1=some y/\Good y/\P ρ1) {ρ}(_:P ρ),∃ ys,cX (jU G qT p xs ρ=some ys) (ys.length=xs.length)<|∀ y∈ys,Good y
 | [],_,ρ,_=>#v[[],rfl,rfl,by simp]
 | x::xs,step,ρ,b=>by
  let[ρ1,y,c,e2,d,p1]:=step x (by simp) ρ b;let[ys,e3,e,f]:=KO (xs:=xs) (λz a=>step z<|by simp[a]) p1;refine#v[y::ys,?_,by simp[e],?_]
  ·rw[yD,c];simp[e2,e3]
  ·intro z a;rcases M5.mp a with rfl | a
   ·exact d
   ·exact f z a
theorem Y1{f:s->D}{Q:s->Prop}:∀{ys},(∀ y∈ys,∃ a,y=f a/\Q a)->∃ l:List s,ys=l.map f/\∀ a∈l,Q a
 | [],_=>#v[[],rfl,by simp]
 | y::ys,h=>by
  let[a,e,q]:=h y (by simp);let[l,e2,c]:=Y1 (ys:=ys) λz d=>h z (by simp[d]);exact#v[a::l,by rw[e,e2];rfl,λb g=>(M5.mp g).elim (λz=>z▸q) (c b)]
def fv(a:0<=i)(h:i<l.length):jd (.lst o l) (.int i)=l[i.toNat]?:=wg a h
def iB(a:0<=i)(h:i<l.length):jd (.tup l) (.int i)=l[i.toNat]?:=wg a h
def Wd(w:List Nat):Prop:=w.length<=30/\∀ c∈w,c<1114112
@[simp] def qk(l:W1):bV (l.map D.str)=l.map D.str:=by
 rw[kQ,U3];rfl
@[simp] def yt(l:W1):frzs (l.map D.str)=true:=by
 rw[JP,List.all_map,List.all_eq_true];intro x _;rfl
@[simp] def hD(l:W1):yh (l.map D.str)=true:=by
 rw[yz,List.all_map,List.all_eq_true];intro x _;rfl
def xJ{l:W1}{i:Int}(a:0<=i)(h:i<l.length):jd (.lst o<|l.map D.str) (.int i)=some (.str<|l.getD i.toNat []):=by
 rw[fv a<|by rw[L1];exact h,List.getElem?_map,List.getD_eq_getElem?_getD,E1 ∅];rfl
def Y0{l:List s}{i}(h:i<l.length):l.getD i d∈l:=by
 rw[List.getD_eq_getElem?_getD,E1 h];exact List.getElem_mem h
def uO(h:x∈Yp l lo hi):x∈l:=List.mem_of_mem_drop<|List.mem_of_mem_take h
def Q8(St:List s->Rh->Prop)(Ok:s->Prop)(b M):∀{xs}{acc}{ρ},
  (∀ x∈xs,∀ acc ρ,acc.length<=M->(∀ a∈acc,Ok a)->St acc ρ->∃ ρ1 ρ2 L,G x ρ=some ρ1/\f ρ1=some (.nx ρ2)/\L.length<=b/\(∀ a∈L,Ok a)/\St (acc++L) ρ2) ->
  acc.length+b*xs.length<=M->(∀ a∈acc,Ok a)->St acc ρ->dv λρ' T=>d8 (jY G f xs ρ=some (.nx ρ')) (St (acc++T) ρ') (T.length<=b*xs.length) (∀ a∈T,Ok a):=by
 intro xs
 induction xs with
 | nil=>
  intro acc ρ step g c d;exact#v[ρ,[],rfl,by rw[N1];exact d,by simp,by simp]
 | cons x xs i=>
  intro acc ρ step g c d;rw[M3,Nat.mul_succ] at g;let[ρ1,ρ2,L,j,e2,n,h,k]:=step x (by simp) acc ρ ∅ c d;let[ρ',T,e3,l,o,e]:=i (λy m=>step y<|by simp[m]) (by rw[N5];lia) (λa q=>(N3.mp q).elim (c a) (h a)) k;refine#v[ρ',L++T,?_,by rw[<- List.append_assoc];exact l,by rw[N5,M3,Nat.mul_succ];lia,λa q=>(N3.mp q).elim (h a) (e a)];rw[jQ,j,L4,e2,L4,JG,e3]
def IS{G}{l:List u}{en out}{b}(P:Rh->Prop)(step:∀ x∈l,∀ s,P s->∃ ρ1,G (en x) s=some ρ1/\q ρ1=some (b x)/\p ρ1=some (out x)/\P ρ1){s}(a:P s):jU G q p (l.map en) s=some ((l.filter b).map out):=by
 induction l generalizing s with
 | nil=>rfl
 | cons x l c=>
  let[ρ1,d,e2,e3,p1]:=step x L7 s a;have:=c (λy e=>step y<|L6 _ e) p1;rw[L5,yD,d,L4,e2,L4];cases hb:b x with
  | true=>simp[e3,this,hb]
  | false=>simp[this,hb]
theorem VL:∀ l:List (List Nat×D),Ve (l.map λp=>.tup [.str p.1,p.2])=some (l.map λp=>(KA.str p.1,p.2))
 | []=>rfl
 | p::l=>by
  rw[L5,Ve,VL l];rfl
theorem VY:∀(ps:List<|KA×D) ks vs,(ks++ps.map (·.1)).Nodup->ps.foldl (λacc kv=>ki acc.1 acc.2 kv.1 kv.2) (ks,vs)=(ks++ps.map (·.1),vs++ps.map (·.2))
 | [],ks,vs,_=>by simp
 | p::ps,ks,vs,h=>by
  have a:p.1∉ks:=by
   intro z;exact(X3.mp h).2.2 p.1 z p.1 (by simp) rfl
  have b:ki ks vs p.1 p.2=(ks++[p.1],vs++[p.2]):=by unfold ki;rw[if_neg a]
  show ps.foldl _ (ki ks vs p.1 p.2)=_;rw[b,VY ps (ks++[p.1]) (vs++[p.2]) ⇑h];simp
def Ku{l:List (List Nat×D)}(f:(l.map (·.1)).Nodup)(g:∀ p∈l,frz p.2=true)(i:l.length<=100000):yZ [.lst o<|l.map λp=>.tup [.str p.1,p.2]]=some (.dK true (l.map λp=>KA.str p.1) (l.map (·.2))):=by
 have j:((l.map λp=>(KA.str p.1,p.2)).map (·.1)).Nodup:=by
  rw[U3];have:((λx:KA×D=>x.1) ∘ λp:List Nat×D=>(KA.str p.1,p.2))=KA.str ∘ (·.1):=rfl;rw[this,<- U3];exact List.Pairwise.map _ (λa b h z=>h<|by cases z;rfl) f
 show((Ve<|l.map λp=>.tup [.str p.1,p.2]).bind λc=>bif frzs (c.map (·.2))&&bW c.length then some (D.dK true (wo c).1 (wo c).2) else none)=_;rw[VL,L4];have e:((l.map λp=>(KA.str p.1,p.2)).map (·.2))=l.map (·.2):=by rw[U3];rfl
 rw[e,qQ (by intro d hd;let[p,k,rfl]:=M7.mp hd;exact g p k),L1,jb i];unfold wo;rw[VY (l.map λp=>(KA.str p.1,p.2)) [] [] ⇑j,e];simp[U3]
def eu{s:Type}(w:List Nat):List (List Nat×s)->Option s
 | []=>none
 | p::l=>if p.1=w then some p.2 else eu w l
theorem xa(w):∀ l:List (List Nat×D),qv (l.map λp=>KA.str p.1) (l.map (·.2)) (.str w)=eu w l
 | []=>rfl
 | p::l=>by
  rw[L5,L5,qv,eu,xa w l];by_cases h:p.1=w
  ·rw[if_pos h,if_pos<|by rw[h]]
  ·rw[if_neg h,if_neg<|λz=>h<|by cases z;rfl]
theorem A4(f:s->u)(w):∀ l:List (List Nat×s),eu w (l.map λp=>(p.1,f p.2))=(eu w l).map f
 | []=>rfl
 | p::l=>by
  rw[L5,eu,eu,A4 f w l];by_cases h:p.1=w
  ·rw[if_pos h,if_pos h];rfl
  ·rw[if_neg h,if_neg h]
theorem uo:∀{l:List (List Nat×s)},w∈l.map (·.1)->∃ a,eu w l=some a/\(w,a)∈l
 | [],h=>by cases h
 | p::l,h=>by
  rw[eu];by_cases e:p.1=w
  ·rw[if_pos e];exact#v[p.2,rfl,by rw[<- e];simp]
  ·rw[if_neg e];let[a,b,c]:=uo<|(M5.mp h).resolve_left λz=>e z.symm;exact#v[a,b,by simp[c]]
def bY(o:Bool)(N:W1)(f:List Nat->Int):D:=.dK o (N.map KA.str)<|N.map λn=>D.int<|f n
theorem Y9(f:List Nat->Int):∀{N:W1},c∈N->qv (N.map KA.str) (N.map λn=>D.int<|f n) (.str c)=some (.int<|f c)
 | [],h=>by cases h
 | n::N,h=>by
  rw[L5,L5,qv];by_cases e:n=c
  ·rw[if_pos<|by rw[e],e]
  ·rw[if_neg λz=>e<|by cases z;rfl];exact Y9 f<|(M5.mp h).resolve_left λz=>e z.symm
def yk(h:c∈N):yW (bY o N f) (.str c)=some (.int<|f c):=Y9 f h
theorem uA(f:List Nat->Int)(c)(v):∀ N:List (List Nat),wj (N.map KA.str) (N.map λn=>D.int<|f n) (.str c) (.int v)=N.map λn=>D.int (if n=c then v else f n)
 | []=>rfl
 | n::N=>by
  rw[L5,L5,wj,uA f c v N,L5];by_cases e:n=c
  ·rw[if_pos<|by rw[e],if_pos e]
  ·rw[if_neg λz=>e (by cases z;rfl),if_neg e]
def um{N:W1}{f:List Nat->Int}{c}{v}(h:c∈N):ki (N.map KA.str) (N.map λn=>D.int<|f n) (.str c) (.int v)=(N.map KA.str,N.map λn=>D.int<|if n=c then v else f n):=by
 unfold ki;rw[if_pos<|M7.mpr #v[c,h,rfl],uA]
theorem Q5:∀{l:List (List Nat×s)},(l.map (·.1)).Nodup->∀ p∈l,eu p.1 l=some p.2
 | [],_,_,h=>by cases h
 | q::l,a,p,h=>by
  rw[L5,List.nodup_cons] at a;rw[eu];rcases M5.mp h with rfl | h
  ·rw[if_pos rfl]
  ·rw[if_neg λz=>a.1<|by rw[z];exact M7.mpr #v[p,h,rfl]];exact Q5 a.2 p h
def fnOf(S:List<|List Nat×Int)(n:List Nat):Int:=(eu n S).getD 0
def yo{S}(b:(S.map (·.1)).Nodup)(c:S.length<=100000):yZ [.lst o<|S.map λp=>.tup [.str p.1,.int p.2]]=some (bY true (S.map (·.1))<|fnOf S):=by
 have e:=Ku (o:=o) (l:=S.map λq=>(q.1,D.int q.2)) (by rw[U3];exact b) (by intro q d;let[a,_,rfl]:=M7.mp d;rfl) (by rw[L1];exact c);rw[U3,U3,U3] at e;refine e.trans ?_;unfold bY;rw[U3,U3];congr 2;refine List.map_congr_left λp f=>?_;show D.int p.2=D.int (fnOf S p.1);rw[(show fnOf S p.1=p.2 from by 
   unfold fnOf;rw[Q5 b p f];rfl)]
def A5(N:W1)(f:List Nat->Int):frzs (N.map λn=>D.int<|f n)=true:=qQ λd hd=>by
 let[n,_,rfl]:=M7.mp hd;rfl
def zf(N:W1)(f:List Nat->Int):(((N.map KA.str).zip (N.map λn=>D.int<|f n)).map λp=>D.tup [d5 p.1,p.2])=N.map λn=>D.tup [.str n,.int<|f n]:=by
 induction N with
 | nil=>rfl
 | cons n N a=>
  rw[L5,L5,U9,L5,L5,a];rfl
@[simp] def mI(N)(f):gP (bY true N f)=some (N.map KA.str,N.map λn=>D.int<|f n):=rfl
variable {ρ:Rh}{fa fb fe:FE}{ft fu:gQ}{fr:FA}{p:cF}{pi:cF}{g:D->D->Option D}{gl:List D->Option D}{G:D->Rh->Option Rh}{f:FS}{m:List D->Option (D×D)}{mp:List D->Option D}{i j:Nat}
@[simp] def se:f6 gl fr s=(fr s).bind λr=>(gl r.1).bind λz=>some (z,r.2):=rfl
@[simp] def mJ:iZ fa s=(fa s).bind λr=>(iV r.1).bind λb=>some (b,r.2):=by
 unfold iZ;cases fa s with
 | none=>rfl
 | some r=>
  let[x,a]:=r;cases x<;>rfl
@[simp] def sf:nF ft fu s=(ft s).bind λr=>bif r.1 then some (true,r.2) else fu r.2:=by
 unfold nF;cases ft s with
 | none=>rfl
 | some r=>let[b,a]:=r;rfl
@[simp] def IT:oF g x y=(g x y).bind λd=>bif frz d then some d else none:=rfl
@[simp] def uC:kr mp fr s=(fr s).bind λr=>bif frzs r.1 then(mp r.1).bind λd=>some (d,r.2) else none:=rfl
def sj:pV i s=(s[i]?).join:=by
 unfold pV;cases h:s[i]? with
 | none=>rfl
 | some o=>cases o<;>rfl
@[simp] def ox:ol fr s=(fr s).bind λr=>(KH r.1).bind λxs=>some (xs,r.2):=rfl
@[simp] def oy:mG fr G f s=(fr s).bind λr=>jY G f r.1 r.2:=rfl
def sk:Option D->Bool
 | some (.lst true _)=>true
 | _=>false
@[simp] def sm:sk (some<|.lst true l)=true:=rfl
def sn(i:Nat)(r:D×Rh):Option D->Option cf
 | some (.lst true l)=>bif bW l.length then some (.nx<|r.2.set i<|some<|.lst true<|l++[r.1]) else none
 | _=>none
@[simp] def so:sn i r (some<|.lst true l)=(bif bW l.length then some (.nx<|r.2.set i<|some<|.lst true<|l++[r.1]) else none):=rfl
@[simp] def oz:Vs i fe s=(bif sk (pV i s) then(fe s).bind (λr=>sn i r<|pV i r.2) else none):=by
 have a:oj s[i]?=sk (pV i s):=by
  rw[sj];cases h:s[i]? with
  | none=>rfl
  | some o=>
   cases o with
   | none=>rfl
   | some d=>
    cases d with
    | lst b l=>cases b<;>rfl
    | _=>rfl
 have c:oh i=λr=>sn i r (pV i r.2):=by
  funext r
  unfold oh;rw[sj];cases h:r.2[i]? with
  | none=>rfl
  | some o=>
   cases o with
   | none=>rfl
   | some d=>
    cases d with
    | lst b l=>cases b<;>rfl
    | _=>rfl
 unfold Vs;rw[a,c]
def oA(fe:FE):FE:=λs=>(fe s).bind λr=>some (fz r.1,r.2)
@[simp] def A6:oA fe s=(fe s).bind λr=>some (fz r.1,r.2):=rfl
def DE.fz(h:DE R te fe):DE R te (oA fe):=by
 intro u ρ n Z H O d w s e Q k;refine ob e λr j e=>?_;let[c,o]:=r;cases e;refine h w s j λ{v f g i l} b r1 s1=>?_;have w1:WF f g ([]++i++l):=by simpa using b.wf
 have m:bK R (λa=>f a\/a∈i) g (QD.fz c) v []:=r1.freeze (λa z=>.inl z) λa z=>.inr z;exact k (b.trans<|by simpa using((Go.freeze b.wf.left).frame w1)) m<|s1.frame (λa z=>.inl z) (λ_ _=>rfl) λ_ _=>rfl
def QE.fz(h:QE cl X e te fe):QE cl X e te (oA fe):=#v[h.sem,DE.fz h.den]
end QD
namespace L2
open PySem PySem.Spec PyProof.Rows
def IU(h:Builtin.Int.intBits a+Builtin.Int.intBits b<=2 ^ 21):IntMulOk a b:=by
 have e:Builtin.Int.intTooBig (Builtin.Int.intBits a+Builtin.Int.intBits b)=false:=by
  unfold Builtin.Int.intTooBig;have:2 ^ 21<=bitsLine:=by decide
  simp
  lia
 unfold IntMulOk;rw[e,Bool.and_false];exact M4
def IV:c_ X (binaryOp .Mult) (rI (λi j=>Builtin.Int.intBits i+Builtin.Int.intBits j<=2 ^ 21) λi j=>.int<|i*j):=lP λ_ _ _ _ _ _ _ a q=>mul_int q<|IU a
end L2
namespace QD
open PySem L2 PySem.Spec PyProof.Rows
def VP:D->D->Option D:=two λi j=>bif decide (Builtin.Int.intBits i+Builtin.Int.intBits j<=2 ^ 21) then some (.int<|i*j) else none
def IW:BO R (rI (λi j=>Builtin.Int.intBits i+Builtin.Int.intBits j<=2 ^ 21) λi j=>.int<|i*j) VP:=by
 intro Z H x y d v u f g z a b e Q k;replace e:=two_of e;let[i,j,rfl,rfl,e]:=e;refine oc e λc e=>?_;cases e;let[rfl,_]:=a.int_of;let[rfl,_]:=b.int_of;exact#v[i,j,rfl,rfl,X7 c,k (Go.id z) .int_mk]
def IX(c:QB cl X a ta pa)(d:QB cl X b tb pb):QP cl X (.BinOp a .Mult b pos) (cT (rI (λi j=>Builtin.Int.intBits i+Builtin.Int.intBits j<=2 ^ 21) λi j=>.int<|i*j) ta tb) (p2 VP pa pb):=#v[K6 IV c.sem d.sem,KZ IW c.den d.den]
def IY(h:i.natAbs<2 ^ (2 ^ 20+1))(k:j.natAbs<2 ^ 1000):VP (.int i) (.int j)=some (.int<|i*j):=by
 have a:=PySem.intBits_le_iff.mpr h;have b:=PySem.intBits_le_iff.mpr k;show(bif decide (Builtin.Int.intBits i+Builtin.Int.intBits j<=2 ^ 21) then some (D.int<|i*j) else none)=_;rw[X5 ∅];rfl
def Yg(h:i.natAbs<2 ^ 1000)(k:j.natAbs<2 ^ 1000):VP (.int i) (.int j)=some (.int<|i*j):=by
 have a:=PySem.intBits_le_iff.mpr h;have b:=PySem.intBits_le_iff.mpr k;show(bif decide (Builtin.Int.intBits i+Builtin.Int.intBits j<=2 ^ 21) then some (D.int<|i*j) else none)=_;rw[X5 ∅];rfl
def IZ(n)(a:100<=n)(h:Builtin.Int.intBits z<=n)(b:k.natAbs<2 ^ 100):(z+k).natAbs<2 ^ (n+1):=by
 have c:=PySem.intBits_le_iff.mp h;have d:2 ^ 100<=2 ^ n:=Nat.pow_le_pow_right (by decide) a;have e:2 ^ (n+1)=2 ^ n+2 ^ n:=by rw[Nat.pow_succ,Nat.mul_two]
 lia
def qY:Int->List D->List D
 | _,[]=>[]
 | n,x::l=>.tup [.int n,x]::qY (n+1) l
theorem zU:∀ n l,(qY n l).length=l.length
 | _,[]=>rfl
 | n,x::l=>by rw[qY,M3,M3,zU]
theorem xr:∀ n l (i:Nat) y,(qY n l)[i]?=some y->∃ x,l[i]?=some x/\y=.tup [.int<|n+i,x]
 | _,[],_,_,e=>by simp[qY] at e
 | n,x::l,0,y,e=>by simp[qY] at e;exact#v[x,rfl,by rw[<- e];simp]
 | n,x::l,i+1,y,e=>by
  let[z,a,e2]:=xr (n+1) l i y (by simpa [qY] using e);exact#v[z,by simpa using a,by rw[e2];congr 3;lia]
def hE(p:cF)(q:PF)(ρ:Rh):Option (List D):=(p ρ).bind λx=>(ux x).bind λx=>(fP x).bind λl=>(q ρ).bind λy=>(yS y).bind λn=>bif Vg n then some (qY n<|bV l) else none
def I0(h:f7 R ta p)(d:PB R tb q):gu R (pY R.K ta tb) (hE p q):=by
 intro U W Z H O D z s e Q k;refine ob e λx f e=>ob e λy e3 e=>ob e λl g e=>ob e λE e2 e=>ob e λn e5 e=>oc e λi e=>?_;cases e;cases jE e5;let[o,rfl]:=qZ g;cases vk e3;refine h z s f λ{vs j F m} r r1=>?_;let[v,rfl,t]:=r1.one_of;let[a,ws,G,rfl,w,A,rfl,_]:=(t.freeze (Z':=λa=>j a\/a∈m) (λa z=>.inl z) λa z=>.inr z);have b:=r.fz;refine d b.wf.zd (b.slots z s) e2 λ{u I J L} g2 B=>?_;let[rfl,_]:=B.int_of;have c:=A.frame g2.zz<|λa z=>g2.same a<|b.wf.zd a z;have M:=qJ i;refine#v[a,ws,n,rfl,rfl,by unfold Builtin.SmallTypes.fitsIndex;simp;lia,FL.sq c,k (b.pair g2) ?_];exact Ay c (w.frame g2.zz (λa z=>g2.same a<|b.wf.zd a z)<|λa C=>(nomatch C)) (zU _ _)<|xr _ _
def JA:List (List KA)->List D->List KA->Option D
 | k::ks,d::l,a=>if k=a then some d else JA ks l a
 | _,_,_=>none
def Qu{a b:List KA}(h:a.map bR=b.map bR):a=b:=by
 induction a generalizing b with
 | nil=>cases b with
  | nil=>rfl
  | cons y b=>simp at h
 | cons x a c=>cases b with
  | nil=>simp at h
  | cons y b=>
   simp only[L5,List.cons.injEq] at h;rw[Qf h.1,c h.2]
theorem Jl:∀{ks}{l}{vs}{O}{a},a_ R Z H l vs O->ks.length=l.length ->
  (∀ d,JA ks l a=some d->∃ v P,V5 ((ks.map<|List.map bR).zip vs) (a.map bR)=some v/\bK R Z H d v P)/\(JA ks l a=none->V5 ((ks.map<|List.map bR).zip vs) (a.map bR)=none)
 | [],l,vs,O,a,r,c=>#v[λd e=>(by cases l<;>cases e),λ_=>rfl]
 | k::ks,[],vs,O,a,r,c=>by simp at c
 | k::ks,x::l,vs,O,a,r,c=>by
  let[v,b,f,j,rfl,rfl,r1,g]:=r;by_cases e:k=a
  ·subst e;refine#v[λd h=>?_,λh=>?_]
   ·simp only[JA,if_true] at h;cases h;exact#v[v,f,JS rfl,r1]
   ·simp[JA] at h
  ·have i:=λz=>e<|Qu z;have q:V5 (((k::ks).map (List.map bR)).zip (v::b)) (a.map bR)=V5 ((ks.map<|List.map bR).zip b) (a.map bR):=JX i;rw[q];simp only[JA,if_neg e];exact(Jl (a:=a) g ⇑c)
abbrev le(ta tb:TE):TE:=fg<|jS ta<|jS tb YC
def hI(pa pb:PF)(s:Rh):Option (List KA):=(pa s).bind λx=>(pb s).bind λy=>(vT x).bind λa=>(vT y).bind λb=>some [a,b]
def J1 (d : PB R ta pa) (f : PB R tb pb)  (z : Zd Z H) (s : Slots R Z H U w O) (e : hI pa pb U = some k)
     (go:∀{p}{Z'}{H'},Go Z H [] Z' H' []->Z' p->H' p=some (.tup<|(k.map bR).map kV)->Q (.ref p) H'):le ta tb w H Q:=by
 refine ob e λx g e=>ob e λy e2 e=>ob e λa e3 e=>ob e λb h e=>?_;cases e;refine d z s g λ{v l m n} c r1=>(f c.wf.zd (c.slots z s) e2 λ{u o q r} g2 i=>?_);let[rfl,_]:=yX e3 r1;let[rfl,_]:=yX h i;refine#v[by show 2<=sizeLine;decide,λp j=>?_];exact go ((c.pair g2).trans (Go.newF g2.wf j)) (.inr rfl) jj
def bK.dT_of(r:bK R Z H (.dT o ks l) v O):dF λa vs O'=>d8 (v=.ref a) (H a=some (.dT<|(ks.map<|List.map bR).zip vs)) (a_ R Z H l vs O') (ks.length=l.length):=by
 let[a,vs,O',rfl,b,c,d,_]:=r;exact#v[a,vs,O',rfl,d,b,c]
def VJ(x:D)(k:List KA)(z:D):Option D:=match x with
 | .dT _ ks l=>some<|(JA ks l k).getD z
 | _=>none
@[simp] def mK(o)(ks)(l)(k)(z):VJ (.dT o ks l) k z=some ((JA ks l k).getD z):=rfl
@[simp] def YR(pd:PF)(pa:PF)(pb:PF)(pc:PF)(s:Rh):Option D:=(pd s).bind λx=>(hI pa pb s).bind λk=>(pc s).bind λz=>VJ x k z
@[simp] def sr:hI pa pb s=(pa s).bind λx=>(pb s).bind λy=>(vT x).bind λa=>(vT y).bind λb=>some [a,b]:=rfl
def xZ:List (List KA)->List D->List KA->D->List D
 | k::ks,x::l,a,d=>(if k=a then d else x)::xZ ks l a d
 | _,_,_,_=>[]
theorem Qm:∀{ks}{l} a d,ks.length=l.length->(xZ ks l a d).length=l.length
 | [],[],_,_,_=>rfl
 | [],_::_,_,_,h=>by simp at h
 | _::_,[],_,_,h=>by simp at h
 | k::ks,x::l,a,d,h=>by rw[xZ,M3,M3,Qm a d ⇑h]
theorem A7(rd:bK R Z H d v [])(a):∀{ks}{l}{vs}{O},a_ R Z H l vs O->ks.length=l.length ->
  dv λvs2 O2=>cX (a_ R Z H (xZ ks l a d) vs2 O2) ((ks.map<|List.map bR).zip vs2=((ks.map<|List.map bR).zip vs).map (λkv=>if kv.1=a.map bR then(kv.1,v) else kv))<|O2.Sublist O
 | [],[],vs,O,r,b=>by
  let[rfl,rfl]:=r;exact#v[[],[],.empty,rfl,.slnil]
 | [],_::_,_,_,_,h=>by simp at h
 | _::_,[],_,_,_,h=>by simp at h
 | k::ks,x::l,vs,O,r,b=>by
  let[w,j,m,O2,rfl,rfl,r1,n]:=r;let[c,f,g,e3,i]:=A7 rd a n ⇑b;by_cases e:k=a
  ·subst e;refine#v[v::c,[]++f,?_,?_,(i.trans<|List.sublist_append_right _ _)]
   ·rw[xZ,if_pos rfl];exact a_.cons rd g
   ·simp only[L5,U9,if_true,e3]
  ·have o:=λz=>e<|Qu z;refine#v[w::c,m++f,?_,?_,(List.Sublist.append (List.Sublist.refl _) i)]
   ·rw[xZ,if_neg e];exact a_.cons r1 g
   ·simp only[L5,U9,if_neg o,e3]
theorem uY(a):∀{ks:List (List KA)}{vs:List V},ks.length=vs.length->(((ks.map<|List.map bR).zip vs).any λkv=>decide<|kv.1=a.map bR)=decide (a∈ks)
 | [],vs,_=>by simp
 | k::ks,[],h=>by simp at h
 | k::ks,v::vs,h=>by
  rw[L5,U9,List.any_cons,uY a ⇑h];by_cases e:k=a
  ·subst e;simp
  ·have b:¬ (k.map bR=a.map bR):=λz=>e<|Qu z;have e2:¬ (a=k):=λz=>e z.symm;simp[b,e2]
def kj(ks:List<|List KA)(l:List D)(a:List KA)(d:D):List (List KA)×List D:=if a∈ks then(ks,xZ ks l a d) else(ks++[a],l++[d])
def YW(rd:bK R Z H d v [])(a)  (r:a_ R Z H l vs O) (b:ks.length=l.length):
  dv λvs2 O2=>d8 (a_ R Z H (kj ks l a d).2 vs2 O2) ((((kj ks l a d).1).map (List.map bR)).zip vs2=J9 ((ks.map<|List.map bR).zip vs) (a.map bR) v) (O2.Sublist O) ((kj ks l a d).1.length=(kj ks l a d).2.length):=by
 have c:ks.length=vs.length:=by rw[r.length];exact b
 unfold kj J9;rw[uY a c];by_cases e:a∈ks
 ·rw[if_pos e,X5 e,if_pos rfl];let[f,P,g,e2,h]:=A7 rd a r b;exact#v[f,P,g,e2,h,by rw[Qm a d b];exact b]
 ·rw[if_neg e,X6 e,if_neg<|λz=>(nomatch z)];refine#v[vs++[v],O++[],r.append<|a_.one rd,?_,by simp,by simp[b]];rw[N6,List.zip_append ⇑c];rfl
@[simp] def oB(i:Nat)(pa:PF)(pb:PF)(pv:PF)(s:Rh):Option cf:=(pv s).bind λd=>(pV i s).bind λx=>(f5 x).bind λp=>(hI pa pb s).bind λa=>bif frz d&&bW p.1.length then some (.nx<|s.set i<|some<|.dT true (kj p.1 p.2 a d).1 (kj p.1 p.2 a d).2) else none
def I9(d:X.mg "enumerate" = none)(h:d9 cl X [a] tr pr)(c:QB cl X b tb pb)(e:Gl X "enumerate":=by rfl)(f:starEach [a] X.env=[(false,eval a X.env)]:=by rfl):
  QI cl X (.Tuple elts n tpos) (.Call (.Name "enumerate" p) [a] [#v[some "start",b,kpos]] pos) (pY X.K tr tb) (hE pr pb):=#v[EX e d h.sem c.sem f,I0 h.den c.den]
def I':QP cl X (.Dict [] [] pos) Ey (pC<|.dT true [] []):=#v[(λa s u H Q I h=>
  wpAny_Dict_empty #v[.ref ↥s,_,I.laid (λ_ _ q=>L8 _ q) (N0 _)<|uj s.heap I.big,rfl,h _<|I.hok.fresh<|N0 _]),(by
    intro u w Z H O d z s e Q k;cases e;intro p b;exact k (Go.newO (cS z) b) #v[p,[],[],rfl,.empty,rfl,jj,rfl])]
def I_{q}(E:bS k X.A)(r:QB cl X o to po)(u:QB cl X a ta pa)(B:QB cl X b tb pb)(C:QB cl X c tc pc)(m:M2 X o "get" apos (.Tuple [a,b] q tpos) c cpos:=by exact#v[rfl,rfl,rfl,rfl])
  (h1:starEach [a,b] X.env=(false,eval a X.env)::starEach [b] X.env:=by rfl) (h2:starEach [b] X.env=(false,eval b X.env)::starEach [] X.env:=by rfl):
  QB cl X (.Call (.Attribute o "get" apos) [.Tuple [a,b] q tpos,c] [] cpos) (uN to (le ta tb) tc) (YR po pa pb pc):=
 ⟨Qk (Yn E) r.sem (JQ<|jJ u.sem (jJ B.sem vU h2) h1) C.sem m,(by
   intro σ ρ Z H O d z s e Q k;refine ob e λx F e=>ob e λy e2 e=>ob e λc G e=>?_;cases x with
   | dT o I l=>
    cases e;refine r.den z s F λ{v T U V} n r1=>?_;let[p,vs,W,rfl,J,Y,hl]:=r1.dT_of;refine#v[p,rfl,.inr #v[_,.inl J],(J1 u.den B.den n.wf.zd (n.slots z s) e2 λ{b Z2 H2} g2 zb D=>?_)];have f:=n.pair g2;refine C.den g2.wf.zd (f.slots z s) G λ{t Z3 K P3} g3 L=>?_;let[p',M,N,R,g,h,i,_]:=((g2.pair g3).rep n.wf.zd r1);cases R;have j:K b=some (.tup<|(y.map bR).map kV):=by rw[g3.same b<|by rw[D];exact λz=>(nomatch z)];exact D
    cases ev:JA I l y with
    | none=>exact#v[none,(Jl g h).2 ev▸cy.t i j,k (f.pair g3)<|by rw[ev];exact L]
    | some d=>
     let[w,P,S,rw]:=(Jl g h).1 d ev;exact#v[some w,S▸cy.t i j,k (f.pair g3)<|by rw[ev];exact rw]
   | _=>cases e)⟩
def J'{m}(v:bS k X.A)(y:QB cl X (.Name x xpos) (yj i)<|pV i)(n:QB cl X a ta pa)(p:QB cl X b tb pb)(q:QB cl X e te pe)
  (z:swapsWith e (some<|.Subscript (.Name x xpos) (.Tuple [a,b] m tpos) pos') pos.line X.env=pure false:=by rfl)
  (h1:starEach [a,b] X.env=(false,eval a X.env)::starEach [b] X.env:=by rfl) (h2:starEach [b] X.env=(false,eval b X.env)::starEach [] X.env:=by rfl):
  QS cl pm X (.Assign [.Subscript (.Name x xpos) (.Tuple [a,b] m tpos) pos'] e pos) (xH (yj i) (le ta tb) te) (oB i pa pb pe):=
 ⟨Qy (Yn v) y.sem (JQ<|jJ n.sem (jJ p.sem vU h2) h1) q.sem z,(by
   intro σ ρ Z H O o w s e P k;refine ob e λd B e=>ob e λx C e=>ob e λ⟨Q,l⟩ D e=>ob e λc e2 e=>oc e λg e=>?_;cases e;cases Vq D;rw[M0] at g;refine q.den w.zd s B λ{u R S T} f r1=>?_;cases r1.nil g.1;have r:=f.widen w;have s1:=f.slots w.zd s;refine qU Ju r.wf s1 C rfl nI λa _ vs U E h F G put=>G<|J1 n.den p.den f.wf.zd s1 e2 λ{b V W} g2 Y I=>?_;let[J,O2,K,L,M,j]:=YW (g2.rep f.wf.zd r1) c (g2.reps f.wf.zd E) h;let[O3,g3,N]:=put nI j g2 K ⇑M.count_le;refine#v[a,_,rfl,cR.t (g2.at0 F) I<|VH g.2,?_];rw[<- L];exact k (r.trans g3) N<|bX.refl _ _)⟩
end QD
namespace QD
open PySem L2 PySem.Spec PyProof.Rows
def ss(p:PF):PF:=λs=>(p s).bind λd=>some<|fz d
@[simp] def A8:ss p s=(p s).bind λd=>some (fz d):=rfl
def QP.fzb(h:QP cl X e te pe):QB cl X e te (ss pe):=#v[h.sem,(by
  intro u w Z H O d z s e Q k;refine ob e λx b e=>?_;cases e;exact h.den z s b λ{v c f P} g r=>(k g.fz<|r.freeze (λa z=>.inl z) λa z=>.inr z))]
def JM:List Str->List D->Str->Option D
 | n::ns,d::l,f=>if f=n then some d else JM ns l f
 | _,_,_=>none
theorem wR:∀{ns}{l}{vs}{O},a_ R Z H l vs O->ns.length=l.length->JM ns l f=some d->∃ v P,(ns.zip vs).lookup f=some v/\bK R Z H d v P
 | [],l,vs,O,_,_,h=>by cases l<;>cases h
 | n::ns,[],vs,O,_,a,_=>by simp at a
 | n::ns,x::l,vs,O,r,a,h=>by
  let[v,b,c,j,rfl,rfl,r1,g]:=r;rw[JM] at h;by_cases e:f=n
  ·rw[if_pos e] at h;cases h;exact#v[v,c,by rw[U9,List.lookup_cons,e];simp,r1]
  ·rw[if_neg e] at h;let[w,P,i,e2]:=wR g ⇑a h;refine#v[w,P,?_,e2];rw[U9,List.lookup_cons];have:(f==n)=false:=by simp[e]
   rw[this];exact i
def xO(c:Nat)(f:Str):D->Option D
 | .ins _ c' ns l=>bif c'==c then JM ns l f else none
 | _=>none
@[simp] def lh:xO c f (.ins o c' ns l)=bif c'==c then JM ns l f else none:=rfl
@[simp] def JN(c:Nat)(f:Str)(po:PF)(s:Rh):Option D:=(po s).bind (xO c f)
def Jr:List Str->List D->Str->D->List Str×List D
 | n::ns,x::l,f,d=>if n=f then(n::ns,d::l) else(n::(Jr ns l f d).1,x::(Jr ns l f d).2)
 | _,_,f,d=>([f],[d])
theorem Vm(rd:bK R Z H d v P):∀{ns}{l}{vs}{O},a_ R Z H l vs O->ns.length=l.length ->
  dv λvs2 O2=>d8 (a_ R Z H (Jr ns l f d).2 vs2 O2) ((Jr ns l f d).1.zip vs2=Ka f v (ns.zip vs)) ((Jr ns l f d).1.length=(Jr ns l f d).2.length)<|∀ c,O2.count c<=O.count c+P.count c
 | [],[],vs,O,r,_=>by
  let[rfl,rfl]:=r;exact#v[[v],P,.one rd,rfl,rfl,λc=>by simp]
 | [],_::_,_,_,_,a=>by simp at a
 | _::_,[],_,_,_,a=>by simp at a
 | n::ns,x::l,vs,O,r,a=>by
  let[u,b,h,O2,rfl,rfl,r1,g]:=r;rw[Jr];by_cases e:n=f
  ·rw[if_pos e];refine#v[v::b,P++O2,a_.cons rd g,?_,a,λc=>by simp only[X0];lia];rw[U9,U9,Ka,if_pos e]
  ·rw[if_neg e];let[vs2,i,j,e3,k,m]:=Vm rd g ⇑a;refine#v[u::vs2,h++i,a_.cons r1 j,?_,by simp[k],λc=>by have:=m c;simp only[X0];lia];rw[U9,U9,Ka,if_neg e,e3]
@[simp] def Yq(i:Nat)(c:Nat)(f:Str)(pv:PF)(s:Rh):Option cf:=(pv s).bind λd=>(pV i s).bind λt=>(zK t).bind λy=>bif y.1==c&&decide (y.2.1.length<=900) then some (.nx<|s.set i<|some<|.ins true c (Jr y.2.1 y.2.2 f d).1 (Jr y.2.1 y.2.2 f d).2) else none
def A9{l:List s}{m:List u}(h:decide (l.length<=900)=true):(l.zip m).length<1000:=by
 rw[List.length_zip];exact E4 (Nat.min_le_left _ _) ∅
def A_(h:dO X.K<|cl c)(i:bU X.K (cl c) f)(g:QB cl X o to po)(j:attributeBase o f X.env (eval o X.env)=eval o X.env:=by rfl):QB cl X (.Attribute o f pos) (gI X.K to f) (JN c f po):=#v[m8 g.sem j,(by
  intro U W Z H O d z s e Q k;refine ob e λx m e=>?_;cases x with
  | ins o n ns l=>
   refine oc e λp q=>?_;obtain rfl:n=c:=by simpa using p
   refine g.den z s m λ{v C D E} r r1=>?_;let[a,t,vs,F,rfl,u,y,A,_]:=r1;let[w,P,B,b]:=wR u y q;exact#v[a,_,t,_,w,rfl,A,h,i,B,k r b]
  | _=>cases e)]
def J_(E:dO X.K<|cl c)(F:bU X.K (cl c) f)(G:QB cl X (.Name x xpos) (yj i)<|pV i)(r:QP cl X e te pe)(J:swapsWith e (some<|.Attribute (.Name x xpos) f pos') pos.line X.env=pure false:=by rfl):
  QS cl pm X (.Assign [.Attribute (.Name x xpos) f pos'] e pos) (DJ X.K (yj i) te f) (Yq i c f pe):=#v[(by
    intro b s σ H D I h;refine plainObj_wpAny_Assign_Attribute (thn (r.sem b s σ H _ I h) λu s1 ⟨y,v,L,M,q⟩=>thn (G.sem b s1 σ v _ L q) λN s2 P=>?_) J;let[x,H2,Q,R,a,C,z,fs,ex,g,c,n,l,S]:=P;subst ex;obtain rfl:N=Value.ref a:=R;exact Kd Q g c n l M λA T=>#v[σ,_,T,S]),(by
      intro σ ρ Z H O o w s e D' k;refine ob e λd U e=>ob e λt V e=>ob e λ⟨W,ns,l⟩ e2 e=>oc e λj e=>?_;cases e;cases JR e2;rw[M0] at j;obtain rfl:W=c:=by simpa using j.1
      refine r.den w.zd s U λ{u Z1 v P1} B r1=>?_;have m:=B.widen w;refine qU Ju m.wf (B.slots w.zd s) V rfl dz λa z vs O' Y p g ht put=>ht ?_;let[vs2,O2,r3,e3,l3,c3]:=Vm r1 Y p;let[O3,g3,A]:=put dz l3 (Go.id m.wf.zd) r3 λq=>by have:=c3 q;simp;lia
      refine#v[a,_,z,_,rfl,g,E,F,A9 j.2,?_];rw[<- e3];exact k (m.trans g3) A<|bX.refl _ _)]
def mL:List Str->Str->Option Nat
 | [],_=>none
 | n::ns,f=>if f=n then some 0 else(mL ns f).map (·+1)
theorem uk:∀{ns}{f}{vs}{j}{v:V},mL ns f=some j->ns.length=vs.length->vs[j]?=some v->(ns.zip vs).lookup f=some v
 | [],_,_,_,_,h,_,_=>by cases h
 | n::ns,f,[],_,_,_,a,_=>by simp at a
 | n::ns,f,u::vs,j,v,h,a,b=>by
  rw[mL] at h;by_cases e:f=n
  ·rw[if_pos e] at h;cases h;cases b;rw[U9,List.lookup_cons,e];simp
  ·rw[if_neg e] at h;cases hp:mL ns f with
   | none=>rw[hp] at h;cases h
   | some i=>
    rw[hp] at h;cases h;rw[U9,List.lookup_cons,show(f==n)=false by simp[e]];exact uk hp ⇑a ⇑b
theorem KU:∀{ns}{l}{vs:List V},ns.length=l.length->vs.length=l.length->JM ns l f=none->(ns.zip vs).lookup f=none
 | [],_,_,_,_,_=>rfl
 | n::ns,[],_,a,_,_=>by simp at a
 | n::ns,x::l,[],_,b,_=>by simp at b
 | n::ns,x::l,v::vs,a,b,h=>by
  rw[JM] at h;by_cases e:f=n
  ·rw[if_pos e] at h;cases h
  ·rw[if_neg e] at h;rw[U9,List.lookup_cons,show(f==n)=false by simp[e]];exact KU ⇑a ⇑b h
@[simp] def vA(m:List D->Option (D×D))(i c:Nat)(mn:Str)(p:cF)(ρ:Rh):Option (D×Rh):=(p ρ).bind λds=>(pV i ρ).bind λt=>(zK t).bind λy=>bif y.1==c&&(frzs ds&&(JM y.2.1 y.2.2 mn).isNone) then(m<|t::ds).bind λr=>some (r.1,ρ.set i<|some r.2) else none
def Ba:D×D->Option D
 | (.non,t)=>some t
 | _=>none
@[simp] def li(t):Ba (.non,t)=some t:=rfl
@[simp] def lj(m:List D->Option (D×D))(c:Nat)(p:cF)(s:Rh):Option D:=(p s).bind λds=>bif frzs ds then(m<|.ins true c [] []::ds).bind Ba else none
def K_(h:f7 R ta p)(y:∀ W ds,p W=some ds->ds.length+1=n):PP R (pJ (R.cls c) (er R m n 0) [] E0 ta) (lj m c p):=by
 intro U W Z H O d z s e Q k;refine ob e λds q e=>oc e λA e=>ob e λ⟨x,t⟩ e2 e=>?_;cases x with
 | non=>
  cases (e);refine h z s q λ{F B r G} f u=>?_;cases u.nil A;intro x b C g i;have w:=Go.newF (o:=.own x) (cS f.wf.zd) g;have j:bO r b (.own x) x=none:=by rw[je<|λe=>i e.symm];exact C
  have g2:=w.trans<|Go.newO (o:=.ins (R.cls c) b []) w.wf j;have D:bK R (λa=>B a\/a=b) (bO (bO r b<|.own x) x<|.ins (R.cls c) b []) (.ins true c [] []) (.ref x) [x]:=by
   exact#v[x,b,[],[],rfl,.empty,rfl,jj,rfl]
  refine#v[_,.ins true c [] []::ds,.non,d,[x],.ref x,g2.wf,by have:=y W ds q;simpa using this,by rw[N1];have:=a_.cons D<|g2.reps f.wf.zd u;simpa using this,rfl,e2,λ{v Z3 I J K} g3 E l=>?_];let[rfl,rfl]:=E;exact#v[rfl,k (by simpa using(f.trans g2).trans g3) l]
 | _=>cases e
section
variable {cl:Nat->Addr}{pm:List Nat}{X:Cx}{e:Expr}{es:List Expr}{tr:TA}{pr:cF}{pos p apos:Pos}
structure eB(K:W4)(C:Addr)(x qual:Str)(st:Stmt)(f:Addr)(fd:FuncData)(ps:List Str):Prop where
 fn:gj K x qual st f fd
 mt:lT K C x f
 bd:cZ K fd ps []
def lk(P:Program)(w:World)(K:W4)(mg:W6)(C:Addr)(x qual:Str)(st:Stmt)(k:Nat)(ps:List Str)(sp:Sp):Prop:=∃ f fd,eB K C x qual st f fd ps/\∀ base,cB P w K mg base dY k f fd ps sp
def La{k n i c}{ps}{m}{x mn qual}{st}{pl}(U:dO X.K<|cl c)(O:lk X.prog X.w X.K X.mg (cl c) mn qual st k ps<|er #v[X.K,cl] m n 0)(V:bS k X.A)(W:QB cl X (.Name x p) (yj i)<|pV i)(J:d9 cl X (e::es) tr pr)(Y:∀ ρ ds,pr ρ=some ds->ds.length+1=n)
  (j:dw X e es:=by rfl) (o:dH X pos es:=by rfl)
  (ht:eval (.Call (.Attribute (.Name x p) mn apos) (e::es) [] pos) X.env=(do
   let ov <- eval (.Name x p) X.env
   standAt apos.atName
   let (f,first) <- holding [ov] (getMethod ov mn pl)
   callWith pos f first (backTo pos<|starEach (e::es) X.env) (backToKw pos<|keywordEach [] X.env)):=by rfl):
  QE cl X (.Call (.Attribute (.Name x p) mn apos) (e::es) [] pos) (m_ (cl c) mn (er #v[X.K,cl] m n 0) [] E0 (yj i) tr) (vA m i c mn pr):=by
 let[_,_,F,G]:=O;exact#v[tT W.sem U F.mt (G _) V F.bd .nil lX J.sem j o ht,(by
   intro σ ρ ρ' Z H O d w s e Q k;refine ob e λds L e=>ob e λy b e=>ob e λ⟨q,ns,l⟩ e3 e=>oc e λM e=>ob e λ⟨d',cc⟩ e2 e=>?_;cases e;cases JR e3;have b:=YQ b;rw[M0,M0] at M;let[r,t,z]:=M;obtain rfl:q=c:=by simpa using r
   have hi:=(L9.mp b).1;let[A0,P0,B0,_,k0,_,_]:=s.put hi;let[u,C,r0]:=k0 _ b;let[a,dx,vs,O',rfl,rs,D,ea,_]:=r0;refine#v[.ref a,C,a,dx,_,rfl,ea,KU D rs.length<|Option.isNone_iff_eq_none.mp z,(J.den w.zd s L λ{v1 E N P1} R S=>?_)];cases S.nil t;have g:Go Z H O E N O:=by simpa using R.widen w
   let[A,P,B,rfl,k1,k2,_]:=(R.slots w.zd s).put hi;let[u',h,rc]:=k1 _ b;rw[C] at h;cases h;have rr:a_ #v[X.K,cl] E N (.ins true q ns l::ds) (.ref a::v1) P:=by
    have:=a_.cons rc S;simpa using this
   refine#v[E,.ins true q ns l::ds,d',cc,P,.ref a,g.wf.mid,by have:=Y ρ ds L;simpa using this,by rw[N1];exact rr,rfl,e2,λ{v Z2 H2 P2 O2} g2 r2 I=>?_];have T:=Go.keepA g.wf g2;have s2:=k2 I g2.zz (g2.zH g.wf.mid) T.1 T.2;rw[yK C] at s2;exact k (g.trans<|g2.frame g.wf).turn r2 s2)]
def Lb{k n c}{ps}{m}{x qual}{st}(f:PySem.W.makesIn X.K (cl c)=true)(g:PySem.W.keepIn X.K (.ref<|cl c)=true)(O:lk X.prog X.w X.K X.mg (cl c) "__init__" qual st k ps<|er #v[X.K,cl] m n 0)(h:bS (k+1) X.A)(i:X.mg x=some (.ref<|cl c))(d:d9 cl X (e::es) tr pr)(j:∀ s ds,pr s=some ds->ds.length+1=n)(l:Gl X x:=by rfl)
  (a:Nd x:=by decide) (o:dw X e es:=by rfl) (b:dH X pos es:=by rfl):
  QP cl X (.Call (.Name x p) (e::es) [] pos) (pJ (cl c) (er #v[X.K,cl] m n 0) [] E0 tr) (lj m c pr):=by
 let[_,_,F,G]:=O;exact#v[DQ #v[f,F.mt.at_,F.mt.fn,g] (G _) h l i F.bd .nil lX d.sem a o b,K_ d.den j]
end
@[simp] def Yx(m:List D->Option D)(c:Nat)(mn:Str)(po:PF)(p:cF)(ρ:Rh):Option D:=(po ρ).bind λs=>(q7 s).bind λy=>bif y.1==c&&(JM y.2.1 y.2.2 mn).isNone then(p ρ).bind λds=>(m<|bV<|s::ds).bind λd=>bif frzs (s::ds)||vz d then some d else none else none
def Lc(r:PB R to po)(t:i0 R ta p)(u:∀ W ds,p W=some ds->ds.length+1=n):PP R (m_ (R.cls c) mn (dn R m n) [] E0 to ta) (Yx m c mn po p):=by
 intro U W Z H O d z s e Q k;refine ob e λF v e=>ob e λ⟨w,ns,l⟩ e3 e=>oc e λf e=>ob e λds j e=>ob e λc0 e2 e=>oc e λx e=>?_;cases e;let[o,rfl]:=FG e3;rw[M0] at f;obtain rfl:w=c:=by simpa using f.1
 refine r z s v λ{G I J K} b q=>?_;have g:=q;let[a,y,A,L,rfl,B,h,C,_]:=g;exact#v[a,y,_,rfl,C,KU h B.length<|Option.isNone_iff_eq_none.mp f.2,t b.wf.zd (b.slots z s) j λi D=>Ak i.wf.zd (a_.cons (i.rep b.wf.zd q) D) (u W ds j) e2 x λg2 E=>k (by simpa using(b.pair i).pair g2) E]
def Jp(c:Nat)(f:Str)(L:Ln)(d:D):Option (D×(D->D)):=(L d).bind λy=>(zK y.1).bind λq=>bif q.1==c then(mL q.2.1 f).bind λj=>(q.2.2[j]?).bind λx=>some (x,λx'=>y.2<|.ins true q.1 q.2.1<|q.2.2.set j x') else none
structure QL(cl:Nat->Addr)(X:Cx)(e:Expr)(tb:TE)(i:Nat)(L:Ln):Prop where
 sem:PE X e tb
 den:i4 #v[X.K,cl] tb i L
section
variable {cl:Nat->Addr}{pm:List Nat}{X:Cx}{o e j:Expr}{es:List Expr}{to te tb tj:TE}{po pe pj:PF}{tr:TA}{pr:cF}{pos p apos:Pos}{L L':Ln}{i:Nat}
def Ld{k n c}{ps}{m}{mn qual}{st}{pl}(i:dO X.K<|cl c)(O:lk X.prog X.w X.K X.mg (cl c) mn qual st k ps<|dn #v[X.K,cl] m n)(j:bS k X.A)(g:QB cl X o to po)(a:fo cl X (e::es) tr pr)(l:(e::es).length+1=n:=by rfl)
  (b:dw X e es:=by rfl) (d:dH X pos es:=by rfl)
  (p:eval (.Call (.Attribute o mn apos) (e::es) [] pos) X.env=(do
   let ov <- eval o X.env
   standAt apos.atName
   let (f,first) <- holding [ov] (getMethod ov mn pl)
   callWith pos f first (backTo pos<|starEach (e::es) X.env) (backToKw pos<|keywordEach [] X.env)):=by rfl):
  QP cl X (.Call (.Attribute o mn apos) (e::es) [] pos) (m_ (cl c) mn (dn #v[X.K,cl] m n) [] E0 to tr) (Yx m c mn po pr):=by
 let[_,_,F,G]:=O;exact#v[tT g.sem i F.mt (G _) j F.bd .nil lX a.sem b d p,Lc g.den a.den λs q h=>by rw[a.n s q h];exact l]
def Le{x}(a:QB cl X (.Name x p) (yj i)<|pV i):QL cl X (.Name x p) (yj i) i kR:=#v[a.sem,Ju]
def Lf{c}{f}(I:dO X.K<|cl c)(J:bU X.K (cl c) f)(h:QL cl X o tb i L)(g:attributeBase o f X.env (eval o X.env)=eval o X.env:=by rfl):QL cl X (.Attribute o f pos) (gI X.K tb f) i (Jp c f L):=
 ⟨m8 h.sem g,(by
   intro σ ρ Z H O d x k s hd e;refine ob e λ⟨y,k0⟩ M e=>ob e λ⟨N,ns,l⟩ e3 e=>oc e λQ e=>ob e λj R e=>ob e λx0 e2 e=>?_;cases e;cases JR e3;obtain rfl:N=c:=by simpa using Q
   let[v,A,P,B,rfl,r,S,T]:=h.den s hd M;let[a,w,vs,O',rfl,z,n,C,rfl]:=r;let[u,U,V,W,D,rfl,Y,p]:=z.at e2;refine#v[u,A++(a::U),V,W++B,by simp,Y,λq=>S #v[a,_,w,_,u,rfl,C,I,J,uk R (by rw[z.length];exact n) D,q],λ{Z' H' x' P''} r' E F t G=>?_];have m:=p r' E F (λb g=>t b<|by simp[g])<|λb g=>G b (by simp[g]);rw[yK D] at m;have s2:=T (dz.mpr #v[a,w,vs,_,rfl,m,by rw[List.length_set];exact n,(t a<|by simp).trans C,rfl]) E F (λb g=>t b<|by simp[g])<|λb g=>G b (by simp[g]);simpa using s2)⟩
def Lg{cpos}(f:QL cl X o tb i L)(h:QP cl X e te pe)(b:attributeBase o "append" X.env (eval o X.env)=eval o X.env:=by rfl)
  (d:((backTo cpos<|starEach [e] X.env).all (λx=>!x.1)&&(backToKw cpos<|keywordEach [] X.env).all (λx=>x.1.isSome)
   && decide ([e].length+([]:List Keyword).length+(if([]:List Keyword).isEmpty then 0 else 1)<30))=true:=by rfl)
  (c:(apos.endLine==cpos.line)=true:=by rfl) (g:starEach [e] X.env=(false,eval e X.env)::starEach [] X.env:=by rfl) (a:(backTo cpos<|starEach [] X.env).any (·.1)=false:=by rfl)
  (hsw:swapsWith (.Call (.Attribute o "append" apos) [e] [] cpos) none pos.line X.env=pure false:=by rfl):
  QS cl pm X (.Expr (.Call (.Attribute o "append" apos) [e] [] cpos) pos) (Yc<|fF X.K "list" Ys tb<|jS te YC) (qt i L pe):=
 ⟨Ym (iR PySem.F.plainAttrs_list PySem.F.slot_list_append PySem.F.type_list_append J3 f.sem (jJ h.sem vU g) b d c g a) hsw,Ao f.den h.den⟩
end
def Bb(R:RC)(tk:TE)(pk:Rh->Option (List KA)):Prop:=∀{s}{u}{Z}{H}{O}{k},Zd Z H->Slots R Z H u s O->pk u=some k ->
 ∀{Q},(∀{p}{Z'}{H'},Go Z H [] Z' H' []->Z' p->H' p=some (.tup<|(k.map bR).map kV)->Q (.ref p) H')->tk s H Q
def su(pd:PF)(pk:Rh->Option (List KA))(pc:PF):PF:=λs=>(pd s).bind λx=>(pk s).bind λk=>(pc s).bind λz=>VJ x k z
@[simp] def mM:su pd pk pc s=(pd s).bind λx=>(pk s).bind λk=>(pc s).bind λz=>VJ x k z:=rfl
def zE(i:Nat)(pk:Rh->Option (List KA))(pv:PF):FS:=λs=>(pv s).bind λd=>(pV i s).bind λx=>(f5 x).bind λp=>(pk s).bind λa=>bif frz d&&bW p.1.length then some (.nx<|s.set i<|some<|.dT true (kj p.1 p.2 a d).1 (kj p.1 p.2 a d).2) else none
@[simp] def mN{i}{pk}{pv}{s}:zE i pk pv s=(pv s).bind λd=>(pV i s).bind λx=>(f5 x).bind λp=>(pk s).bind λa=>bif frz d&&bW p.1.length then some (.nx<|s.set i<|some<|.dT true (kj p.1 p.2 a d).1 (kj p.1 p.2 a d).2) else none:=rfl
def Lh{R}{pm}{i}{tk tv}{pk}{pv}(S:Bb R tk pk)(T:PB R tv pv):DS R pm (xH (yj i) tk tv) (zE i pk pv):=by
 intro σ ρ Z H O o w s e D' k;unfold zE at e;cases e1:pv ρ with
 | none=>rw[e1] at e;cases e
 | some d=>
  rw[e1,L4] at e;cases e5:pV i ρ with
  | none=>rw[e5] at e;cases e
  | some x=>
   rw[e5,L4] at e;cases e6:f5 x with
   | none=>rw[e6] at e;cases e
   | some q=>
    rw[e6,L4] at e;let[n,l]:=q;cases Vq e6;have I:=YQ e5;cases e2:pk ρ with
    | none=>rw[e2] at e;cases e
    | some c=>
     rw[e2,L4] at e;cases hm:frz d&&bW n.length with
     | false=>rw[hm] at e;cases e
     | true=>
      rw[hm] at e;cases e;rw[M0] at hm;refine T w.zd s e1 λ{u Z1 H1 P1} p r1=>?_;cases r1.nil hm.1;have g:=p.widen w;have s1:=p.slots w.zd s;let[A,P,B,rfl,U,V,_]:=s1.put (L9.mp I).1;let[v,J,r]:=U _ I;let[a,vs,K,rfl,W,D,L,rfl]:=r;refine#v[.ref a,J,(S p.wf.zd s1 e2 λ{b M C} g2 zb X=>?_)];have h:=g2.widen g.wf;have E:C a=some (.dT<|(n.map<|List.map bR).zip vs):=by rw[g2.same a<|by rw[L];exact λz=>(nomatch z)];exact L
      let[j,F,Y,e4,N,G]:=YW (g2.rep p.wf.zd r1) c (g2.reps p.wf.zd W) D;refine#v[a,_,rfl,cR.t E X<|by rw[List.length_zip,L1];exact E4 (Nat.min_le_left _ _)<|YB hm.2,?_];rw[<- e4];have nd:=h.wf.nd;have d_:=List.nodup_iff_count.mp nd a;simp only[X0,List.count_cons,beq_self_eq_true,if_true] at d_;have pos:∀{m:W5},a∈m->0<m.count a:=List.count_pos_iff.mpr;have y:∀ b,M b->bO C a (.dT<|((kj n l c d).1.map (List.map bR)).zip j) b=C b:=λb f=>je λz=>h.wf.nz a (by simp)<|z▸f;have hr:bK R M (bO C a<|.dT<|((kj n l c d).1.map (List.map bR)).zip j) (.dT true (kj n l c d).1 (kj n l c d).2) (.ref a) (a::F):=by
       exact#v[a,j,F,rfl,Y.frame (λb z=>z) y (λb f=>je λz=>by subst z;have:=pos<|N.subset f;lia),G,jj,rfl]
      have s2:=V hr (g2.zz) (λb f=>(y b<|g2.zz b f).trans (g2.same b<|p.wf.zd b f)) (λb f=>(je λz=>by subst z;have:=pos f;lia).trans (g2.same b<|g.wf.od b<|by simp[f]))<|λb f=>(je λz=>by subst z;have:=pos f;lia).trans (g2.same b<|g.wf.od b<|by simp[f]);rw[yK J] at s2;have Q:∀ x,(A++(a::F)++B).count x<=(A++(a::K)++B).count x:=λx=>by
       have:=N.count_le x;simp only[X0,List.count_cons];lia
      exact k ((g.trans h).trans ((Go.put (o:=.dT<|((kj n l c d).1.map (List.map bR)).zip j) h.wf<|show a∈A++(a::K)++B by simp).drop (rC Q) (K7 Q nd))) s2<|bX.refl _ _
structure lm(cl:Nat->Addr)(X:Cx)(e:Expr)(tk:TE)(pk:Rh->Option (List KA)):Prop where
 sem:PE X e tk
 den:Bb #v[X.K,cl] tk pk
def Li(B:bS k X.A)(n:QB cl X o to po)(q:lm cl X e tk pk)(r:QB cl X c tc pc)(m:M2 X o "get" apos e c cpos:=by exact#v[rfl,rfl,rfl,rfl]):
  QB cl X (.Call (.Attribute o "get" apos) [e,c] [] cpos) (uN to tk tc) (su po pk pc):=#v[Qk (Yn B) n.sem q.sem r.sem m,(by
    intro σ ρ Z H O d z s e Q k;refine ob e λx C e=>ob e λy e2 e=>ob e λc D e=>?_;cases x with
    | dT o E l=>
     cases e;refine n.den z s C λ{v N R S} j r1=>?_;let[p,vs,T,rfl,F,U,V]:=r1.dT_of;refine#v[p,rfl,.inr #v[_,.inl F],(q.den j.wf.zd (j.slots z s) e2 λ{b W Y} g2 zb u=>?_)];have a:=j.pair g2;refine r.den g2.wf.zd (a.slots z s) D λ{t Z3 G P3} g3 I=>?_;let[p',J,K,L,f,g,h,_]:=((g2.pair g3).rep j.wf.zd r1);cases L;have i:G b=some (.tup<|(y.map bR).map kV):=by rw[g3.same b<|by rw[u];exact λz=>(nomatch z)];exact u
     cases ev:JA E l y with
     | none=>exact#v[none,(Jl f g).2 ev▸cy.t h i,k (a.pair g3)<|by rw[ev];exact I]
     | some d=>
      let[w,P,M,rw]:=(Jl f g).1 d ev;exact#v[some w,M▸cy.t h i,k (a.pair g3)<|by rw[ev];exact rw]
    | _=>cases e)]
def Lj(c:bS k X.A)(d:QB cl X (.Name x xpos) (yj i)<|pV i)(a:lm cl X f tk pk)(b:QB cl X e te pe)
  (g:swapsWith e (some<|.Subscript (.Name x xpos) f pos') pos.line X.env=pure false:=by rfl):
  QS cl pm X (.Assign [.Subscript (.Name x xpos) f pos'] e pos) (xH (yj i) tk te) (zE i pk pe):=#v[Qy (Yn c) d.sem a.sem b.sem g,Lh a.den b.den]
section
variable {R:RC}{Z Z' Z2:Zn}{H H' H2:Hp}{pm:List Nat}
def Lk(rd:bK R Z H d v P)(a)  (r:a_ R Z H l vs O) (b:ks.length=l.length) (c:a∉ks):
  a_ R Z H (ki ks l a d).2 (vs++[v]) (O++P)/\(((ki ks l a d).1).map bR).zip (vs++[v])=J9 ((ks.map bR).zip vs) (bR a) v/\(ki ks l a d).1.length=(ki ks l a d).2.length:=by
 have e:ks.length=vs.length:=by rw[r.length];exact b
 unfold ki J9;rw[wq a e,if_neg c,X6 c,if_neg<|λz=>(nomatch z)];refine#v[r.append<|a_.one rd,?_,by simp[b]];rw[N6,List.zip_append ⇑e];rfl
def Vl(i:Nat)(L:Ln)(pk pv:PF)(ρ:Rh):Option cf:=(pv ρ).bind λd=>(pV i ρ).bind λt=>(L t).bind λy=>(gP y.1).bind λkl=>(pk ρ).bind λq=>(vT q).bind λa=>bif bW kl.1.length&&(frz d||!decide (a∈kl.1)) then some (.nx<|ρ.set i<|some<|y.2<|.dK true (ki kl.1 kl.2 a d).1 (ki kl.1 kl.2 a d).2) else none
def Ll{i}{L}{tb ty tv}{pk pv}(B:i4 R tb i L)(C:PB R ty pk)(D:PP R tv pv):DS R pm (xH tb ty tv) (Vl i L pk pv):=by
 intro σ ρ Z H O o w s e V k;refine ob e λd E e=>ob e λt hi e=>ob e λ⟨y,W⟩ e3 e=>ob e λ⟨g,l⟩ e7 e=>ob e λq F e=>ob e λc e5 e=>oc e λx e=>?_;cases e;cases wW e7;rw[M0] at x;refine D w.zd s E λ{u X Y G} h r1=>?_;have s1:=h.slots w.zd s;have A:=h.widen w;refine qU B A.wf s1 hi e3 i6 λa _ vs I J j K M put=>M<|C h.wf.zd s1 F λ{z N P P2} g2 Q=>?_;let[rfl,_]:=yX e5 Q;have m:=g2.rep h.wf.zd r1;have n:=g2.reps h.wf.zd J;have key:∃ b p,a_ R N P (ki g l c d).2 b p/\(((ki g l c d).1).map bR).zip b=J9 ((g.map bR).zip vs) (bR c) u/\(∀ q,p.count q<=I.count q+G.count q)/\(ki g l c d).1.length=(ki g l c d).2.length:=by
  cases hf:frz d with
  | true=>
   cases r1.nil hf;let[b,p,r,v,S,f]:=YX m c n j;exact#v[b,p,r,v,⇑S.count_le,f]
  | false=>
   have T:c∉g:=by
    have:=x.2;rw[hf] at this;simpa using this
   let[r,v,f]:=Lk m c n j T;exact#v[_,_,r,v,λq=>by rw[X0];exact N0 _,f]
 let[b,p,r,v,cn,f]:=key;let[O3,g3,U]:=put i6 f g2 r ⇑cn;refine#v[a,_,rfl,cR.k (g2.at0 K)<|VH x.1,?_];rw[<- v];exact k (A.trans g3) U<|bX.refl _ _
def VQ(i:Nat)(L:Ln)(c:Nat)(f:Str)(g:Int->Int->Int)(pv:PF)(s:Rh):Option cf:=(pV i s).bind λt=>(L t).bind λy=>(zK y.1).bind λq=>(JM q.2.1 q.2.2 f).bind λm=>(yS m).bind λm=>(pv s).bind λn=>(yS n).bind λn=>
 bif q.1==c&&decide (q.2.1.length<=900) then some (.nx<|s.set i<|some<|y.2<|.ins true c (Jr q.2.1 q.2.2 f<|.int<|g m n).1 (Jr q.2.1 q.2.2 f<|.int<|g m n).2) else none
end
section
variable {cl:Nat->Addr}{pm:List Nat}{X:Cx}{o b e:Expr}{to tb te:TE}{po pb pe:PF}{pos p fp tpos:Pos}{k i:Nat}{L:Ln}
def Lm(f:bS k X.A)(a:QL cl X o to i L)(c:QB cl X b tb pb)(d:QP cl X e te pe)(g:swapsWith e (some<|.Subscript o b pos') pos.line X.env=pure false:=by rfl):
  QS cl pm X (.Assign [.Subscript o b pos'] e pos) (xH to tb te) (Vl i L pb pe):=#v[Qy (Yn f) a.sem c.sem d.sem g,Ll a.den c.den d.den]
def Lo(f:bS k X.A)(a:QL cl X o to i L)(c:QB cl X b tb pb)(d:QB cl X e te pe)
  (g:∀ ov iv new,augStore b ov iv new=(do holding [new,ov,iv] (setItem ov iv new);release [new,ov,iv] [];pure .next):=by intro _ _ _;rfl):
  QS cl pm X (.AugAssign (.Subscript o b tpos) .Add e pos) (iT to tb te tS) (vH i L pb (λm n=>m+n) pe):=#v[K3 (Yn f) a.sem c.sem d.sem DL g,K2 (λq=>#v[_,_,rfl,rfl,q]) a.den c.den d.den]
def Lp(f:bS k X.A)(a:QL cl X o to i L)(c:QB cl X b tb pb)(d:QB cl X e te pe)
  (g:∀ ov iv new,augStore b ov iv new=(do holding [new,ov,iv] (setItem ov iv new);release [new,ov,iv] [];pure .next):=by intro _ _ _;rfl):
  QS cl pm X (.AugAssign (.Subscript o b tpos) .Sub e pos) (iT to tb te lU) (vH i L pb (λm n=>m-n) pe):=#v[K3 (Yn f) a.sem c.sem d.sem m9 g,K2 (λq=>#v[_,_,rfl,rfl,q]) a.den c.den d.den]
def Lq{c}{f}(Q:dO X.K<|cl c)(R:bU X.K (cl c) f)(J:QL cl X o to i L)(M:QB cl X e te pe):
  QS cl pm X (.AugAssign (.Attribute o f tpos) .Sub e pos) (DK X.K to te lU f) (VQ i L c f (λm n=>m-n) pe):=#v[(by
    intro b s σ H D I h;refine wpAny_AugAssign_AttributeAny<|thn (J.sem b s σ H _ I h) λS s1 j=>?_;let[x,T,U,V,a,C,p,fs,v,ex,g,c,n,l,q]:=j;subst ex;obtain rfl:S=Value.ref a:=V;refine Kr U g c n l λu s2 W Y=>thn (M.sem b s2 σ T _ W q) λw3 r ⟨y,N,I3,ry,q3⟩=>thn (m9 b r σ N v y u w3 _ I3 Y ry q3) λw4 s4 j=>?_;let[z,H3,I4,rz,dx',fs',A,l',q4]:=j;exact Kd I4 A c n l' rz λs5 I5=>#v[σ,_,I5,q4]),(by
      intro σ ρ Z H O o w s e D' k;refine ob e λt hi e=>ob e λ⟨y,k0⟩ e3 e=>ob e λ⟨c',ns,l⟩ e4 e=>ob e λx hm e=>ob e λm e1 e=>ob e λx' e6 e=>ob e λn e2 e=>oc e λB e=>?_;cases e;cases JR e4;cases jE e1;cases jE e2;rw[M0] at B;obtain rfl:c'=c:=by simpa using B.1
      refine qU (P0:=[]) J.den w s hi e3 dz λa p vs O' P d g ht put=>?_;let[mv,P3,E,F]:=wR P d hm;let[rfl,_]:=F.int_of;refine ht #v[a,_,p,_,_,rfl,g,Q,R,E,M.den w.zd s e6 λ{u Z2 N P4} g2 r2=>?_];let[rfl,_]:=r2.int_of;let[vs2,O2,r3,e7,G,c3]:=Vm (bK.int_mk) (g2.reps w.zd P) d;let[O3,g3,r]:=put dz G g2 r3 ⇑c3;refine(λq=>#v[_,_,rfl,rfl,q]) #v[p,_,g2.at0 g,A9 B.2,?_];rw[<- e7];exact k g3 r<|bX.refl _ _)]
end
namespace QK
def Lr{K}{cl}{X}{o}{to}{po}{pos}{c}{f}(a:X.K=K)(b:dO X.K<|cl c)(d:bU X.K (cl c) f)(e:QB cl X o to po)(g:attributeBase o f X.env (eval o X.env)=eval o X.env:=by rfl):QB cl X (.Attribute o f pos) (gI K to f) (JN c f po):=by subst a;exact A_ b d e g
end QK
section
variable {R:RC}{Z Z':Zn}{H H':Hp}{pm:List Nat}
def Yw(m:List D->Option (D×D))(i:Nat)(L:Ln)(p:cF)(ρ:Rh):Option (D×Rh):=(pV i ρ).bind λt=>(L t).bind λy=>(p ρ).bind λds=>bif frzs ds then(m<|y.1::ds).bind λr=>some (r.1,ρ.set i<|some<|y.2 r.2) else none
def sw(i:Nat)(pa pb:PF)(g:Int->Int->Int)(pv:PF):FS:=λs=>(pV i s).bind λx=>(f5 x).bind λp=>(hI pa pb s).bind λa=>(JA p.1 p.2 a).bind λy=>(yS y).bind λm=>(pv s).bind λz=>(yS z).bind λn=>
 bif bW p.1.length then some (.nx<|s.set i<|some<|.dT true (kj p.1 p.2 a<|.int<|g m n).1 (kj p.1 p.2 a<|.int<|g m n).2) else none
end
section
variable {cl:Nat->Addr}{pm:List Nat}{X:Cx}{o e:Expr}{es:List Expr}{to te:TE}{po pe:PF}{tr:TA}{pr:cF}{pos p:Pos}{i:Nat}{L:Ln}
def Ls{k n}{ps}{m}{x}{st}(O:fJ X.prog X.w X.K X.mg x st k ps<|er #v[X.K,cl] m n 0)(J:bS k X.A)
  (q:QL cl X o to i L) (u:d9 cl X es tr pr) (M:∀ ρ ds,pr ρ=some ds->ds.length+1=n) (N:Gl X x:=by rfl) (f:Nd x:=by decide)
  (C:starEach (o::es) X.env=(false,eval o X.env)::starEach es X.env:=by rfl) (g:dH X pos es:=by rfl):QE cl X (.Call (.Name x p) (o::es) [] pos) (Vr (er #v[X.K,cl] m n 0) [] E0<|jS to tr) (Yw m i L pr):=by
 let[_,_,F,G]:=O;exact#v[nl F (G _) J (jJ q.sem u.sem C) N f C g,(by
   intro σ ρ ρ' Z H O d w s e Q k;refine ob e λt hi e=>ob e λ⟨y,k0⟩ e3 e=>ob e λds D e=>oc e λR e=>ob e λ⟨S,T⟩ e2 e=>?_;cases e;let[v,A,P,B,rfl,r,U,V]:=q.den s (YQ hi) e3;refine U<|u.den w.zd s D λ{vs j E P1} b r1=>?_;cases r1.nil R;have c:Go Z H (A++P++B) j E (A++P++B):=by simpa using b.widen w
   have W:a_ #v[X.K,cl] j E (y::ds) (v::vs) P:=by
    have:=a_.cons (b.rep w.zd r) r1;simpa using this
   refine#v[j,y::ds,S,T,P,v,c.wf.mid,by have:=M ρ ds D;simpa using this,by rw[N1];exact W,rfl,e2,λ{v2 Z2 H2 P2 O2} g2 Y l=>?_];have I:=Go.keepA c.wf g2;exact k (c.trans<|g2.frame c.wf).turn Y (V l (λa z=>g2.zz a<|b.zz a z) (λa z=>(g2.zH c.wf.mid a<|b.zz a z).trans (b.same a<|w.zd a z)) (λa h=>(I.1 a h).trans (b.same a<|w.od a<|by simp[h]))<|λa h=>(I.2 a h).trans (b.same a<|w.od a<|by simp[h])))]
def Lu{a b}{ta tb}{pa pb}{x}{C}{k}{d f tpos}(K:bS k X.A)(L:QB cl X (.Name x d) (yj i)<|pV i)(D:QB cl X a ta pa)(E:QB cl X b tb pb)(F:QB cl X e te pe)
  (M:∀ ov iv new,augStore (.Tuple [a,b] C f) ov iv new=(do holding [new,ov,iv] (setItem ov iv new);release [new,ov,iv] [];pure .next):=by intro _ _ _;rfl)
  (h1:starEach [a,b] X.env=(false,eval a X.env)::starEach [b] X.env:=by rfl) (h2:starEach [b] X.env=(false,eval b X.env)::starEach [] X.env:=by rfl):
  QS cl pm X (.AugAssign (.Subscript (.Name x d) (.Tuple [a,b] C f) tpos) .Sub e pos) (iT (yj i) (le ta tb) te lU) (sw i pa pb (λm n=>m-n) pe):=
 ⟨K3 (Yn K) L.sem (JQ<|jJ D.sem (jJ E.sem vU h2) h1) F.sem m9 M,(by
   intro σ ρ Z H O o w s e D' k;refine ob e λx N e=>ob e λ⟨ks,l⟩ P e=>ob e λc e2 e=>ob e λy e3 e=>ob e λm Q e=>ob e λz e7 e=>ob e λn R e=>oc e λh e=>?_;cases e;cases Vq P;cases jE Q;cases jE R;refine qU (P0:=[]) Ju w s N rfl nI λa _ vs O' G j I S put=>S<|J1 D.den E.den w.zd s e2 λ{b Z2 H2} g2 zb J=>?_;let[mv,P3,p,r]:=(Jl G j).1 _ e3;let[rfl,_]:=r.int_of;refine#v[a,.int m,rfl,by rw[<- p];exact cy.t (g2.at0 I) J,F.den g2.wf.zd (g2.slots w.zd s) e7 λ{u Z3 H3 P4} g3 T=>?_];let[rfl,_]:=T.int_of;have g:=g2.trans g3;let[U,O2,v,V,W,B]:=YW (bK.int_mk) c (g.reps w.zd G) j;let[O3,g4,Y]:=put nI B g v ⇑W.count_le;refine(λq=>#v[_,_,rfl,rfl,q]) #v[_,cR.t (g.at0 I) (g3.at0 J)<|VH h,?_];rw[<- V];exact k g4 Y<|bX.refl _ _)⟩
def Lw(g:bS k X.A)(d:QB cl X a ta pa)(f:QB cl X b tb pb)(h:behindInMarks .NotIn b=false:=by with_unfolding_all rfl):QP cl X (.Compare a [.NotIn] [b] pos) (wm ta tb) (p2 (mE true) pa pb):=
 ⟨(λc s u H Q I i=>wpAny_Compare1 ((Ew (Yn g) d.sem f.sem) c s u H Q I i) h),(λz s e _ k=>by
   have:=HQ d.den f.den z s e k;simpa [wm] using this)⟩
end
section
variable {R:RC}{Z Z':Zn}{H H':Hp}{pm:List Nat}
def wz(K:W4):List V->Hp->VK->Prop:=(λxs H Q=>∃(p:Addr) (ys:List V) (ps:List<|List cW×Addr×V),xs=[.ref p]/\ck K H p ys/\ys.length=ps.length/\ps.length<=100000 /\
  (∀(j:Nat) y,ys[j]?=some y->∃ kv t,ps[j]?=some kv/\y=.ref t/\cJ K H t [.ref kv.2.1,kv.2.2]/\H kv.2.1=some (.tup<|kv.1.map kV))/\∀ D,H D=none->Q (.ref D) (bO H D<|.dT<|ps.foldl (λa kv=>J9 a kv.1 kv.2.2) []))
def sx(ps:List<|List KA×D):List (List KA)×List D:=ps.foldl (λacc kv=>kj acc.1 acc.2 kv.1 kv.2) ([],[])
theorem QR:∀{ps:List (List KA×D)}{ws:List (List cW×Addr×V)}{ks}{l}{us},ws.map (·.1)=ps.map (λy=>y.1.map bR)->a_ R Z H (ps.map (·.2)) (ws.map (·.2.2)) []->a_ R Z H l us []->ks.length=l.length ->
  ∃ us',cX (a_ R Z H (ps.foldl (λacc kv=>kj acc.1 acc.2 kv.1 kv.2) (ks,l)).2 us' []) ((((ps.foldl (λacc kv=>kj acc.1 acc.2 kv.1 kv.2) (ks,l)).1).map (List.map bR)).zip us'=(ws.foldl (λa kv=>J9 a kv.1 kv.2.2)<|(ks.map<|List.map bR).zip us))<|(ps.foldl (λacc kv=>kj acc.1 acc.2 kv.1 kv.2) (ks,l)).1.length=(ps.foldl (λacc kv=>kj acc.1 acc.2 kv.1 kv.2) (ks,l)).2.length
 | [],[],ks,l,us,_,_,r,b=>#v[us,r,by simp,b]
 | [],w::ws,ks,l,us,h,_,_,_=>by simp at h
 | p::ps,[],ks,l,us,h,_,_,_=>by simp at h
 | p::ps,w::ws,ks,l,us,j,c,r,b=>by
  let[v,k,x,z,m,e,r1,n]:=c;let[rfl,rfl]:=List.append_eq_nil_iff.mp e.symm;let[rfl,rfl]:=List.cons.inj m;rw[L5,L5] at j;let[d,f]:=List.cons.inj j;let[o,A,q,e3,s,g]:=YW r1 p.1 r b;have:=List.sublist_nil.mp s;subst this;let[us',t,u,i]:=QR f n q g;refine#v[us',t,?_,i];rw[X4,X4,u,e3,d]
end
end QD
namespace L2
open PySem PySem.Spec PyProof.Rows
def xu(h:bM ys its):bM (J6 lt ys .non) (J6 lt its Value.none):=by
 unfold J6;rw[<- h.length];split
 ·exact h
 ·generalize(dt lt<|PySem.W.kas_sort ys.length).toList=l;have get:∀ ys its,bM ys its->∀ i,bN (ys.getD i .non) (its.getD i Value.none):=by
   intro ys its h
   induction h with
   | nil=>intro i;simp;rfl
   | cons b _ a=>
    intro i;cases i with
    | zero=>exact b
    | succ i=>exact a i
  induction l with
  | nil=>exact .nil
  | cons i l a=>exact .cons (get ys its h i) a
def Bc(K:W4):List V->Hp->VK->Prop:=λxs H Q=>∃(p:Addr) (ys:List V) (rs:List gn),xs=[.ref p]/\ck K H p ys/\ys.length=rs.length/\ys.length<64 /\
 (∀(j:Nat) y,ys[j]?=some y->∃ r t,rs[j]?=some r/\y=.ref t/\cJ K H t [.str r.1,.str r.2.1,.int r.2.2])/\∀ D,H D=none->Q (.ref D) (bO H D<|.lst<|J6 (λi j=>wQ (rs.getD i ("","",0))<|rs.getD j ("","",0)) ys .non)
def Lx(h:bM ys its):∀(j:Nat) v,its[j]?=some v->∃ y,ys[j]?=some y/\bN y v:=by
 induction h with
 | nil=>intro j v e;simp at e
 | @cons y u ys c a _ b=>
  intro j v e;cases j with
  | zero=>cases e;exact#v[y,rfl,a]
  | succ j=>exact b j v ⇑e
def QX:qG X (.builtin "sorted") (Bc X.K):=by
 intro z s σ H xs us Q I r h;let[p,B,a,rfl,C,hl,b,D,q]:=h;let[u,rfl,E]:=r.one;cases E;obtain⟨F,d,⟨o,n,e,f,G,g⟩,_⟩:=I.list C;have J:=d.length.symm;refine YT (rs:=a) #v[o,e,f,n,g] ∅ ∅ (λj v L=>?_) λh' c l M b N=>?_
 ·let[y,O,P]:=Lx d j v L;let[r,t,R,rfl,k]:=D j y O;cases(P);obtain⟨A,S,⟨T,e2,m,U,w⟩,_⟩:=I.tuple k;cases S with
  | cons V W=>
   cases W with
   | cons Y Z=>
    cases Z with
    | cons k5 k6=>
     cases k6;rename_i v1 v2 v3;let[t1,rfl]:=(V);let[t2,rfl]:=(Y);let[t3,rfl]:=(k5);exact#v[r,R,t,T,U,t1,t2,t3,rfl,e2,m,w]
 ·have x:=I.hok.fresh b;refine#v[.ref l,_,I.laid (o:=.lst<|J6 (λi j=>wQ (a.getD i ("","",0))<|a.getD j ("","",0)) B .non) M b #v[?_,_,c,xu d,N],rfl,q _ x];rw[KR]
  lia
end L2
namespace QD
open PySem L2 PySem.Spec PyProof.Rows
def Bd:List D->Option (D×D×D)
 | [x,y,z]=>some (x,y,z)
 | _=>none
def Ly{l}{p}(h:Bd l=some p):l=[p.1,p.2.1,p.2.2]:=by
 match l with
 | [_,_,_]=>cases h;rfl
def Lz(d:D):Option gn:=(iW d).bind λt=>(Bd t).bind λp=>(q_ p.1).bind λa=>(q_ p.2.1).bind λb=>(yS p.2.2).bind λn=>some (S a,S b,n)
def lp:List D->Option (List gn)
 | []=>some []
 | d::l=>(Lz d).bind λx=>(lp l).bind λr=>some<|x::r
def wZ(rs:List gn)(l:List D):List D:=J6 (λi j=>wQ (rs.getD i ("","",0))<|rs.getD j ("","",0)) l .non
def KM(l:List D):Option D:=(ux l).bind λx=>(fP x).bind λl=>(lp l).bind λrs=>bif decide (l.length<64) then some (.lst true<|wZ rs l) else none
@[simp] def lq(o)(l):KM [.lst o l]=(lp l).bind λrs=>bif decide (l.length<64) then some (.lst true<|wZ rs l) else none:=rfl
def LA:∀{l}{rs}{ys}{O},lp l=some rs->a_ R Z H l ys O->O=[]/\ys.length=rs.length/\∀(j:Nat) y,ys[j]?=some y->∃ r t,rs[j]?=some r/\y=.ref t/\cJ R.K H t [.str r.1,.str r.2.1,.int r.2.2]:=by
 intro l
 induction l with
 | nil=>
  intro rs ys O e r;cases e;let[rfl,rfl]:=r;exact#v[rfl,rfl,λj y f=>by simp at f]
 | cons d l i=>
  intro rs ys O e r;refine ob e λx c e=>ob e λk e2 e=>ob c λt m c=>ob c λq o c=>ob c λa p c=>ob c λb s c=>ob c λn u c=>?_;cases e;cases c;rw[a_,Y2 m,Ly o,zB p,zB s,jE u] at r;let[I,v,J,L,rfl,rfl,r1,w]:=r;let[rfl,z,q]:=i e2 w;have A:=r1.nil (by rfl);subst A;let[t,vs,rfl,B,g]:=r1;let[M,C,N,P,rfl,Q,D,h]:=g;let[T,U,V,W,rfl,E,F,G]:=h.two_of;let[rfl,_]:=D.str_of;let[rfl,_]:=F.str_of;let[rfl,_]:=G.int_of;refine#v[rfl,by simp[z],λj y f=>?_];cases j with
  | zero=>cases f;exact#v[(S a,S b,n),t,rfl,rfl,B.sq]
  | succ j=>exact q j y ⇑f
def xn(r:a_ R Z H l vs [])(a:List Nat):a_ R Z H (a.map λi=>l.getD i .non) (a.map λi=>vs.getD i .non) []:=by
 have get:∀ l vs,a_ R Z H l vs []->∀ i,bK R Z H (l.getD i .non) (vs.getD i .non) []:=by
  intro l
  induction l with
  | nil=>
   intro vs r i;let[rfl,_]:=r;simp;exact .non_mk
  | cons d l b=>
   intro vs r i;let[v,c,g,h,rfl,e,r1,f]:=r;let[rfl,rfl]:=List.append_eq_nil_iff.mp e.symm;cases i with
   | zero=>exact r1
   | succ i=>exact b c f i
 induction a with
 | nil=>exact .empty
 | cons i a b=>exact a_.cons (get l vs r i) b
def LB:BC R (Bc R.K) KM:=by
 intro Z H C d vs O z r e Q k;refine ob e λx m n=>ob n λl s t=>?_;let[o,rfl]:=qZ s;rw[vk m] at r
 ·refine ob t λc u e=>oc e λw e=>?_;cases e;let[v,rfl,r1]:=r.one_of;let[p,f,E,rfl,y,b]:=r1.lst_of;let[rfl,A,q]:=LA u b;refine#v[p,f,c,rfl,y.sq,A,by rw[b.length];exact(X7 w),q,λD g=>?_];refine k (Go.newO (cS z) g) ?_;have ne:∀ a,H a≠none->a≠D:=λa h e=>h<|e▸g;have B:a_ R Z H (wZ c l) (J6 (λi j=>wQ (c.getD i ("","",0))<|c.getD j ("","",0)) f .non) []:=by
   unfold wZ J6;rw[b.length];split
   ·exact b
   ·exact xn b _
  exact#v[D,_,[],rfl,B.frame (λa z=>z) (λa h=>je<|ne a<|z a h)<|λa h=>(nomatch h),jj,rfl]
def kH:bootBuiltins "sorted" = some (.builtin "sorted"):=by boot_fast
def LC:(wZ rs l).Perm l:=by
 unfold wZ J6;split
 ·exact List.Perm.refl _
 ·rename_i h;refine(((Qa ∅).2).map λi=>l.getD i .non).trans ?_;have:(List.range l.length).map (λi=>l.getD i .non)=l:=by
   apply List.ext_getElem
   ·simp
   ·intro i b a;simp[List.getD_eq_getElem?_getD,E1 a]
  rw[this]
def two2:List KA->Option (KA×KA)
 | [a,b]=>some (a,b)
 | _=>none
def two2_of{k}{p}(h:two2 k=some p):k=[p.1,p.2]:=by
 match k with
 | [_,_]=>cases h;rfl
def Vh(q:KA->KA->Int->Option Bool)(el:KA->KA->Int->D):List (List KA)->List D->Option (List D)
 | [],[]=>some []
 | k::ks,d::l=>(two2 k).bind λp=>(yS d).bind λn=>(q p.1 p.2 n).bind λt=>(Vh q el ks l).bind λr=>some<|bif t then el p.1 p.2 n::r else r
 | _,_=>none
theorem Ks{q el}:∀{ks}{l}{r},Vh q el ks l=some r->frzs l=true/\ks.length=l.length
 | [],[],_,_=>#v[rfl,rfl]
 | [],_::_,_,e=>by cases e
 | _::_,[],_,e=>by cases e
 | k::ks,d::l,r,e=>by
  refine ob e λp c e=>ob e λn e2 e=>ob e λt f e=>ob e λg e3 e=>?_;let[a,b]:=Ks e3;cases jE e2;exact#v[by rw[kU,a];rfl,by simp[b]]
def LD{q el}{ks:List (List KA)}{l:List D}{r}{i}(e:Vh q el (ks.drop i) (l.drop i)=some r)(hi:i<ks.length):lI λa b n t r'=>eS (ks[i]?=some [a,b]) (l[i]?=some (.int n)) (q a b n=some t) (Vh q el (ks.drop<|i+1) (l.drop<|i+1)=some r') (r=bif t then el a b n::r' else r'):=by
 rw[List.drop_eq_getElem_cons hi] at e;have c:i<l.length:=by
  by_cases h:i<l.length
  ·exact h
  ·rw[List.drop_eq_nil_of_le (as:=l) ∅] at e;cases e
 rw[List.drop_eq_getElem_cons c] at e;rw[E1 hi,E1 c];refine ob e λp d e=>ob e λn e2 e=>ob e λt f e=>ob e λr' e3 e=>?_;cases e;exact#v[p.1,p.2,n,t,r',by rw[two2_of d],by rw[jE e2],f,e3,rfl]
section
variable {R:RC}{tc:TT}{te ts:TE}{q:KA->KA->Int->Option Bool}{el:KA->KA->Int->D}
def sy(R:RC)(tc:TT)(q:KA->KA->Int->Option Bool):Prop:=∀{s}{Z}{H}{b a1 a2 n t}{Q:Bool->Hp->Prop},Zd Z H->s[0]?=some (some<|.ref b)->s[1]?=some (some<|.int n)->H b=some (.tup [kV<|bR a1,kV<|bR a2])->q a1 a2 n=some t->(∀{Z' H'},Go Z H [] Z' H' []->Q t H')->tc s H Q
def oC(R:RC)(te:TE)(el:KA->KA->Int->D):Prop:=∀{s}{Z}{H}{b a1 a2 n}{Q},Zd Z H->s[0]?=some (some<|.ref b)->s[1]?=some (some<|.int n)->H b=some (.tup [kV<|bR a1,kV<|bR a2])->(∀{v Z' H'},Go Z H [] Z' H' []->bK R Z' H' (el a1 a2 n) v []->Q v H')->te s H Q
inductive Be (R:RC) (q:KA->KA->Int->Option Bool) (el:KA->KA->Int->D) (Z0:Zn) (H0:Hp) (a:Addr) (ks:List<|List KA) (l all:List D) (i m:Nat) (σ2:L2.St) (H2:Hp):Prop
 | mk:m=ks.length-i->i<=ks.length->σ2.length=2->∀(Z2:Zn) (ys:List D) (vs:List V) (YL:List D),Go Z0 H0 [] Z2 H2 [a]->H2 a=some (.lst vs)->a_ R Z2 H2 ys vs []->Vh q el (ks.drop i) (l.drop i)=some YL->all=ys++YL->ys.length<=i->Be R q el Z0 H0 a ks l all i m σ2 H2
structure LF(J:It)(H0:Hp)(kvs:List<|List cW×V):Prop where
 g:∀ i H2,(∀ b,H0 b≠none->H2 b=H0 b)->i<kvs.length->J.go i H2/\∀ x H3,J.yld i H2 x H3->∃ p b kv,kvs[i]?=some kv/\x=.ref p/\H2 b=some (.tup<|kv.1.map kV)/\H3 p=some (.tup [.ref b,kv.2])/\∀{Z},Zd Z H2->Go Z H2 [] Z H3 []
 s:∀ H2,(∀ b,H0 b≠none->H2 b=H0 b)->J.stop kvs.length H2
def xp(ht:sy R tc q)(he:oC R te el){J}{j}{d}{ks}{l}{us}{all}(A:Zd j d)(hd:LF J d<|(ks.map<|List.map bR).zip us)(Y:a_ R j d l us [])(C:ks.length=l.length)(hl:bW ks.length=true)(e:Vh q el ks l=some all)
  {Q:VK}(k:∀{a}{Z'}{H'}{vs},Go j d [] Z' H' [a]->H' a=some (.lst vs)->a_ R Z' H' all vs []->Q (.ref a) H'):∀ a,d a=none ->
  u7 tc te (f0 R.K 2<|JL (vJ 0)<|JL (vJ 1) ge) J a [none,none] (bO d a<|.lst []) λH2=>Q (.ref a) H2:=by
 intro a ha;have L:us.length=ks.length:=by rw[Y.length];exact C.symm
 have h:((ks.map<|List.map bR).zip us).length=ks.length:=by rw[List.length_zip,L1,L,Nat.min_self]
 have gp:Go j d [] j (bO d a<|.lst []) [a]:=Go.newO (cS A) ha;refine#v[Be R q el j d a ks l all,
  ⟨ks.length,rfl,U7 _,rfl,j,[],[],all,gp,jj,a_.empty,e,rfl,N0 _⟩,?_]
 rintro i m M H2 ⟨rfl,N,hσ,Z2,Z,vs,YL,g2,D,H,e3,I,o⟩;have hJ:=g2.same;by_cases f:i<ks.length
 ·right
  let[hg,hy]:=hd.g i H2 hJ (by rw[h];exact f);refine#v[hg,λu H3 hu=>?_];let[p,b,kv,E,rfl,hb,hp,g3]:=hy u H3 hu;let[O,P,n,t,r',hk,hn,e6,e5,rfl]:=LD e3 f;let[w,hw,S]:=(g2.reps A Y).item hn;let[rfl,_]:=S.int_of;have hz:((ks.map<|List.map bR).zip us)[i]?=some ([bR O,bR P],.int n):=by
   rw[List.getElem?_zip_eq_some];exact#v[by rw[List.getElem?_map,hk];rfl,hw]
  rw[hz] at E;cases E;have g3:=g3 g2.wf.zd;have r:=(g3.same b<|by rw[hb];exact λz=>(nomatch z)).trans hb;refine#v[p,[.ref b,.int n],rfl,cJ.of hp,rfl,.ref b,[.int n],rfl,.int n,[],rfl,rfl,?_];have s0:((M.set 0<|some<|.ref b).set 1 (some<|.int n))[0]?=some (some<|.ref b):=by
   rw[List.getElem?_set_ne<|by decide,List.getElem?_set_self ∅]
  have s1:((M.set 0<|some<|.ref b).set 1 (some<|.int n))[1]?=some (some<|.int n):=by
   rw[List.getElem?_set_self<|by rw[List.length_set];lia]
  have F:((M.set 0<|some<|V.ref b).set 1 (some<|V.int n)).length=2:=by simp[hσ]
  refine ht g3.wf.zd s0 s1 r e6 λ{Z4 H4} g4=>?_;have c:=g3.trans g4;cases t with
  | true=>
   have T:H4 b=some (.tup [kV<|bR O,kV<|bR P]):=by rw[g4.same b<|by rw[r];exact λz=>(nomatch z)];exact r
   refine gk<|he c.wf.zd s0 s1 T λ{v Z6 H6} gq rq=>?_;have y:=c.trans gq;have U:H6 a=some (.lst vs):=by rw[y.same a<|by rw[D];exact λz=>(nomatch z)];exact D
   have W:vs.length<sizeLine:=by
    rw[H.length];exact YB<|X5<|N8 o<|N8 N<|X7 hl
   have gA:=g2.trans ⇑(y.frame (B:=[])<|by simpa using g2.wf);have w6:=gA.wf;exact#v[vs,U,W,ks.length-(i+1),by lia,rfl,f,F,_,Z++[el O P n],vs++[v],r',gA.trans<|Go.put w6 L7,jj,by simpa using(((y.reps g2.wf.zd H).append (.one rq)).frame (H':=bO H6 a<|.lst<|vs++[v]) (λ_ z=>z) (λx X=>je λz=>w6.nz a L7<|z▸X) (λx X=>(nomatch X))),e5,by rw[I];simp,by rw[N5];exact Nat.add_le_add_right o 1]
  | false=>
   refine gL ?_;exact#v[ks.length-(i+1),by lia,rfl,f,F,Z4,Z,vs,r',g2.trans<|by simpa using(c.frame (B:=[]) ⇑g2.wf),by rw[c.same a<|by rw[D];exact λz=>(nomatch z)];exact D,c.reps g2.wf.zd H,e5,I,Nat.le_succ_of_le o]
 ·left
  have G:i=ks.length:=by lia
  refine#v[by rw[G,<- h];exact hd.s H2 hJ,?_];rw[G,List.drop_length,C,List.drop_length] at e3;cases e3;rw[N1] at I;subst I;exact k g2 D H
@[simp] def Bf(fe:FE)(q:KA->KA->Int->Option Bool)(el:KA->KA->Int->D)(s:Rh):Option (D×Rh):=(fe s).bind λt=>(f5 t.1).bind λp=>bif bW p.1.length then(Vh q el p.1 p.2).bind λr=>some (.lst true r,t.2) else none
def LH{fe}(h:DE R ts fe)(I:sy R tc q)(L:oC R te el):DE R (Vb (y_ ts) (f0 R.K 2<|JL (vJ 0)<|JL (vJ 1) ge) tc te [none,none]) (Bf fe q el):=by
 intro σ ρ Y Z H O d w s e Q k;refine ob e λt e5 e=>ob e λp M e=>oc e λn e=>ob e λall e7 e=>?_;cases e;let[x,ρ1]:=t;let[g,l]:=p;cases Vq M;refine h w s e5 λ{v y j P A} D r s1=>?_;let[c,m,O',rfl,E,B,N,rfl]:=r;cases E.nil (Ks e7).1;refine#v[c,_,rfl,N,λo=>?_];have w1:=D.wf;have S:Go y j ([c]++A) y (bO j c<|.frz o<|.dT<|(g.map<|List.map bR).zip m) ([c]++A):=Go.put w1 (by simp);have nd:=w1.nd;simp only[List.singleton_append,List.nodup_cons] at nd;have g2:=S.drop (λa h=>U5 _ h) nd.2;have nz:∀ b,y b->bO j c (.frz o<|.dT<|(g.map<|List.map bR).zip m) b=j b:=λb f=>je λz=>w1.nz c (by simp)<|z▸f;have T:∀ b∈A,b≠c:=λb f z=>nd.1<|z▸f;have F:∀{u:Hp},(∀ b,bO j c (.frz o<|.dT<|(g.map<|List.map bR).zip m) b≠none->u b=bO j c (.frz o<|.dT<|(g.map<|List.map bR).zip m) b)->u c=some (.frz o<|.dT<|(g.map<|List.map bR).zip m):=λh=>(h c<|by rw[jj];exact λz=>nomatch z).trans jj;exact xp (J:=p4 c o<|(g.map<|List.map bR).zip m) I L g2.wf.zd #v[λi u h hi=>#v[#v[F h,hi],λx H3 ⟨p,U,b,C,e,V,f,G⟩=>#v[p,b,U,C,e,f,G▸jj,λz=>G▸(Go.newO (cS z) V).drop (λ_ h=>(nomatch h)) List.nodup_nil]],λu h=>#v[F h,N0 _]] (E.frame (λ_ z=>z) nz λb f=>(nomatch f)) B n e7 λ{a Z2 u vs} g3 W X=>(k (D.trans<|g2.trans<|g3.widen g2.wf) #v[a,vs,[],rfl,X,W,rfl]<|g3.slots g2.wf.zd<|s1.frame (λ_ z=>z) nz λb f=>je<|T b f)
def LI:sy R (zY<|cT (eY λi j=>.bl<|decide<|j<i) (yj 1)<|tC<|.int 0) (λ_ _ n=>some<|decide<|0<n):=by
 intro s Z H b a c n t Q z s0 s1 d e k;cases e;exact#v[.int n,s1,n,0,rfl,rfl,_,rfl,k<|Go.refl<|cS z]
def Bg:oC R (fg<|jS (cT (eh R.K) (yj 0)<|tC<|.int 0)<|jS (cT (eh R.K) (yj 0)<|tC<|.int 1)<|jS (yj 1) YC) (λa b n=>.tup [d5 a,d5 b,.int n]):=by
 intro s Z H b e f n Q z s0 s1 c k;refine#v[.ref b,s0,.inr<|.inl #v[b,_,0,_,rfl,rfl,cJ.of c,rfl,#v[.ref b,s0,.inr<|.inl #v[b,_,1,_,rfl,rfl,cJ.of c,rfl,?_]]]];exact#v[.int n,s1,by show 3<=sizeLine;decide,λq d=>k (Go.newF (cS z) d)<|bK.tupNew (cS z) d<|a_.cons (ua e)<|a_.cons (ua f)<|a_.cons .int_mk .empty]
abbrev Bh:List (List KA)->List D->Option (List D):=Vh (λ_ _ n=>some<|decide<|0<n) λa b n=>.tup [d5 a,d5 b,.int n]
@[simp] def Bj(i:Nat)(s:Rh):Option (D×Rh):=Bf (c7 i) (λ_ _ n=>some<|decide<|0<n) (λa b n=>.tup [d5 a,d5 b,.int n]) s
end
def lr:List D->List D->List D->List D
 | a::l,b::m,c::n=>.tup [a,b,c]::lr l m n
 | _,_,_=>[]
theorem Qp:∀{ns}{l}{vs}{O},a_ R Z H l vs O->ns.length=l.length->JM ns l f=some d->dv λv P=>cX ((ns.zip vs).lookup f=some v) (bK R Z H d v P)<|∀ q,P.count q<=O.count q
 | [],l,vs,O,_,_,h=>by cases l<;>cases h
 | n::ns,[],vs,O,_,a,_=>by simp at a
 | n::ns,x::l,vs,O,r,a,h=>by
  let[v,b,c,j,rfl,rfl,r1,g]:=r;rw[JM] at h;by_cases e:f=n
  ·rw[if_pos e] at h;cases h;exact#v[v,c,by rw[U9,List.lookup_cons,e];simp,r1,λq=>by rw[X0];lia]
  ·rw[if_neg e] at h;let[w,P,i,e2,e3]:=Qp g ⇑a h;refine#v[w,P,?_,e2,λq=>by have:=e3 q;rw[X0];lia];rw[U9,List.lookup_cons,show(f==n)=false by simp[e]];exact i
theorem Bl(j:f≠g):∀{ns}{l}{vs}{O},a_ R Z H l vs O->ns.length=l.length->JM ns l f=some d->JM ns l g=some c ->
  fA λv P w Q=>eS ((ns.zip vs).lookup f=some v) ((ns.zip vs).lookup g=some w) (bK R Z H d v P) (bK R Z H c w Q)<|∀ q,P.count q+Q.count q<=O.count q
 | [],l,vs,O,_,_,h,_=>by cases l<;>cases h
 | n::ns,[],vs,O,_,m,_,_=>by simp at m
 | n::ns,x::l,vs,O,r,m,h,k=>by
  let[v,t,s,y,rfl,rfl,r1,p]:=r;rw[JM] at h k;by_cases e:f=n
  ·have i:g≠n:=λz=>j<|e.trans z.symm;rw[if_pos e] at h;rw[if_neg i] at k;cases h;let[w,Q,o,e2,e3]:=Qp p ⇑m k;refine#v[v,s,w,Q,by rw[U9,List.lookup_cons,e];simp,?_,r1,e2,λq=>by have:=e3 q;rw[X0];lia];rw[U9,List.lookup_cons,show(g==n)=false by simp[i]];exact o
  ·rw[if_neg e] at h;by_cases i:g=n
   ·rw[if_pos i] at k;cases k;let[w,Q,o,e2,e3]:=Qp p ⇑m h;refine#v[w,Q,v,s,?_,by rw[U9,List.lookup_cons,i];simp,e2,r1,λq=>by have:=e3 q;rw[X0];lia];rw[U9,List.lookup_cons,show(f==n)=false by simp[e]];exact o
   ·rw[if_neg i] at k;let[a,P,b,Q,o,e2,e3,u,e5]:=Bl j p ⇑m h k;refine#v[a,P,b,Q,?_,?_,e3,u,λq=>by have:=e5 q;rw[X0];lia]
    ·rw[U9,List.lookup_cons,show(f==n)=false by simp[e]];exact o
    ·rw[U9,List.lookup_cons,show(g==n)=false by simp[i]];exact e2
@[simp] def lu(i:Nat)(c:Nat)(f:Str)(g:Str)(pe:PF)(s:Rh):Option (D×Rh):=(pV i s).bind λt=>(zK t).bind λy=>bif y.1==c&&!decide (f=g) then(JM y.2.1 y.2.2 f).bind λa=>(JM y.2.1 y.2.2 g).bind λb=>(pe s).bind λr=>some (.tup [a,r,b],s.set i none) else none
def LJ(L:dO R.K<|R.cls c)(Y:bU R.K (R.cls c) f)(hg:bU R.K (R.cls c) g)(he:PP R te pe):DE R (fg<|jS (gI R.K (yj i) f)<|jS te<|jS (gI R.K (yj i) g) YC) (lu i c f g pe):=by
 intro σ ρ ρ' Z H O d w s e Q k;refine ob e λt e1 e=>ob e λ⟨c',ns,l⟩ e2 e=>oc e λE e=>ob e λa e3 e=>ob e λb e4 e=>ob e λr e5 e=>?_;cases e;cases JR e2;have M:=YQ e1;rw[M0] at E;obtain rfl:c'=c:=by simpa using E.1
 have F:f≠g:=by simpa using E.2
 let[A,P,B,rfl,k1,_,k3]:=s.put (L9.mp M).1;let[v,N,rp]:=k1 _ M;let[x,S,vs,G,rfl,rs,I,T,rfl]:=rp;let[m,Pf,n,Pg,lf,lg,rf,rg,cn]:=Bl F rs I e3 e4;refine#v[.ref x,N,x,_,S,_,m,rfl,T,L,Y,lf,(he w.zd s e5 λ{p o j D} u r1=>?_)];refine#v[.ref x,N,x,_,S,_,n,rfl,u.at0 T,L,hg,lg,by show 3<=sizeLine;decide,λq U=>?_];have J:=u.widen w;have gN:Go o j (D++(A++(x::G)++B)) (λy=>o y\/y=q) (bO j q<|.tup [m,p,n]) (D++(A++(x::G)++B)):=Go.newF J.wf U;have ne:∀ y,j y≠none->y≠q:=λy h e=>h<|e▸U;have zn:∀ y,o y->bO j q (.tup [m,p,n]) y=j y:=λy C=>je<|ne y<|J.wf.zd y C;have up:∀{d}{v}{V},bK R o j d v V->bK R (λy=>o y\/y=q) (bO j q<|.tup [m,p,n]) d v V:=λW=>W.frame (λ_ z=>.inl z) zn λy C=>je<|ne y<|W.dom y C;have s1:=(u.slots w.zd k3);have s2:Slots R (λy=>o y\/y=q) (bO j q<|.tup [m,p,n]) (ρ.set i none) σ (A++B):=s1.frame (λ_ z=>.inl z) zn λy C=>je<|ne y<|s1.dom y C;have X:∀ y,((Pf++(D++Pg))++(A++B)).count y<=(D++(A++(x::G)++B)).count y:=λy=>by
  have:=cn y;simp only[X0,List.count_cons];lia
 refine k ((J.trans gN).drop (rC X) (K7 X gN.wf.nd)) #v[q,[m,p,n],rfl,.inl #v[.inr rfl,.inl jj],?_] s2;have:=a_.cons (up<|u.rep w.zd rf)<|a_.cons (up r1)<|a_.one<|up<|u.rep w.zd rg;simpa using this
def LK{cl}{X}{e}{te}{pe}{pos p}{i k}{x f g}{m}{p2 b a}(n:dO X.K<|cl k)(o:bU X.K (cl k) f)(q:bU X.K (cl k) g)(r:QB cl X (.Name x p) (yj i)<|pV i)(l:QP cl X e te pe)(c:QB cl X (.Name x p2) (yj i)<|pV i)
  (s:attributeBase (.Name x p) f X.env (eval (.Name x p) X.env)=eval (.Name x p) X.env:=by rfl) (d:attributeBase (.Name x p2) g X.env (eval (.Name x p2) X.env)=eval (.Name x p2) X.env:=by rfl)
  (t:starEach [.Attribute (.Name x p) f b,e,.Attribute (.Name x p2) g a] X.env=(false,eval (.Attribute (.Name x p) f b) X.env)::starEach [e,.Attribute (.Name x p2) g a] X.env:=by rfl)
  (h:starEach [e,.Attribute (.Name x p2) g a] X.env=(false,eval e X.env)::starEach [.Attribute (.Name x p2) g a] X.env:=by rfl)
  (j:starEach [.Attribute (.Name x p2) g a] X.env=(false,eval (.Attribute (.Name x p2) g a) X.env)::starEach [] X.env:=by rfl):
  QE cl X (.Tuple [.Attribute (.Name x p) f b,e,.Attribute (.Name x p2) g a] m pos) (fg<|jS (gI X.K (yj i) f)<|jS te<|jS (gI X.K (yj i) g) YC) (lu i k f g pe):=
 ⟨JQ<|jJ (m8 r.sem s) (jJ l.sem (jJ (m8 c.sem d) vU j) h) t,LJ n o q l.den⟩
end QD
namespace QD
open PySem L2
def LM(B:ca X scope N' [none,none])(Q:X.calm=true)(r:QB cl X (.Name x p) (yj i)<|pV i)
  (S:∀ C s H fp,QG cl [] (ya X scope N' C s H fp) (.Tuple elts m tpos) (f0 X.K 2<|JL (vJ 0)<|JL (vJ 1) ge) g)
  (t:∀ C s H fp,QT cl (ya X scope N' C s H fp) c (zY<|cT (eY λi j=>.bl<|decide<|j<i) (yj 1)<|tC<|.int 0) q)
  (T:∀ C s H fp,QP cl (ya X scope N' C s H fp) elt (fg<|jS (cT (eh X.K) (yj 0)<|tC<|.int 0)<|jS (cT (eh X.K) (yj 0)<|tC<|.int 1)<|jS (yj 1) YC) pe)
  (f:attributeBase (.Name x p) "items" X.env (eval (.Name x p) X.env)=eval (.Name x p) X.env:=by rfl) (k:(apos.endLine==cpos.line)=true:=by rfl)
  (U:∀ z,foldedSetIterable (.Call (.Attribute (.Name x p) "items" apos) [] [] cpos) X.env z=pure z:=by intro _;rfl):
  QE cl X (.ListComp elt [#v[.Tuple elts m tpos,.Call (.Attribute (.Name x p) "items" apos) [] [] cpos,[c],0]] scope pos)
   (Vb (y_<|yj i) (f0 X.K 2<|JL (vJ 0)<|JL (vJ 1) ge) (zY<|cT (eY λi j=>.bl<|decide<|j<i) (yj 1)<|tC<|.int 0) (fg<|jS (cT (eh X.K) (yj 0)<|tC<|.int 0)<|jS (cT (eh X.K) (yj 0)<|tC<|.int 1)<|jS (yj 1) YC) [none,none]) (Bj i):=
 ⟨wD B Q ((by
   intro e s σ H R I h;refine wpAny_Call_method0_late f k<|thn (r.sem e s σ H _ I h) λv s1 ⟨x,V,w,r1,a,l,ex,y,q⟩=>?_;subst ex;obtain rfl:v=Value.ref a:=r1;let[W,Y,_]:=pW w<|.inr #v[l,.inl y];let[o0,A,D,d0,E,Z,G,_]:=w.frzT y;let[d,gg,dd,tk,os]:=s1;refine#v["dict","dict.items",PySem.F.plainAttrs_dict,PySem.F.slot_dict_items,PySem.F.type_dict_items,W,Y,Calls.callWith_builtin rfl<|PySem.evalArgs_none<|VF (es:=A) (ep:=D) E Z G ?_];have M:∀ b u,d.get? b=some u->(d.push ({cls:=.type "dict_items",data:=.fields #[.ref a]}:Obj)).get? b=some u:=λb u q=>L8 _ q;have N:bL X e σ V #v[d.push {cls:=.type "dict_items",data:=.fields #[.ref a]},gg,dd,tk,os]:=w.kept M;have r:(d.push ({cls:=.type "dict_items",data:=.fields #[.ref a]}:Obj)).IsItemsView d.objs.size a:=#v[_,E3 _ rfl,rfl,rfl];let[o,J,L,P,h1,hx,hd,O]:=N.frzT y;refine y3 r h1 P ?_;generalize d.push ({cls:=.type "dict_items",data:=.fields #[.ref a]}:Obj)=hp2 at *;have hk:∀ b u,hp2.get? b=some u->(hp2.push ({cls:=.type "dict_itemiterator",data:=.fields #[.none,.bool false,.ref a,.int 0 0,.int J.size 0,.int L 0,.none,.none]}:Obj)).get? b=some u:=λb u q=>L8 _ q;refine#v[hp2.objs.size,[hp2.objs.size],_,_,_,rfl,O.kept hk,E6 a _ o l J L P,#v[.none,.none,E3 _ rfl],λb hb=>?_,q o];have n:hp2.objs.size<=b:=by
    have:b=hp2.objs.size:=by simpa using hb
    rw[this];exact N0 _
   exact O.fpOk n<|O.hok.fresh n)) (λC s H fp=>(S C s H fp).sem) (λC s H fp=>.inr #v[c,rfl,(t C s H fp).sem]) (λC s H fp=>(T C s H fp).sem) U,LH z3 (@LI _)<|@Bg _⟩
end QD
namespace QD
open PySem L2 PySem.Spec PyProof.Rows
mutual
def dC:D->Bool
 | .tup l=>Bm l
 | .non=>true | .bl _=>true | .int _=>true | .str _=>true
 | .lst _ _=>false | .dK _ _ _=>false | .dT _ _ _=>false | .ins _ _ _ _=>false | .dead=>false | .tok _=>false | .kt _=>false | .exc _ _=>false
def Bm:List D->Bool
 | []=>true
 | d::l=>dC d&&Bm l
end
def Bo(K:W4)(mg:W6)(x:Str)(st:Stmt)(ps:List Str):Prop:=∃ f fd,df K mg x x st f fd ps
def Bp(K:W4)(C:Addr)(x qual:Str)(st:Stmt)(ps:List Str):Prop:=∃ f fd,eB K C x qual st f fd ps
section
variable {K:W4}{mg:W6}{h:Heap}{x qual:Str}{st:Stmt}{ps:List Str}{a C:Addr}{od an:Option Addr}{sl:Array (Option Value)}{oc kV dc pm cd ct:Value}
def sC(X:K.In h)(G:h.Ns mainGlobals mg)(c:PySem.W.nsIn K mainGlobals x=some (some<|.ref a))(e2:K.lookup a=some #v[oc,od,.func<|PySem.W.fnOf x x (qy st) (kg st) (jG st) .none kV dc pm an cd ct,sl])(e3:PySem.W.codeIn K cd x=true)(b:PySem.W.keepIn K (.ref a)=true)
  (d:∀ kV doc pm an cdv ct us,us.length=ps.length->bindArgs (PySem.W.fnOf x x (qy st) (kg st) (jG st) .none kV doc pm an cdv ct) #v[us,[]]=pure (ps.zip us)):Bo K mg x st ps:=#v[_,_,u5 e2 e3 b,PySem.W.mg_of X G c,(u5 e2 e3 b).binds d]
def sD(c:PySem.W.findIn K (.ref C) x=some (some<|.ref a))(e5:PySem.W.isFn K (.ref a)=true)(e2:K.lookup a=some #v[oc,od,.func<|PySem.W.fnOf x qual (qy st) (kg st) (jG st) .none kV dc pm an cd ct,sl])(e3:PySem.W.codeIn K cd qual=true)(b:PySem.W.keepIn K (.ref a)=true)
  (d:∀ kV doc pm an cdv ct us,us.length=ps.length->bindArgs (PySem.W.fnOf x qual (qy st) (kg st) (jG st) .none kV doc pm an cdv ct) #v[us,[]]=pure (ps.zip us)):Bp K C x qual st ps:=#v[_,_,u5 e2 e3 b,#v[c,e5,b],(u5 e2 e3 b).binds d]
end
def Bq{N ps}{h}(a:h.kind=.function:=by rfl)(b:h.isCoroutine=false:=by rfl)(c:h.isGenerator=false:=by rfl)(d:N.Nodup:=by decide +kernel)(e:N.take ps.length=ps:=by rfl)
  (f:∀ x∈ps,h.names.lookup x=some .local\/h.names.lookup x=some .cell:=by decide +kernel) (g:∀ y∈h.names,y.2≠.free:=by decide +kernel):ce N ps h:=#v[a,b,c,d,e,f,g]
def gz(K:W4)(mg:W6)(x:Str)(st:Stmt)(N:List Str)(n:Nat):Prop:=ce N (N.take n) (jG st)/\Bo K mg x st (N.take n)
def mO(K:W4)(C:Addr)(x qual:Str)(st:Stmt)(N:List Str)(n:Nat):Prop:=ce N (N.take n) (jG st)/\Bp K C x qual st (N.take n)
section
variable (P:Program)(w:World)(cl:Nat->Addr){K:W4}{mg:W6}{C:Addr}{x qual:Str}{st:Stmt}{N:List Str}{n:Nat}
abbrev NP(_:gz K mg x st N n)(k:Nat)(m:List D->Option D):Prop:=fJ P w K mg x st k (N.take n)<|dn #v[K,cl] m n
abbrev NM(_:gz K mg x st N n)(k:Nat)(m:List D->Option (D×D)):Prop:=fJ P w K mg x st k (N.take n)<|er #v[K,cl] m n 0
abbrev OP(mg:W6)(_:mO K C x qual st N n)(k:Nat)(m:List D->Option D):Prop:=lk P w K mg C x qual st k (N.take n)<|dn #v[K,cl] m n
abbrev OM(mg:W6)(_:mO K C x qual st N n)(k:Nat)(m:List D->Option (D×D)):Prop:=lk P w K mg C x qual st k (N.take n)<|er #v[K,cl] m n 0
end
section
variable {P:Program}{w:World}{k:Nat}{sp:Sp}{K:W4}{mg:W6}{C:Addr}{x qual:Str}{st:Stmt}{N:List Str}{n:Nat}
def LO(h:gz K mg x st N n)(g:∀ f fd,ce N (N.take n) (jG st)->df K mg x x st f fd (N.take n)->∀ base,cB P w K mg base dY k f fd (N.take n) sp):fJ P w K mg x st k (N.take n) sp:=by
 let[S,f,fd,F]:=h;exact#v[f,fd,F,g f fd S F]
def LP(h:mO K C x qual st N n)(g:∀ f fd,ce N (N.take n) (jG st)->eB K C x qual st f fd (N.take n)->∀ base,cB P w K mg base dY k f fd (N.take n) sp):lk P w K mg C x qual st k (N.take n) sp:=by
 let[S,f,fd,F]:=h;exact#v[f,fd,F,g f fd S F]
end
def u0{s:Type}{P:List s->Prop}(h:P []):∀ us:List s,us.length=0->P us
 | [],_=>h
def uS{s:Type}{P:List s->Prop}{n}(h:∀ a,∀ us:List s,us.length=n->P (a::us)):∀ us:List s,us.length=n+1->P us
 | a::us,e=>h a us<|Nat.succ.inj e
def gD{a b}(h:a)(k:a->b):a/\b:=#v[h,k h]
section
variable {cl:Nat->Addr}{X:Cx}{pos:Pos}{x:Str}{scope:Scope}{N':List Str}{i:Nat}
def qS{j}{l}(h:x=S l:=by decide +kernel):QP cl X (.Constant (.str x) j pos) (tC<|.str x) (pS l):=#v[(λ_ _ _ H _ I h=>Calls.Constant_str #v[.str x,H,I.tok _,#v[_,rfl],h]),by subst h;exact l6 λ_ _=>.str_mk]
def qI{i}{j}:QB cl X (.Constant (.int i) j pos) (tC<|.int i) (pI i):=QP.bb AD
end
def LQ(h:yS y=some n):y=.int n:=by
 cases y with
 | int i=>cases h;rfl
 | _=>cases h
def LR(h:pV i s=some t):s[i]?=some (some t):=by
 rw[sj] at h;cases q:s[i]? with
 | none=>rw[q] at h;cases h
 | some o=>cases o with
  | none=>rw[q] at h;cases h
  | some a=>rw[q] at h;cases h;rfl
def lw(i:Nat)(pk p:PF):FS:=λs=>(pk s).bind λy=>(yS y).bind λn=>(p s).bind λd=>match s[i]? with
 | some (some (.lst true l))=>bif decide (0<=n)&&decide (n<=(l.length:Int))&&(bW l.length&&(frzs l&&frz d)) then some (.nx<|s.set i<|some<|.lst true<|l.take n.toNat++d::l.drop n.toNat) else none
 | _=>none
def LS(Y:PB R tk pk)(h:PP R te p):DS R pm (Yc<|fF R.K "list" xU (yj i)<|jS tk<|jS te YC) (lw i pk p):=by
 intro σ ρ Z H O o w s e D' k;unfold lw at e;cases e1:pk ρ with
 | none=>rw[e1] at e;cases e
 | some y=>
 rw[e1,L4] at e;cases q1:yS y with
 | none=>rw[q1] at e;cases e
 | some n=>
 rw[q1,L4] at e;cases LQ q1;cases e2:p ρ with
 | none=>rw[e2] at e;cases e
 | some d=>
 rw[e2,L4] at e;split at e
 ·rename_i l Q;refine oc e λS e=>?_;cases e;simp only[M0,decide_eq_true_eq] at S;obtain⟨⟨D,E⟩,j,fl,fd⟩:=S;let[A,P,B,rfl,k1,k2,_]:=s.put (L9.mp Q).1;let[v,T,r]:=k1 _ Q;let[a,vs,O',rfl,C,F,rfl]:=r;cases C.nil fl;refine#v[.ref a,T,.inl #v[rfl,vs,ck.of F],(Y w.zd s e1 λ{u0 U G P0} b r0=>?_)];let[rfl,_]:=r0.int_of;refine h b.wf.zd (b.slots w.zd s) e2 λ{u I g P2} g2 V=>?_;cases V.nil fd;have m:G a=some (.lst vs):=by rw[b.same a<|by rw[F];exact λz=>(nomatch z)];exact F
  have J:g a=some (.lst vs):=by rw[g2.same a<|by rw[m];exact λz=>(nomatch z)];exact m
  have q:Go Z H (A++[a]++B) U G (A++[a]++B):=by simpa using b.widen w
  have L:Go U G (A++[a]++B) I g (A++[a]++B):=by simpa using g2.widen q.wf
  have W:=q.trans L;have w2:=W.wf;have t:=g2.reps b.wf.zd<|b.reps w.zd C;refine#v[a,vs,u,n,rfl,rfl,J,D,by rw[C.length];exact E,by rw[C.length];exact YB j,?_];have nd:=w2.nd;simp only[X3,N3,List.nodup_cons,M5] at nd;obtain⟨⟨nA,⟨na,nO⟩,M⟩,nB,N⟩:=nd;have x:∀ c,I c->bO g a (.lst<|vs.take n.toNat++u::vs.drop n.toNat) c=g c:=λc z=>je λe=>w2.nz a (by simp)<|e▸z;have r3:bK R I (bO g a<|.lst<|vs.take n.toNat++u::vs.drop n.toNat) (.lst true<|l.take n.toNat++d::l.drop n.toNat) (.ref a) [a]:=by
   exact#v[a,_,[],rfl,(((t.take n.toNat).append (a_.cons V<|t.drop n.toNat)).frame (λ_ z=>z) x λc f=>(nomatch f)),jj,rfl]
  have sA:∀ c,c∈A->bO g a (.lst<|vs.take n.toNat++u::vs.drop n.toNat) c=H c:=λc f=>by
   rw[je<|M c f a<|.inl rfl,g2.same c<|by rw[b.same c<|w.od c<|by simp[f]];exact w.od c<|by simp[f]];exact b.same c<|w.od c (by simp[f])
  have sB:∀ c,c∈B->bO g a (.lst<|vs.take n.toNat++u::vs.drop n.toNat) c=H c:=λc f=>by
   rw[je λe=>N a (.inr<|.inl rfl) c f e.symm,g2.same c<|by rw[b.same c<|w.od c<|by simp[f]];exact w.od c<|by simp[f]];exact b.same c<|w.od c (by simp[f])
  have X:=k2 r3 (λc z=>g2.zz c<|b.zz c z) (λc z=>by rw[x c<|g2.zz c<|b.zz c z,g2.same c<|by rw[b.same c<|w.zd c z];exact w.zd c z];exact b.same c<|w.zd c z) sA sB;rw[yK T] at X;exact k (W.trans<|Go.put w2<|by simp) X<|bX.refl _ _
 ·cases e
def LU(a:pV i ρ=some (.lst true l))(h1:pk ρ=some (.int n))(h2:p ρ=some d)(z:0<=n)(e:n.toNat<=l.length)(b:bW l.length=true)(c:frzs l=true)(fd:frz d=true):
  lw i pk p ρ=some (.nx<|ρ.set i<|some<|.lst true<|l.take n.toNat++d::l.drop n.toNat):=by
 unfold lw;rw[h1,L4,show yS (.int n)=some n from rfl,L4,h2,L4,LR a];dsimp only;rw[X5 z,X5 ∅,b,c,fd];rfl
def LV(l:QB cl X (.Name x xpos) (yj i)<|pV i)(j:QB cl X e te pe)(h:QP cl X f tf pf)(b:attributeBase (.Name x xpos) "insert" X.env (eval (.Name x xpos) X.env)=eval (.Name x xpos) X.env:=by rfl)
  (d:((backTo cpos<|starEach [e,f] X.env).all (λx=>!x.1)&&(backToKw cpos<|keywordEach [] X.env).all (λx=>x.1.isSome)
   && decide ([e,f].length+([]:List Keyword).length+(if([]:List Keyword).isEmpty then 0 else 1)<30))=true:=by rfl)
  (c:(apos.endLine==cpos.line)=true:=by rfl) (k:starEach [e,f] X.env=(false,eval e X.env)::starEach [f] X.env:=by rfl) (g:starEach [f] X.env=(false,eval f X.env)::starEach [] X.env:=by rfl) (a:(backTo cpos<|starEach [f] X.env).any (·.1)=false:=by rfl)
  (hsw:swapsWith (.Call (.Attribute (.Name x xpos) "insert" apos) [e,f] [] cpos) none pos.line X.env=pure false:=by rfl):
  QS cl pm X (.Expr (.Call (.Attribute (.Name x xpos) "insert" apos) [e,f] [] cpos) pos) (Yc<|fF X.K "list" xU (yj i)<|jS te<|jS tf YC) (lw i pe pf):=
 ⟨Ym (iR PySem.F.plainAttrs_list PySem.F.slot_list_insert PySem.F.type_list_insert E7 l.sem (jJ j.sem (jJ h.sem vU g) k) b d c k a) hsw,LS j.den h.den⟩
def oD(N:List Str):List (Option Nat)->List Str->List Str
 | [],_=>[]
 | none::l,xs=>xs.headD ""::oD N l xs.tail
 | some j::l,xs=>N.getD j ""::oD N l xs
def Br(sc:Scope):List Str:=(sc.names.filter λy=>decide (y.2=.local)||decide (y.2=.cell)).tail.map (·.1)
def LW(_:ce N ps sc)  (h1:X.env.scope=sc:=by rfl) (h2:X.N=N:=by rfl) (h:uZ sc N scope (oD N ix<|Br scope) ix=true:=by decide +kernel):ca X scope (oD N ix<|Br scope) ix:=by
 subst h1;subst h2;unfold uZ at h;simp only[M0,decide_eq_true_eq,List.all_eq_true,Bool.or_eq_true,Bool.not_eq_true',decide_eq_false_iff_not] at h;obtain⟨⟨⟨⟨⟨⟨⟨c,d⟩,f⟩,g⟩,b⟩,k⟩,l⟩,m⟩:=h;refine#v[c,λy a e=>((g y a).elim (absurd e) id),λy a e=>((f y a).elim (absurd e) id),λy a e=>((b y a).elim (absurd e) λz=>z.1),λy a e=>((b y a).elim (absurd e) λz=>z.2),k,l,λi j x h1 h2=>?_,d]
 ·have hi:=(L9.mp h1).1;have z:=m i<|List.mem_range.mpr hi;rw[h1,h2] at z;simp only[M0,decide_eq_true_eq] at z;exact z
def LX{p:cF}{n}(h:∀ s ds,p s=some ds->ds.length=n):∀ s ds,p s=some ds->ds.length+1=n+1:=λs ds e=>by rw[h s ds e]
def LY(h:N'.Nodup):(ya X scope N' C s H fp).N.Nodup:=h
section
open Classical in
end
def LZ{P:Program}{w:World}{K:W4}{mg:W6}{cl:Nat->Addr}{x:Str}{st:Stmt}{N:List Str}{n:Nat}{r:Nat->List D->Option D}(h:gz K mg x st N n)(b:∀ ds,r 0 ds=none)
  (g:∀ j f fd,ce N (N.take n) (jG st)->df K mg x x st f fd (N.take n)->fJ P w K mg x st j (N.take n) (dn #v[K,cl] (r j) n)->∀ base,cB P w K mg base dY (j+1) f fd (N.take n)<|dn #v[K,cl] (r<|j+1) n) (k:Nat):fJ P w K mg x st k (N.take n) (dn #v[K,cl] (r k) n):=by
 let[S,f,fd,F]:=h;refine#v[f,fd,F,?_]
 induction k with
 | zero=>exact λbase=>by rw[show r 0=λ_=>none from funext b];exact#v[λvs H Q E ⟨_,_,_,_,_,_,h,_⟩=>(nomatch h),λA outer s H a d vs Q E _ _ _ _ ⟨_,_,_,_,_,_,h,_⟩=>(nomatch h)]
 | succ j c=>exact g j f fd S F #v[f,fd,F,c]
end QD
namespace QD
open PySem L2
def L_(d:X.K=K)(O:fJ X.prog X.w X.K X.mg x st k ps<|er #v[X.K,cl] m n j)(f:bS k X.A)
  (a:QJ cl X i j (e::es) tr pr) (g:(e::es).length=n:=by rfl) (l:Gl X x:=by rfl) (b:Nd x:=by decide)
  (o:dw X e es:=by rfl) (c:dH X pos es:=by rfl):QE cl X (.Call (.Name x p) (e::es) [] pos) (Vr (er #v[K,cl] m n j) [] E0 tr) (j9 m i j pr):=by
 subst d;let[_,_,F,G]:=O;exact#v[nl F (G _) f a.sem l b o c,Ik a.den λs q h=>by rw[<- g];exact a.n s q h]
abbrev NJ(P:Program)(w:World)(cl:Nat->Addr){K}{mg}{x}{st}{N}{n}(_:gz K mg x st N n)(k:Nat)(j:Nat)(m:List D->Option (D×D)):Prop:=fJ P w K mg x st k (N.take n)<|er #v[K,cl] m n j
def oE:D->Option (List KA)
 | .kt k=>some k
 | _=>none
def Bs(h:oE d=some k):d=.kt k:=by
 cases d with
 | kt b=>cases h;rfl
 | _=>cases h
@[simp] def oG(k):oE (.kt k)=some k:=rfl
@[simp] def sE(i:Nat)(s:Rh):Option (List KA):=(pV i s).bind oE
@[simp] def Bt(pk:Rh->Option (List KA))(s:Rh):Option (D×Rh):=(pk s).bind λk=>some (.kt k,s)
def mP(l:List D):Option D:=(ux l).bind λx=>(iW x).bind λl=>(wv l).bind λns=>some<|.int ns.sum
def Ma:BC R (λxs H Q=>∃(p:Addr) (ns:List Int),xs=[.ref p]/\cJ R.K H p (ns.map V.int)/\Q (.int ns.sum) H) mP:=by
 intro Z H xs d vs O z r e Q k;refine ob e λx a e=>ob e λl b e=>ob e λns c e=>?_;cases e;cases Y2 b;rw[vk a] at r;let[v,rfl,r1]:=r.one_of;let[p,ws,rfl,f,g]:=r1;have:=g.ints c;subst this;exact#v[p,ns,rfl,f.sq,k (Go.id z) .int_mk]
def Mb(b:QB cl X (.Name x pos) (yj i)<|pV i):lm cl X (.Name x pos) (yj i) (sE i):=#v[b.sem,(by
  intro u w Z H O k z s e Q go;refine ob e λd c e=>?_;cases Bs e;refine Ad z s c λ{v h j l} f r1=>?_;let[a,rfl,za,g,_]:=r1;exact go f za g)]
def Mc{f}(c:QB cl X a ta pa)(d:QB cl X b tb pb)(h1:starEach [a,b] X.env=(false,eval a X.env)::starEach [b] X.env:=by rfl)(h2:starEach [b] X.env=(false,eval b X.env)::starEach [] X.env:=by rfl):
  lm cl X (.Tuple [a,b] f tpos) (le ta tb) (hI pa pb):=#v[JQ<|jJ c.sem (jJ d.sem vU h2) h1,(by
    intro u w Z H O k z s e Q go;exact J1 c.den d.den z s e go)]
def Md(b:X.K=K)(O:fJ X.prog X.w X.K X.mg x st k ps<|dn #v[X.K,cl] m n)(c:bS k X.A)(d:0=n:=by rfl)(e:Gl X x:=by rfl)(a:Nd x:=by decide):QP cl X (.Call (.Name x p) [] [] pos) (Vr (dn #v[K,cl] m n) [] E0 YC) (js m pN):=by
 subst b;let[_,_,F,G]:=O;exact#v[(DN (G _) c e F.mgf F.fn.kp F.bd .nil lX a),Al Ae λs f h=>by cases h;exact d]
def Me(c:X.K=K)(O:fJ X.prog X.w X.K X.mg x st k ps<|dn #v[X.K,cl] m n)(d:bS k X.A)
  (f:gy cl X (e::es) tr fr) (g:∀ s r,fr s=some r->r.1.length=n) (h:Gl X x:=by rfl) (a:Nd x:=by decide)
  (i:dw X e es:=by rfl) (b:dH X pos es:=by rfl):QE cl X (.Call (.Name x p) (e::es) [] pos) (Vr (dn #v[K,cl] m n) [] E0 tr) (kr m fr):=by
 subst c;let[_,_,F,G]:=O;exact IB rfl F (G _) d f g h a i b
def Mf(h:lm cl X e tk pk):QE cl X e tk (Bt pk):=#v[h.sem,(by
  intro u x i Z H O d w s e Q k;refine ob e λc b e=>?_;cases e;refine h.den w.zd s b λ{p j l} a f g=>?_;exact k (a.widen w) (by rw[bK];exact#v[p,rfl,f,g,rfl])<|a.slots w.zd s)]
end QD
namespace QD
open PySem L2 PySem.Spec PyProof.Rows
def iC:D->Option (Bool×List D)
 | .lst _ l=>some (true,l)
 | .tup l=>some (false,l)
 | _=>none
def iD:List D->Option (List<|Bool×List D)
 | []=>some []
 | d::ds=>(iC d).bind λx=>(iD ds).bind λxs=>some<|x::xs
def FB(R:RC)(Z:Zn)(H:Hp)(a:Addr):Bool->List V->Prop
 | true,w=>FL R Z H a w
 | false,w=>FT R Z H a w
def FB.frame(b:∀ a,Z a->Z' a)(c:∀ a,Z a->H' a=H a)(h:FB R Z H a k w):FB R Z' H' a k w:=by
 cases k with
 | true=>exact FL.frame b c h
 | false=>exact FT.frame b c h
def FB.sq(h:FB R Z H a k w):fm R.K H a k w:=by
 cases k with
 | true=>exact FL.sq h
 | false=>exact FT.sq h
def Mg(e:iC d=some x)(r:bK R Z H (fz d) v []):dv λa w=>cX (v=.ref a) (FB R Z H a x.1 w) (a_ R Z H (bV x.2) w []):=by
 cases d with
 | lst o l=>
  cases e;let[a,w,g,rfl,b,c,rfl,_]:=r;exact#v[a,w,rfl,c,b]
 | tup l=>
  cases e;let[a,w,rfl,f,b]:=r;exact#v[a,w,rfl,f,b]
 | _=>cases e
structure Zr where
 a:Addr
 k:Bool
 w:List V
 l:List D
theorem Bu:∀{ds}{xs}{vs},iD ds=some xs->a_ R Z H (bV ds) vs []->∃(zs:List Zr),cX (zs.map (λz=>(z.k,z.l))=xs) (vs=zs.map (λz=>.ref z.a))<|∀ z∈zs,FB R Z H z.a z.k z.w/\a_ R Z H (bV z.l) z.w []
 | [],xs,vs,e,r=>by
  cases e;exact#v[[],rfl,r.1,by simp]
 | d::ds,xs,vs,e,r=>by
  refine ob e λx b e=>ob e λo e2 e=>?_;cases e;let[v,c,p,s,rfl,f,r1,g]:=r;let[rfl,rfl]:=List.append_eq_nil_iff.mp f.symm;let[a,w,rfl,h,i]:=Mg b r1;let[zs,j,rfl,m]:=Bu e2 g;exact#v[#v[a,x.1,w,x.2]::zs,by rw[L5,j],rfl,λz n=>(M5.mp n).elim (λq=>by rw[q];exact#v[h,i]) (m z)]
theorem uq:∀{zs:List Zr}{us},us.length=zs.length->(∀(m:Nat) q,zs[m]?=some q->∃ u,us[m]?=some u/\bK R Z H (g q) u [])->a_ R Z H (zs.map g) us []
 | [],[],_,_=>a_.empty
 | [],_::_,h,_=>by simp at h
 | _::_,[],h,_=>by simp at h
 | q::zs,u::us,h,k=>by
  let[a,e,r]:=k 0 q rfl;cases e;exact a_.cons r (uq ⇑h λm q e=>by have:=k (m+1) q ⇑e;simpa using this)
def sF(ls:List<|List D)(i:Nat):D:=.tup<|ls.map λl=>l.getD i .non
def fT(m:Nat)(ds:List D):Option (List D):=(iD ds).bind λxs=>bif decide (xs.length=m)&&(decide (0<m)&&xs.all λx=>decide<|(xs.headD (true,[])).2.length<=x.2.length) then some ((List.range (xs.headD (true,[])).2.length).map (sF<|xs.map λx=>bV x.2)) else none
@[simp] def hW(m:Nat)(p:cF)(s:Rh):Option (List D):=(p s).bind (fT m)
def Bv(h:f7 R ta p):gu R (lZ R.K m ta) (hW m p):=by
 intro σ ρ Z H O W z s e Q k;refine ob e λX F e=>ob e λg e2 e=>oc e λj e=>?_;cases e;rw[M0,M0,List.all_eq_true] at j;have Y:=X7 j.2.1;refine h z s F λ{vs G H1 I} J r1=>?_;let[zs,n,rfl,r]:=Bu e2<|r1.freeze (Z':=λa=>G a\/a∈I) (λa z=>.inl z) λa z=>.inr z;have A:zs.length=g.length:=by rw[<- n,L1]
 refine#v[zs.map λz=>(z.a,z.k),by rw[L1,A,X7 j.1],by rw[U3];rfl,λa d=>?_,k J.fz ?_]
 ·let[q,b,rfl]:=M7.mp d;exact#v[q.w,(r q b).1.sq]
 intro B t f C zd i;have fr:∀ q∈zs,fm R.K t q.a q.k q.w/\a_ R B t (bV q.l) q.w []:=λq b=>#v[((r q b).1.frame f C).sq,(r q b).2.frame f C λa d=>(nomatch d)];refine#v[λhi=>?_,λx o=>?_]
 ·cases zs with
  | nil=>simp at A;lia
  | cons q zs=>
   refine#v[_,_,q.w,rfl,(fr q<|by simp).1,?_];rw[L1,List.length_range] at hi;rw[(fr q<|by simp).2.length,vX];rw[<- n] at hi;exact hi
 ·rw[List.getElem?_map] at o;let[c,D,rfl]:=Option.map_eq_some_iff.mp o;have L:i<(g.headD (true,[])).2.length:=by have:=(L9.mp D).1;simpa using this
  have:c=i:=by have:=(L9.mp D).2;simpa using this.symm
  subst this;have get:∀ q∈zs,∃ u,q.w[c]?=some u/\bK R B t ((bV q.l).getD c .non) u []:=λq b=>by
   have l1:c<(bV q.l).length:=by
    rw[vX];have:(g.headD (true,[])).2.length<=q.l.length:=(λx o=>X7<|j.2.2 x o) (q.k,q.l) (by rw[<- n];exact M7.mpr #v[q,b,rfl])
    lia
   have e3:(bV q.l)[c]?=some ((bV q.l).getD c .non):=by rw[List.getD_eq_getElem?_getD,E1 l1];rfl
   exact(fr q b).2.item e3
  refine#v[λa d=>?_,λu H3 M=>?_]
  ·let[q,b,rfl]:=M7.mp d;let[u,v,_]:=get q b;exact#v[q.w,u,(fr q b).1,v]
  ·let[pp,us,N,v,rfl,E,rfl]:=M;refine#v[_,Go.newF (cS zd) E,bK.tupNew (cS zd) E ?_];have P:(g.map λx=>bV x.2).map (λl=>l.getD c .non)=zs.map λq=>(bV q.l).getD c .non:=by rw[<- n,U3,U3];rfl
   rw[P];refine uq (by rw[N,L1]) λm q y=>?_;let[u,S,T]:=v m (q.a,q.k) (by rw[List.getElem?_map,y];rfl) q.w (fr q<|List.mem_of_getElem? y).1;let[u',U,V]:=get q<|List.mem_of_getElem? y;cases T.symm.trans U;exact#v[u,S,V]
def Mh(d:X.mg "zip" = none)(h:d9 cl X [a,b] tr pr)(e:Gl X "zip":=by rfl)(f:starEach [a,b] X.env=[(false,eval a X.env),(false,eval b X.env)]:=by rfl)(c:starEach [b] X.env=[(false,eval b X.env)]:=by rfl):
  QI cl X (.Tuple elts n tpos) (.Call (.Name "zip" p) [a,b] [] pos) (lZ X.K 2 tr) (hW 2 pr):=#v[Ft e d h.sem f c,Bv h.den]
def Mi(e:X.mg "zip" = none)(h:d9 cl X [a,b,c] tr pr)(f:Gl X "zip":=by rfl)(g:starEach [a,b,c] X.env=[(false,eval a X.env),(false,eval b X.env),(false,eval c X.env)]:=by rfl)(d:starEach [b,c] X.env=[(false,eval b X.env),(false,eval c X.env)]:=by rfl):
  QI cl X (.Tuple elts n tpos) (.Call (.Name "zip" p) [a,b,c] [] pos) (lZ X.K 3 tr) (hW 3 pr):=#v[Fu f e h.sem g d,Bv h.den]
end QD
namespace QD
open PySem L2
theorem Bw:∀{l m},l.length<=m.length->(List.range l.length).map (sF [l,m])=JV l m
 | [],m,_=>by cases m<;>rfl
 | a::l,[],h=>by simp at h
 | a::l,b::m,h=>by
  rw[M3,List.range_succ_eq_map,L5,U3,JV,<- Bw ⇑h];rfl
def mQ(h1:iC d=some (k,l))(h2:iC e=some (k',m))(h:l.length<=m.length):fT 2 [d,e]=some (JV (bV l)<|bV m):=by
 have a:iD [d,e]=some [(k,l),(k',m)]:=by simp[iD,h1,h2]
 have e2:=Bw (l:=bV l) (m:=bV m) (by rw[vX,vX];exact h);rw[vX] at e2;unfold fT;rw[a,L4,<- e2];simp[h]
theorem Q3:∀{l m n},l.length<=m.length->l.length<=n.length->(List.range l.length).map (sF [l,m,n])=lr l m n
 | [],m,n,_,_=>by cases m<;>cases n<;>rfl
 | a::l,[],_,h,_=>by simp at h
 | a::l,b::m,[],_,h=>by simp at h
 | a::l,b::m,c::n,h,d=>by
  rw[M3,List.range_succ_eq_map,L5,U3,lr,<- Q3 ⇑h ⇑d];rfl
def Mj(h1:iC d=some (k,l))(h2:iC e=some (k',m))(a:iC f=some (k2,n))(h:l.length<=m.length)(h':l.length<=n.length):fT 3 [d,e,f]=some (lr (bV l) (bV m)<|bV n):=by
 have b:iD [d,e,f]=some [(k,l),(k',m),(k2,n)]:=by simp[iD,h1,h2,a]
 have e2:=Q3 (l:=bV l) (m:=bV m) (n:=bV n) (by rw[vX,vX];exact h) (by rw[vX,vX];exact h');rw[vX] at e2;unfold fT;rw[b,L4,<- e2];simp[h,h']
end QD
namespace QD
open PySem L2 PySem.Spec PyProof.Rows
section
variable {R:RC}{Z Z':Zn}{H H':Hp}
def Ml(d:D):Option (List KA×D):=(iW d).bind λl=>(two1 l).bind λp=>(oE p.1).bind λk=>bif frz p.2 then some (k,p.2) else none
def xQ:List D->Option (List<|List KA×D)
 | []=>some []
 | d::l=>(Ml d).bind λp=>(xQ l).bind λr=>some<|p::r
def uU(ds:List D):Option D:=(ux ds).bind λd=>(fP d).bind λl=>(xQ l).bind λps=>bif bW l.length then some (.dT true (sx ps).1 (sx ps).2) else none
structure Mm(R:RC)(Z:Zn)(H:Hp)(ys:List<|List KA×D)(vs:List V)(ps:List<|List cW×Addr×V):Prop where
 l:vs.length=ps.length
 i:∀(j:Nat) (v:V),vs[j]?=some v->∃ kv t,ps[j]?=some kv/\v=.ref t/\cJ R.K H t [.ref kv.2.1,kv.2.2]/\H kv.2.1=some (.tup<|kv.1.map kV)
 k:ps.map (·.1)=ys.map λy=>y.1.map bR
 r:a_ R Z H (ys.map (·.2)) (ps.map (·.2.2)) []
def Mn:∀{l:List D}{ys:List (List KA×D)}{vs:List V}{O:W5},xQ l=some ys->a_ R Z H l vs O->∃ ps,Mm R Z H ys vs ps:=by
 intro l
 induction l with
 | nil=>
  intro ys vs O e r;cases e;rw[a_] at r;let[rfl,_]:=r;exact#v[[],rfl,λj v h=>by simp at h,rfl,a_.empty]
 | cons d l o=>
  intro ys vs O e r;rw[xQ] at e;refine ob e λp c e=>ob e λs e2 e=>?_;cases e;refine ob c λt e3 c=>ob c λq x c=>ob c λk e5 c=>oc c λy c=>?_;cases c;rw[a_] at r;let[v,z,G,I,rfl,_,r1,A]:=r;let[ps,h]:=o e2 A;rw[Y2 e3,two1_of x,Bs e5,bK] at r1;let[a,ws,rfl,B,f]:=r1;rw[a_] at f;let[w,C,J,K,rfl,_,g,f]:=f;rw[bK] at g;let[b,rfl,_,E,_]:=g;rw[a_] at f;let[u,F,L,M,rfl,_,m,f]:=f;rw[a_] at f;let[rfl,_]:=f;cases m.nil y;refine#v[(k.map bR,b,u)::ps,by simp[h.l],λj v n=>?_,by simp[h.k],a_.cons (O:=[]) (P:=[]) m h.r];cases j with
  | zero=>cases n;exact#v[_,a,rfl,rfl,B.sq,E]
  | succ j=>exact h.i j v n
def Mo:BC R (wz R.K) uU:=by
 intro Z H A d vs O z r e Q k;refine ob e λx q e=>ob e λl e2 e=>ob e λs e3 e=>oc e λt e=>?_;cases e;rw[vk q] at r;let[o,rfl]:=qZ e2;let[v,rfl,r1]:=r.one_of;let[p,g,B,rfl,u,j]:=r1.lst_of;let[m,h]:=Mn e3 j;let[c,w,y,f]:=QR (ps:=s) (ks:=[]) (l:=[]) (us:=[]) h.k h.r .empty rfl;refine#v[p,g,m,rfl,u.sq,h.l,?_,h.i,λD n=>?_]
 ·rw[<- h.l,j.length];exact X7 t
 ·refine k (Go.newO (cS z) n) ?_;rw[bK];refine#v[D,c,[],rfl,w.frame (λa z=>z) (λb h=>je<|by rintro rfl;exact z _ h n)<|λa h=>(nomatch h),f,?_,rfl];rw[jj];exact congrArg (λx=>some<|HO.dT x) y.symm
@[simp] def sG(pa pb:PF)(s:Rh):Option D:=(hI pa pb s).bind λk=>some<|.kt k
end
section
variable {cl:Nat->Addr}{X:Cx}{a b e:Expr}{ta tb:TE}{pa pb:PF}{tr:TA}{pr:cF}{pos:Pos}
def Mp{i}{tpos:Pos}(f:QB cl X a ta pa)(h:QB cl X b tb pb)(h1:starEach [a,b] X.env=(false,eval a X.env)::starEach [b] X.env:=by rfl)(h2:starEach [b] X.env=(false,eval b X.env)::starEach [] X.env:=by rfl):
  QP cl X (.Tuple [a,b] i tpos) (le ta tb) (sG pa pb):=#v[JQ<|jJ f.sem (jJ h.sem vU h2) h1,(by
    intro u w Z H O d z s e Q k;refine ob e λc j e=>?_;cases e;exact J1 f.den h.den z s j λg l m=>k g<|by rw[bK];exact#v[_,rfl,l,m,rfl])]
def Mq{k:Nat}{p:Pos}(f:bS k X.A)(g:X.calm=true)(i:X.mg "dict" = none)(j:bootBuiltins "dict" = some (.type "dict"))(d:fo cl X [e] tr pr)(m:Gl X "dict":=by rfl)
  (n:starEach [e] X.env=(false,eval e X.env)::starEach [] X.env:=by rfl) (c:(backTo pos<|starEach [] X.env).any (·.1)=false:=by rfl):
  QP cl X (.Call (.Name "dict" p) [e] [] pos) (f1 (wz X.K) tr) (bZ uU pr):=#v[zw (r:=wz X.K) ((Kn (ok:=λH (x:List cW×Addr×V)=>H x.2.1=some (.tup<|x.1.map kV)) g (λ_ _ _=>(by have:=f.un;omega)) (λh H b=>uj h b)
    λH D l (x:List cW×Addr×V) q s u=>by have:=cR.t (k:=x.1) (b:=x.2.1) (v:=x.2.2) (jj (H:=H) (a:=D) (o:=.dT l)) (JO q s) u;rw[tp] at this;exact this)) m i j d.sem (by decide) (by decide) n c,rm Mo d.den]
end
end QD
namespace L2
open PySem PySem.Spec PyProof.Rows
section
variable {X:Cx}{td:TE}{o:Expr}{x:Str}{pos cpos apos p:Pos}
def sH:Value->V
 | .ref b=>.ref b
 | _=>.non
def Bx(td:TE):TE:=λs H Q=>td s H λx H1=>∃ a rs,x=.ref a/\Rd H1 a (.dT<|rs.map λr=>([.inl r.1,.inr r.2.1],.int r.2.2))/\rs.length<64 /\
 ∀ l (as:W5) H2,(∀ b,H1 b≠none->H2 b=H1 b)->H1 l=none->as.length=rs.length->H2 l=some (.lst<|J6 (VM rs) (as.map V.ref) .non) ->
  (∀(j:Nat) r a,rs[j]?=some r->as[j]?=some a->∃ b,H1 b=some (.tup [.int r.1,.str r.2.1])/\H2 a=some (.tup [.ref b,.int r.2.2]))->Q (.ref l) H2
end
end L2
namespace PySem
open PySem.W
def eD(lt:Nat->Nat->Bool)(n:Nat):List Nat:=if n<2 then List.range n else(dt lt<|kas_sort n).toList
def db{lt}{n}:(eD lt n).Perm (List.range n):=by
 unfold eD;split
 ·exact .refl _
 ·exact(Qa ∅).2
def YU{s}(lt)(vs)(d:s):J6 lt vs d=(eD lt vs.length).map λi=>vs.getD i d:=by
 unfold J6 eD;split
 ·apply List.ext_getElem
  ·simp
  ·intro i a b;simp[a]
 ·rfl
end PySem
namespace QD
open PySem L2 PySem.Spec PyProof.Rows
def Mr:KA->Option Int
 | .int i=>some i
 | _=>none
def Ms:KA->Option (List Nat)
 | .str s=>some s
 | _=>none
def lx:List (List KA)->List D->Option (List gO)
 | [],[]=>some []
 | k::ks,d::l=>(two2 k).bind λp=>(Mr p.1).bind λa=>(Ms p.2).bind λb=>(yS d).bind λn=>(lx ks l).bind λr=>some<|(a,S b,n)::r
 | _,_=>none
theorem By:∀{ks}{l}{rs}{us}{R}{Z}{H},lx ks l=some rs->a_ R Z H l us []->ks.length=l.length/\frzs l=true/\((ks.map<|List.map bR).zip us)=rs.map (λr=>([.inl r.1,.inr r.2.1],.int r.2.2))/\rs.length=l.length
 | [],[],_,_,_,_,_,e,r=>by cases e;let[rfl,_]:=r;exact#v[rfl,rfl,rfl,rfl]
 | [],_::_,_,_,_,_,_,e,_=>by cases e
 | _::_,[],_,_,_,_,_,e,_=>by cases e
 | k::ks,d::l,rs,us,R,Z,H,e,r=>by
  refine ob e λp f e=>ob e λa e2 e=>ob e λb e3 e=>ob e λn c e=>ob e λu e5 e=>?_;cases e;rw[jE c,a_] at r;let[v,vs,w,g,rfl,h,r1,i]:=r;let[rfl,rfl]:=r1.int_of;obtain rfl:g=[]:=by simpa using h.symm
  let[j,m,o,q]:=By e5 i;rw[two2_of f,jE c];have s:bR p.1=.inl a:=by revert e2;cases p.1<;>intro e<;>cases e;rfl
  have t:bR p.2=.inr (S b):=by revert e3;cases p.2<;>intro e<;>cases e;rfl
  exact#v[by simp[j],by rw[kU,m];rfl,by simp[o,s,t],by simp[q]]
theorem z4:∀{ks}{l}{rs},lx ks l=some rs->frzs l=true
 | [],[],_,_=>rfl
 | [],_::_,_,e=>by cases e
 | _::_,[],_,e=>by cases e
 | k::ks,d::l,rs,e=>by
  refine ob e λp f e=>ob e λa e2 e=>ob e λb e3 e=>ob e λn c e=>ob e λg e5 e=>?_;rw[jE c,kU,z4 e5];rfl
@[simp] def sI(fe:FE)(el:KA->KA->Int->D)(s:Rh):Option (D×Rh):=(fe s).bind λt=>(f5 t.1).bind λp=>(lx p.1 p.2).bind λrs=>bif decide (rs.length<64) then(Vh (λ_ _ _=>some true) el (J6 (VM rs) p.1 [])<|J6 (VM rs) p.2 .non).bind λr=>some (.lst true r,t.2) else none
section
variable {R:RC}{te ts:TE}{el:KA->KA->Int->D}
def Go.more{Z}{H H2}{O}(w:WF Z H O)(c:∀ b,H b≠none->H2 b=H b):Go Z H O Z H2 O:=
 ⟨⟨w.nd,w.nz,λa h=>by rw[c a<|w.od a h];exact w.od a h,λa z=>by rw[c a<|w.zd a z];exact w.zd a z⟩,λ_ z=>z,λa h _=>c a h,λ_ z=>.inl z,λ_ h=>.inl h,λa h=>by rw[c a h];exact h⟩
def Mt{fe}(h:DE R ts fe)(he:oC R te el):DE R (Vb (io R.K<|Bx ts) (f0 R.K 2<|JL (vJ 0)<|JL (vJ 1) ge) (λ_ H Q=>Q true H) te [none,none]) (sI fe el):=by
 intro σ ρ ρ' Z H O d w s e Q k;refine ob e λt e5 e=>ob e λp e6 e=>ob e λc e7 e=>oc e λhn e=>ob e λall S e=>?_;cases e;let[x,ρ1]:=t;let[u,l]:=p;cases Vq e6;refine h w s e5 λ{v I T P U} W r s1=>?_;let[X,y,O',rfl,G,o,eJ,rfl]:=r;cases G.nil (z4 e7);let[_,_,Y,hrl]:=By e7 G;refine#v[X,c,rfl,.inl<|Y▸eJ,X7 hn,λL g H2 f hl hal A hT=>.inl #v[L,rfl,#v[_,ck.of A],?_]];have w1:=W.wf;have nd:=w1.nd;simp only[List.singleton_append,List.nodup_cons] at nd;have g2:Go I T ([X]++U) I H2 U:=(Go.more w1 f).drop (λa h=>U5 _ h) nd.2;have nn:∀ b,I b->H2 b=T b:=λb q=>f b<|w1.zd b q;have hul:y.length=l.length:=G.length;have B:g.length=l.length:=by lia
 have q1:=YU (VM c) u ([]:List KA);have J:=YU (VM c) (g.map V.ref) V.non;rw[o] at q1;rw[L1,B] at J;rw[q1,YU (VM c) l D.non] at S;have pl:(eD (VM c) l.length).length=l.length:=by rw[db.length_eq,List.length_range]
 refine xp (λz s0 s1 q e k=>by cases e;exact k<|Go.refl<|cS z) he g2.wf.zd #v[λi M C hi=>?_,λM C=>?_] (xn (G.frame (λ_ z=>z) nn λb q=>(nomatch q))<|eD (VM c) l.length) (by simp) (by rw[L1,pl];exact X5 ∅) S λ{a Z2 M vs} g3 ea ry=>(k (W.trans<|g2.trans<|g3.widen g2.wf) #v[a,vs,[],rfl,ry,ea,rfl]<|g3.slots g2.wf.zd<|s1.frame (λ_ z=>z) nn λb q=>f b<|w1.od b<|U5 _ q)
 ·have E:M L=some (.lst<|(eD (VM c) l.length).map λi=>(g.map V.ref).getD i .non):=by rw[C L (by rw[A];exact λz=>nomatch z),A,J]
  have hi:i<(eD (VM c) l.length).length:=by simpa using hi
  have hj:(eD (VM c) l.length)[i]<l.length:=List.mem_range.mp<|db.mem_iff.mp<|List.getElem_mem hi;generalize hp:(eD (VM c) l.length)[i]=j at hj;have m:(eD (VM c) l.length)[i]?=some j:=by rw[E1 hi,hp]
  have ha:g[j]?=some g[j]:=E1 ∅;have hr:c[j]?=some c[j]:=E1 ∅;let[b,n,F]:=hT j _ _ hr ha;have hx:((g.map V.ref).getD j .non)=.ref g[j]:=by rw[List.getD_eq_getElem?_getD,List.getElem?_map,ha];rfl
  have hz:((u.map<|List.map bR).zip y)[j]?=some ((u.getD j []).map bR,y.getD j .non):=by
   rw[List.getElem?_zip_eq_some,List.getElem?_map,List.getD_eq_getElem?_getD,List.getD_eq_getElem?_getD,E1 ∅,E1 ∅];exact#v[rfl,rfl]
  rw[Y,List.getElem?_map,hr] at hz;let[z1,z2]:=Prod.mk.inj<|X8 hz;refine#v[#v[_,_,ck.of E,by rw[List.getElem?_map,m];rfl],λx H4 N=>?_];let[rfl,N]:=N;have ex:=N _<|ck.of E;rw[List.getElem?_map,m] at ex;cases ex;refine#v[g[j],b,((u.getD j []).map bR,y.getD j .non),List.getElem?_zip_eq_some.mpr #v[by rw[List.getElem?_map,List.getElem?_map,<- o,o,m];rfl,by rw[List.getElem?_map,m];rfl],hx,?_,?_,λz=>Go.refl<|cS z]
  ·show H4 b=some (.tup<|((u.getD j []).map bR).map kV);rw[<- z1,C b (by rw[f b (by rw[n];exact λz=>nomatch z),n];exact λz=>nomatch z),f b (by rw[n];exact λz=>nomatch z),n];rfl
  ·show H4 g[j]=some (.tup [.ref b,y.getD j .non]);rw[<- z2,C _ (by rw[F];exact λz=>nomatch z),F]
 ·exact#v[_,ck.of<|by rw[C L (by rw[A];exact λz=>nomatch z),A,J],by simp]
end
section
variable {cl:Nat->Addr}{X:Cx}{pos:Pos}
def Mu{k}{e}{ts}{fe}{scope}{N'}{elt:Expr}{elts}{m}{tpos apos cpos d p g pe}(B:ca X scope N' [none,none])(hc:X.calm=true)(R:bS k X.A)(hm:X.mg "sorted" = none)(hv:QE cl X e ts fe)
  (hgt:∀ C s H fp,QG cl [] (ya X scope N' C s H fp) (.Tuple elts m tpos) (f0 X.K 2<|JL (vJ 0)<|JL (vJ 1) ge) g)
  (he:∀ C s H fp,QP cl (ya X scope N' C s H fp) elt (fg<|jS (cT (eh X.K) (yj 0)<|tC<|.int 0)<|jS (cT (eh X.K) (yj 0)<|tC<|.int 1)<|jS (yj 1) YC) pe) (hg:Gl X "sorted":=by rfl)
  (L:attributeBase e "items" X.env (eval e X.env)=eval e X.env:=by rfl) (M:(apos.endLine==cpos.line)=true:=by rfl)
  (h1:starEach [.Call (.Attribute e "items" apos) [] [] cpos] X.env=(false,eval (.Call (.Attribute e "items" apos) [] [] cpos) X.env)::starEach [] X.env:=by rfl)
  (h2:(backTo d<|starEach [] X.env).any (·.1)=false:=by rfl)
  (i:backTo d (starEach [.Call (.Attribute e "items" apos) [] [] cpos] X.env)=[(false,eval (.Call (.Attribute e "items" apos) [] [] cpos) X.env)]:=by rfl)
  (hs:∀ z,foldedSetIterable (.Call (.Name "sorted" p) [.Call (.Attribute e "items" apos) [] [] cpos] [] d) X.env z=pure z:=by intro _;rfl):
  QE cl X (.ListComp elt [#v[.Tuple elts m tpos,.Call (.Name "sorted" p) [.Call (.Attribute e "items" apos) [] [] cpos] [] d,[],0]] scope pos)
   (Vb (io X.K<|Bx ts) (f0 X.K 2<|JL (vJ 0)<|JL (vJ 1) ge) (λ_ H Q=>Q true H) (fg<|jS (cT (eh X.K) (yj 0)<|tC<|.int 0)<|jS (cT (eh X.K) (yj 0)<|tC<|.int 1)<|jS (yj 1) YC) [none,none]) (sI fe λa b n=>.tup [d5 a,d5 b,.int n]):=
 ⟨wD B hc (rx ((by
   intro J s σ H Q I h;refine wpAny_Call_Name_kw<|qX I hg hm kH (PyProof.Rows.callWith_builtin1 (Calls.spliced_cons<|wpAny_Call_method0_late L M<|thn (hv.sem J s σ H _ I h) λv s1 hh=>?_) h1 h2) (by decide) (by decide);let[x,w,I1,r1,a,D,ex,ea,hn,q1]:=hh;subst ex;obtain rfl:v=Value.ref a:=r1;let[S,hd,xs,kt,ob,N,ep,Y,e2,e3,e4,_]:=ea.ok I1.hok;have hT:s1.TypeIs (.ref a) "dict":=#v[ob,Y,e2.1];let[f,gg,dd,tk,os]:=s1;refine#v["dict","dict.items",PySem.F.plainAttrs_dict,PySem.F.slot_dict_items,PySem.F.type_dict_items,?_,?_,Calls.callWith_builtin rfl<|PySem.evalArgs_none<|VF (es:=N) (ep:=ep) Y e2 hd<|Calls.spliced_nil ?_]
   ·exact hT
   ·intro b e;cases e;exact#v[ob,Y,e2.2.1]
   have ke:∀ b u,f.get? b=some u->(f.push ({cls:=.type "dict_items",data:=.fields #[.ref a]}:Obj)).get? b=some u:=λb u q=>L8 _ q;have I2:bL X J σ w #v[f.push {cls:=.type "dict_items",data:=.fields #[.ref a]},gg,dd,tk,os]:=I1.kept ke;have kH:(f.push ({cls:=.type "dict_items",data:=.fields #[.ref a]}:Obj)).IsItemsView f.objs.size a:=#v[_,E3 _ rfl,rfl,rfl];generalize f.push ({cls:=.type "dict_items",data:=.fields #[.ref a]}:Obj)=hp2 at *;have esl:N.size=D.length:=by
    have h1:=congrArg List.length e4;have h2:=Paired.length kt;simp at h1 h2
    lia
   have T:∀(j:Nat) en,N[j]?=some en->∃ r b t,D[j]?=some r/\en.key=.ref b/\en.val=.int r.2.2 t/\w b=some (.tup [.int r.1,.str r.2.1]):=by
    intro j en h1;rw[<- Array.getElem?_toList,e4,List.getElem?_map] at h1;let[q,hq,rfl]:=Option.map_eq_some_iff.mp h1;let[v,Z,E,rv]:=y6 kt hq;rw[List.getElem?_map] at Z;let[r,R,e]:=Option.map_eq_some_iff.mp Z;let[e5,rfl]:=Prod.mk.inj e;let[t,ht]:=rv;exact#v[r,q.2.1,t,R,rfl,ht,by rw[E,<- e5];rfl]
   have key:∀ b (r:gO),w b=some (.tup [.int r.1,.str r.2.1])->dy hp2 b (r.1,r.2.1):=by
    intro b r E;obtain⟨_,its,rv,⟨o,g1,g2,n,g3⟩,_⟩:=I2.hok b _ E;cases rv with
    | cons k1 k2=>
     cases k2 with
     | cons k3 k4=>
      cases k4;let[t1,rfl]:=k1;let[t2,rfl]:=k3;exact#v[o,n,t1,t2,g1,g2,g3]
   refine wa (I.ok.hd hc) (by have:=R.units;lia) kH (ke _ _ Y) e3 ∅ (λj en h1=>let ⟨r,b,t,h1,h2,i,G⟩:=T j en h1;#v[r,b,t,h1,h2,i,key b r G]) λk h' y c Z hl g S hlt hL=>?_;have fr:∀ b,hp2.objs.size<=b->w b=none:=λb E=>I2.hok.fresh E;have at_:∀(j:Nat) a,y[j]?=some a->∃(r:gO) (b:Addr) (t:Tok),D[j]?=some r/\w b=some (.tup [.int r.1,.str r.2.1])/\h'.get? a=some {cls:=.type "tuple",data:=.seq #[.ref b,.int r.2.2 t]}/\((N.toList.zip D).map λp=>((.inl p.2.2.2,sH p.1.key):cW×V))[j]?=some (.inl r.2.2,.ref b):=by
    intro j a O;let[en,h1,h2]:=g.at_ j a O;let[r,b,t,i,G,h5,h6]:=T j en h1;rw[G,h5] at h2;refine#v[r,b,t,i,h6,h2,?_];have S:(N.toList.zip D)[j]?=some (en,r):=List.getElem?_zip_eq_some.mpr #v[by rw[Array.getElem?_toList];exact h1,i];rw[List.getElem?_map,S];simp[G,sH]
   generalize(N.toList.zip D).map (λp=>((.inl p.2.2.2,sH p.1.key):cW×V))=kvs at at_;have U:∀ b,w b≠none->(if b=k.objs.size then some (HO.lst<|J6 (VM D) (y.map V.ref) .non) else match (y.zip kvs).find? (λp=>p.1==b) with | some p=>some (.tup [p.2.2,kV p.2.1]) | none=>w b)=w b:=λb E=>by
    rw[if_neg λz=>E<|fr b ∅,yV λz=>E<|fr b<|Nat.le_of_lt (g.ab b z).1]
   have tup:∀ j a,y[j]?=some a->∃(r:gO) (b:Addr) (t:Tok),D[j]?=some r/\w b=some (.tup [.int r.1,.str r.2.1])/\h'.get? a=some {cls:=.type "tuple",data:=.seq #[.ref b,.int r.2.2 t]}/\(if a=k.objs.size then some (HO.lst<|J6 (VM D) (y.map V.ref) .non) else match (y.zip kvs).find? (λp=>p.1==a) with | some p=>some (.tup [p.2.2,kV p.2.1]) | none=>w a)=some (.tup [.ref b,.int r.2.2]):=λj a O=>by
    let[r,b,t,h1,h2,i,G]:=at_ j a O;exact#v[r,b,t,h1,h2,i,by rw[if_neg λz:a=k.objs.size=>(λh=>Nat.lt_irrefl _<|hlt _ h)<|by rw[<- z];exact List.mem_of_getElem? O,YV (g.up.imp N7) O G];rfl]
   refine#v[.ref k.objs.size,λb=>if b=k.objs.size then some (HO.lst<|J6 (VM D) (y.map V.ref) .non) else match (y.zip kvs).find? (λp=>p.1==b) with | some p=>some (.tup [p.2.2,kV p.2.1]) | none=>w b,I2.layAll Z U<|λb u E e=>?_,rfl,q1 k.objs.size y _ U (fr _ S) ∅ (if_pos rfl) λj r a R O=>?_]
   ·by_cases W:b=k.objs.size
    ·subst W;rw[if_pos rfl] at e;cases e;have vv:∀ l:List Addr,bM (l.map V.ref) (l.map Value.ref):=λl=>by
      induction l with
      | nil=>exact .nil
      | cons x l ih=>exact .cons rfl ih
     exact#v[S,by rw[KR,L1,sizeLine_eq];lia,_,c,xu<|vv y,hL]
    ·by_cases P:b∈y
     ·let[j,hj]:=List.mem_iff_getElem?.mp P;let[r,b',t,h1,h2,i,G]:=tup j b hj;cases G.symm.trans e;exact#v[Nat.le_of_lt (g.ab b P).1,show 2<=sizeLine by decide,[.ref b',.int r.2.2 t],.cons rfl<|.cons #v[t,rfl] .nil,#v[_,i,rfl,0,rfl],_,i,rfl]
     ·rw[if_neg W,yV P] at e;exact absurd e (by rw[E];exact λz=>nomatch z)
   ·let[r',b,t,h1,h2,i,G]:=tup j a O;cases h1.symm.trans R;exact#v[b,h2,G]))) (λC s H fp=>(hgt C s H fp).sem) (λC s H fp=>.inl #v[rfl,rfl]) (λC s H fp=>(he C s H fp).sem) hs,Mt hv.den<|@Bg _⟩
end
end QD
namespace L2
open PySem PySem.Spec PyProof.Rows
def Bz(K:W4)(a:Addr)(n:Nat):It:=
 ⟨λi H=>i<n/\∃ xs,ck K H a xs/\xs.length=n,λi H x H'=>H'=H/\∀ xs,ck K H a xs->xs[n-1 - i]?=some x,λi _=>n<=i⟩
section
variable {X:Cx}{tg:Expr}
def Mv{P}{w}{K}{tg}(a j n):dG P w K tg (Bz K a n) [j] j (λi h=>h.IsRevIter j a<|((n-i:Nat):Int)-1) where
 mem:=by simp
 obj:=λi h f b m=>by
  have e:b=j:=by simpa using m
  subst e;let[o,e,c,d]:=f;exact#v[o,e,λv z=>by rw[d] at z;cases z]
 keep:=λi h t f k=>f.at (k j<|by simp)
 item:=by
  intro X x y A L i g s σ H E I q f r;subst x y A;let[hi,O,M,hn]:=r;let[Q,R,p,hz]:=I.list M;have B:n-1 - i<O.length:=by lia
  have N:=E1 B;let[u,S,T]:=R.get N;let[C,D,U,F,G,J]:=q j (by simp);have V:((n-i:Nat):Int)-1=((n-1 - i:Nat):Int):=by lia
  rw[V] at f;refine wpAny_pyNext_rev_item f p.isList ⇑S λt l W=>?_;have Y:bL X g σ H {s with heap:=t}:=I.turned (λb o m e=>(W.2 b m).trans e) C D F G J;let[o,e,c,d]:=id l;rw[show((n-1 - i:Nat):Int)-1=((n-(i+1):Nat):Int)-1 by lia] at l;exact#v[u,rfl,lN e c d (by decide) #v[_,H,Y,T,#v[rfl,λys Z=>by rw[I.list_inj Z M];exact N],l,λb m=>(q b m).1]]
 done:=by
  intro X x y A L i g s σ H E I q f r;subst x y A;let[C,D,U,F,G,J]:=q j (by simp);have r:n<=i:=r;rw[show((n-i:Nat):Int)-1 = -1 by lia] at f;exact wpAny_pyNext_rev_end (I.ok.hd L) f λt eb=>#v[rfl,I.turned (eb) C D F G J]
 self:=λ_ _ _ _ _ f h=>wpAny_pyIter_revIter f h
def BA(K:W4)(ta:TA):TI:=λs H R=>ta s H λvs H1=>∃ a xs,vs=[.ref a]/\ck K H1 a xs/\R (Bz K a xs.length) H1
def Mw{a ta p pos}(j:Gl X "reversed")(k:X.mg "reversed" = none)(l:PA X [a] ta)(m:starEach [a] X.env=[(false,eval a X.env)]:=by rfl):PI X tg (.Call (.Name "reversed" p) [a] [] pos) (BA X.K ta):=by
 intro c s U H R I h;refine Call_<|qX I j k boot_reversed<|PyProof.Rows.callWith_type1 (thn (l pos c s U H _ I h) λy s1 n=>?_) m rfl;let[vs,r,d,r1,b,i,e,t,q]:=n;subst e;let[u,rfl,v]:=r1.one;cases v;let[f,w,p,z]:=d.list t;have A:=w.length;have g:(((i.length-0:Nat):Int)-1)=((f.toArray.size:Int)-1):=by simp;lia
 refine call_reversed_list p.isList<|wpAny_pyIter_revIter #v[_,E3 _ rfl,rfl,rfl] #v[↥s1,[↥s1],_,_,r,rfl,d.kept λb o e=>L8 _ e,Mv b _ i.length,#v[_,E3 _ rfl,rfl,by rw[g];rfl],λb x=>?_,q];have e:b=↥s1:=by simpa using x
 subst e;exact d.fpOk (N0 _)<|d.hok.fresh<|N0 _
end
end L2
namespace QD
open PySem L2 PySem.Spec PyProof.Rows
@[simp] def BD(p:cF)(s:Rh):Option (List D):=(p s).bind λl=>(ux l).bind λx=>(fP x).bind λl=>some (bV l).reverse
def Mx{cl X a tr pr p pos tg}(n:X.mg "reversed" = none)(h:d9 cl X [a] tr pr)(q:Gl X "reversed":=by rfl)(r:starEach [a] X.env=[(false,eval a X.env)]:=by rfl):QI cl X tg (.Call (.Name "reversed" p) [a] [] pos) (BA X.K tr) (BD pr):=#v[Mw q n h.sem r,(by
  intro U W Z H O I z s e Q k;refine ob e λx t e=>ob e λy e2 e=>ob e λl e3 e=>?_;cases e;let[o,rfl]:=qZ e3;cases vk e2;refine h.den z s t λ{vs w J A} B r1=>?_;let[v,rfl,C]:=r1.one_of;let[a,ws,L,rfl,d,f,rfl,_]:=(C.freeze (Z':=λa=>w a\/a∈A) (λa z=>.inl z) λa z=>.inr z);refine#v[a,ws,rfl,FL.sq f,k B.fz ?_];intro D M g j zd i;have m:=(FL.frame g j f).sq;have ln:=d.length;refine#v[λhi=>by show ws.length<=i;rw[List.length_reverse] at hi;lia,λx b=>?_];have hi:i<(bV l).length:=by have:=(L9.mp b).1;simpa using this
  rw[List.getElem?_reverse hi] at b;let[v,E,F]:=(d.frame g j λa G=>(nomatch G)).item b;refine#v[#v[by lia,ws,m,rfl],λu N c=>?_];let[rfl,c]:=c;have e:=c ws m;rw[show ws.length-1 - i=(bV l).length-1 - i by lia,E] at e;cases e;exact#v[D,Go.id zd,F])]
end QD
namespace K55
set_option hygiene false
local macro_rules|`(‹$x›)=>`(some<|.lst false $x)|`(↑$x)=>`(some<|.lst true $x)
local macro_rules|`(#[])=>`(pN)|`(#[$x])=>`(ja $x pN)|`(#[$x,$y,*])=>`(ja $x #[$y,*])
open PySem L2 QD
def cv(i:Nat):Stmt:=PySem.Challenge.pw_tranchefall_k55_losses_in_pieces.main.body.getD i<|.Pass #v[0,0,0,0]
def vb:D:=.tup [.str [112,97,114,116],.str [112,97,121],.str [115,104,97,114,101],.str [114,101,112,97,121],.str [114,101,115,116],.str [103,117,97,114,100]]
def Vx:FS:=(yb<|dP<|bZ fR #[yi (YS<|pV 0) (jc [] 0) qT (pF<|p2 jd (pV 0)<|pI 1) [none]])
def k8:List D->Option D:=cH 1 Vx
def ym:FS:=(cp (cq<|jt<|p2 qr (p2 jd (pV 2)<|pI 0)<|pV 1) (yb<|dP<|pF<|pV 2)
 jT)
def J8:FS:=(jf (qu (dQ<|pF<|p2 jd (pV 0)<|pI 4) (jc [] 2) ym)<|yb<|dP<|pC .non)
def vM:List D->Option D:=cH 3 J8
def vn:FS:=(cp (cq<|jt<|p2 rF (p2 yW (pV 1)<|pV 2)<|pV 3) (yb<|dP<|pF<|pV 4)
 jT)
def qW:FS:=(jf (qu (dQ<|pF<|p2 jd (pV 0)<|pI 5) (gT 3<|gC (jc [] 2)<|gC (jc [] 3)<|gC (jc [] 4) gN) vn)<|yb<|dP<|pF<|p2 jd (p2 jd (p2 jd (pV 0)<|pI 4)<|pI 0)<|pI 0)
def vw:List D->Option D:=cH 5 qW
def qC:FS:=(yb<|dP<|bZ uU #[yi (YS<|pV 0) (gT 3<|gC (jc [] 0)<|gC (jc [] 1)<|gC (jc [] 2) gN) qT (yH #[sG (pV 0)<|pV 1,pF<|pV 2]) [none,none,none]])
def yu:List D->Option D:=cH 1 qC
def JF:FS:=(cp (cq<|jt<|p2 qr (pV 2)<|pS [108,101,110,100]) (oB 0 (pV 1) (pV 3)<|p2 jh (YR (pV 0) (pV 1) (pV 3)<|pI 0)<|pV 4)<|sw 0 (pV 3) (pV 1) (λm n=>m-n)<|pV 4)
def yQ:List D->Option (D×D):=et 5 0 JF
def Jd:FS:=(cp (cq<|fQ (jt<|p2 Km (pV 4)<|pI 0)<|jt<|p2 i7 (p2 jd (pV 3)<|pV 5)<|pV 6) (jf (u4 3 (pV 5) (λi j=>i+j)<|pI 1)<|rL [] 4 (λi j=>i-j)<|pI 1)
 jT)
def Qo:FS:=(jf (ju (dP<|bZ fR #[pV 0])<|jc [] 2)<|jf (cp (cq<|jt<|p2 rF (pV 1)<|pV 2) (yb<|dP<|bZ YO #[pV 0])
 jT)<|jf (ju (dP<|yi (YS<|pV 0) (jc [] 0) qT (p2 jK (p2 va (pV 1)<|pV 0)<|pV 2) [none,some 1,some 2])<|jc [] 3)<|jf (ju (dP<|p2 Yo (pV 1)<|bZ fR #[pV 3])<|jc [] 4)<|jf (qu (xj #[pF<|pV 0]) (gT 2<|gC (jc [] 5)<|gC (jc [] 6) gN) Jd)<|yb<|c7 3)
def Jg:List D->Option D:=cH 7 Qo
def jW:FS:=(jf (ju (dP<|pF<|p2 jd (pV 1)<|pI 0)<|jc [] 2)<|jf (ju (dP<|pF<|p2 jd (pV 1)<|pI 1)<|jc [] 3)<|jf (cp (cq<|jt<|p2 qr (pV 2)<|pS [112,97,121]) (yb<|dP<|pF<|p2 yW (JN 0 "owed"<|pV 0)<|pV 3)
 jT)<|jf (cp (cq<|jt<|p2 qr (pV 2)<|pS [114,101,112,97,121]) (yb<|dP<|p2 jh (p2 yW (JN 0 "owed"<|pV 0)<|pV 3)<|p2 yW (JN 0 "sizes"<|pV 0)<|pV 3)
 jT)<|jf (cp (cq<|jt<|p2 qr (pV 2)<|pS [102,105,108,108]) (yb<|dP<|bZ me #[p2 Yo (p2 yW (JN 0 "marks"<|pV 0)<|pV 3)<|p2 yW (JN 0 "levels"<|pV 0)<|pV 3,pI 0])
 jT)<|jf (cp (cq<|jt<|p2 qr (pV 2)<|pS [108,101,110,100]) (yb<|dP<|bZ me #[p2 Yo (p2 jd (pV 1)<|pI 2)<|YR (JN 0 "loans"<|pV 0) (JN 0 "pool_name"<|pV 0) (pV 3)<|pI 0,pI 0])
 jT)<|jf (cp (cq<|jt<|p2 qr (pV 2)<|pS [98,97,99,107]) (yb<|dP<|pF<|YR (JN 0 "loans"<|pV 0) (pV 3) (JN 0 "pool_name"<|pV 0)<|pI 0)
 jT)<|yb<|dP<|pF<|JN 0 "cash"<|pV 0)
def jg:List D->Option D:=cH 4 jW
def vg:FS:=(jf (ju (dP<|pF<|p2 yW (JN 0 "owed"<|pV 0)<|pV 3)<|jc [0] 4)<|jf (ju (dP<|bZ xB #[pV 4,p2 yW (JN 0 "levels"<|pV 0)<|pV 2])<|jc [0] 5)<|jf (vH 0 (Jp 0 "levels" kR) (pV 2) (λm n=>m-n)<|pV 5)<|jf (vH 0 (Jp 0 "owed" kR) (pV 3) (λm n=>m-n)<|pV 5)<|qt 0 (Jp 0 "entries" kR)<|yH #[pF<|pV 1,pS [103,117,97,114,100],pF<|pV 3,pF<|pV 4,pF<|pV 5])
def yB:List D->Option (D×D):=et 6 0 vg
def jH:FS:=(jf (ju (dP<|i3 (p2 Km (p2 yW (pV 2)<|pV 4)<|pI 0)<|p2 (mE true) (pV 4)<|JN 0 "served"<|pV 0)<|jc [] 6)<|fI 3<|yH #[pF<|pV 4,f9 (jt<|pV 6) (p2 jh (pV 5)<|pI 1)<|pI 0])
def kI:FS:=(jf (ju (dP<|bZ yZ #[p2 jd (pV 1)<|pI 0])<|jc [] 2)<|jf (ju (dP<|YK pN)<|jc [] 3)<|jf (qu (dQ<|pF<|p2 jd (pV 1)<|pI 2) (gT 2<|gC (jc [] 4)<|gC (jc [] 5) gN) jH)<|yb<|Qd<|jr (dP<|yP<|JN 0 "sizes"<|pV 0)<|jr (dP<|yP<|JN 0 "owed"<|pV 0)<|jr (c7 3)<|jr (dP<|yP<|JN 0 "levels"<|pV 0)<|jr (dP<|pF<|p2 jd (pV 1)<|pI 4) Js)
def jN:List D->Option D:=cH 7 kI
def VO:FS:=(jf (ju (dP<|bZ xB #[pV 4,p2 yW (pV 3)<|pV 7])<|jc [] 8)<|jf (fI 5<|yH #[pF<|pV 6,pS [101,97,116],pF<|pV 7,pF<|pV 4,pF<|pV 8])<|jf (AT 3 (pV 7) (λm n=>m-n)<|pV 8)<|rL [] 4 (λi j=>i-j)<|pV 8)
def BE:FS:=(jf (ju (dP<|bZ yZ #[p2 jd (pV 1)<|pI 0])<|jc [] 3)<|jf (ju (dP<|pF<|pV 2)<|jc [] 4)<|jf (ju (dP<|YK pN)<|jc [] 5)<|jf (qu (xj #[pF<|p2 jd (pV 0)<|pI 3]) (gT 2<|gC (jc [] 6)<|gC (jc [] 7) gN) VO)<|jf (ju (dP<|yi (YS<|p2 jd (pV 1)<|pI 1) (gT 2<|gC (jc [] 0)<|gC (jc [] 1) gN) qT (yH #[pF<|pV 0,f9 (jt<|p2 Km (p2 yW (pV 2)<|pV 0)<|pI 0) (pF<|pV 1)<|pI 0]) [none,none,some 3])<|jc [] 9)<|yb<|Qd<|jr (c7 5)<|jr (Qd<|jr (dP<|yP<|pV 3)<|jr (c7 9)<|jr (dP<|bZ YO #[p2 jd (pV 1)<|pI 2])<|jr (dP<|bZ YO #[p2 jd (pV 1)<|pI 3])<|jr (dP<|p2 jh (p2 jd (pV 1)<|pI 4)<|pV 4) Js) Js)
def Qi:List D->Option D:=cH 10 BE
def YJ:FS:=(jf (ju (dP<|yi (YS<|p2 jd (pV 0)<|pI 1) (jc [] 0) qT (yH #[pF<|p2 jd (pV 0)<|pI 0,pF<|p2 jd (pV 0)<|pI 1]) [none])<|jc [] 1)<|jf (ju (dP<|yi (YS<|p2 jd (pV 0)<|pI 1) (jc [] 0) qT (yH #[pF<|p2 jd (pV 0)<|pI 0,pI 0]) [none])<|jc [] 2)<|jf (ju (dP<|yi (YS<|p2 jd (pV 0)<|pI 1) (jc [] 0) qT (yH #[pF<|p2 jd (pV 0)<|pI 0,pI 0]) [none])<|jc [] 3)<|yb<|Qd<|jr (c7 1)<|jr (c7 2)<|jr (c7 3)<|jr (dP<|yi (YS<|p2 jd (pV 0)<|pI 2) (jc [] 0) qT (yH #[pF<|p2 jd (pV 0)<|pI 0,pI 0]) [none])<|jr (dP<|pI 0) Js)
def vx:List D->Option D:=cH 4 YJ
def Vi:FS:=(jf (ju (dP<|bZ yZ #[p2 jd (pV 1)<|pI 0])<|jc [] 2)<|jf (ju (dP<|bZ yZ #[yi (YS<|p2 jd (pV 0)<|pI 1) (jc [] 0) qT (yH #[pF<|p2 jd (pV 0)<|pI 0,pF<|p2 jd (pV 0)<|pI 2]) [none]])<|jc [] 3)<|jf (ju (dP<|yi (YS<|p2 jd (pV 1)<|pI 1) (gT 2<|gC (jc [] 0)<|gC (jc [] 1) gN) qT (yH #[pF<|pV 0,f9 (jt<|p2 Km (p2 yW (pV 2)<|pV 0)<|pI 0) (p2 jh (pV 1)<|p2 yW (pV 3)<|pV 0)<|pF<|pV 1]) [none,none,some 2,some 3])<|jc [] 4)<|cU 4<|yb<|dP<|yH #[pF<|p2 jd (pV 1)<|pI 0,pF<|pV 4,pF<|p2 jd (pV 1)<|pI 2,pF<|p2 jd (pV 1)<|pI 3,pF<|p2 jd (pV 1)<|pI 4])
def qo:List D->Option D:=cH 5 Vi
def qc:FS:=(jf (ju (Bt<|hI (p2 jd (pV 4)<|pI 3)<|p2 jd (pV 4)<|pI 4)<|jc [] 5)<|zE 1 (sE 5)<|p2 jh (su (pV 1) (sE 5)<|pI 0)<|p2 jd (pV 4)<|pI 6)
def qd:FS:=(qu (dQ<|pF<|pV 3) (jc [] 4) qc)
def VC:FS:=(jf (ju (dP<|pC<|.dT true [] [])<|jc [] 1)<|jf (qu (dQ<|pF<|pV 0) (gT 2<|gC (jc [] 2)<|gC (jc [] 3) gN) qd)<|yb<|c7 1)
def qh:List D->Option D:=cH 6 VC
def kh:FS:=(AS 1 (pV 5)<|p2 jh (p3 KI (pV 1) (pV 5)<|pI 0)<|bZ xB #[pV 6,pI 1])
def kc:FS:=(qu (dQ<|pF<|p2 jd (pV 4)<|pI 2) (gT 2<|gC (jc [] 5)<|gC (jc [] 6) gN) kh)
def vY:FS:=(qu (dQ<|pF<|p2 jd (pV 2)<|pI 0) (jc [] 4) kc)
def J7:FS:=(jf (ju (dP<|pC<|.dK true [] [])<|jc [] 1)<|jf (qu (dQ<|pF<|pV 0) (gT 2<|gC (jc [] 2)<|gC (jc [] 3) gN) vY)<|yb<|c7 1)
def vI:List D->Option D:=cH 7 J7
def yL:FS:=(oB 3 (pV 4) (pV 5)<|p2 jh (YR (pV 3) (pV 4) (pV 5)<|pI 0)<|pV 6)
def yM:FS:=(jf (ju (dP<|yi (hW 2 #[pF<|pV 0,pF<|p2 jd (pV 8)<|pI 1]) (gT 2<|gC (jc [] 0)<|gC (jc [] 1) gN) qT (p2 jh (pV 1)<|YR (pV 2) (pV 3) (p2 jd (pV 0)<|pI 0)<|pI 0) [none,none,some 3,some 4])<|jc [] 9)<|Vs 7<|Qd<|jr (dP<|bZ YO #[p2 jd (pV 8)<|pI 0])<|jr (c7 9) Js)
def Jt:FS:=(jf (ju (dP<|pC<|.dT true [] [])<|jc [] 3)<|jf (qu (dQ<|pF<|pV 2) (gT 3<|gC (jc [] 4)<|gC (jc [] 5)<|gC (jc [] 6) gN) yL)<|jf (ju (dP<|YK pN)<|jc [] 7)<|jf (qu (hE #[pF<|pV 1] (pI 1)) (gT 2<|gC (jc [] 4)<|gC (jc [] 8) gN) yM)<|yb<|c7 7)
def yG:List D->Option D:=cH 10 Jt
def VN:FS:=(yb<|dP<|yH #[pF<|p2 jd (pV 0)<|pI 0,pF<|p2 jd (pV 0)<|pI 1,bZ mP #[i8 (pV 0) (oS<|pI 2)<|oS<|pI 8],bZ mP #[i8 (pV 1) (oS<|pI 2)<|oS<|pI 8],pF<|p2 jd (pV 0)<|pI 10,pF<|p2 jd (pV 1)<|pI 10])
def vW:List D->Option D:=cH 2 VN
def Jx:FS:=(jf (ju (dP<|pS [112,111,111,108,32,99,108,97,105,109,32,112,111,116,32,101,97,116,32,111,114,100,101,114,32,112,97,114,116,32,112,97,121,32,115,104,97,114,101,32,114,101,112,97,121,32,102,105,108,108,32,108,101,110,100,32,98,97,99,107,32,114,101,115,116,32,108,111,111,107,32,103,117,97,114,100,32,100,101,98,116,32,111,110,32,108,97,116,101,32,101,97,114,108,121,32,113,117,105,116])<|jc [] 0)<|yb<|dP<|mj "str" zc (pV 0) #[pS [32]])
def vp:List D->Option D:=cH 1 Jx
def Ye:FS:=(jf (ju (dP<|pI 0)<|jc [] 2)<|jf (cp (cq<|jt<|p2 Km (bZ Jq #[pV 0])<|pI 0) (ju (dP<|pF<|p2 jd (pV 0)<|p2 ji (pV 1)<|bZ Jq #[pV 0])<|jc [] 2)
 jT)<|jf (ju (dP<|p2 jh (pI 91343852333181432387730302044767688731)<|p2 VP (p2 VP (pI 7919000003)<|pV 1)<|pV 1)<|jc [] 3)<|yb<|dP<|p2 ji (p2 VP (p2 jh (p2 jh (pV 2)<|pV 1)<|pI 1)<|pV 3)<|pI 170141183460469231731687303715884105727)
def jD:List D->Option D:=cH 4 Ye
def vV:FS:=(jf (cp (cq<|jt<|p2 qr (p2 ji (pV 0)<|pI 4)<|pI 0) (yb<|dP<|pF<|p2 jd (YK #[pI 1,p2 vR (pI 10)<|pI 12])<|p2 ji (p2 jK (pV 0)<|pI 4)<|pI 2)
 jT)<|jf (cp (cq<|jt<|p2 qr (p2 ji (pV 0)<|pI 4)<|pI 1) (yb<|dP<|p2 jh (pI 1)<|p2 ji (p2 jK (pV 0)<|pI 4)<|pI 20)
 jT)<|yb<|dP<|p2 jh (pI 1)<|p2 ji (p2 jK (pV 0)<|pI 4)<|p2 vR (pI 10)<|pI 12)
def jF:List D->Option D:=cH 1 vV
def jI:FS:=(jf (cp (cq<|jt<|p2 qr (p2 jd (pV 3)<|pI 0)<|pS [115,104,97,114,101]) (iz 1<|p2 jd (pV 3)<|pI 1)
 jT)<|cp (cq<|jt<|p2 qr (p2 jd (pV 3)<|pI 0)<|pS [114,101,112,97,121]) (fI 1<|pF<|p2 jd (pV 3)<|pI 1)
 jT)
def yE:FS:=(qu (dQ<|pF<|p2 jd (pV 2)<|pI 2) (jc [] 3) jI)
def kC:FS:=(jf (ju (dP<|YK pN)<|jc [] 1)<|jf (qu (dQ<|pF<|pV 0) (jc [] 2) yE)<|yb<|c7 1)
def yg:List D->Option D:=cH 4 kC
def yq:FS:=(jf (ju (dP<|p2 ji (pV 0)<|pI 6)<|jc [] 1)<|jf (cp (cq<|jt<|p2 qr (pV 1)<|pI 0) (yb<|dP<|pI 0)
 jT)<|jf (cp (cq<|jt<|p2 i7 (pV 1)<|pI 3) (yb<|dP<|p2 ji (p2 jK (pV 0)<|pI 6)<|pI 60)
 jT)<|jf (cp (cq<|jt<|p2 qr (pV 1)<|pI 3) (yb<|dP<|p2 ji (p2 jK (pV 0)<|pI 6)<|pI 2000)
 jT)<|jf (cp (cq<|jt<|p2 qr (pV 1)<|pI 4) (yb<|dP<|p2 ji (p2 jK (pV 0)<|pI 6)<|p2 vR (pI 10)<|pI 13)
 jT)<|yb<|dP<|p2 ji (p2 jK (pV 0)<|pI 6)<|p2 vR (pI 10)<|pI 30)
def jV:List D->Option D:=cH 2 yq
def vj:FS:=(jf (ju (dP<|p2 ji (pV 0)<|pI 6)<|jc [] 1)<|jf (cp (cq<|jt<|p2 i7 (pV 1)<|pI 3) (yb<|dP<|pI 0)
 jT)<|jf (cp (cq<|jt<|p2 qr (pV 1)<|pI 3) (yb<|dP<|p2 ji (p2 jK (pV 0)<|pI 6)<|pI 40)
 jT)<|jf (cp (cq<|jt<|p2 qr (pV 1)<|pI 4) (yb<|dP<|p2 ji (p2 jK (pV 0)<|pI 6)<|p2 vR (pI 10)<|pI 13)
 jT)<|yb<|dP<|p2 ji (p2 jK (pV 0)<|pI 6)<|p2 vR (pI 10)<|pI 29)
def yA:List D->Option D:=cH 2 vj
def vm:FS:=(jf (ju (dP<|p2 ji (pV 3)<|p2 jh (pV 8)<|pI 1)<|jc [] 9)<|jf (lw 5 (p2 ji (pV 3)<|p2 jh (bZ Jq #[pV 5])<|pI 1)<|yH #[pF<|pV 6,pF<|pV 7,pF<|pV 9])<|fI 5<|yH #[pF<|pV 6,pF<|pV 7,p2 Yo (pV 8)<|pV 9])
def Yz:FS:=(jf (ju (dP<|YK #[yH #[pI 1,pF<|p2 jd (p2 jd (pV 1)<|pI 0)<|pI 0,pI 0],yH #[pI 1,pF<|pV 4,pI 5],yH #[p2 jh (bZ Jq #[pV 2])<|pI 1,pF<|p2 jd (p2 jd (pV 1)<|pI 0)<|pI 0,pI 7]])<|jc [] 5)<|jf (qu (BD #[pF<|pV 0]) (gT 3<|gC (jc [] 6)<|gC (jc [] 7)<|gC (jc [] 8) gN) vm)<|yb<|c7 5)
def kK:List D->Option D:=cH 10 Yz
def kn:FS:=(oB 1 (pV 2) (pV 3)<|p2 jh (YR (pV 1) (pV 2) (pV 3)<|pI 0)<|pV 4)
def Ky:FS:=(jf (ju (dP<|pC<|.dT true [] [])<|jc [] 1)<|jf (qu (dQ<|pF<|pV 0) (gT 3<|gC (jc [] 2)<|gC (jc [] 3)<|gC (jc [] 4) gN) kn)<|yb<|sI (c7 1)<|λa b n=>.tup [d5 a,d5 b,.int n])
def Ji:List D->Option D:=cH 5 Ky
def wL:FS:=(jf (ju (dP<|js k8 #[pV 0])<|jc [] 2)<|jf (cp (cq<|jt<|p2 Km (pV 2)<|pI 10) (jf (ju (dP<|yi (YS<|pV 0) (jc [] 0) qT (p2 jK (p2 jh (p2 va (pV 1)<|p2 jd (pV 0)<|pI 1)<|pI 9)<|pI 10) [none,some 1])<|jc [] 3)<|yb<|r9 3 #[p2 Yo (bZ fR #[pV 3])<|pV 1])
 jT)<|jf (ju (dP<|yi (YS<|pV 0) (jc [] 0) qT (p2 jK (p2 va (pV 1)<|p2 jd (pV 0)<|pI 1)<|pI 10) [none,some 1])<|jc [] 3)<|jf (ju (dP<|p2 Yo (p2 jK (p2 va (pV 1)<|pV 2)<|pI 10)<|bZ fR #[pV 3])<|jc [] 4)<|cU 3<|yb<|dP<|yH #[yi (xj #[pF<|pV 3]) (gT 2<|gC (jc [] 0)<|gC (jc [] 1) gN) qT (f9 (jt<|p2 i7 (pV 0)<|pV 2) (p2 jh (pV 1)<|pI 1)<|pF<|pV 1) [none,none,some 4],pI 0])
def Vw:List D->Option D:=cH 5 wL
def vG:FS:=(Ql<|Yw yQ 3 kR #[pF<|pV 1,pF<|pV 4,pF<|pV 5,pF<|pV 6])
def JB:FS:=(jf (ju (dP<|js yu #[pV 0])<|jc [] 3)<|jf (qu (dQ<|pF<|pV 2) (gT 3<|gC (jc [] 4)<|gC (jc [] 5)<|gC (jc [] 6) gN) vG)<|yb<|f6 KM<|jr (Bj 3) Js)
def vq:List D->Option D:=cH 7 JB
def qN:FS:=(jf (Yq 0 0 "pool_name"<|pF<|p2 jd (pV 1)<|pI 0)<|jf (Yq 0 0 "marks"<|bZ yZ #[p2 jd (pV 1)<|pI 2])<|jf (Yq 0 0 "sizes"<|bZ yZ #[p2 jd (pV 2)<|pI 0])<|jf (Yq 0 0 "owed"<|bZ yZ #[p2 jd (pV 2)<|pI 1])<|jf (Yq 0 0 "levels"<|bZ yZ #[p2 jd (pV 2)<|pI 3])<|jf (Yq 0 0 "loans"<|js yu #[pV 4])<|jf (Yq 0 0 "cash"<|pF<|pV 3)<|jf (Yq 0 0 "served"<|pC<|.dK true [] [])<|jf (Yq 0 0 "entries"<|YK pN)<|Yq 0 0 "moves"<|YK pN)
def yU:List D->Option (D×D):=et 5 0 qN
def yO:FS:=(cp (cq<|jt<|p2 qr (pV 1)<|pS [112,97,121]) (vH 0 (Jp 0 "owed" kR) (pV 2) (λm n=>m-n)<|pV 3)<|cp (cq<|jt<|p2 qr (pV 1)<|pS [114,101,112,97,121]) (jf (ju (dP<|bZ xB #[pV 3,p2 yW (JN 0 "owed"<|pV 0)<|pV 2])<|jc [0] 4)<|jf (vH 0 (Jp 0 "owed" kR) (pV 2) (λm n=>m-n)<|pV 4)<|vH 0 (Jp 0 "sizes" kR) (pV 2) (λm n=>m-n)<|p2 Yo (pV 3)<|pV 4)<|cp (cq<|jt<|p2 qr (pV 1)<|pS [102,105,108,108]) (vH 0 (Jp 0 "levels" kR) (pV 2) (λm n=>m+n)<|pV 3)<|cp (cq<|fQ (jt<|p2 (QH false) (pV 1)<|yH #[pS [108,101,110,100],pS [98,97,99,107]])<|jt<|p2 Km (pV 3)<|pI 0) (jf (Ql<|Yw yQ 0 (Jp 0 "loans" kR) #[pF<|JN 0 "pool_name"<|pV 0,pF<|pV 1,pF<|pV 2,pF<|pV 3])<|qt 0 (Jp 0 "moves" kR)<|yH #[pF<|pV 1,pF<|pV 2,pF<|pV 3])
 jT)
def jw:List D->Option (D×D):=et 5 0 yO
def yN:FS:=(jf (VQ 0 kR 0 "cash" (λm n=>m-n)<|pV 8)<|jf (vH 0 (Jp 0 "owed" kR) (pV 6) (λm n=>m-n)<|pV 8)<|jf (qt 0 (Jp 0 "entries" kR)<|yH #[pF<|pV 1,pS [115,104,97,114,101],pF<|pV 6,pF<|pV 7,pF<|pV 8])<|cp (cq<|jt<|pV 5) (Vl 0 (Jp 0 "served" kR) (pV 6)<|pC<|.bl true)
 jT)
def vi:FS:=(jf (ju (dP<|yi (YS<|pV 2) (jc [] 0) qT (pF<|p2 yW (JN 0 "owed"<|pV 1)<|pV 0) [none,some 0])<|jc [0] 3)<|jf (ju (dP<|js Jg #[pV 3,JN 0 "cash"<|pV 0])<|jc [0] 4)<|jf (ju (dP<|i3 (p2 Km (bZ fR #[pV 3])<|pI 0)<|p2 qr (pV 4)<|pV 3)<|jc [0] 5)<|cU 3<|cU 4<|qu (hW 3 #[pF<|pV 2,pF<|pV 3,pF<|pV 4]) (gT 3<|gC (jc [0] 6)<|gC (jc [0] 7)<|gC (jc [0] 8) gN) yN)
def jR:List D->Option (D×D):=et 9 0 vi
def BF:FS:=(yb<|dP<|yH #[yi (YS<|pV 0) (jc [] 0) qT (js vx #[pV 0]) [none],YK pN,yi (YS<|pV 0) (jc [] 0) qT (pI 0) [none]])
def Vk:List D->Option D:=cH 1 BF
def Vp:FS:=(yb<|dP<|js vw #[pV 0,bZ yZ #[p2 jd (pV 1)<|pI 2]])
def v8:List D->Option D:=cH 2 Vp
def Ke:FS:=(jf (ju (dP<|p2 jh (p2 jd (pV 1)<|pI 0)<|pI 1)<|nM [1] 1<|pI 0)<|yb<|dP<|js jD #[pV 0,p2 jd (pV 1)<|pI 0])
def jo:List D->Option (D×D):=et 2 1 Ke
def Yj:FS:=(jf (ju (dP<|pS [97,98,99,100,101,102,103,104,105,106,107,108,109,110,111,112,113,114,115,116,117,118,119,120,121,122])<|jc [] 2)<|jf (ju (dP<|p2 jh (pI 2)<|p2 ji (pV 0)<|pI 6)<|jc [] 3)<|jf (ju (dP<|p2 ji (p2 jK (pV 0)<|pI 6)<|p2 Yo (pV 3)<|pI 1)<|jc [] 4)<|jf (ju (dP<|mj "str" la (pS []) #[yi (ql #[pV 3]) (jc [] 0) qT (pF<|p2 jd (pV 1)<|p2 ji (p2 jh (p2 jK (pV 2)<|pI 42)<|p2 va (p2 va (pV 0)<|pV 0)<|p2 ji (p2 jK (pV 2)<|pI 1100)<|pI 5)<|pI 26) [none,some 2,some 0]])<|jc [] 5)<|jf (ju (dP<|p2 jh (p2 jd (pV 2)<|p2 ji (p2 jh (p2 jK (pV 0)<|pI 7)<|p2 jK (pV 1)<|pI 26)<|pI 26)<|p2 jd (pV 2)<|p2 ji (p2 jh (p2 jK (pV 0)<|pI 3)<|pV 1)<|pI 26)<|jc [] 6)<|jf (ju (dP<|p2 jh (p2 jh (i8 (pV 5) oN<|oS<|pV 4)<|pV 6)<|i8 (pV 5) (oS<|p2 jh (pV 4)<|pI 2) oN)<|jc [] 5)<|jf (cp (cq<|jt<|p2 (QH false) (pV 5)<|js vp pN) (ju (dP<|p2 jh (pV 5)<|pS [122])<|jc [] 5)
 jT)<|yb<|c7 5)
def jn:List D->Option D:=cH 7 Yj
def Yd:FS:=(jf (ju (dP<|p2 ji (pV 0)<|pI 7)<|jc [] 4)<|jf (ju (dP<|bZ Jq #[pV 1])<|jc [] 5)<|jf (ju (dP<|pF<|p2 jd (p2 jd (pV 1)<|p2 ji (p2 jK (pV 0)<|pI 7)<|pV 5)<|pI 0)<|jc [] 6)<|jf (cp (cq<|fQ (jt<|p2 qr (pV 4)<|pI 1)<|jt<|p2 Km (pV 5)<|pI 1) (jf (ju (dP<|p2 jh (pI 2)<|p2 ji (p2 jK (pV 0)<|pI 50)<|p2 Yo (pV 5)<|pI 1)<|jc [] 7)<|yb<|dP<|yH #[pS [115,104,97,114,101],bZ Kb #[yi (ql #[pV 7]) (jc [] 0) qT (pF<|p2 jd (p2 jd (pV 1)<|p2 ji (p2 jh (p2 jK (pV 2)<|pI 400)<|pV 0)<|pV 3)<|pI 0) [none,some 1,some 0,some 5]]])
 jT)<|jf (cp (cq<|jt<|p2 qr (pV 4)<|pI 2) (yb<|dP<|yH #[pS [114,101,112,97,121],pF<|pV 6])
 jT)<|jf (cp (cq<|fQ (jt<|p2 qr (pV 4)<|pI 3)<|jt<|p2 Km (bZ Jq #[pV 2])<|pI 0) (yb<|dP<|yH #[pS [102,105,108,108],pF<|p2 jd (p2 jd (pV 2)<|p2 ji (p2 jK (pV 0)<|pI 50)<|bZ Jq #[pV 2])<|pI 0])
 jT)<|jf (cp (cq<|fQ (jt<|p2 qr (pV 4)<|pI 4)<|jt<|p2 Km (bZ Jq #[pV 3])<|pI 0) (yb<|dP<|yH #[pS [108,101,110,100],pF<|p2 jd (pV 3)<|p2 ji (p2 jK (pV 0)<|pI 50)<|bZ Jq #[pV 3],js jF #[p2 jK (pV 0)<|pI 400]])
 jT)<|jf (cp (cq<|fQ (jt<|p2 qr (pV 4)<|pI 5)<|jt<|p2 Km (bZ Jq #[pV 3])<|pI 0) (yb<|dP<|yH #[pS [98,97,99,107],pF<|p2 jd (pV 3)<|p2 ji (p2 jK (pV 0)<|pI 50)<|bZ Jq #[pV 3]])
 jT)<|yb<|dP<|yH #[pS [112,97,121],pF<|pV 6])
def vO:List D->Option D:=cH 8 Yd
def qD:FS:=(jf (ju (dP<|yi (ql #[bZ Jq #[pV 1]]) (jc [] 0) qT (js jV #[js jD #[pV 1,p2 jh (p2 jh (pI 700)<|p2 va (pI 12)<|pV 2)<|pV 0]]) [none,some 0,some 3])<|jc [] 4)<|jf (ju (dP<|yi (ql #[bZ Jq #[pV 1]]) (jc [] 0) qT (js yA #[js jD #[pV 1,p2 jh (p2 jh (pI 706)<|p2 va (pI 12)<|pV 2)<|pV 0]]) [none,some 0,some 3])<|jc [] 5)<|cU 4<|cU 5<|fI 2<|yH #[pF<|pV 4,pF<|pV 5])
def Kg:FS:=(jf (ju (dP<|YK pN)<|jc [] 2)<|jf (qu (ql #[p2 ji (js jD #[pV 0,pI 690])<|pI 7]) (jc [] 3) qD)<|yb<|c7 2)
def Jk:List D->Option D:=cH 6 Kg
def kf:FS:=(jf (ju (dP<|pF<|p2 jd (p2 jd (pV 3)<|pI 0)<|pV 4)<|jc [0] 6)<|jf (ju (dP<|bZ xB #[pV 6,JN 0 "cash"<|pV 0])<|jc [0] 7)<|jf (VQ 0 kR 0 "cash" (λm n=>m-n)<|pV 7)<|qt 0 (Jp 0 "entries" kR)<|yH #[pF<|pV 4,pS [112,97,114,116],pF<|p2 jd (pV 5)<|pI 0,pF<|pV 6,pF<|pV 7])
def ve:FS:=(jf (ju (dP<|pF<|JN 0 "cash"<|pV 0)<|jc [0] 2)<|jf (ju (dP<|js Vw #[pV 1,pV 2])<|jc [0] 3)<|jf (qu (xj #[pF<|pV 1]) (gT 2<|gC (jc [0] 4)<|gC (jc [0] 5) gN) kf)<|cp (cq<|jt<|p2 Km (p2 jd (pV 3)<|pI 1)<|pI 0) (qt 0 (Jp 0 "entries" kR)<|yH #[p1 xK<|pI 1,pS [116,119,105,99,101],pS [],bZ fR #[p2 jd (pV 3)<|pI 0],pF<|pV 2])
 jT)
def jP:List D->Option (D×D):=et 8 0 ve
def yc:FS:=(jf (ju (dP<|pF<|p2 jd (pV 2)<|pI 0)<|jc [0] 3)<|jf (ju (dP<|pF<|p2 jd (pV 2)<|pI 1)<|jc [0] 4)<|jf (ju (dP<|Yx jg 0 "need_of" (pV 0) #[pV 2])<|jc [0] 5)<|jf (ju (dP<|bZ xB #[pV 5,JN 0 "cash"<|pV 0])<|jc [0] 6)<|jf (VQ 0 kR 0 "cash" (λm n=>m-n)<|pV 6)<|jf (qt 0 (Jp 0 "entries" kR)<|yH #[pF<|pV 1,pF<|pV 3,pF<|pV 4,pF<|pV 5,pF<|pV 6])<|jf (Ql<|vA jw 0 0 "give" #[pF<|pV 3,pF<|pV 4,pF<|pV 6])<|cp (cq<|fQ (jt<|p2 (QH false) (pV 3)<|yH #[pS [112,97,121],pS [114,101,112,97,121]])<|fQ (jt<|p2 qr (pV 6)<|pV 5)<|jt<|p2 Km (pV 5)<|pI 0) (Vl 0 (Jp 0 "served" kR) (pV 4)<|pC<|.bl true)
 jT)
def jv:List D->Option (D×D):=et 7 0 yc
def qK:FS:=(yb<|dP<|f9 (jt<|p2 Km (bZ Jq #[pV 1])<|pI 0) (pF<|p2 jd (p2 jd (pV 1)<|p1 xK<|pI 1)<|pI 0)<|js Vk #[pV 0])
def vB:List D->Option D:=cH 2 qK
def vK:FS:=(Vs 8<|Qd<|jr (dP<|pF<|p2 jd (p2 jd (pV 3)<|p2 ji (p2 jh (p2 jK (pV 6)<|pI 100)<|pV 9)<|pV 7)<|pI 0)<|jr (eo jh (dP<|pI 1)<|eo ji (j9 jo 1 1<|ja (pF<|pV 0)<|du pN)<|dP<|pI 10) Js)
def Vy:FS:=(jf (ju (j9 jo 1 1<|ja (pF<|pV 0)<|du pN)<|jc [1] 6)<|jf (ju (dP<|bZ Jq #[pV 3])<|jc [1] 7)<|jf (ju (dP<|YK pN)<|jc [1] 8)<|jf (qu (ql #[p2 va (p2 ji (pV 6)<|p2 jh (pV 7)<|pI 1)<|p2 ji (p2 jK (pV 6)<|pI 10)<|pI 2]) (jc [1] 9) vK)<|jf (ju (QY (ql #[p2 ji (p2 jK (pV 6)<|pI 1000)<|pI 9]) (jc [2] 0) (kr vO<|jr (j9 jo 2 1<|ja (pF<|pV 1)<|du pN)<|jr (dP<|pF<|pV 3)<|jr (dP<|pF<|pV 4)<|jr (dP<|pF<|pV 5) Js) [none,some 0,some 1,some 3,some 4,some 5] 1 2)<|jc [1] 10)<|jf (fI 10<|yH #[pS [114,101,115,116],pF<|p2 jd (p2 jd (pV 3)<|p2 ji (p2 jK (pV 6)<|pI 10000)<|pV 7)<|pI 0])<|yb<|Qd<|jr (dP<|pF<|pV 2)<|jr (c7 8)<|jr (c7 10) Js)
def v9:List D->Option (D×D):=et 11 1 Vy
def kN:FS:=(Vs 7<|Qd<|jr (eo (oF jd) (eo (oF jd) (dP<|pF<|pV 3)<|eo ji (j9 jo 1 1<|ja (pF<|pV 0)<|du pN)<|dP<|bZ Jq #[pV 3])<|dP<|pI 0)<|jr (dP<|pF<|p2 jd (pV 6)<|pV 8) Js)
def qM:FS:=(jf (ju (dP<|js yg #[pV 4])<|jc [1] 5)<|jf (ju (dP<|yi (YS<|pV 2) (jc [] 0) (jt<|p2 (QH true) (p2 jd (pV 0)<|pI 0)<|pV 1) (pF<|p2 jd (pV 0)<|pI 0) [none,some 5])<|jc [1] 6)<|jf (ju (dP<|YK pN)<|jc [1] 7)<|jf (cp (cq<|jt<|p2 Km (bZ Jq #[pV 3])<|pI 0) (mG (ol<|jr (f6 xB<|jr (dP<|bZ Jq #[pV 6])<|jr (eo ji (j9 jo 1 1<|ja (pF<|pV 0)<|du pN)<|dP<|pI 4) Js) Js) (jc [1] 8) kN)
 jT)<|yb<|c7 7)
def vC:List D->Option (D×D):=et 9 1 qM
def kJ:FS:=(jf (ju (dP<|js jD #[pV 0,p2 jh (pI 851)<|pV 4])<|jc [] 5)<|jf (ju (dP<|pF<|p2 jd (p2 jd (pV 1)<|p2 ji (pV 5)<|bZ Jq #[pV 1])<|pI 0)<|jc [] 6)<|jf (cp (cq<|jt<|p2 qr (p2 ji (p2 jK (pV 5)<|pI 6)<|pI 8)<|pI 0) (ju (dP<|js jn #[p2 ji (js jD #[pV 0,pI 0])<|p2 vR (pI 10)<|pI 12,pI 601])<|jc [] 6)
 jT)<|jf (ju (dP<|p2 jh (pI 1)<|p2 ji (p2 jK (pV 5)<|pI 48)<|p2 jh (bZ Jq #[pV 2])<|pI 2)<|jc [] 7)<|jf (ju (dP<|pF<|p2 jd (YK #[p2 ji (p2 jK (pV 5)<|pI 10000)<|pI 40,p2 ji (p2 jK (pV 5)<|pI 10000)<|p2 vR (pI 10)<|pI 28,p2 ji (p2 jK (pV 5)<|pI 10000)<|p2 vR (pI 10)<|pI 13])<|p2 ji (p2 jK (pV 5)<|pI 1000)<|pI 3)<|jc [] 8)<|cU 6<|fI 3<|yH #[pF<|pV 7,pF<|pV 6,pF<|pV 8])
def Kj:FS:=(jf (ju (dP<|YK pN)<|jc [] 3)<|jf (qu (ql #[p2 ji (js jD #[pV 0,pI 850])<|pI 8]) (jc [] 4) kJ)<|yb<|c7 3)
def Jm:List D->Option D:=cH 9 Kj
def Jc:FS:=(cp (cq<|jt<|p2 qr (p2 jd (pV 8)<|pI 0)<|pS [115,104,97,114,101]) (Ql<|vA jR 6 0 "take_share" #[pF<|pV 7,pF<|p2 jd (pV 8)<|pI 1])<|Ql<|vA jv 6 0 "take_rule" #[pF<|pV 7,pF<|pV 8])
def KP:FS:=(Ql<|vA yB 6 0 "take_guard" #[pF<|pV 7,pF<|p2 jd (pV 9)<|pI 0,pF<|p2 jd (pV 9)<|pI 1])
def BG:FS:=(jf (ju (dP<|js vM #[pV 0,pV 1])<|jc [] 5)<|jf (ju (dP<|lj yU 0 #[pF<|pV 0,pF<|pV 2,pF<|pV 3,pF<|pV 4])<|jc [] 6)<|jf (Ql<|vA jP 6 0 "take_parts" #[pF<|p2 jd (pV 5)<|pI 1])<|jf (qu (hE #[pF<|p2 jd (pV 5)<|pI 2] (bZ Jq #[p2 jd (pV 5)<|pI 1])) (gT 2<|gC (jc [] 7)<|gC (jc [] 8) gN) Jc)<|jf (qu (xj #[pF<|p2 jd (pV 0)<|pI 6]) (gT 2<|gC (jc [] 7)<|gC (jc [] 9) gN) KP)<|yb<|lu 6 0 "entries" "moves"<|Yx jN 0 "book_behind" (pV 6) #[pV 2])
def oH:List D->Option D:=cH 10 BG
def yJ:FS:=(jf (ju (dP<|pF<|p2 jd (p2 jd (pV 3)<|p2 ji (pV 8)<|bZ Jq #[pV 3])<|pI 0)<|jc [1] 9)<|jf (cp (nF (iZ<|eo Km (eo ji (j9 jo 1 1<|ja (pF<|pV 0)<|du pN)<|dP<|pI 3)<|dP<|pI 0)<|cq<|jt<|p2 (QH false) (pV 9)<|yi (YS<|pV 7) (jc [] 0) qT (pF<|p2 jd (pV 0)<|pI 0) [none]) (ju (dP<|js jn #[pV 2,p2 jh (pI 100)<|pV 8])<|jc [1] 9)
 jT)<|cU 9<|Vs 7<|oA<|j9 v9 1 1<|ja (pF<|pV 0)<|du #[pF<|pV 9,pF<|pV 3,pF<|pV 4,pF<|pV 5])
def YH:FS:=(jf (ju (dP<|YK pN)<|jc [1] 7)<|jf (mG (ol<|jr (eo jh (dP<|pI 1)<|eo ji (j9 jo 1 1<|ja (pF<|pV 0)<|du pN)<|dP<|pF<|pV 6) Js) (jc [1] 8) yJ)<|yb<|c7 7)
def kB:List D->Option (D×D):=et 10 1 YH
def KC:FS:=(jf (ju (dP<|js Qi #[pV 0,pV 1,pV 4])<|jc [] 5)<|jf (ju (dP<|js v8 #[pV 0,pV 1])<|jc [] 6)<|jf (cU 5<|ju (dP<|js oH #[pV 0,pV 6,js qo #[pV 0,p2 jd (pV 5)<|pI 1],pV 3,pV 2])<|jc [] 7)<|jf (ju (dP<|yi (YS<|p2 jd (pV 5)<|pI 0) (jc [] 0) qT (p2 jh (yH #[pF<|p2 jd (pV 1)<|pI 0,pS []])<|pV 0) [none,some 0])<|jc [] 8)<|jf (iz 8<|yi (YS<|p2 jd (pV 7)<|pI 0) (jc [] 0) qT (p2 jh (yH #[pF<|p2 jd (pV 1)<|pI 0,pF<|pV 2])<|pV 0) [none,some 0,some 6])<|cU 7<|cU 8<|yb<|dP<|yH #[pF<|p2 jd (pV 7)<|pI 1,js vq #[pV 2,p2 jd (pV 0)<|pI 0,p2 jd (pV 7)<|pI 2],pF<|p2 jd (pV 7)<|pI 2,pF<|pV 8])
def kW:List D->Option D:=cH 9 KC
def kE:FS:=(jf (ju (kr jF<|jr (j9 jo 1 1<|ja (pF<|pV 0)<|du pN) Js)<|jc [1] 9)<|Vs 7<|Qd<|jr (dP<|js jn #[pV 2,p2 jh (p2 jh (p2 va (pI 10)<|pV 3)<|pI 1)<|pV 8])<|jr (dP<|pF<|pV 9)<|jr (kr jF<|jr (j9 jo 1 1<|ja (pF<|pV 0)<|du pN) Js) Js)
def kD:FS:=(jf (ju (j9 jo 1 1<|ja (pF<|pV 0)<|du pN)<|jc [1] 15)<|fI 14<|yH #[pF<|p2 jd (p2 jd (pV 7)<|p2 ji (pV 15)<|pV 11)<|pI 0,p2 jh (pI 1)<|p2 ji (p2 jK (pV 15)<|pI 10)<|pI 9,pF<|p2 jd (p2 jd (pV 13)<|p2 ji (p2 jK (pV 15)<|pI 100)<|bZ Jq #[pV 13])<|pI 0])
def Kp:FS:=(jf (ju (j9 jo 1 1<|ja (pF<|pV 0)<|du pN)<|jc [1] 6)<|jf (ju (dP<|YK pN)<|jc [1] 7)<|jf (qu (ql #[p2 jh (pI 1)<|p2 ji (pV 6)<|pI 6]) (jc [1] 8) kE)<|jf (ju (QY (ql #[p2 ji (p2 jK (pV 6)<|pI 6)<|pI 4]) (jc [4] 0) (Qd<|jr (dP<|js jn #[pV 1,p2 jh (p2 jh (p2 va (pI 10)<|pV 2)<|pI 7)<|pV 0])<|jr (kr jF<|jr (j9 jo 4 1<|ja (pF<|pV 3)<|du pN) Js) Js) [none,some 2,some 3,some 0,some 1] 1 4)<|jc [1] 10)<|jf (ju (dP<|bZ Jq #[pV 7])<|jc [1] 11)<|jf (ju (dP<|yi (ql #[p2 ji (p2 jK (pV 6)<|pI 24)<|p2 jh (pV 11)<|pI 1]) (jc [] 0) qT (pF<|p2 jd (p2 jd (pV 1)<|p2 ji (p2 jh (p2 jK (pV 2)<|pI 100)<|pV 0)<|pV 3)<|pI 0) [none,some 7,some 6,some 11])<|jc [1] 12)<|jf (cU 7<|cU 10<|ju (j9 kB 1 1<|ja (pF<|pV 0)<|du #[pF<|pV 2,pF<|pV 7,pF<|pV 10,pF<|pV 4,pF<|pV 5])<|jc [1] 13)<|jf (ju (dP<|YK pN)<|jc [1] 14)<|jf (qu (ql #[p2 ji (p2 jK (pV 6)<|pI 1000)<|pI 5]) (jc [1] 8) kD)<|jf (cU 7<|cU 10<|cU 13<|ju (j9 vC 1 1<|ja (pF<|pV 0)<|du #[pF<|pV 7,pF<|pV 10,pF<|pV 13])<|jc [1] 16)<|cU 7<|cU 10<|cU 12<|cU 13<|cU 14<|cU 16<|yb<|dP<|yH #[js jn #[pV 2,p2 va (pI 10)<|pV 3],pF<|pV 7,pF<|pV 10,pF<|pV 12,pF<|pV 13,pF<|pV 14,pF<|pV 16])
def Jn:List D->Option (D×D):=et 17 1 Kp
def ko:FS:=(u4 6 (p2 yW (pV 8)<|pV 14) (λi j=>i+j)<|pV 15)
def qR:FS:=(jf (ju (dP<|p2 jh (p2 jd (pV 2)<|pV 9)<|p2 jd (pV 6)<|pV 9)<|jc [] 11)<|jf (ju (dP<|pI 0)<|nM [] 6<|pV 9)<|jf (cU 5<|ju (dP<|js kW #[pV 10,p2 jd (p2 jd (pV 1)<|pI 0)<|pV 9,pV 5,pV 11,p2 jd (pV 3)<|pV 9])<|jc [] 12)<|jf (cU 12<|fI 4<|pF<|p2 jd (pV 12)<|pI 0)<|jf (ju (dP<|pF<|p2 jd (pV 12)<|pI 1)<|jc [] 5)<|jf (qu (dQ<|pF<|p2 jd (pV 12)<|pI 2) (gT 3<|gC (jc [] 13)<|gC (jc [] 14)<|gC (jc [] 15) gN) ko)<|iz 7<|p2 jd (pV 12)<|pI 3)
def KG:FS:=(jf (ju (dP<|YK pN)<|jc [] 4)<|jf (ju (dP<|bZ YO #[p2 jd (pV 1)<|pI 1])<|jc [] 5)<|jf (ju (dP<|bZ YO #[p2 jd (pV 1)<|pI 2])<|jc [] 6)<|jf (ju (dP<|YK pN)<|jc [] 7)<|jf (ju (dP<|bZ yZ #[yi (xj #[pF<|pV 0]) (gT 2<|gC (jc [] 0)<|gC (jc [] 1) gN) qT (yH #[pF<|p2 jd (pV 1)<|pI 0,pF<|pV 0]) [none,none]])<|jc [] 8)<|jf (qu (xj #[pF<|pV 0]) (gT 2<|gC (jc [] 9)<|gC (jc [] 10) gN) qR)<|yb<|Qd<|jr (Qd<|jr (c7 4)<|jr (c7 5)<|jr (c7 6) Js)<|jr (c7 7) Js)
def Je:List D->Option D:=cH 16 KG
def kq:FS:=(jf (ju (dP<|yi (YS<|pV 5) (jc [] 0) (jt<|p2 wX (pV 0)<|p2 jd (pV 1)<|pV 2) (pF<|pV 0) [none,some 5,some 7])<|jc [] 8)<|cU 8<|Vs 6<|j9 Jn 1 1<|ja (pF<|pV 0)<|du #[pF<|pV 2,pF<|pV 7,pF<|pV 8,pF<|p2 jd (YK #[pI 5,pI 2])<|bZ mH #[p2 qr (pV 4)<|pI 6]])
def Kz:FS:=(jf (ju (dP<|YK #[pI 0])<|jc [] 1)<|jf (ju (dP<|p2 ji (js jD #[pV 0,pI 0])<|p2 vR (pI 10)<|pI 12)<|jc [] 2)<|jf (ju (j9 jo 1 1<|ja (pF<|pV 0)<|du pN)<|jc [] 3)<|jf (ju (dP<|pF<|p2 jd (YK #[pI 1,pI 2,pI 3,pI 1,pI 2,pI 6])<|p2 ji (pV 3)<|pI 6)<|jc [] 4)<|jf (ju (dP<|yi (ql #[pV 4]) (jc [] 0) qT (js jn #[pV 1,p2 va (pI 10)<|pV 0]) [none,some 2])<|jc [] 5)<|jf (ju (dP<|YK pN)<|jc [] 6)<|jf (qu (ql #[pV 4]) (jc [] 7) kq)<|yb<|c7 6)
def Jj:List D->Option D:=cH 9 Kz
def wF:FS:=(jf (cU 2<|ju (dP<|js Je #[pV 0,pV 2,pV 4,pV 5])<|jc [] 6)<|jf (cU 6<|fI 3<|pF<|pV 6)<|ju (dP<|pF<|p2 jd (pV 6)<|pI 0)<|jc [] 2)
def BH:FS:=(jf (ju (dP<|js Vk #[pV 0])<|jc [] 2)<|jf (ju (dP<|YK pN)<|jc [] 3)<|jf (qu (dQ<|pF<|pV 1) (gT 2<|gC (jc [] 4)<|gC (jc [] 5) gN) wF)<|yb<|c7 3)
def oI:List D->Option D:=cH 7 BH
def kM:FS:=(jf (ju (dP<|yi (YS<|p2 jh (pC vb)<|yH #[pS [101,97,116]]) (jc [] 0) qT (pF<|YR (pV 1) (pV 0) (pV 2)<|pI 0) [none,some 3,some 10])<|jc [] 11)<|jf (ju (dP<|yH #[pF<|p2 yW (pV 9)<|pV 10,pF<|p2 yW (pV 8)<|pV 10,pF<|p3 KI (pV 4) (pV 10)<|pI 0])<|jc [] 12)<|fI 5<|p2 jh (p2 jh (yH #[pF<|p2 jd (pV 6)<|pI 0,pF<|pV 10])<|bZ Kb #[pV 11])<|pV 12)
def kP:FS:=(jf (ju (dP<|bZ yZ #[p2 jd (pV 7)<|pI 0])<|jc [] 8)<|jf (ju (dP<|bZ yZ #[p2 jd (pV 7)<|pI 1])<|jc [] 9)<|qu (dQ<|yi (YS<|p2 jd (pV 6)<|pI 1) (jc [] 0) qT (pF<|p2 jd (pV 0)<|pI 0) [none]) (jc [] 10) kM)
def Yy:FS:=(jf (ju (dP<|js oI #[pV 0,pV 1])<|jc [] 2)<|jf (cU 2<|ju (dP<|js qh #[pV 2])<|jc [] 3)<|jf (ju (dP<|js vI #[pV 2])<|jc [] 4)<|jf (ju (dP<|YK pN)<|jc [] 5)<|jf (qu (hW 2 #[pF<|pV 0,pF<|p2 jd (ss<|js vB #[pV 0,pV 2])<|pI 0]) (gT 2<|gC (jc [] 6)<|gC (jc [] 7) gN) kP)<|yb<|c7 5)
def yr:List D->Option D:=cH 13 Yy
def Kh:FS:=(jf (ju (dP<|js yr #[pV 0,pV 1])<|jc [] 3)<|jf (ju (dP<|js yr #[pV 0,js yG #[pV 0,pV 1,pV 2]])<|jc [] 4)<|cU 3<|cU 4<|yb<|dP<|yi (hW 2 #[pF<|pV 3,pF<|pV 4]) (gT 2<|gC (jc [] 0)<|gC (jc [] 1) gN) qT (js vW #[pV 0,pV 1]) [none,none])
def vQ:List D->Option D:=cH 5 Kh
def kF(yR:List D->Option D):FS:=(cp (cq<|ro<|jt<|js yR #[pV 2,pV 3]) (yb<|dP<|pC<|.bl false)
 jT)
def kT(yR:List D->Option D):FS:=(jf (cp (cq<|Af (jt<|xC "list"<|pV 1)<|jt<|xC "tuple"<|pV 1) (jf (cp (cq<|jt<|p2 wX (xC "list"<|pV 1)<|xC "list"<|pV 0) (yb<|dP<|pC<|.bl false)
 jT)<|jf (cp (cq<|jt<|p2 wX (xC "tuple"<|pV 1)<|xC "tuple"<|pV 0) (yb<|dP<|pC<|.bl false)
 jT)<|jf (cp (cq<|jt<|p2 wX (bZ Jq #[pV 0])<|bZ Jq #[pV 1]) (yb<|dP<|pC<|.bl false)
 jT)<|jf (qu (hW 2 #[pF<|pV 0,pF<|pV 1]) (gT 2<|gC (jc [] 2)<|gC (jc [] 3) gN)<|kF yR)<|yb<|dP<|pC<|.bl true)
 jT)<|jf (cp (cq<|jt<|p2 gS (pV 1)<|pC .non) (yb<|dP<|p2 gS (pV 0)<|pC .non)
 jT)<|jf (cp (cq<|jt<|xC "str"<|pV 1) (yb<|dP<|i3 (xC "str"<|pV 0)<|p2 qr (pV 0)<|pV 1)
 jT)<|yb<|dP<|i3 (xC "int"<|pV 0)<|i3 (Ah<|xC "bool"<|pV 0)<|p2 qr (pV 0)<|pV 1)
def yd:Nat->List D->Option D
 | 0=>λ_=>none
 | n+1=>cH 4<|kT<|yd n
def yR:List D->Option D:=yd 9
def BI:FS:=(jf (ju (dP<|js Jj #[pV 0])<|jc [] 1)<|jf (cU 1<|ju (dP<|js Jk #[pV 0,pV 1])<|jc [] 2)<|jf (cU 2<|ju (dP<|js Jm #[pV 0,pV 1,pV 2])<|jc [] 3)<|jf (cU 3<|ju (dP<|js vQ #[pV 1,pV 2,pV 3])<|jc [] 4)<|jf (ju (dP<|js jn #[p2 ji (js jD #[pV 0,pI 0])<|p2 vR (pI 10)<|pI 12,pI 601])<|jc [] 5)<|jf (ju (dP<|js kK #[pV 3,pV 1,pV 2,js jD #[pV 0,pI 860],pV 5])<|jc [] 6)<|jf (cp (cq<|ro<|jt<|js yR #[js vQ #[pV 1,pV 2,pV 6],pV 4]) (yb<|dP<|pC<|.bl false)
 jT)<|yb<|dP<|js yR #[js vQ #[pV 1,pV 2,js Ji #[pV 3]],pV 4])
def ly:List D->Option D:=cH 7 BI
def BJ(st:Stmt):List Str:=((jG st).names.filter λp=>decide (p.2=.local)||decide (p.2=.cell)).map (·.1)
abbrev kX(K:W4)(mg:W6)(x:Str)(st:Stmt)(n:Nat):Prop:=gz K mg x st (BJ st) n
abbrev iE(K:W4)(C:Addr)(x qual:Str)(st:Stmt)(n:Nat):Prop:=mO K C x qual st (BJ st) n
structure Txt(P:Program)(w:World)(K:W4)(mg:W6)(cl:Nat->Addr)(vN:Addr):Prop where
 aa:mg "CLAIM_KINDS" = some (.ref vN)
 ac:∀(cl:Nat->Addr) (Z:Zn) (H:Hp),bK #v[K,cl] Z H vb (.ref vN) []
 C0:dO K (cl 0)
 mk0:PySem.W.makesIn K (cl 0)=true
 kc0:PySem.W.keepIn K (.ref<|cl 0)=true
 mg0:mg "Fall" = some (.ref<|cl 0)
 ad:bU K (cl 0) "owed"
 ae:bU K (cl 0) "sizes"
 af:bU K (cl 0) "marks"
 ag:bU K (cl 0) "levels"
 ah:bU K (cl 0) "loans"
 ai:bU K (cl 0) "pool_name"
 aj:bU K (cl 0) "cash"
 ak:bU K (cl 0) "entries"
 al:bU K (cl 0) "served"
 am:bU K (cl 0) "moves"
 ao:mg "bool" = none
 ap:mg "dict" = none
 aq:mg "enumerate" = none
 ar:mg "int" = none
 au:mg "isinstance" = none
 av:mg "len" = none
 aw:mg "list" = none
 ax:mg "max" = none
 ay:mg "min" = none
 az:mg "range" = none
 aA:mg "reversed" = none
 aB:mg "sorted" = none
 aC:mg "str" = none
 aD:mg "sum" = none
 aE:mg "tuple" = none
 aF:mg "zip" = none
 aG:kX K mg "tenths_of" (cv 2) 1
 aH:kX K mg "order_named" (cv 4) 2
 aI:kX K mg "look_order" (cv 5) 2
 aJ:kX K mg "loans_by_ends" (cv 6) 1
 aK:kX K mg "move_loan" (cv 7) 5
 aL:gz K mg "shared" (cv 10) ["needs","cash","whole","gets","left","at","need"] 2
 aM:iE K (cl 0) "need_of" "Fall.need_of" (qE (cv 13) 3) 2
 aN:iE K (cl 0) "take_guard" "Fall.take_guard" (qE (cv 13) 6) 4
 aO:iE K (cl 0) "book_behind" "Fall.book_behind" (qE (cv 13) 7) 2
 aP:kX K mg "eaten" (cv 15) 3
 aQ:kX K mg "begun_book" (cv 18) 1
 aR:kX K mg "with_dues" (cv 20) 2
 aS:kX K mg "coins_got" (cv 28) 1
 aT:kX K mg "days_missed" (cv 29) 1
 aU:kX K mg "added_losses" (cv 31) 3
 aV:kX K mg "both_ways" (cv 33) 2
 aW:kX K mg "_law_keywords" (cv 35) 0
 aX:kX K mg "_law_draw" (cv 36) 2
 aY:kX K mg "_law_coins" (cv 39) 1
 aZ:kX K mg "_law_shared_names" (cv 43) 1
 b7:kX K mg "_law_income" (cv 47) 1
 b8:kX K mg "_law_loss" (cv 48) 1
 b9:kX K mg "_law_pieces" (cv 52) 5
 ba:kX K mg "_law_sums" (cv 53) 1
 bc:kX K mg "asked" (cv 1) 2
 be:kX K mg "loans_behind" (cv 8) 3
 bf:iE K (cl 0) "__init__" "Fall.__init__" (qE (cv 13) 0) 5
 bg:iE K (cl 0) "give" "Fall.give" (qE (cv 13) 4) 4
 bh:mO K (cl 0) "take_share" "Fall.take_share" (qE (cv 13) 5) ["self","place","names","needs","gets","full","name","need","got"] 3
 bi:kX K mg "begun" (cv 17) 1
 bj:kX K mg "order_now" (cv 19) 2
 bm:kX K mg "_law_next" (cv 37) 2
 bn:kX K mg "_law_name" (cv 38) 2
 bo:kX K mg "_law_rule" (cv 40) 4
 bp:kX K mg "_law_days" (cv 49) 2
 br:iE K (cl 0) "take_parts" "Fall.take_parts" (qE (cv 13) 1) 2
 bt:iE K (cl 0) "take_rule" "Fall.take_rule" (qE (cv 13) 2) 3
 bu:kX K mg "last_state" (cv 27) 2
 bv:kX K mg "_law_order" (cv 41) 6
 bw:kX K mg "_law_guards" (cv 44) 5
 bx:kX K mg "_law_more" (cv 50) 3
 bz:kX K mg "fell" (cv 12) 5
 bA:kX K mg "_law_orders" (cv 42) 7
 bB:kX K mg "pool_day" (cv 21) 5
 bC:kX K mg "_law_pool" (cv 45) 6
 bD:gz K mg "day_done" (cv 22) ["deal","state","incomes","losses","books","loans","waiting","log","at_of","at","pool","came","told","kind","other","coins"] 4
 bE:gz K mg "_law_deal" (cv 46) ["_law_script","_law_at","_law_seed","_law_n","_law_many","_law_names","_law_deal_here","_law_k","_law_others"] 1
 bF:kX K mg "ran" (cv 23) 2
 bG:kX K mg "claim_rows" (cv 26) 2
 bH:kX K mg "compared" (cv 32) 3
 bI:kX K mg "_law_same" (cv 51) 2
 bJ:kX K mg "law" (cv 54) 1
section
variable {P:Program}{w:World}{K:W4}{mg:W6}{cl:Nat->Addr}{vN:Addr}(T:Txt P w K mg cl vN)
include T
set_option maxHeartbeats 40000000 in
def My:((((NP P w cl T.aG 1 k8/\NP P w cl T.aH 1 vM/\NP P w cl T.aI 1 vw)/\NP P w cl T.aJ 1 yu/\NM P w cl T.aK 1 yQ/\NP P w cl T.aL 1 Jg)/\(OP P w cl mg T.aM 1 jg/\OM P w cl mg T.aN 1 yB/\OP P w cl mg T.aO 1 jN)/\NP P w cl T.aP 1 Qi/\NP P w cl T.aQ 1 vx/\NP P w cl T.aR 1 qo)/\((NP P w cl T.aS 1 qh/\NP P w cl T.aT 1 vI/\NP P w cl T.aU 1 yG)/\NP P w cl T.aV 1 vW/\NP P w cl T.aW 1 vp/\NP P w cl T.aX 1 jD)/\(NP P w cl T.aY 1 jF/\NP P w cl T.aZ 1 yg/\NP P w cl T.b7 1 jV)/\NP P w cl T.b8 1 yA/\NP P w cl T.b9 1 kK/\NP P w cl T.ba 1 Ji) /\
 (((NP P w cl T.bc 2 Vw/\NP P w cl T.be 2 vq)/\OM P w cl mg T.bf 2 yU/\OM P w cl mg T.bg 2 jw/\OM P w cl mg T.bh 2 jR)/\(NP P w cl T.bi 2 Vk/\NP P w cl T.bj 2 v8/\NJ P w cl T.bm 2 1 jo)/\NP P w cl T.bn 2 jn/\NP P w cl T.bo 2 vO/\NP P w cl T.bp 2 Jk) /\
 ((OM P w cl mg T.br 3 jP/\OM P w cl mg T.bt 3 jv/\NP P w cl T.bu 3 vB)/\NJ P w cl T.bv 3 1 v9/\NJ P w cl T.bw 3 1 vC/\NP P w cl T.bx 3 Jm) /\
 (NP P w cl T.bz 4 oH/\NJ P w cl T.bA 4 1 kB) /\
 (NP P w cl T.bB 5 kW/\NJ P w cl T.bC 5 1 Jn) /\
 (NP P w cl T.bD 6 Je/\NP P w cl T.bE 6 Jj) /\
 NP P w cl T.bF 7 oI /\
 NP P w cl T.bG 8 yr /\
 (NP P w cl T.bH 9 vQ/\NP P w cl T.bI 9 yR) /\
 NP P w cl T.bJ 10 ly:=by
 cases T;refine gD ?_ λa=>gD ?_ λb=>gD ?_ λc=>gD ?_ λh=>gD ?_ λi=>gD ?_ λk=>gD ?_ λm=>gD ?_ λn=>gD ?_ λl=>?_
 all_goals repeat' apply And.intro
 all_goals
  (first | refine LZ (by assumption) (λ_=>rfl) (λj f fd S F _ base=>?_) _ | refine LO (by assumption) λf fd S F base=>?_ | refine LP (by assumption) λf fd S F base=>?_)
  (first | refine' Ho F.fn S rfl λe A outer s H E g=>?_ | refine' Ip F.fn S rfl λe A outer s H E g=>?_)
  apply Exists.intro
  repeat' first | exact rfl | (show QB _ _ _ _ _;first | apply Gf | apply qI | apply AF | apply A_ | apply HS | apply I_ | apply HU | apply Li | apply QP.fzb | apply QK.ix | apply QK.Lr | apply QP.bb) | (show fq _ _ _ _ _ _;first | apply Hc | apply Hd | apply Hb) | (show QP _ _ _ _ _;first | ((with_reducible show QP _ _ _ _ (bZ yZ _));refine' Qh (EK rfl) HY ?_ G3 ?_) | ((with_reducible show QP _ _ _ _ (bZ fR _));refine' VI (Et rfl) Ga ?_ zF ?_) | ((with_reducible show QP _ _ _ _ (bZ YO _));refine' Qh QV Gc ?_ Yr ?_) | ((with_reducible show QP _ _ _ _ (bZ xB _));refine' VI (zh rfl) rK ?_ xg ?_) | ((with_reducible show QP _ _ _ _ (bZ me _));refine' VI (Dv rfl) rK ?_ GY ?_) | ((with_reducible show QP _ _ _ _ (bZ mP _));refine' VI (E8 rfl) Ma ?_ zF ?_) | ((with_reducible show QP _ _ _ _ (bZ Kb _));refine' Qh Qn Gd ?_ Vj ?_) | ((with_reducible show QP _ _ _ _ (bZ mH _));refine' Qh ES IJ ?_ xk ?_) | ((with_reducible show QP _ _ _ _ (xC "list" _));refine' mh (T:="list") (by decide) ?_ ?_ Yr ?_) | ((with_reducible show QP _ _ _ _ (xC "tuple" _));refine' mh (T:="tuple") (by decide) ?_ ?_ Vj ?_) | ((with_reducible show QP _ _ _ _ (xC "str" _));refine' mh (T:="str") (by decide) ?_ ?_ GZ ?_) | ((with_reducible show QP _ _ _ _ (xC "int" _));refine' mh (T:="int") (by decide) ?_ ?_ xk ?_) | ((with_reducible show QP _ _ _ _ (xC "bool" _));refine' mh (T:="bool") (by decide) ?_ ?_ G0 ?_) | ((with_reducible show QP _ _ _ _ (mj "str" zc _ _));refine' AR PySem.F.plainAttrs_str PySem.F.slot_str_split PySem.F.type_str_split Eo HJ ?_ ?_) | ((with_reducible show QP _ _ _ _ (mj "str" la _ _));refine' AR PySem.F.plainAttrs_str PySem.F.slot_str_join PySem.F.type_str_join HF HH ?_ ?_) | apply Gp | apply AG | apply GR | apply Gn | apply AE | apply qS | apply AD | apply GX | apply GS | apply Gm | apply Gq | apply Hx | apply Gk | apply Gh | apply GL | apply GM | apply GK | apply Ie | apply GW | apply Gi | apply I' | apply IX | apply HR | apply Gr | apply Ld | apply Mp | apply Mq | apply Lw | apply Md | apply Lb | apply Gj | apply Gu | apply QK.add | apply QK.call | apply GA | apply QB.f) | (show d9 _ _ _ _ _;first | apply GO | apply GN) | (show fo _ _ _ _ _;first | apply GQ | apply GP) | (show QE _ _ _ _ _;first | ((with_reducible show QE _ _ _ _ (f6 KM _));refine' AV QX LB ?_ kH ?_) | ((with_reducible show QE _ _ _ _ (f6 xB _));refine' AV (zh rfl) rK ?_ xg ?_) | apply Gg | apply L_ | apply H_ | apply La | apply Iv | apply Me | apply Ls | apply Iu | apply IA | apply Mf | apply Mu | apply HL | apply LM | apply LK | apply QE.fz | apply QP.d) | (show QS _ _ _ _ _ _;first | apply Hf | apply Hg | apply Hn | apply QS.fz | apply wb (hsw:=by with_unfolding_all rfl) | apply Hm | apply J_ | apply He | apply Lp | apply Lg | apply IE | apply J' | apply IK | apply Lq | apply Hk | apply Hl | apply Lm | apply Hi | apply IF | apply ID | apply Lu | apply Ic | apply Lj | apply HV | apply LV | apply Lo | apply Iz | apply Hh) | (show i_ _ _ _ _ _ _;first | apply G9 | apply G8) | (show QG _ _ _ _ _ _;first | apply G7 | apply AH | apply QK.mD) | (show QT _ _ _ _ _;first | apply GD | apply GB | apply GC | apply QW.t) | (show gy _ _ _ _ _;first | apply H9 | apply HZ) | (show ml _ _ _ _ _ _;first | apply Hw | apply QI.b') | (show QL _ _ _ _ _ _;first | apply Le | apply Lf) | (show QI _ _ _ _ _ _;first | apply G4 | apply G5 | apply G6 | apply Mh | apply I9 | apply Mx | apply Mi) | (show QJ _ _ _ _ _ _ _;first | apply Im | apply Io) | (show QW _ _ _ _ _;first | apply GI | apply GF | apply GH | apply GJ) | (show QO _ _ _ _ _;first | apply GV | apply GU) | (show lm _ _ _ _ _;first | apply Mb | apply Mc) | apply Ha | apply IC | (show iw _ _ _ _ _;first | apply Iw | apply QT.d | apply iy.test) | apply Hu | apply Gw | apply Gv | apply Gz | apply gv | apply Gx | apply Gy | apply QK.dL | apply QK.gv | apply AX | apply xf | (show iy _ _ _ _ _;first | apply Iy | apply Ix) | apply IH | apply IG | (show ∀(Z:Zn) (H:Hp),bK _ _ _ _ _ _;intro _ _;apply_assumption) | exact Or.inl rfl | exact Or.inr rfl | exact Or.inr (Or.inl rfl) | exact Or.inr (Or.inr rfl) | exact λ_=>rfl | exact λ_ _=>rfl | exact λ_ _ _=>rfl | exact g.mono (by decide) | exact g.mono (by first | exact N0 _ | exact Nat.le_add_left _ _ | exact N8 (by decide)<|Nat.le_add_right _ _) | apply G_ | exact S.nd | (show ca _ _ _ _;exact LW S) | exact PassesOwn.never | exact De | exact Df | (intro _ _ _ _;first | show QE _ _ _ _ _ | show QP _ _ _ _ _ | show QG _ _ _ _ _ _ | show mf _ _ _ _ _ | show QT _ _ _ _ _) | exact#v[rfl,rfl,rfl,rfl] | exact LY (by decide +kernel) | decide +kernel | with_unfolding_all rfl | assumption | exact a.1.1.1.1 | exact a.1.1.1.2.1 | exact a.1.1.1.2.2 | exact a.1.1.2.1 | exact a.1.1.2.2.1 | exact a.1.1.2.2.2 | exact a.1.2.1.1 | exact a.1.2.1.2.1 | exact a.1.2.1.2.2 | exact a.1.2.2.1 | exact a.1.2.2.2.1 | exact a.1.2.2.2.2 | exact a.2.1.1.1 | exact a.2.1.1.2.1 | exact a.2.1.1.2.2 | exact a.2.1.2.1 | exact a.2.1.2.2.1 | exact a.2.1.2.2.2 | exact a.2.2.1.1 | exact a.2.2.1.2.1 | exact a.2.2.1.2.2 | exact a.2.2.2.1 | exact a.2.2.2.2.1 | exact a.2.2.2.2.2 | exact b.1.1.1 | exact b.1.1.2 | exact b.1.2.1 | exact b.1.2.2.1 | exact b.1.2.2.2 | exact b.2.1.1 | exact b.2.1.2.1 | exact b.2.1.2.2 | exact b.2.2.1 | exact b.2.2.2.1 | exact b.2.2.2.2 | exact c.1.1 | exact c.1.2.1 | exact c.1.2.2 | exact c.2.1 | exact c.2.2.1 | exact c.2.2.2 | exact h.1 | exact h.2 | exact i.1 | exact i.2 | exact k.1 | exact k.2 | exact m | exact n | exact l.1 | exact l.2 | apply xf | apply AX | apply HN | apply LX
end
abbrev Lt(w:List Nat):Prop:=∀ c∈w,97<=c/\c<=122
def sJ(h1:Lt a)(h2:Lt b):Lt (a++b):=λc d=>(N3.mp d).elim (h1 c) (h2 c)
def BL(h:97<=c/\c<=122):Lt [c]:=λd hd=>by rw[M9.mp hd];exact h
abbrev xR(ns:List Int):Prop:=∀ x∈ns,Builtin.Int.intBits x<=2 ^ 20
def qV(ns)(m:xR ns)  (g:0<=k) (h1:k<=100000):∃ v,cX (jD [.lst false<|ns.map D.int,.int k]=some (.int v)) (0<=v) (v<170141183460469231731687303715884105727):=by
 have n:0<=7919000003*k*k/\7919000003*k*k<=7919000003*100000*100000:=#v[Int.mul_nonneg ∅ g,Int.mul_le_mul ∅ h1 g ∅];have a:(91343852333181432387730302044767688731+7919000003*k*k).natAbs<2 ^ 1000:=by lia
 cases ns with
 | nil=>
  have h:=Yg (i:=0+k+1) ∅ a;refine#v[(0+k+1)*(91343852333181432387730302044767688731+7919000003*k*k)%170141183460469231731687303715884105727,?_,U2 _<|by decide,U0 _<|by decide];simp(disch:=lia) [jD,jx,Ye,Yg,jl,-Int.zero_add]
 | cons c C=>
  have j:0<((c::C).length:Int):=by simp
  have g2:=U0 k j;have b:(k%((c::C).length:Int)).toNat<(c::C).length:=by lia
  have hi:jd (.lst false<|(c::C).map D.int) (.int<|k%((c::C).length:Int))=some (.int (c::C)[(k%((c::C).length:Int)).toNat]):=by
   rw[fv (U2 k<|show((c::C).length:Int)≠0 by lia)<|by rw[L1];exact g2,List.getElem?_map,E1 b];rfl
  have l:=m _<|List.getElem_mem b;generalize(c::C)[(k%((c::C).length:Int)).toNat]=z at hi l;have h:=IY (i:=z+k+1) (by rw[Int.add_assoc];exact(IZ (2 ^ 20) (by decide) l ∅)) a;have d:((c::C).length:Int)=(((c::C).map D.int).length:Int):=by simp
  rw[d] at hi g2 j;refine#v[(z+k+1)*(91343852333181432387730302044767688731+7919000003*k*k)%170141183460469231731687303715884105727,?_,U2 _<|by decide,U0 _<|by decide];generalize(c::C).map D.int=NS at *;have e:0<NS.length:=by lia
  have f:¬ NS=[]:=λz=>by rw[z] at e;simp at e
  simp(disch:=lia) [jD,jx,Ye,Yg,jl,f,hi,h]
def yF(ns:List Int):frzs (ns.map D.int)=true:=yn (λ_=>rfl) _
def vS(ns:List Int):bV (ns.map D.int)=ns.map D.int:=vD (λ_=>rfl) _
noncomputable abbrev At(n:Int):D:=.lst true [.int n]
def vh(ns)(a:xR ns)  (d:0<=n) (h1:n<100000):∃ v,jo [.lst false<|ns.map D.int,At n]=some (.int v,At<|n+1)/\0<=v:=by
 let[v,e,g,_]:=qV ns a (k:=n+1) ∅ ∅;refine#v[v,?_,g];have b:jd (At n) (.int 0)=some (.int n):=rfl;have c:jd (At<|n+1) (.int 0)=some (.int<|n+1):=rfl;unfold jo;rw[km];simp[Ke,b,c,dI,e,YG]
def Y3(e:0<=n):∃ v,cX (jF [.int n]=some (.int v)) (1<=v) (v<=1000000000000):=by
 have p3:vR (.int 10) (.int 12)=some (.int 1000000000000):=rfl;by_cases a:n%4=0
 ·by_cases c:n/4%2=0
  ·exact#v[1,by simp(disch:=lia) [jF,jx,vV,jl,jL,a,c,jb];rfl,by decide,by decide]
  ·have d:n/4%2=1:=by lia
   exact#v[1000000000000,by simp(disch:=lia) [jF,jx,vV,jl,jL,a,d,jb];rfl,by decide,by decide]
 ·by_cases b:n%4=1
  ·exact#v[1+n/4%20,by simp(disch:=lia) [jF,jx,vV,jl,jL,b],by lia,by lia]
  ·exact#v[1+n/4%1000000000000,by simp(disch:=lia) [jF,jx,vV,jl,jL,a,b,p3],by lia,by lia]
def dE:List Nat:=[97,98,99,100,101,102,103,104,105,106,107,108,109,110,111,112,113,114,115,116,117,118,119,120,121,122]
def sK(a:0<=i)(h1:i<26):jd (.str dE) (.int i)=some (.str [dE.getD i.toNat 0]):=IP (by decide) a (by have:dE.length=26:=rfl;lia)
def sL(i:Int)(a:0<=i)(h1:i<26):97<=dE.getD i.toNat 0/\dE.getD i.toNat 0<=122:=by
 have:∀ c∈dE,97<=c/\c<=122:=by decide
 exact this _<|Y0 (by have:dE.length=26:=rfl;lia)
def Mz:∀ i,i<26->∀ j,j<26->dE.getD i 0=dE.getD j 0->i=j:=by decide
def KW:List (List Nat):=[[112,111,111,108],[99,108,97,105,109],[112,111,116],[101,97,116],[111,114,100,101,114],[112,97,114,116],[112,97,121],[115,104,97,114,101],[114,101,112,97,121],[102,105,108,108],[108,101,110,100],[98,97,99,107],[114,101,115,116],[108,111,111,107],[103,117,97,114,100],[100,101,98,116],[111,110],[108,97,116,101],[101,97,114,108,121],[113,117,105,116]]
def wt:vp []=↑(KW.map D.str):=by
 have a:AQ [112,111,111,108,32,99,108,97,105,109,32,112,111,116,32,101,97,116,32,111,114,100,101,114,32,112,97,114,116,32,112,97,121,32,115,104,97,114,101,32,114,101,112,97,121,32,102,105,108,108,32,108,101,110,100,32,98,97,99,107,32,114,101,115,116,32,108,111,111,107,32,103,117,97,114,100,32,100,101,98,116,32,111,110,32,108,97,116,101,32,101,97,114,108,121,32,113,117,105,116] [32]=KW:=by decide +kernel
 have b:zc (.str [112,111,111,108,32,99,108,97,105,109,32,112,111,116,32,101,97,116,32,111,114,100,101,114,32,112,97,114,116,32,112,97,121,32,115,104,97,114,101,32,114,101,112,97,121,32,102,105,108,108,32,108,101,110,100,32,98,97,99,107,32,114,101,115,116,32,108,111,111,107,32,103,117,97,114,100,32,100,101,98,116,32,111,110,32,108,97,116,101,32,101,97,114,108,121,32,113,117,105,116]) [.str [32]]=↑(KW.map D.str):=by
  rw[<- a];rfl
 simp[vp,jx,Jx,b]
def BN(w)(o)(l:W1):QH false (.str w) (.lst o<|l.map D.str)=some (.bl<|decide<|w∈l):=by
 show(bif gV (.str w) (l.map D.str) then some (D.bl<|false != gU (.str w) (l.map D.str)) else none)=_;rw[zZ,uG];simp
def MA:∀ ws:List (List Nat),V4 [] ws=ws.flatten
 | []=>rfl
 | w::ws=>by rw[Kf];simp
structure Nm(w:List Nat):Prop where
 l:w.length<=9
 r:Lt w
def MB{l:W1}(h:∀ w∈l,w.length=1/\Lt w):(l.map List.length).sum=l.length/\l.flatten.length=l.length/\Lt l.flatten:=by
 induction l with
 | nil=>exact#v[rfl,rfl,λc a=>by simp at a]
 | cons w l b=>
  have d:=b λx e=>h x (by simp[e]);have f:=h w (by simp);refine#v[by simp only[L5,List.sum_cons,M3];lia,by simp only[List.flatten_cons,N5,M3];lia,?_];intro c a;rw[List.flatten_cons,N3] at a;exact a.elim (f.2 c)<|d.2.2 c
def sp(s:Int):Int:=s/6%(2+s%6-1)
def two(s k:Int):List Nat:=[dE.getD ((s/7+k/26)%26).toNat 0,dE.getD ((s/3+k)%26).toNat 0]
def fU(s:Int)(W:List Nat)(k:Int):List Nat:=Yp W none (some<|sp s)++two s k++Yp W (some<|sp s+2) none
def cI(s:Int)(W:List Nat)(k:Int):List Nat:=if fU s W k∈KW then fU s W k++[122] else fU s W k
structure ga(s:Int)(W:List Nat):Prop where
 s0:0<=s
 l:W.length=(2+s%6).toNat
 r:Lt W
def uH(h:ga s W)(d:0<=k):(fU s W k).length=(2+s%6).toNat/\Lt (fU s W k):=by
 have b:0<=sp s/\sp s+2<=2+s%6:=by 
   have e:=U2 (s/6) (show(2+s%6-1)≠0 by lia);have g2:=U0 (s/6) (show 0<(2+s%6-1) by lia);unfold sp
   lia
 have f:=h.l;refine#v[?_,sJ (sJ (λc a=>h.r c<|uO a) ((λc a=>by
   simp only[two,M5,List.not_mem_nil,or_false] at a;rcases a with rfl | rfl
   ·exact sL _ ∅ ∅
   ·exact sL _ ∅ ∅))) λc a=>h.r c<|uO a]
 unfold fU;rw[N5,N5,IQ _ b.1,IR _ ∅,E2,List.length_drop];show min _ _+2+_=_
 lia
def Q4(h:ga s W)(b:0<=k):Nm (cI s W k):=by
 have a:=uH h b;unfold cI;split
 ·exact#v[by rw[N5,List.length_singleton];lia,sJ a.2<|BL #v[by decide,by decide]]
 ·exact#v[by lia,a.2]
def Qc(h:ga s W)(f:0<=k)(l:k<676)(g:0<=k')(m:k'<676)(e:cI s W k=cI s W k'):k=k':=by
 have a:=(uH h f).1;have b:=(uH h g).1;have e2:fU s W k=fU s W k':=by
  unfold cI at e;by_cases c:fU s W k∈KW<;>by_cases d:fU s W k'∈KW
  ·rw[if_pos c,if_pos d] at e;exact List.append_cancel_right e
  ·rw[if_pos c,if_neg d] at e;have:=congrArg List.length e;simp at this;lia
  ·rw[if_neg c,if_pos d] at e;have:=congrArg List.length e;simp at this;lia
  ·lia
 injection (List.append_cancel_left<|List.append_cancel_right e2) with e4 e5;injection e5 with e5 _;have i:∀{x y:Int},dE.getD (x%26).toNat 0=dE.getD (y%26).toNat 0->x%26=y%26:=λe=>by have:=Mz _ (by omega) _ (by omega) e;omega
 have j:=i e4;have e5:=i e5;have hd:∀{x:Int},0<=x->x<676->x/26%26=x/26:=λa b=>Int.emod_eq_of_lt (Int.ediv_nonneg a<|by decide)<|Int.ediv_lt_of_lt_mul (by decide) b;rw[Int.emod_add_cancel_left,hd f l,hd g m] at j;rw[<- Int.mul_ediv_add_emod k 26,j,Int.emod_add_cancel_left.mp e5,Int.mul_ediv_add_emod]
def BP{s:Int}(J:0<=s):∃ W:List Nat,ga s W/\∀ k:Int,0<=k->jn [.int s,.int k]=some (.str<|cI s W k):=by
 have g:=yf (j:=2+s%6) ∅ ∅;have h:bW (qp 0 (2+s%6).toNat).length=true:=jb (by rw[jM];lia);let[T,l,v,K]:=KO (G:=jc [] 0) (p:=pF<|p2 jd (pV 1)<|p2 ji (p2 jh (p2 jK (pV 2)<|pI 42)<|p2 va (p2 va (pV 0)<|pV 0)<|p2 ji (p2 jK (pV 2)<|pI 1100)<|pI 5)<|pI 26) (Good:=λd=>∃ w,d=.str w/\(w.length=1/\Lt w)) (P:=λY=>∃ o,Y=[o,some<|.str dE,some<|.int s]) (xs:=qp 0 (2+s%6).toNat) (by
  rintro x L Y ⟨o,rfl⟩;let[i,hi,rfl]:=M7.mp L;have hi:=List.mem_range.mp hi;have M:0<=(0+i)*(0+(i:Int))/\(0+i)*(0+(i:Int))<=8*8:=#v[Int.mul_nonneg ∅ ∅,Int.mul_le_mul ∅ ∅ ∅ ∅];have l:=sK (i:=(s/42+(0+i)*(0+i)*(s/1100%5))%26) ∅ ∅;have y:=sL ((s/42+(0+i)*(0+i)*(s/1100%5))%26) ∅ ∅;generalize dE.getD ((s/42+(0+i)*(0+i)*(s/1100%5))%26).toNat 0=c at l y;refine#v[[some<|.int<|0+i,some<|.str dE,some<|.int s],.str [c],rfl,?_,#v[[c],rfl,rfl,BL y],_,rfl];simp(disch:=lia) [qH,jl,jL,l,-Int.zero_add]) (ρ:=[none,some<|.str dE,some<|.int s]) #v[none,rfl]
 rw[jM] at v;let[W,rfl,N]:=Y1 (f:=D.str) (Q:=λw=>w.length=1/\Lt w) K;rw[L1] at v;let[U,V,O]:=MB N;have z:Yh [] W=true:=by
  unfold Yh;simp only[List.length_nil,Nat.mul_zero];exact X5 ∅
 have A:ga s W.flatten:=#v[J,by lia,O];refine#v[W.flatten,A,λk R=>?_];have B:=sK (i:=(s/7+k/26)%26) ∅ ∅;have e2:=sK (i:=(s/3+k)%26) ∅ ∅;have C:=uH A R;have m:∀ lo hi,rH lo hi (.str W.flatten)=some (.str<|Yp W.flatten lo hi):=λlo hi=>(by
   show(bif bW W.flatten.length then some (D.str<|Yp W.flatten lo hi) else none)=_;rw[jb ∅];rfl)
 have q:ji (.int<|s/6) (.int<|2+s%6-1)=some (.int<|s/6%(2+s%6-1)):=jl ∅;have r:s/6%(2+s%6-1)=sp s:=rfl;rw[r] at q;unfold cI fU two at *;generalize dE.getD ((s/7+k/26)%26).toNat 0=c1,dE.getD ((s/3+k)%26).toNat 0=c2,sp s=sp at *;have s1:=m none<|some sp;have s2:=m (some<|sp+2) none;generalize Yp W.flatten none (some sp)=X1,Yp W.flatten (some<|sp+2) none=X2 at *;have t:=C.1;rw[N5,N5] at t;have a0:jh (.str [c1]) (.str [c2])=some (.str [c1,c2]):=u9 (a:=[c1]) (b:=[c2]) (by simp);have E:=u9 (a:=X1) (b:=[c1,c2]) ∅;have F:=u9 (a:=X1++([c1,c2])) (b:=X2) (by simp at *;lia);generalize X1++([c1,c2])++X2=w at *;have H:=BN w true KW;have S:=u9 (a:=w) (b:=[122]) (by have:=C.1;simp;lia);have I:=wt;have u:V4 [] W=W.flatten:=MA W;rw[<- u] at s1 s2;generalize KW.map D.str=KL at *;have n:([97,98,99,100,101,102,103,104,105,106,107,108,109,110,111,112,113,114,115,116,117,118,119,120,121,122]:List Nat)=dE:=rfl;by_cases e:w∈KW
 ·rw[if_pos e];unfold jn;rw[jx];unfold Yj;rw[n];simp(disch:=lia) [jl,jL,q,g,h,l,z,B,e2,a0,s1,s2,E,F,I,H,S,e,jq,List.getElem?_cons_zero,Option.join,-List.append_assoc]
 ·rw[if_neg e];unfold jn;rw[jx];unfold Yj;rw[n];simp(disch:=lia) [jl,jL,q,g,h,l,z,B,e2,a0,s1,s2,E,F,I,H,e,jq,List.getElem?_cons_zero,Option.join,-List.append_assoc]
def sq(h:f ρ=some (.nx ρ'))(k:g ρ'=r):jf f g ρ=r:=by
 rw[zJ,h];exact k
def lz(h:(G x ρ).bind f=some (.nx ρ2)):jY G f (x::xs) ρ=jY G f xs ρ2:=by
 refine ob h λr a b=>?_;rw[jQ,a,L4,b];rfl
def MC(h:G x s=some ρ1)(k:p ρ1=some y):jU G qT p (x::xs) s=(jU G qT p xs ρ1).bind λys=>some (y::ys):=by
 rw[yD,h,L4,qT,L4,cond_true,k];rfl
def fK(h:G x s=some ρ1)(k:f ρ1=some (.nx ρ2)):jY G f (x::xs) s=jY G f xs ρ2:=by
 rw[jQ,h,L4,k];rfl
noncomputable abbrev qx:List Nat:=[115,104,97,114,101]
noncomputable abbrev VX:List Nat:=[114,101,112,97,121]
noncomputable abbrev mR:List Nat:=[112,97,121]
noncomputable abbrev mS:List Nat:=[102,105,108,108]
noncomputable abbrev qF:List Nat:=[108,101,110,100]
noncomputable abbrev V6:List Nat:=[98,97,99,107]
noncomputable abbrev oJ:List Nat:=[114,101,115,116]
def sM(C P O:W1)(kw w:List Nat):Prop:=((kw=mR\/kw=VX\/kw=oJ)/\w∈C)\/(kw=mS/\w∈P)\/(kw=V6/\w∈O)
inductive cG (C P O:W1):D->Prop where
 | two (kw w:List Nat) (hk:kw≠qx) (h1:Wd kw) (h2:Wd w) (hm:sM C P O kw w):cG C P O (.tup [.str kw,.str w])
 | share (ws:W1) (hl:ws.length<=6) (h:∀ w∈ws,Wd w) (hm:∀ w∈ws,w∈C) (nd:ws.Nodup):cG C P O (.tup [.str qx,.tup (ws.map D.str)])
 | lend (w:List Nat) (i:Int) (h:Wd w) (hm:w∈O):cG C P O (.tup [.str [108,101,110,100],.str w,.int i])
def cG.fz(h:cG C P O d):QD.fz d=d:=by cases h<;>simp
def cG.frz(h:cG C P O d):QD.frz d=true:=by cases h<;>simp
def J5(h:w.all (λc=>decide<|c<200)=true)(a:w.length<=30):Wd w:=#v[a,λc b=>by
 have:=X7<|List.all_eq_true.mp h c b;lia]
noncomputable abbrev W2:=List Nat×Int
def e2(p:W2):D:=.tup [.str p.1,.int p.2]
def JZ(l:List W2):bV (l.map e2)=l.map e2:=vD (λ_=>rfl) _
def ye(l:List W2):frzs (l.map e2)=true:=yn (λ_=>rfl) _
structure cY where
 nm:List Nat
 parts:List W2
 rules:List D
def yx(o:Bool)(x:cY):D:=.tup [.str x.nm,.lst false<|x.parts.map e2,.lst o x.rules]
structure cg(C P O:W1)(x:cY):Prop where
 nm:Wd x.nm
 parts:∀ p∈x.parts,Wd p.1/\1<=p.2/\p.2<=10
 plen:x.parts.length<=10
 rules:∀ d∈x.rules,cG C P O d
 len:x.rules.length<=10
def cg.fzr(h:cg C P O x):bV x.rules=x.rules:=oq λd hd=>(h.rules d hd).fz
def cg.frzr(h:cg C P O x):frzs x.rules=true:=qQ λd hd=>(h.rules d hd).frz
def cg.frz(h:cg C P O x):QD.frz (yx false x)=true:=by
 simp[yx,h.frzr,ye]
noncomputable abbrev W3:=List Nat×Int×Int
def e3(p:W3):D:=.tup [.str p.1,.int p.2.1,.int p.2.2]
noncomputable abbrev WL:=List Nat×Int×List Nat
def eL(p:WL):D:=.tup [.str p.1,.int p.2.1,.str p.2.2]
noncomputable abbrev WG:=List Nat×List Nat
def eG(p:WG):D:=.tup [.str p.1,.str p.2]
def xz(l:List W3):bV (l.map e3)=l.map e3:=vD (λ_=>rfl) _
def qf(l:List W3):frzs (l.map e3)=true:=yn (λ_=>rfl) _
def sN(l:List WL):bV (l.map eL)=l.map eL:=vD (λ_=>rfl) _
def KN(l:List WL):frzs (l.map eL)=true:=yn (λ_=>rfl) _
def BQ(l:List WG):bV (l.map eG)=l.map eG:=vD (λ_=>rfl) _
def xN(l:List WG):frzs (l.map eG)=true:=yn (λ_=>rfl) _
def Nm.wd(h:Nm w):Wd w:=#v[by have:=h.l;lia,λc a=>by have:=h.r c a;lia]
def fV(C:W1)(a:Int)(q:Nat):List (List Nat):=(List.range q).map λi:Nat=>C.getD ((a+(0+(i:Int)))%(C.length:Int)).toNat []
def sO{C:W1}{a}(h:0<C.length)(i:Nat):((a+(0+(i:Int)))%(C.length:Int)).toNat<C.length:=by
 have y:=U0 (a+(0+i)) (show 0<(C.length:Int) by lia)
 lia
def BR(h:0<C.length):∀ w∈fV C a q,w∈C:=λw b=>by
 let[i,_,rfl]:=M7.mp b;exact Y0<|sO h i
def xT:(fV C a q).length=q:=by simp[fV]
def xb{C}{a}{q}(h:0<C.length)(f:q<=C.length)(d:C.Nodup):(fV C a q).Nodup:=by
 unfold fV List.Nodup;rw[List.pairwise_map];refine List.Pairwise.imp_of_mem ?_<|List.nodup_range;intro i j hi c b e;refine b ?_;have hi:=List.mem_range.mp hi;have c:=List.mem_range.mp c;rw[List.getD_eq_getElem?_getD,List.getD_eq_getElem?_getD,E1<|sO h i,E1<|sO h j,Option.getD_some,Option.getD_some] at e;have e2:=(List.getElem_inj d).mp e;have g:=U2 (a+(0+i)) (show(C.length:Int)≠0 by lia);have k:=U2 (a+(0+j)) (show(C.length:Int)≠0 by lia);have l:=Int.mul_ediv_add_emod (a+(0+i)) C.length;have m:=Int.mul_ediv_add_emod (a+(0+j)) C.length;generalize(a+(0+i))/C.length=u at *;generalize(a+(0+j))/C.length=v at *;have n:u-v=0:=by
  by_cases z:u-v=0
  ·exact z
  ·exfalso;rcases Int.lt_or_gt_of_ne z with z | z
   ·have:=Int.mul_le_mul_of_nonneg_left (show u-v<=-1 by lia) (show 0<=(C.length:Int) by lia)
    lia
   ·have:=Int.mul_le_mul_of_nonneg_left (show 1<=u-v by lia) (show 0<=(C.length:Int) by lia)
    lia
 lia
def lA{T:List W3}{i:Int}(h:0<=i)(h2:i<T.length):∃ t∈T,jd (.lst o<|T.map e3) (.int i)=some (e3 t)/\(T.map (·.1)).getD i.toNat []=t.1:=by
 have a:i.toNat<T.length:=by lia
 refine#v[T[i.toNat],List.getElem_mem a,?_,?_]
 ·rw[fv h<|by rw[L1];exact h2,List.getElem?_map,E1 a];rfl
 ·grind
def BS{T:List W2}{i:Int}(h:0<=i)(h2:i<T.length):∃ t∈T,jd (.lst o<|T.map e2) (.int i)=some (e2 t):=by
 have a:i.toNat<T.length:=by lia
 refine#v[T[i.toNat],List.getElem_mem a,?_];rw[fv h<|by rw[L1];exact h2,List.getElem?_map,E1 a];rfl
def qB:jd (e3 t) (.int 0)=some (.str t.1):=rfl
def BT:jd (e2 t) (.int 0)=some (.str t.1):=rfl
def uQ{T:List W3}{n c}{q}(g:0<T.length)(d:T.length<=6)(h:0<c)(e:c<=1000)(j:0<=n):jU (jc [] 0) qT (pF<|p2 jd (p2 jd (pV 1)<|p2 ji (p2 jh (p2 jK (pV 2)<|pI c)<|pV 0)<|pV 3)<|pI 0) (qp 0 q) [none,some<|.lst o<|T.map e3,some<|.int n,some<|.int (T.length:Int)]=some ((fV (T.map (·.1)) (n/c) q).map D.str):=by
 unfold fV;rw[U3];refine jA rfl (λs=>∃ z,s=[z,some<|.lst o<|T.map e3,some<|.int n,some<|.int T.length]) ?_ #v[none,rfl];rintro i hi s ⟨z,rfl⟩;let[t,_,f,gt]:=lA (o:=o) (U2 (n/c+(0+i)) ∅)<|U0 (n/c+(0+i)) (show 0<(T.length:Int) by lia);have a:ji (.int<|n/c+(0+i)) (.int T.length)=some (.int<|(n/c+(0+i))%T.length):=jl ∅;have b:jK (.int n) (.int c)=some (.int<|n/c):=jL ∅ ∅;refine#v[[some<|.int<|0+i,some<|.lst o<|T.map e3,some<|.int n,some<|.int T.length],rfl,?_,_,rfl];show _=some (D.str ((T.map (·.1)).getD ((n/c+(0+i))%((T.map (·.1)).length:Int)).toNat []));rw[L1,gt];simp[b,a,f,qB,-Int.zero_add]
def sP{P:Option cf->Prop}(h:f s=some (.nx ρ'))(k:P<|g ρ'):P (jf f g s):=by
 rw[sq h rfl];exact k
def BV{P:Option cf->Prop}(h:q s=some b)(h1:b=true->P ((a s).bind λo=>o.thn f))(h2:b=false->P (f s)):P (jf (cp (cq q) a jT) f s):=by
 rw[zJ,cp,cq,h];cases b
 ·exact h2 rfl
 ·exact h1 rfl
def oK{P:Option cf->Prop}(h:q s=some b)(h':q' s=some b')(h1:b=true->b'=true->P ((a s).bind λo=>o.thn f))(h2:P<|f s):P (jf (cp (cq<|fQ q q') a jT) f s):=by
 refine BV (b:=b&&b') (by simp only[fQ,h];cases b;rfl;exact h') (λw=>?_) λ_=>h2;cases b<;>cases b'<;>first | exact h1 rfl rfl | cases w
def hZ(C P O:W1)(o:Option cf):Prop:=∃ r,o.bind cf.val=some r/\cG C P O r
def hZ.rt{a f:FS}(h:a s=some (.rt d ρ'))(k:cG C P O d):hZ C P O ((a s).bind λo=>o.thn f):=by
 rw[h];exact#v[d,rfl,k]
def MD{n:Int}(G:0<=n){T:List W3}{M:List W2}{O:W1}(h1:1<=T.length)(h2:T.length<=6)(U:M.length<=100)(V:O.length<=100)(p:∀ t∈T,Wd t.1)(H:∀ t∈M,Wd t.1)(B:∀ w∈O,Wd w)(I:(T.map (·.1)).Nodup):∃ r,vO [.int n,.lst false<|T.map e3,.lst false<|M.map e2,.lst false<|O.map D.str]=some r/\cG (T.map (·.1)) (M.map (·.1)) O r:=by
 let[c,s,J,_]:=lA (o:=false) (U2 (n/7)<|show(T.length:Int)≠0 by lia)<|U0 (n/7) (show 0<(T.length:Int) by lia);have g:c.1∈T.map (·.1):=M7.mpr #v[c,s,rfl];have u:(((T.map e3).length:Nat):Int)=T.length:=by simp
 have h:(((M.map e2).length:Nat):Int)=M.length:=by simp
 have e:(((O.map D.str).length:Nat):Int)=O.length:=by simp
 have x:ji (.int<|n/7) (.int T.length)=some (.int<|n/7%T.length):=jl ∅;have k:0<O.length->∃ q∈O,jd (.lst false<|O.map D.str) (.int<|n/50%(O.length:Int))=some (.str q)/\ji (.int<|n/50) (.int (O.length:Int))=some (.int<|n/50%(O.length:Int)):=λz=>have p2:=U0 (n/50) (show(0:Int)<O.length by lia)
  ⟨_,Y0 (l:=O) (i:=(n/50%(O.length:Int)).toNat) (d:=[]) ∅,xJ (o:=false) (l:=O) (U2 (n/50)<|show(O.length:Int)≠0 by lia) p2,jl ∅⟩
 show hZ (T.map (·.1)) (M.map (·.1)) O (Yd _);unfold Yd;refine sP (by simp(disch:=lia) [jl];rfl)<|sP (by simp[u];rfl)<|sP (by simp(disch:=lia) [jL,x,J,qB (t:=c)];rfl) ?_;refine oK (by simp;rfl) (by simp;rfl) (λ_ w=>?_) ?_
 ·replace w:=X7 w;have W:=U2 (n/50) (show(T.length:Int)-1≠0 by lia);have X:=U0 (n/50) (show 0<(T.length:Int)-1 by lia);have K:ji (.int<|n/50) (.int<|T.length-1)=some (.int<|n/50%(T.length-1)):=jl ∅;generalize n/50%(T.length-1)=sz at *;have y:=yf (j:=2+sz) ∅ ∅;have A:bW (qp 0 (2+sz).toNat).length=true:=jb (by rw[jM];lia);have L:=uQ (o:=false) (T:=T) (n:=n) (c:=400) (q:=(2+sz).toNat) ∅ h2 (by decide) (by decide) G;have E:0<(T.map (·.1)).length:=by rw[L1];lia
  have F:=BR (C:=T.map (·.1)) (a:=n/400) (q:=(2+sz).toNat) E;have N:bW ((fV (T.map (·.1)) (n/400) (2+sz).toNat).map D.str).length=true:=jb (by rw[L1,xT];lia);have P:=yt (fV (T.map (·.1)) (n/400) (2+sz).toNat);exact hZ.rt (sq (by simp(disch:=lia) [jL,K];rfl) (by simp[y,A,L,P,qk (fV (T.map (·.1)) (n/400) (2+sz).toNat),N,jq];rfl))<|.share _ (by rw[xT];lia) (λw Q=>by let[t,R,rfl]:=M7.mp<|F w Q;exact p t R) F<|xb E (by rw[L1];lia) I
 refine BV (by simp;rfl) (λ_=>hZ.rt rfl<|.two _ _ (by decide) (J5 rfl<|by decide) (p c s)<|.inl #v[.inr<|.inl rfl,g]) λ_=>?_;refine oK (by simp;rfl) (by simp[h];rfl) (λ_ w=>?_) ?_
 ·replace w:=X7 w;let[q,f,m]:=BS (o:=false) (U2 (n/50)<|show(M.length:Int)≠0 by lia)<|U0 (n/50) ∅;have b:ji (.int<|n/50) (.int (M.length:Int))=some (.int<|n/50%(M.length:Int)):=jl ∅;exact hZ.rt (by simp(disch:=lia) [jL,h,b,m,BT (t:=q)];rfl)<|.two _ _ (by decide) (J5 rfl<|by decide) (H q f)<|.inr<|.inl #v[rfl,M7.mpr #v[q,f,rfl]]
 refine oK (by simp;rfl) (by simp[e];rfl) (λ_ w=>?_) ?_
 ·let[q,f,m,b]:=k<|X7 w;let[v,S,_]:=Y3 (n:=n/400) ∅;exact hZ.rt (by simp(disch:=lia) [jL,e,b,m,S];rfl)<|.lend _ _ (B q f) f
 refine oK (by simp;rfl) (by simp[e];rfl) (λ_ w=>?_) ?_
 ·let[q,f,m,b]:=k<|X7 w;exact hZ.rt (by simp(disch:=lia) [jL,e,b,m];rfl)<|.two _ _ (by decide) (J5 rfl<|by decide) (B q f)<|.inr<|.inr #v[rfl,f]
 exact#v[_,rfl,.two _ _ (by decide) (J5 rfl<|by decide) (p c s)<|.inl #v[.inl rfl,g]]
def ME{G}{Good:D->Prop}{P:Nat->Rh->Prop}:∀{xs}{k}(_:∀ x∈xs,∀ k' ρ,k'<k+xs.length->P k' ρ->∃ ρ1 y ρ2,G x ρ=some ρ1/\fe ρ1=some (y,ρ2)/\Good y/\P (k'+1) ρ2) {ρ}(_:P k ρ),dv λys ρ'=>d8 (qL G fe xs ρ=some (ys,ρ')) (ys.length=xs.length) (∀ y∈ys,Good y) (P (k+xs.length) ρ'):=by
 intro xs
 induction xs with
 | nil=>
  intro k _ ρ b;exact#v[[],ρ,rfl,rfl,by simp,b]
 | cons x xs c=>
  intro k step ρ b;let[ρ1,y,ρ2,d,e2,g,p1]:=step x (by simp) k ρ (by simp) b;let[ys,ρ',e3,e,f,p2]:=c (λz a k' ρ h=>step z (by simp[a]) k' ρ<|by rw[M3];lia) p1;refine#v[y::ys,ρ',?_,by simp[e],λz a=>?_,by rw[M3,show k+(xs.length+1)=k+1+xs.length by lia];exact p2]
  ·rw[qL,d,L4,e2,L4,e3];rfl
  ·rcases M5.mp a with rfl | a
   ·lia
   ·exact f z a
def gE(sd:Int)(W:List Nat)(hi:Int)(w:List Nat):Prop:=∃ k:Int,0<=k/\k<hi/\w=cI sd W k
structure h8(ns:List Int)(sd:Int)(W:List Nat)(C:List W3)(P:List W2)(O:W1):Prop where
 b:xR ns
 bs:ga sd W
 nm:∀ k:Int,0<=k->jn [.int sd,.int k]=some (.str<|cI sd W k)
 c1:1<=C.length
 c6:C.length<=6
 p:P.length<=10
 o:O.length<=10
 cn:(C.map (·.1)).Nodup
 ci:∀ c∈C,gE sd W 100 c.1
 pw:∀ c∈P,Wd c.1
 ow:∀ w∈O,Wd w
def gE.wd(b:ga sd W)(h:gE sd W hi w):Wd w:=by
 let[k,a,_,rfl]:=h;exact(Q4 b a).wd
def h8.cw(h:h8 ns sd W C P O):∀ c∈C,Wd c.1:=λc a=>(h.ci c a).wd h.bs
def lB(x:cY):D:=.tup [.str x.nm,.lst true<|x.parts.map e2,.lst true x.rules]
def MF(h:h8 ns sd W C P O)  (p:0<=m) (d:0<=n) (e:n<100000)  (r:L.length<=100) :
  ∃ q:W2,(Wd q.1/\1<=q.2/\q.2<=10)/\vK [‹ns.map D.int›,some<|At n,some nm,‹C.map e3›,‹P.map e2›,‹O.map D.str›,some<|.int m,some<|.int (C.length:Int),↑(L.map e2),some<|.int<|0+(i:Int),o10] =
   some (.nx [‹ns.map D.int›,some<|At<|n+1,some nm,‹C.map e3›,‹P.map e2›,‹O.map D.str›,some<|.int m,some<|.int (C.length:Int),↑((L++[q]).map e2),some<|.int<|0+(i:Int),o10]):=by
 let[v,g,s]:=vh ns h.b d e;have j:=h.c1;let[c,k,f,_]:=lA (o:=false) (U2 (m/100+(0+i))<|show(C.length:Int)≠0 by lia)<|U0 (m/100+(0+i)) (show 0<(C.length:Int) by lia);have l:ji (.int<|m/100+(0+i)) (.int C.length)=some (.int<|(m/100+(0+i))%C.length):=jl ∅;refine#v[(c.1,1+v%10),#v[h.cw c k,by lia,by lia],?_];have a:bW (L.map e2).length=true:=yI ∅;rw[N6];show _=some (cf.nx [_,_,_,_,_,_,_,_,↑(L.map e2++[.tup [.str c.1,.int<|1+v%10]]),_,_]);generalize L.map e2=LL at *;simp(disch:=lia) [vK,jL,jl,f,qB (t:=c),g,a,-Int.zero_add]
def MG(h:h8 ns sd W C P O)  (g:0<=n) (j:n+20<=100000)  (y:k<=9):∃ Rs:List D,∃ o0:Option D,
  qL (jc [2] 0) (kr vO<|jr (j9 jo 2 1<|ja (pF<|pV 1)<|du pN)<|jr (dP<|pF<|pV 3)<|jr (dP<|pF<|pV 4)<|jr (dP<|pF<|pV 5) Js) (qp 0 k) [none,‹ns.map D.int›,some<|At n,‹C.map e3›,‹P.map e2›,‹O.map D.str›] =
   some (Rs,[o0,‹ns.map D.int›,some<|At<|n+k,‹C.map e3›,‹P.map e2›,‹O.map D.str›])/\Rs.length=k/\∀ r∈Rs,cG (C.map (·.1)) (P.map (·.1)) O r:=by
 let[l,z,e,f,m,o0,rfl]:=ME (G:=jc [2] 0) (fe:=kr vO<|jr (j9 jo 2 1<|ja (pF<|pV 1)<|du pN)<|jr (dP<|pF<|pV 3)<|jr (dP<|pF<|pV 4)<|jr (dP<|pF<|pV 5) Js) (P:=λk U=>∃ o,U=[o,‹ns.map D.int›,some<|At<|n+k,‹C.map e3›,‹P.map e2›,‹O.map D.str›]) (xs:=qp 0 k) (k:=0) (by
  rintro x q a U c ⟨o,rfl⟩;rw[jM] at c;let[i,hi,rfl]:=M7.mp q;let[v,s,t]:=vh ns h.b (n:=n+a) ∅ ∅;let[r,u,w]:=MD t h.c1 h.c6 (by have:=h.p;lia) (by have:=h.o;lia) h.cw h.pw h.ow h.cn;have d:=yF ns;refine#v[[some<|.int<|0+i,‹ns.map D.int›,some<|At<|n+a,‹C.map e3›,‹P.map e2›,‹O.map D.str›],r,[some<|.int<|0+i,‹ns.map D.int›,some<|At<|n+a+1,‹C.map e3›,‹P.map e2›,‹O.map D.str›],rfl,?_,w,some<|.int<|0+i,?_]
  ·generalize ns.map D.int=NS at *;simp[s,u,d,qf C,ye P,-Int.zero_add]
  ·rw[show n+((a+1:Nat):Int)=n+a+1 by lia]) (ρ:=[none,‹ns.map D.int›,some<|At n,‹C.map e3›,‹P.map e2›,‹O.map D.str›]) #v[none,by simp]
 rw[jM] at f;refine#v[l,o0,?_,f,m];rw[e,jM,show n+((0+k:Nat):Int)=n+k by lia]
def MH(h:h8 ns sd W C P O)  (v:0<=n) (U:n+50<=100000) (nm:List Nat) (V:Wd nm):dv λ(x:cY) (n':Int)=>eS (v9 [.lst false<|ns.map D.int,At n,.str nm,.lst false<|C.map e3,.lst false<|P.map e2,.lst false<|O.map D.str]=some (lB x,At n')) (x.nm=nm) (n<=n') (n'<=n+20) (cg (C.map (·.1)) (P.map (·.1)) O x):=by
 let[m,X,Y]:=vh ns h.b v ∅;have Z:=h.c1;have hc6:=h.c6;have S:=U2 m (show(C.length:Int)+1≠0 by lia);have a2:=U0 m (show 0<(C.length:Int)+1 by lia);have g:ji (.int m) (.int<|C.length+1)=some (.int<|m%(C.length+1)):=jl ∅;generalize m%(C.length+1)=q1 at S a2 g;have w:0<=m/10%2/\m/10%2<=1:=by lia
 have A:0<=q1*(m/10%2)/\q1*(m/10%2)<=6*1:=#v[Int.mul_nonneg S w.1,Int.mul_le_mul ∅ w.2 w.1 ∅];have a:va (.int q1) (.int<|m/10%2)=some (.int<|q1*(m/10%2)):=qH ∅ ∅;generalize q1*(m/10%2)=q at A a;let[ρ',B,L,e,rfl,E,d]:=vy (G:=jc [1] 9) (f:=vK) (xs:=qp 0 q.toNat) (λi ρ=>∃(L:List W2) (e:Option D),ρ=[‹ns.map D.int›,some<|At<|n+1+i,some<|.str nm,‹C.map e3›,‹P.map e2›,‹O.map D.str›,some<|.int m,some<|.int C.length,↑(L.map e2),e,none]/\L.length=i/\∀ q∈L,Wd q.1/\1<=q.2/\q.2<=10) (by
  rintro i x ρ hx ⟨L,e,rfl,E,d⟩;let[rfl,hi]:=kG hx;let[z,zk,ez]:=MF h (n:=n+1+i) Y ∅ ∅ (nm:=.str nm) (L:=L) ∅ (i:=i) (o10:=none);refine#v[_,_,rfl,.inl ez,L++[z],some<|.int<|0+i,?_,by simp[E],λq A=>(N3.mp A).elim (d q) λy=>by rw[M9.mp y];exact zk];rw[show n+1+(((i+1:Nat)):Int)=n+1+i+1 by lia]) (ρ:=[‹ns.map D.int›,some<|At<|n+1,some<|.str nm,‹C.map e3›,‹P.map e2›,‹O.map D.str›,some<|.int m,some<|.int C.length,some<|.lst true [],none,none]) #v[[],none,by simp,rfl,by simp]
 rw[jM] at E B;have F:n+1+((q.toNat):Int)=n+1+q:=by lia
 rw[F] at B;let[l,o0,p,hRl,hR]:=MG h (n:=n+1+q) ∅ ∅ (k:=(m/1000%9).toNat) ∅;have H:n+1+q+(((m/1000%9).toNat:Nat):Int)=n+1+q+m/1000%9:=by lia
 rw[H] at p;let[c,T,ic,_]:=lA (o:=false) (U2 (m/10000)<|show(C.length:Int)≠0 by lia)<|U0 (m/10000) (show 0<(C.length:Int) by lia);have I:ji (.int<|m/10000) (.int C.length)=some (.int<|m/10000%C.length):=jl ∅;refine#v[#v[nm,L,l++[.tup [.str oJ,.str c.1]]],n+1+q+m/1000%9,?_,rfl,by lia,by lia,#v[V,d,by show L.length<=10;lia,λr s=>?_,by show(l++[_]).length<=10;simp;lia]]
 rotate_left
 ·rcases N3.mp s with s | s
  ·exact hR r s
  ·rw[M9.mp s];exact .two _ _ (by decide) (J5 rfl<|by decide) (h.cw c T)<|.inl #v[.inr<|.inr rfl,M7.mpr #v[c,T,rfl]]
 have u:=yF ns;have J:(((C.map e3).length:Nat):Int)=C.length:=by simp
 have K:bW l.length=true:=jb ∅;have M:QY (ql #[p2 ji (p2 jK (pV 6)<|pI 1000)<|pI 9]) (jc [2] 0) (kr vO<|jr (j9 jo 2 1<|ja (pF<|pV 1)<|du pN)<|jr (dP<|pF<|pV 3)<|jr (dP<|pF<|pV 4)<|jr (dP<|pF<|pV 5) Js) [none,some 0,some 1,some 3,some 4,some 5] 1 2
   [‹ns.map D.int›,some<|At<|n+1+q,some<|.str nm,‹C.map e3›,‹P.map e2›,‹O.map D.str›,some<|.int m,some<|.int C.length,↑(L.map e2),e,none] =
   some (.lst true l,[‹ns.map D.int›,some<|At<|n+1+q+m/1000%9,some<|.str nm,‹C.map e3›,‹P.map e2›,‹O.map D.str›,some<|.int m,some<|.int C.length,↑(L.map e2),e,none]):=by
  have N:ql #[p2 ji (p2 jK (pV 6)<|pI 1000)<|pI 9] [‹ns.map D.int›,some<|At<|n+1+q,some<|.str nm,‹C.map e3›,‹P.map e2›,‹O.map D.str›,some<|.int m,some<|.int C.length,↑(L.map e2),e,none]=some (qp 0 (m/1000%9).toNat):=by
   simp(disch:=lia) [jL,jl,yf (j:=m/1000%9) ∅ ∅]
  have Q:YA 2 [none,‹ns.map D.int›,some<|At<|n+1+q,‹C.map e3›,‹P.map e2›,‹O.map D.str›]=true:=by
   simp[YA,u,qf C,ye P,yt O]
  have R:bW (qp 0 (m/1000%9).toNat).length=true:=jb (by rw[jM];lia);unfold QY;rw[N,L4];show(bif bW (qp 0 (m/1000%9).toNat).length&&YA 2 [none,‹ns.map D.int›,some<|At<|n+1+q,‹C.map e3›,‹P.map e2›,‹O.map D.str›] then(qL _ _ _ [none,‹ns.map D.int›,some<|At<|n+1+q,‹C.map e3›,‹P.map e2›,‹O.map D.str›]).bind _ else none)=_;rw[R,Q,p];rfl
 unfold v9;rw[km];show _=some (D.tup [.str nm,.lst true<|L.map e2,.lst true<|l++[.tup [.str [114,101,115,116],.str c.1]]],At _);simp(disch:=lia) [Vy,X,u,J,g,jL,jl,a,yf (j:=q) ∅ ∅,B,M,I,ic,qB (t:=c),K,jb,YG,-uC]
def O0(x):jd (yx false x) (.int 0)=some (.str x.nm):=rfl
def vt{C P O}{os:List cY}(h:∀ x∈os,cg C P O x):frzs (os.map<|yx false)=true:=qQ λd hd=>by
 let[x,a,rfl]:=M7.mp hd;exact(h x a).frz
def cg.fzt(h:cg C P O x):QD.fz (lB x)=yx false x:=by
 simp[lB,yx,JZ x.parts,h.fzr]
def xG{ns:List Int}{C:List W3}{P:List W2}{O:W1}{W:List Nat}{a:Int}(h:h8 ns a W C P O){n:Int}(L:0<=n)(hn1:n+100<=100000)  {X:List cY}(hX:X.length<=100) (M:∀ x∈X,cg (C.map (·.1)) (P.map (·.1)) O x) (hXn:(X.map (·.nm)).Nodup) {i:Nat}(hi:i<10) (N:∀ x∈X,gE a W (100+i) x.nm) {o9:Option D}:
  dF λ(x:cY) (n':Int) (o9':Option D)=>oU (yJ [‹ns.map D.int›,some<|At n,some<|.int a,‹C.map e3›,‹P.map e2›,‹O.map D.str›,some mo,↑(X.map<|yx false),some<|.int<|0+(i:Int),o9] =
   some (.nx [‹ns.map D.int›,some<|At n',some<|.int a,‹C.map e3›,‹P.map e2›,‹O.map D.str›,some mo,↑((X++[x]).map (yx false)),some<|.int<|0+(i:Int),o9'])) (n<=n') (n'<=n+21) (cg (C.map (·.1)) (P.map (·.1)) O x) (x.nm∉X.map (·.nm)) (gE a W (100+i+1) x.nm):=by
 let[v,Q,hv]:=vh ns h.b L ∅;have hc1:=h.c1;let[c,cm,R,_]:=lA (o:=false) (U2 (0+i)<|show(C.length:Int)≠0 by lia)<|U0 (0+i) (show 0<(C.length:Int) by lia);have c0:=qB (t:=c);have j:ji (.int<|0+i) (.int C.length)=some (.int<|(0+i)%C.length):=jl ∅;have ew:=h.nm (100+(0+i)) ∅;have l:=yF ns;have m:=qf C;have p:=ye P;have q:=yt O;have r:(((C.map e3).length:Nat):Int)=C.length:=by simp
 have B:=vt M;have s:bW (X.map<|yx false).length=true:=yI ∅;have u:jU (jc [] 0) qT (pF<|p2 jd (pV 0)<|pI 0) (X.map<|yx false) [none]=some ((X.map (·.nm)).map D.str):=by
  rw[U3];refine jA (en:=yx false) rfl (λρ=>∃ o,ρ=[o]) ?_ #v[none,rfl];rintro x hx ρ ⟨o,rfl⟩;have:=O0 x;refine#v[[some<|yx false x],rfl,?_,_,rfl];simp[this]
 have f:QH false (.str c.1) (.lst true ((X.map (·.nm)).map D.str))=some (.bl (decide (c.1∈X.map (·.nm)))):=BN _ true _;generalize(X.map (·.nm)).map D.str=NN at u f;generalize E:decide (c.1∈X.map (·.nm))=bq at f;have F:∀ nm:List Nat,Wd nm->∃(x:cY) (n':Int),v9 [.lst false<|ns.map D.int,At<|n+1,.str nm,.lst false<|C.map e3,.lst false<|P.map e2,.lst false<|O.map D.str]=some (lB x,At n')/\n+1<=n'/\n'<=n+21/\cg (C.map (·.1)) (P.map (·.1)) O x/\x.nm=nm:=λnm wn=>by
  let[x,n',e,a0,S,I,A]:=MH h (n:=n+1) ∅ ∅ nm wn;exact#v[x,n',e,S,by lia,A,a0]
 by_cases T:0<v%3\/bq=true
 ·have U:gE a W (100+i+1) (cI a W<|100+(0+i)):=#v[100+(0+i),by lia,by lia,rfl];have G:cI a W (100+(0+i))∉X.map (·.nm):=λz=>by
   let[y,hy,ey]:=M7.mp z;let[k,V,k1,Y]:=N y hy;have:=Qc h.bs (k:=k) (k':=100+(0+i)) V ∅ ∅ ∅ (Y.symm.trans ey)
   lia
  let[x,n',J,S,I,A,H]:=F _<|U.wd h.bs;refine#v[x,n',some<|.str<|cI a W<|100+(0+i),?_,by lia,I,A,by rw[H];exact G,by rw[H];exact U];clear G U;generalize cI a W (100+(0+i))=w at *;rw[N6];show _=some (cf.nx [_,_,_,_,_,_,_,↑(X.map (yx false)++[yx false x]),_,_]);generalize ns.map D.int=NS,C.map e3=CC,P.map e2=PP,O.map D.str=OO at *;have K:=A.fzt;generalize X.map (yx false)=XX,lB x=xx,e3 c=EC,yx false x=yy at *;by_cases d:0<v%3
  ·simp(disch:=lia) [yJ,r,j,R,c0,Q,l,jl,d,ew,m,p,q,J,s,K,-Int.zero_add]
  ·have g:bq=true:=T.resolve_left d;simp(disch:=lia) [yJ,r,j,R,c0,Q,l,jl,d,s,B,jq,u,f,g,ew,m,p,q,J,K,-Int.zero_add]
 ·have d:¬ 0<v%3:=λz=>T<|.inl z;have g:bq=false:=by cases bq with
   | false=>rfl
   | true=>exact absurd (.inr rfl) T
  have Z:gE a W (100+i+1) c.1:=by
   let[k,V,k1,Y]:=h.ci c cm;exact#v[k,V,by lia,Y]
  let[x,n',J,S,I,A,H]:=F c.1<|h.cw c cm;refine#v[x,n',some<|.str c.1,?_,by lia,I,A,by rw[H];exact of_decide_eq_false<|E.trans g,by rw[H];exact Z];rw[N6];show _=some (cf.nx [_,_,_,_,_,_,_,↑(X.map (yx false)++[yx false x]),_,_]);generalize ns.map D.int=NS,C.map e3=CC,P.map e2=PP,O.map D.str=OO at *;have K:=A.fzt;generalize X.map (yx false)=XX,lB x=xx,e3 c=EC,yx false x=yy at *;simp(disch:=lia) [yJ,r,j,R,c0,Q,l,jl,d,s,B,jq,u,f,g,m,p,q,J,K,-Int.zero_add]
def MI(h:h8 ns sd W C P O)  (l:0<=n) (B:n+500<=100000) (T:1<=mo) (U:mo<=5):
  dv λ(X:List cY) (n':Int)=>tm (kB [.lst false<|ns.map D.int,At n,.int sd,.lst false<|C.map e3,.lst false<|P.map e2,.lst false<|O.map D.str,.int mo]=some (.lst true<|X.map<|yx false,At n')) (n<=n') (n'<=n+150) (1<=X.length) (X.length<=5) (∀ x∈X,cg (C.map (·.1)) (P.map (·.1)) O x) ((X.map (·.nm)).Nodup):=by
 let[v,E,V]:=vh ns h.b l ∅;have F:=U2 v (show mo≠0 by lia);have H:=U0 v (show 0<mo by lia);have f:ji (.int v) (.int mo)=some (.int<|v%mo):=jl ∅;generalize v%mo=k at F H f;let[Y,I,X,n',m,o,rfl,p,J,A,g,c,d]:=vy (G:=jc [1] 8) (xs:=qp 0 (1+k).toNat) (λi ρ=>∃ X n' m o,ρ=[‹ns.map D.int›,some<|At n',some<|.int sd,‹C.map e3›,‹P.map e2›,‹O.map D.str›,some<|.int mo,↑(X.map<|yx false),m,o]/\X.length=i/\n+1<=n'/\n'<=n+1+21*i/\(∀ x∈X,cg (C.map (·.1)) (P.map (·.1)) O x)/\(X.map (·.nm)).Nodup/\∀ x∈X,gE sd W (100+i) x.nm) (by
  rintro i x ρ K ⟨X,n',m,o,rfl,p,J,A,g,c,d⟩;let[rfl,hi]:=kG K;let[y,L,r,M,c1,Z,N,s,t]:=xG h (n:=n') ∅ ∅ ∅ g c ∅ d;refine#v[_,_,rfl,.inl M,X++[y],L,some<|.int<|0+i,r,rfl,by simp[p],by lia,by lia,λz e=>?_,?_,λz e=>?_]
  ·exact(N3.mp e).elim (g z) λq=>by rw[M9.mp q];exact N
  ·rw[N6];exact X3.mpr #v[c,by simp,λa Q b R q=>by cases q;cases M9.mp R;exact s Q]
  ·rcases N3.mp e with e | e
   ·let[k,u,S,w]:=d z e;exact#v[k,u,by lia,w]
   ·let[k,u,S,w]:=t;rw[M9.mp e];exact#v[k,u,by lia,w]) (ρ:=[‹ns.map D.int›,some<|At<|n+1,some<|.int sd,‹C.map e3›,‹P.map e2›,‹O.map D.str›,some<|.int mo,some<|.lst true [],none,none]) #v[[],n+1,none,none,rfl,rfl,by lia,by lia,by simp,by simp,by simp]
 rw[jM] at p A;refine#v[X,n',?_,by lia,by lia,by lia,by lia,g,c];unfold kB;rw[km];simp(disch:=lia) [YH,E,f,yf (j:=1+k) ∅ ∅,I,jb,YG]
def sQ(h1:p ρ=some e)(h2:AY e=some m)(a:ρ[i]?=some (↑l))(c:l.length+m.length<=50000):iz i p ρ=some (.nx<|ρ.set i<|↑(l++m)):=by
 have b:pV i ρ=↑l:=by unfold pV;rw[a]
 unfold iz;rw[h1,L4,h2,L4,b];show(bif bW (l.length+m.length) then _ else _)=_;rw[jb ∅];rfl
def xS(g:cG C P O r)  (n:N.length<=960):∃ T:List (List Nat),T.length<=6/\jI [a0,↑(N.map D.str),a2,some r]=some (.nx [a0,↑((N++T).map D.str),a2,some r]):=by
 have b:bW (N.map D.str).length=true:=yI ∅;cases g with
 | two kw x j w1 w2 c=>
  have a:jd (.tup [.str kw,.str x]) (.int 0)=some (.str kw):=rfl;have d:jd (.tup [.str kw,.str x]) (.int 1)=some (.str x):=rfl;by_cases f:kw=VX
  ·subst f;refine#v[[x],by simp,?_];rw[N6];generalize N.map D.str=NN at *;simp[jI,a,d,b]
  ·have k:=U4.mpr f;refine#v[[],by simp,?_];rw[N1];simp[jI,a,k,U4.mpr j]
 | share ws l h c nd=>
  have a:jd (.tup [.str qx,.tup<|ws.map D.str]) (.int 0)=some (.str qx):=rfl;have d:jd (.tup [.str qx,.tup<|ws.map D.str]) (.int 1)=some (.tup<|ws.map D.str):=rfl;refine#v[ws,l,?_];rw[N6];have m:=sQ (i:=1) (p:=p2 jd (pV 3)<|pI 1) (ρ:=[a0,↑(N.map D.str),a2,some<|.tup [.str qx,.tup<|ws.map D.str]]) (e:=.tup<|ws.map D.str) (by rfl) (by show(bif frzs (ws.map D.str) then _ else _)=_;rw[yt ws];rfl) rfl (by rw[L1,L1];lia);simp[jI,a,m]
 | lend x v h c=>
  have a:jd (.tup [.str qF,.str x,.int v]) (.int 0)=some (.str qF):=rfl;refine#v[[],by simp,?_];rw[N1];simp[jI,a]
def MJ{C P O}{X:List cY}(q:X.length<=5)(k:∀ x∈X,cg C P O x):∃ N:List (List Nat),yg [.lst false<|X.map<|yx false]=↑(N.map D.str):=by
 have c:=vt k;obtain⟨r,T,e,⟨i,b,rfl⟩,m,_⟩:=Q8 (G:=jc [] 2) (f:=yE) (λa ρ=>∃ i b,ρ=[‹X.map (yx false)›,↑(a.map D.str),i,b]) (λ_=>True) 60 660 (acc:=[]) (ρ:=[‹X.map (yx false)›,some<|.lst true [],none,none]) (by
  rintro d hd a ρ l _ ⟨i,b,rfl⟩;let[x,n,rfl]:=M7.mp hd;have h:=k x n;have g:=h.frzr;obtain⟨s,T,e,⟨j,rfl⟩,m,_⟩:=Q8 (G:=jc [] 3) (λa ρ=>∃ b,ρ=[‹X.map (yx false)›,↑(a.map D.str),some<|yx false x,b]) (λ_=>True) 6 960 (ρ:=[‹X.map (yx false)›,↑(a.map D.str),some<|yx false x,b]) (by
   rintro d hd a ρ l _ ⟨b,rfl⟩;let[T,o,eT]:=xS (h.rules _ hd) l;exact#v[_,_,T,rfl,eT,o,λ_ _=>trivial,_,rfl]) (by have:=h.len;lia) (λ_ _=>trivial) #v[b,rfl]
  have p:jd (yx false x) (.int 2)=‹x.rules›:=rfl;refine#v[[‹X.map (yx false)›,↑(a.map D.str),some<|yx false x,b],_,T,rfl,?_,by have:=h.len;lia,λ_ _=>trivial,some<|yx false x,j,rfl];simp[yE,p,g,jk _ g,e]) (by rw[L1];simp;lia) (λ_ _=>trivial) #v[none,none,rfl]
 refine#v[T,?_];simp[yg,jx,kC,c,jk _ c,e,jb]
def MK(w)(o)(l:W1):QH true (.str w) (.lst o<|l.map D.str)=some (.bl<|!decide (w∈l)):=by
 show(bif gV (.str w) (l.map D.str) then some (D.bl<|true != gU (.str w) (l.map D.str)) else none)=_;rw[zZ,uG];simp
def ML{C:List W3}{N:W1}:∀{ρ:Rh},(∃ o,ρ=[o,↑(N.map D.str)])->∃(F:W1),cX (jU (jc [] 0) (jt<|p2 (QH true) (p2 jd (pV 0)<|pI 0)<|pV 1) (pF<|p2 jd (pV 0)<|pI 0) (C.map e3) ρ=some (F.map D.str)) (F.length<=C.length) (∀ w∈F,w∈C.map (·.1)):=by
 induction C with
 | nil=>intro ρ _;exact#v[[],rfl,by simp,by simp]
 | cons c C g=>
  rintro ρ ⟨o,rfl⟩;let[F,e,j,d]:=g #v[_,rfl];have c0:=qB (t:=c);have f:jc [] 0 (e3 c) [o,↑(N.map D.str)]=some [some<|e3 c,↑(N.map D.str)]:=rfl;have a:jt (p2 (QH true) (p2 jd (pV 0)<|pI 0)<|pV 1) [some<|e3 c,↑(N.map D.str)]=some (!decide (c.1∈N)):=by
   simp[c0,MK c.1 true N]
  have i:pF (p2 jd (pV 0)<|pI 0) [some<|e3 c,↑(N.map D.str)]=some (.str c.1):=by rfl
  rw[L5];by_cases h:c.1∈N
  ·refine#v[F,?_,by rw[M3];lia,λw b=>L6 _<|d w b];rw[X5 h] at a;rw[yD,f,L4,a];exact e
  ·refine#v[c.1::F,?_,by simp;lia,λw b=>(M5.mp b).elim (λz=>by rw[z];exact L7 ..) λz=>L6 _<|d w z];rw[X6 h] at a;rw[yD,f,L4,a,L4,Bool.not_false,cond_true,i,L4,e];rfl
def ww{ns}(h:xR ns){P:List W2}(s:1<=P.length){F:W1}{n}(b:0<=n)(d:n<100000){a2 a4 a5}{L}(u:L.length<=100){i}(hi:i<F.length):
  ∃ q:List Nat×List Nat,(q.1∈P.map (·.1)/\q.2∈F)/\kN [‹ns.map D.int›,some<|At n,a2,‹P.map e2›,a4,a5,↑(F.map D.str),↑(L.map eG),some<|.int<|0+(i:Int)] =
   some (.nx [‹ns.map D.int›,some<|At<|n+1,a2,‹P.map e2›,a4,a5,↑(F.map D.str),↑((L++[q]).map eG),some<|.int<|0+(i:Int)]):=by
 let[v,j,x]:=vh ns h b d;let[c,k,m]:=BS (o:=false) (U2 v<|show(P.length:Int)≠0 by lia)<|U0 v (show 0<(P.length:Int) by lia);have p:frz (e2 c)=true:=rfl;have e:ji (.int v) (.int P.length)=some (.int<|v%P.length):=jl ∅;have f:=xJ (o:=true) (l:=F) (i:=0+i) ∅ ∅;have g:F.getD (0+(i:Int)).toNat []∈F:=Y0 ∅;generalize F.getD (0+(i:Int)).toNat []=w at f g;have r:(((P.map e2).length:Nat):Int)=P.length:=by simp
 have a:bW (L.map eG).length=true:=yI ∅;refine#v[(c.1,w),#v[M7.mpr #v[c,k,rfl],g],?_];rw[N6];show _=some (cf.nx [_,_,_,_,_,_,_,↑((L.map eG)++[.tup [.str c.1,.str w]]),_]);generalize(L.map eG)=LL at *;simp(disch:=lia) [kN,j,ye P,e,m,p,BT (t:=c),f,a,-Int.zero_add]
def MM{ns}(r:xR ns){C:List W3}(hC:C.length<=6){P:List W2}(hP:P.length<=100){A B E}{X:List cY}(H:X.length<=5)(s:∀ x∈X,cg A B E x){n}(g:0<=n)(I:n+50<=100000):
  dv λ(L:List<|List Nat×List Nat) (n':Int)=>eS (vC [.lst false<|ns.map D.int,At n,.lst false<|C.map e3,.lst false<|P.map e2,.lst false<|X.map<|yx false]=some (.lst true<|L.map eG,At n')) (n<=n') (n'<=n+10) (L.length<=6) (∀ q∈L,q.1∈P.map (·.1)/\q.2∈C.map (·.1)):=by
 let[N,t]:=MJ H s;have c:=qf C;have J:=xz C;have h:=vt s;have d:=jk _ h;have lC:bW (C.map e3).length=true:=yI ∅;have K:yh (N.map D.str)=true:=by simp
 let[F,u,hF,l]:=ML (C:=C) (ρ:=jq [none,some 5] [‹ns.map D.int›,some<|At n,‹C.map e3›,‹P.map e2›,‹X.map (yx false)›,↑(N.map D.str),none,none,none]) #v[none,rfl];have M:(((F.map D.str).length:Nat):Int)=F.length:=by simp
 have O:(((P.map e2).length:Nat):Int)=P.length:=by simp
 by_cases Q:P.length=0
 ·have m:=List.eq_nil_of_length_eq_zero Q;subst m;refine#v[[],n,?_,by lia,by lia,by simp,by simp];unfold vC;rw[km];simp only[List.map_nil] at *;simp(disch:=lia) [qM,t,d,c,u,jb,YG]
 ·let[v,R,hv]:=vh ns r g ∅;have S:0<P.length:=by lia
  have e:0<P.length:=by lia
  have b:xB [.int F.length,.int<|v%4]=some (.int<|if v%4<F.length then v%4 else F.length):=rfl;have T:0<=(if v%4<F.length then v%4 else F.length):=by lia
  have U:(if v%4<F.length then v%4 else F.length)<=F.length:=by lia
  have V:(if v%4<F.length then v%4 else F.length)<=3:=by lia
  generalize(if v%4<F.length then v%4 else F.length)=k at b T U V;let[ρ',w,L,o,rfl,p,a]:=vy (G:=jc [1] 8) (xs:=qp 0 k.toNat) (λi ρ=>∃ L o,ρ=[‹ns.map D.int›,some<|At<|n+1+i,‹C.map e3›,‹P.map e2›,‹X.map (yx false)›,↑(N.map D.str),↑(F.map D.str),↑(L.map eG),o]/\L.length=i/\∀ q∈L,q.1∈P.map (·.1)/\q.2∈F) (by
   rintro i x ρ W ⟨L,o,rfl,p,a⟩;let[rfl,hi]:=kG W;let[z,Y,Z]:=ww r (P:=P) ∅ (F:=F) (n:=n+1+i) ∅ ∅ (L:=L) ∅ (i:=i) ∅;refine#v[_,_,rfl,.inl Z,L++[z],some<|.int<|0+i,?_,by simp[p],λq f=>(N3.mp f).elim (a q) λy=>by rw[M9.mp y];exact Y];rw[show n+1+(((i+1:Nat)):Int)=n+1+i+1 by lia]) (ρ:=[‹ns.map D.int›,some<|At<|n+1,‹C.map e3›,‹P.map e2›,‹X.map (yx false)›,↑(N.map D.str),↑(F.map D.str),some<|.lst true [],none]) #v[[],none,by simp,rfl,by simp]
  rw[jM] at p w;refine#v[L,n+1+(k.toNat:Int),?_,by lia,by lia,by lia,λq f=>#v[(a q f).1,l _ (a q f).2]];unfold vC;rw[km];simp(disch:=lia) [qM,t,d,c,u,e,R,jl,b,yf (j:=k) ∅ ∅,w,jb,YG]
def uF{c a:Int}{W}(b:ga c W)(g:0<=a){q:Nat}(h:a+q<=676):((List.range q).map λj:Nat=>cI c W<|a+(0+(j:Int))).Nodup:=by
 unfold List.Nodup;rw[List.pairwise_map];refine List.Pairwise.imp_of_mem ?_<|List.nodup_range;intro i j hi d f e;have hi:=List.mem_range.mp hi;have d:=List.mem_range.mp d;have:=Qc b ∅ ∅ ∅ ∅ e
 lia
def MN{ns}(j:xR ns){n a k}{W}(nm:∀ k:Int,0<=k->jn [.int a,.int k]=some (.str<|cI a W k))(t:0<=k)(l:k<=10)(c:0<=n)(m:n+5<=100000){a4 a5 a6}{C:List W3}(u:C.length<=100){i:Nat}{o9 b0 b1 b2 b3 b4 b5 b6}:
  dF λx x2 o9'=>eQ (1<=x/\x<=1000000000000/\1<=x2/\x2<=1000000000000) (kE [‹ns.map D.int›,some<|At n,some<|.int a,some<|.int k,a4,a5,a6,↑(C.map e3),some<|.int<|0+(i:Int),o9,b0,b1,b2,b3,b4,b5,b6] =
   some (.nx [‹ns.map D.int›,some<|At<|n+1+1,some<|.int a,some<|.int k,a4,a5,a6,↑((C++[(cI a W<|10*k+1+(0+(i:Int)),x,x2)]).map e3),some<|.int<|0+(i:Int),o9',b0,b1,b2,b3,b4,b5,b6])):=by
 let[v,o,p]:=vh ns j c ∅;let[x,ex,q,r]:=Y3 p;let[y,d,e]:=vh ns j (n:=n+1) ∅ ∅;let[x2,f,g,h]:=Y3 e;have s:=nm (10*k+1+(0+i)) ∅;have b:bW (C.map e3).length=true:=yI ∅;refine#v[x,x2,some<|.int x,#v[q,r,g,h],?_];generalize cI a W (10*k+1+(0+i))=w at *;rw[N6];show _=some (cf.nx [_,_,_,_,_,_,_,↑(C.map e3++[.tup [.str w,.int x,.int x2]]),_,_,_,_,_,_,_,_,_]);generalize C.map e3=CC at *;simp(disch:=lia) [kE,o,ex,d,f,s,qH,b,-Int.zero_add]
theorem zo(d:xR ns)  (nm:∀ k:Int,0<=k->jn [.int sd,.int k]=some (.str<|cI sd W k)) (f:0<=k) (a:k<=10):∀(q i:Nat) {n:Int}(_:0<=n) (_:n+q+20<=100000) o,∃ P:List W2,∃ o0:Option D,
  qL (jc [4] 0) (Qd<|jr (dP<|js jn #[pV 1,p2 jh (p2 jh (p2 va (pI 10)<|pV 2)<|pI 7)<|pV 0])<|jr (kr jF<|jr (j9 jo 4 1<|ja (pF<|pV 3)<|du pN) Js) Js) ((List.range' i q).map λi:Nat=>D.int<|0+(i:Int)) [o,some<|.int sd,some<|.int k,‹ns.map D.int›,some<|At n] =
   some (P.map e2,[o0,some<|.int sd,some<|.int k,‹ns.map D.int›,some<|At<|n+q])/\P.map (·.1)=((List.range' i q).map λj:Nat=>cI sd W<|10*k+7+(0+(j:Int)))/\∀ p∈P,1<=p.2/\p.2<=1000000000000
 | 0,i,n,_,_,o=>#v[[],o,by rw[show n+((0:Nat):Int)=n by lia];rfl,rfl,by simp]
 | q+1,i,n,w,x,o=>by
  let[v,g,h]:=vh ns d (n:=n) ∅ ∅;let[c,l,c1,m]:=Y3 h;let[P,o0,e,r,b]:=zo d nm f a q (i+1) (n:=n+1) ∅ ∅ (some<|.int<|0+i);refine#v[(cI sd W<|10*k+7+(0+i),c)::P,o0,?_,?_,λp s=>?_]
  ·have t:(Qd<|jr (dP<|js jn #[pV 1,p2 jh (p2 jh (p2 va (pI 10)<|pV 2)<|pI 7)<|pV 0])<|jr (kr jF<|jr (j9 jo 4 1<|ja (pF<|pV 3)<|du pN) Js) Js) [some<|.int<|0+i,some<|.int sd,some<|.int k,‹ns.map D.int›,some<|At n]=some (.tup [.str<|cI sd W<|10*k+7+(0+i),.int c],[some<|.int<|0+i,some<|.int sd,some<|.int k,‹ns.map D.int›,some<|At<|n+1]):=by
    simp(disch:=lia) [g,l,nm (10*k+7+(0+i)) ∅,qH,-Int.zero_add]
   have u:jc [4] 0 (.int<|0+i) [o,some<|.int sd,some<|.int k,‹ns.map D.int›,some<|At n]=some [some<|.int<|0+i,some<|.int sd,some<|.int k,‹ns.map D.int›,some<|At n]:=rfl;rw[List.range'_succ,L5,qL,u,L4,t,L4,e,show n+((q+1:Nat):Int)=n+1+q by lia];rfl
  ·rw[List.range'_succ,L5,L5,r]
  ·exact(M5.mp s).elim (λz=>by rw[z];exact#v[c1,m]) (b p)
def MO(c:xR ns)  (nm:∀ k:Int,0<=k->jn [.int sd,.int k]=some (.str<|cI sd W k)) (d:0<=k) (a:k<=10)  (b:0<=n) (e:n+40<=100000)  (f:q<=9):∃ P:List W2,∃ o0:Option D,
  qL (jc [4] 0) (Qd<|jr (dP<|js jn #[pV 1,p2 jh (p2 jh (p2 va (pI 10)<|pV 2)<|pI 7)<|pV 0])<|jr (kr jF<|jr (j9 jo 4 1<|ja (pF<|pV 3)<|du pN) Js) Js) (qp 0 q) [none,some<|.int sd,some<|.int k,‹ns.map D.int›,some<|At n] =
   some (P.map e2,[o0,some<|.int sd,some<|.int k,‹ns.map D.int›,some<|At<|n+q])/\P.map (·.1)=((List.range q).map λj:Nat=>cI sd W<|10*k+7+(0+(j:Int)))/\∀ p∈P,1<=p.2/\p.2<=1000000000000:=by
 have:=zo c nm d a q 0 b ∅ none;rw[<- List.range_eq_range'] at this;exact this
def MP{X:List cY}{i:Int}(a:0<=i)(h:i<X.length):∃ x∈X,jd (.lst o<|X.map<|yx false) (.int i)=some (yx false x):=by
 have hi:i.toNat<X.length:=by lia
 exact#v[X[i.toNat],List.getElem_mem hi,by rw[fv a<|by rw[L1];exact h,List.getElem?_map,E1 hi];rfl]
def MQ{ns}(d:xR ns){n}(a:0<=n)(e:n+5<=100000){C:List W3}(q:1<=C.length){X:List cY}(r:1<=X.length)  {L}(s:L.length<=100) {i:Nat}{a2 a3 a4 a5 a6 a9 b0 b2 b5 b6}:
  ∃ l b5',(l.1∈C.map (·.1)/\l.2.2∈X.map (·.nm))/\kD [‹ns.map D.int›,some<|At n,a2,a3,a4,a5,a6,‹C.map e3›,some<|.int<|0+(i:Int),a9,b0,some<|.int (C.length:Int),b2,some<|.lst o<|X.map<|yx false,↑(L.map eL),b5,b6] =
   some (.nx [‹ns.map D.int›,some<|At<|n+1,a2,a3,a4,a5,a6,‹C.map e3›,some<|.int<|0+(i:Int),a9,b0,some<|.int (C.length:Int),b2,some<|.lst o<|X.map<|yx false,↑((L++[l]).map eL),b5',b6]):=by
 let[v,f,u]:=vh ns d a ∅;let[c,g,h,_]:=lA (o:=false) (U2 v<|show(C.length:Int)≠0 by lia)<|U0 v (show 0<(C.length:Int) by lia);have j:ji (.int v) (.int C.length)=some (.int<|v%C.length):=jl ∅;let[x,k,ix]:=MP (o:=o) (U2 (v/100)<|show(X.length:Int)≠0 by lia)<|U0 (v/100) (show 0<(X.length:Int) by lia);have m:ji (.int<|v/100) (.int X.length)=some (.int<|v/100%X.length):=jl ∅;have p:(((X.map<|yx false).length:Nat):Int)=X.length:=by simp
 have b:bW (L.map eL).length=true:=yI ∅;refine#v[(c.1,1+v/10%9,x.nm),some<|.int v,#v[M7.mpr #v[c,g,rfl],M7.mpr #v[x,k,rfl]],?_];rw[N6];show _=some (cf.nx [_,_,_,_,_,_,_,_,_,_,_,_,_,_,↑(L.map eL++[.tup [.str c.1,.int<|1+v/10%9,.str x.nm]]),_,_]);simp(disch:=lia) [kD,f,h,qB (t:=c),jL,jl,ix,O0 x,jb]
structure bQ where
 nm:List Nat
 told:List W3
 marks:List W2
 eats:List (List Nat)
 orders:List cY
 looks:List WL
 guards:List WG
def jB(o:Bool)(p:bQ):D:=.tup [.str p.nm,.lst false<|p.told.map e3,.lst false<|p.marks.map e2,.lst o<|p.eats.map D.str,.lst false<|p.orders.map<|yx false,.lst false<|p.looks.map eL,.lst false<|p.guards.map eG]
structure bP(O:W1)(p:bQ):Prop where
 nm:Wd p.nm
 told:∀ c∈p.told,Wd c.1/\1<=c.2.1/\c.2.1<=10 ^ 12/\1<=c.2.2/\c.2.2<=10 ^ 12
 toldn:(p.told.map (·.1)).Nodup
 told1:0<p.told.length
 told2:p.told.length<=10
 marks:∀ c∈p.marks,Wd c.1/\1<=c.2/\c.2<=10 ^ 12
 marksn:(p.marks.map (·.1)).Nodup
 marks2:p.marks.length<=10
 eats:∀ w∈p.eats,Wd w
 eatsm:∀ w∈p.eats,w∈p.told.map (·.1)
 eatsn:p.eats.Nodup
 eats2:p.eats.length<=10
 orders:∀ x∈p.orders,cg (p.told.map (·.1)) (p.marks.map (·.1)) O x
 ordn:(p.orders.map (·.nm)).Nodup
 orders1:0<p.orders.length
 orders2:p.orders.length<=10
 looks:∀ x∈p.looks,x.1∈p.told.map (·.1)/\Wd x.1/\Wd x.2.2
 looksm:∀ x∈p.looks,x.2.2∈p.orders.map (·.nm)
 looks2:p.looks.length<=10
 guards:∀ x∈p.guards,Wd x.1/\Wd x.2/\x.1∈p.marks.map (·.1)/\x.2∈p.told.map (·.1)
 guards2:p.guards.length<=10
def bP.fz(h:bP O p)(o):QD.fz (jB o p)=jB false p:=by
 simp[jB,xz,JZ,jk _<|vt h.orders,sN,BQ]
def bP.frz(h:bP O p):QD.frz (jB false p)=true:=by
 simp[jB,qf,ye,vt h.orders,KN,xN]
def BX(M:xR ns)  (bs:ga sd W) (nm:∀ k:Int,0<=k->jn [.int sd,.int k]=some (.str<|cI sd W k)) (hk:0<=k) (hk2:k<=5) (hn0:0<=n) (hn1:n+1000<=100000) (m1:1<=mo) (m2:mo<=5)  (hO:O.length<=10) (hOw:∀ w∈O,Wd w):
  dv λ(p:bQ) (n':Int)=>eS (Jn [.lst false<|ns.map D.int,At n,.int sd,.int k,.lst false<|O.map D.str,.int mo]=some (jB false p,At n')) (n<=n') (n'<=n+300) (p.nm=cI sd W (10*k)) (bP O p):=by
 let[m,em,hm]:=vh ns M hn0 ∅;have N:=yf (j:=1+m%6) ∅ ∅;let[ρ',e1,C,g,h,rfl,F,I]:=vy (G:=jc [1] 8) (f:=kE) (xs:=qp 0 (1+m%6).toNat) (λi ρ=>∃(C:List W3) (g h:Option D),ρ=[‹ns.map D.int›,some<|At<|n+1+2*(i:Int),some<|.int sd,some<|.int k,‹O.map D.str›,some<|.int mo,some<|.int m,↑(C.map e3),g,h,none,none,none,none,none,none,none]/\C.map (·.1)=((List.range i).map λj:Nat=>cI sd W<|10*k+1+(0+(j:Int)))/\∀ c∈C,1<=c.2.1/\c.2.1<=1000000000000/\1<=c.2.2/\c.2.2<=1000000000000) (by
  rintro i x ρ e ⟨C,g,h,rfl,F,I⟩;let[rfl,hi]:=kG e;have Q:C.length=i:=by have:=congrArg List.length F;rw[L1,L1,List.length_range] at this;exact this
  let[z1,z2,o9',zb,ez]:=MN M (n:=n+1+2*(i:Int)) nm hk ∅ ∅ ∅ (a4:=‹O.map D.str›) (a5:=some<|.int mo) (a6:=some<|.int m) (C:=C) ∅ (i:=i) (o9:=h) (b0:=none) (b1:=none) (b2:=none) (b3:=none) (b4:=none) (b5:=none) (b6:=none);refine#v[_,_,rfl,.inl ez,C++[(cI sd W<|10*k+1+(0+(i:Int)),z1,z2)],some<|.int<|0+(i:Int),o9',?_,by rw[N6,F,List.range_succ,N6];rfl,λc b=>(N3.mp b).elim (I c) λy=>by rw[M9.mp y];exact zb];rw[show n+1+2*(((i+1:Nat)):Int)=n+1+2*(i:Int)+1+1 by lia]) (ρ:=[‹ns.map D.int›,some<|At<|n+1,some<|.int sd,some<|.int k,‹O.map D.str›,some<|.int mo,some<|.int m,some<|.lst true [],none,none,none,none,none,none,none,none,none]) #v[[],none,none,by simp,rfl,by simp]
 rw[jM] at F e1;have Q:C.length=(1+m%6).toNat:=by have:=congrArg List.length F;rw[L1,L1,List.length_range] at this;exact this
 have r:(C.map (·.1)).Nodup:=by rw[F];exact uF bs ∅ ∅
 have S:∀ c∈C,gE sd W 100 c.1:=λc b=>by
  have:=List.mem_map_of_mem (f:=(·.1)) b;rw[F] at this;let[j,hj,ej]:=M7.mp this;have hj:=List.mem_range.mp hj;exact#v[_,by lia,by lia,ej.symm]
 have J:1<=C.length:=by lia
 have s:C.length<=6:=by lia
 clear Q;generalize hn2:n+1+2*(((1+m%6).toNat:Nat):Int)=n2 at e1;have v2:n<=n2/\n2<=n+13:=by lia
 clear hn2;let[P,o0,U,t,hPb]:=MO M nm hk ∅ (n:=n2) ∅ ∅ (q:=(m/6%4).toNat) ∅;have hP:P.length=(m/6%4).toNat:=by have:=congrArg List.length t;rw[L1,L1,List.length_range] at this;exact this
 have V:(P.map (·.1)).Nodup:=by rw[t];exact uF bs ∅ ∅
 have u:∀ c∈P,Wd c.1:=λc b=>by
  have:=List.mem_map_of_mem (f:=(·.1)) b;rw[t] at this;let[j,hj,ej]:=M7.mp this;rw[<- ej];exact(Q4 bs ∅).wd
 have Y:=yf (j:=m/6%4) ∅ ∅;generalize hn3:n2+(((m/6%4).toNat:Nat):Int)=n3 at U;have v3:n2<=n3/\n3<=n2+3:=by lia
 clear hn3;have Z:=yF ns;have hdc:QY (ql #[p2 ji (p2 jK (pV 6)<|pI 6)<|pI 4]) (jc [4] 0) (Qd<|jr (dP<|js jn #[pV 1,p2 jh (p2 jh (p2 va (pI 10)<|pV 2)<|pI 7)<|pV 0])<|jr (kr jF<|jr (j9 jo 4 1<|ja (pF<|pV 3)<|du pN) Js) Js) [none,some 2,some 3,some 0,some 1] 1 4
   [‹ns.map D.int›,some<|At n2,some<|.int sd,some<|.int k,‹O.map D.str›,some<|.int mo,some<|.int m,↑(C.map e3),g,h,none,none,none,none,none,none,none] =
   some (.lst true<|P.map e2,[‹ns.map D.int›,some<|At n3,some<|.int sd,some<|.int k,‹O.map D.str›,some<|.int mo,some<|.int m,↑(C.map e3),g,h,none,none,none,none,none,none,none]):=by
  have hpi:ql #[p2 ji (p2 jK (pV 6)<|pI 6)<|pI 4] [‹ns.map D.int›,some<|At n2,some<|.int sd,some<|.int k,‹O.map D.str›,some<|.int mo,some<|.int m,↑(C.map e3),g,h,none,none,none,none,none,none,none]=some (qp 0 (m/6%4).toNat):=by
   simp(disch:=lia) [jL,jl,Y]
  have hfb:YA 4 [none,some<|.int sd,some<|.int k,‹ns.map D.int›,some<|At n2]=true:=by simp[YA,Z]
  have hlm:bW (qp 0 (m/6%4).toNat).length=true:=jb (by rw[jM];lia);unfold QY;rw[hpi,L4];show(bif bW (qp 0 (m/6%4).toNat).length&&YA 4 [none,some<|.int sd,some<|.int k,‹ns.map D.int›,some<|At n2] then(qL _ _ _ [none,some<|.int sd,some<|.int k,‹ns.map D.int›,some<|At n2]).bind _ else none)=_;rw[hlm,hfb,U];rfl
 have a1:=U2 (m/24) (show(C.length:Int)+1≠0 by lia);have a2:=U0 (m/24) (show 0<(C.length:Int)+1 by lia);have hmc:ji (.int<|m/24) (.int<|(C.length:Int)+1)=some (.int<|m/24%((C.length:Int)+1)):=jl ∅;generalize m/24%((C.length:Int)+1)=q at a1 a2 hmc;have hrg3:=yf (j:=q) ∅ ∅;have hlm3:bW (qp 0 q.toNat).length=true:=jb (by rw[jM];lia);have er3:=uQ (o:=true) (T:=C) (n:=m) (c:=100) (q:=q.toNat) ∅ s (by decide) (by decide) hm;have v:=BR (C:=C.map (·.1)) (a:=m/100) (q:=q.toNat) (by rw[L1];lia);have K:=xb (C:=C.map (·.1)) (a:=m/100) (q:=q.toNat) (by rw[L1];lia) (by rw[L1];lia) r;have hEl:=xT (C:=C.map (·.1)) (a:=m/100) (q:=q.toNat);generalize fV (C.map (·.1)) (m/100) q.toNat=E at er3 v K hEl;have cx:h8 ns sd W C P O:=#v[M,bs,nm,J,s,by lia,hO,r,S,u,hOw];let[X,H,e4,b1,b2,hX1,hX5,A,hXn]:=MI cx (n:=n3) (mo:=mo) ∅ ∅ m1 m2;have hrg5:=yf (j:=m/1000%5) ∅ ∅;let[ρ5,e5,L,p8,p15,rfl,hL,d]:=vy (G:=jc [1] 8) (f:=kD) (xs:=qp 0 (m/1000%5).toNat) (λi ρ=>∃(L:List WL) (g R:Option D),ρ=[‹ns.map D.int›,some<|At<|H+(i:Int),some<|.int sd,some<|.int k,‹O.map D.str›,some<|.int mo,some<|.int m,‹C.map e3›,g,h,‹P.map e2›,some<|.int (C.length:Int),↑(E.map D.str),↑(X.map<|yx false),↑(L.map eL),R,none]/\L.length=i/\∀ l∈L,l.1∈C.map (·.1)/\l.2.2∈X.map (·.nm)) (by
  rintro i x ρ e ⟨L,g,R,rfl,hL,d⟩;let[rfl,hi]:=kG e;let[z,b5',zm,ez]:=MQ M (n:=H+(i:Int)) ∅ ∅ (C:=C) J (X:=X) hX1 (o:=true) (L:=L) ∅ (i:=i) (a2:=some<|.int sd) (a3:=some<|.int k) (a4:=‹O.map D.str›) (a5:=some<|.int mo) (a6:=some<|.int m) (a9:=h) (b0:=‹P.map e2›) (b2:=↑(E.map D.str)) (b5:=R) (b6:=none);refine#v[_,_,rfl,.inl ez,L++[z],some<|.int<|0+(i:Int),b5',?_,by simp[hL],λq hq=>(N3.mp hq).elim (d q) λy=>by rw[M9.mp y];exact zm];rw[show H+(((i+1:Nat)):Int)=H+(i:Int)+1 by lia]) (ρ:=[‹ns.map D.int›,some<|At H,some<|.int sd,some<|.int k,‹O.map D.str›,some<|.int mo,some<|.int m,‹C.map e3›,g,h,‹P.map e2›,some<|.int (C.length:Int),↑(E.map D.str),↑(X.map<|yx false),some<|.lst true [],none,none]) #v[[],g,none,by simp,rfl,by simp]
 rw[jM] at hL e5;generalize hn5:H+(((m/1000%5).toNat:Nat):Int)=n5 at e5;have v5:H<=n5/\n5<=H+4:=by lia
 clear hn5;let[G,n6,e6,d1,d2,hG,B]:=MM M (C:=C) s (P:=P) ∅ (X:=X) hX5 A (n:=n5) ∅ ∅;have ew:=nm (10*k) ∅;have wC:∀ w∈C.map (·.1),Wd w:=λw hw=>by let[c,b,rfl]:=M7.mp hw;exact cx.cw c b
 have wP:∀ w∈P.map (·.1),Wd w:=λw hw=>by let[c,b,rfl]:=M7.mp hw;exact u c b
 refine#v[#v[cI sd W<|10*k,C,P,E,X,L,G],n6,?_,by lia,by lia,rfl,#v[(Q4 bs ∅).wd,λc b=>#v[cx.cw c b,I c b],r,J,N8 s<|by decide,λc b=>#v[u c b,hPb c b],V,by show P.length<=10;lia,λw hw=>wC w<|v w hw,v,K,by show E.length<=10;lia,A,hXn,hX1,N8 hX5<|by decide,λx e=>#v[(d x e).1,wC _ (d x e).1,by let[y,hy,ey]:=M7.mp (d x e).2;rw[<- ey];exact(A y hy).nm],λx e=>(d x e).2,by show L.length<=10;lia,λx e=>#v[wP _ (B x e).1,wC _ (B x e).2,B x e],by show G.length<=10;lia]];clear r S V u v K hXn d B F t;generalize cI sd W (10*k)=w at *;show _=some (D.tup [.str w,.lst false<|C.map e3,.lst false<|P.map e2,.lst false<|E.map D.str,.lst false<|X.map<|yx false,.lst false<|L.map eL,.lst false<|G.map eG],At n6);have frC:=qf C;have fzC:=xz C;have frP:=ye P;have fzP:=JZ P;have frE:=yt E;have fzE:=qk E;have frX:=vt A;have fzX:=jk _ frX;have frL:=KN L;have fzL:=jk _ frL;have frG:=xN G;have fzG:=jk _ frG;have frO:=yt O;have hlC:(((C.map e3).length:Nat):Int)=(C.length:Int):=by rw[L1]
 have hbk:jq [none,some 7,some 6,some 11] [‹ns.map D.int›,some<|At n3,some<|.int sd,some<|.int k,‹O.map D.str›,some<|.int mo,some<|.int m,↑(C.map e3),g,h,↑(P.map e2),some<|.int (C.length:Int),none,none,none,none,none]=[none,↑(C.map e3),some<|.int m,some<|.int (C.length:Int)]:=rfl;unfold Jn;rw[km];generalize ns.map D.int=NS,C.map e3=CC,P.map e2=PP,E.map D.str=EE,X.map (yx false)=XX,L.map eL=LL,G.map eG=GG,O.map D.str=OO at *;simp(disch:=lia) [Kp,em,Z,jl,jL,N,e1,hdc,hlC,hmc,hrg3,hlm3,hbk,er3,fzC,fzP,frC,frP,frO,e4,hrg5,e5,fzX,frX,e6,fzE,frE,fzL,frL,fzG,frG,qH,ew,jb,YG,-uC,-Ia]
 try rfl
structure cD(Ps:List bQ):Prop where
 len1:0<Ps.length
 len2:Ps.length<=6
 nmn:(Ps.map (·.nm)).Nodup
 ok:∀ p∈Ps,∃ X,bP X p/\∀ w∈X,w∈Ps.map (·.nm)
def MR{ns}(z:xR ns){n a}{W}(bs:ga a W)(nm:∀ k:Int,0<=k->jn [.int a,.int k]=some (.str<|cI a W k))(c:0<=n)(d:n+1000<=100000){M:Nat}{N:W1}(H:N.length<=6)(e:∀ w∈N,Wd w){i}(hi:i<N.length){B}(I:B.length<=100){a3 o8}:
  dF λp n' o8'=>eS (kq [‹ns.map D.int›,some<|At n,some<|.int a,a3,some<|.int (M:Int),↑(N.map D.str),↑(B.map<|jB false),some<|.int<|0+(i:Int),o8] =
   some (.nx [‹ns.map D.int›,some<|At n',some<|.int a,a3,some<|.int (M:Int),↑(N.map D.str),↑((B++[p]).map (jB false)),some<|.int<|0+(i:Int),o8'])) (n<=n') (n'<=n+300) (p.nm=cI a W (10*(0+(i:Int)))) (∃ X,bP X p/\∀ w∈X,w∈N):=by
 have A:=xJ (o:=true) (l:=N) (i:=0+i) ∅ ∅;generalize N.getD (0+(i:Int)).toNat []=u at A;have q:jU (jc [] 0) (jt<|p2 wX (pV 0)<|p2 jd (pV 1)<|pV 2) (pF<|pV 0) (N.map D.str) (jq [none,some 5,some 7] [‹ns.map D.int›,some<|At n,some<|.int a,a3,some<|.int M,↑(N.map D.str),↑(B.map<|jB false),some<|.int<|0+i,o8])=some ((N.filter λw=>!(w==u)).map D.str):=by
  refine IS (λρ=>∃ o,ρ=[o,↑(N.map D.str),some<|.int<|0+i]) ?_ #v[none,rfl];rintro w b ρ ⟨o,rfl⟩;refine#v[[some<|.str w,↑(N.map D.str),some<|.int<|0+i],rfl,?_,rfl,_,rfl];simp[A,-Int.zero_add]
 have G:(N.filter λw=>!(w==u)).length<=N.length:=List.length_filter_le _ _;have f:∀ w∈N.filter (λw=>!(w==u)),w∈N:=λw b=>(List.mem_filter.mp b).1;generalize(N.filter λw=>!(w==u))=O at q G f;have g:=yF ns;have h:=yt O;have j:=qk O;have m:=yt N;have C:bW (N.map D.str).length=true:=yI ∅;have E:bW (B.map<|jB false).length=true:=yI ∅;by_cases F:M=6
 ·subst F;rw[show((6:Nat):Int)=6 from rfl] at q ⊢;let[p,n',r,s,t,pn,v]:=BX z (k:=0+i) (mo:=2) bs nm ∅ ∅ c d (by decide) (by decide) ∅ (λw b=>e w<|f w b);refine#v[p,n',‹O.map D.str›,?_,s,t,pn,O,v,f];have x:jd (.lst true [.int 5,.int 2]) (.int 1)=some (.int 2):=rfl;simp(disch:=lia) [kq,m,C,q,j,g,h,x,r,E,jb,-Int.zero_add]
 ·have y:¬ (M:Int)=6:=by lia
  let[p,n',r,s,t,pn,v]:=BX z (k:=0+i) (mo:=5) bs nm ∅ ∅ c d (by decide) (by decide) ∅ (λw b=>e w<|f w b);refine#v[p,n',‹O.map D.str›,?_,s,t,pn,O,v,f];have x:jd (.lst true [.int 5,.int 2]) (.int 0)=some (.int 5):=rfl;simp(disch:=lia) [kq,m,C,q,j,g,h,y,F,x,r,E,jb,-Int.zero_add]
def MS{ns}(m:xR ns):dF λs0 u B=>eS (jD [.lst false<|ns.map D.int,.int 0]=some (.int s0)) (jn [.int<|s0%1000000000000,.int 601]=some (.str u)) (u∉B.map (·.nm)) (Jj [.lst false<|ns.map D.int]=↑(B.map<|jB false)) (cD B):=by
 let[s0,I,O,_]:=qV ns m (k:=0) (by decide) (by decide);let[v,P,hv]:=vh ns m (n:=0) (by decide) (by decide);let[W,bs,nm]:=BP (s:=s0%1000000000000) ∅;have q:vR (.int 10) (.int 12)=some (.int 1000000000000):=rfl;have Q:∃ M:Nat,1<=M/\M<=6/\jd (.lst true [.int 1,.int 2,.int 3,.int 1,.int 2,.int 6]) (.int<|v%6)=some (.int M):=by
  have:v%6=0\/v%6=1\/v%6=2\/v%6=3\/v%6=4\/v%6=5:=by lia
  rcases this with h | h | h | h | h | h<;>rw[h]
  ·exact#v[1,by decide,by decide,rfl]
  ·exact#v[2,by decide,by decide,rfl]
  ·exact#v[3,by decide,by decide,rfl]
  ·exact#v[1,by decide,by decide,rfl]
  ·exact#v[2,by decide,by decide,rfl]
  ·exact#v[6,by decide,by decide,rfl]
 let[M,M1,M6,R]:=Q;have S:KH [.int M]=some (qp 0 M):=by
  have:=yf (j:=M) ∅ ∅;simpa using this
 have r:bW (qp 0 M).length=true:=jb (by rw[jM];lia);have J:jU (jc [] 0) qT (js jn #[pV 1,p2 va (pI 10)<|pV 0]) (qp 0 M) (jq [none,some 2] [‹ns.map D.int›,some<|At 1,some<|.int<|s0%1000000000000,some<|.int v,some<|.int M,none,none,none,none])=some (((List.range M).map λj:Nat=>cI (s0%1000000000000) W<|10*(0+j)).map D.str):=by
  rw[U3];refine jA (l:=List.range M) rfl (λρ=>∃ o,ρ=[o,some<|.int<|s0%1000000000000]) ?_ #v[none,rfl];rintro i hi ρ ⟨o,rfl⟩;have hi:=List.mem_range.mp hi;refine#v[[some<|.int<|0+i,some<|.int<|s0%1000000000000],rfl,?_,_,rfl];simp(disch:=lia) [qH,nm (10*(0+i)) ∅,-Int.zero_add]
 have c:∀ w∈(List.range M).map λj:Nat=>cI (s0%1000000000000) W<|10*(0+j),Wd w:=λw T=>by
  let[j,_,rfl]:=M7.mp T;exact(Q4 bs ∅).wd
 have d:((List.range M).map λj:Nat=>cI (s0%1000000000000) W<|10*(0+j)).Nodup:=by
  unfold List.Nodup;rw[List.pairwise_map];refine List.Pairwise.imp_of_mem ?_<|List.nodup_range;intro i j hi f U e;have hi:=List.mem_range.mp hi;have f:=List.mem_range.mp f;have:=Qc bs ∅ ∅ ∅ ∅ e
  lia
 have t:((List.range M).map λj:Nat=>cI (s0%1000000000000) W<|10*(0+j)).length=M:=by rw[L1,List.length_range]
 have K:∀ i:Nat,i<M->((List.range M).map λj:Nat=>cI (s0%1000000000000) W<|10*(0+j)).take (i+1)=((List.range M).map λj:Nat=>cI (s0%1000000000000) W<|10*(0+j)).take i++[cI (s0%1000000000000) W<|10*(0+i)]:=λi hi=>by
  rw[List.take_add_one,List.getElem?_map,List.getElem?_range hi];rfl
 have L:cI (s0%1000000000000) W 601∉(List.range M).map λj:Nat=>cI (s0%1000000000000) W (10*(0+j)):=λh=>by
  let[j,f,e]:=M7.mp h;have f:=List.mem_range.mp f;have:=Qc bs ∅ ∅ ∅ ∅ e
  lia
 generalize((List.range M).map λj:Nat=>cI (s0%1000000000000) W<|10*(0+j))=N at J c d t K L;let[ρ',V,B,b,y,A,rfl,a,Y,Z,C]:=vy (G:=jc [] 7) (xs:=qp 0 M) (λi ρ=>∃ B b y A,ρ=[‹ns.map D.int›,some<|At b,some<|.int<|s0%1000000000000,some<|.int v,some<|.int M,↑(N.map D.str),↑(B.map<|jB false),y,A]/\B.map (·.nm)=N.take i/\1<=b/\b<=1+300*i/\∀ p∈B,∃ X,bP X p/\∀ w∈X,w∈N) (by
  rintro i x ρ hx ⟨B,b,y,A,rfl,a,Y,Z,C⟩;let[rfl,hi]:=kG hx;have E:B.length<=i:=by have:=congrArg List.length a;rw[L1,E2] at this;lia
  let[p,n2,F,e,c1,c2,pn,H]:=MR m (n:=b) bs nm ∅ ∅ ∅ c (i:=i) ∅ (B:=B) ∅;refine#v[_,_,rfl,.inl e,B++[p],n2,some<|.int<|0+i,F,rfl,by rw[N6,a,K i hi,<- pn];rfl,by lia,by lia,λz g=>?_];rcases N3.mp g with g | g
  ·exact C z g
  ·rw[M9.mp g];exact H) (ρ:=[‹ns.map D.int›,some<|At 1,some<|.int<|s0%1000000000000,some<|.int v,some<|.int M,↑(N.map D.str),some<|.lst true [],none,none]) #v[[],1,none,none,rfl,rfl,by lia,by lia,by simp]
 rw[jM,<- t,List.take_length] at a;have E:B.length=M:=by have:=congrArg List.length a;rw[L1,t] at this;exact this
 refine#v[s0,_,B,I,nm 601<|by decide,by rw[a];exact L,?_,#v[by lia,by lia,by rw[a];exact d,by rw[a];exact C]];simp(disch:=lia) [Jj,jx,Kz,jb,yF ns,vS ns,I,q,jl,P,R,S,r,J,V,-Int.zero_add]
noncomputable abbrev Dy:=List Int×List Int
def qw(y:Dy):D:=.tup [.lst false<|y.1.map D.int,.lst false<|y.2.map D.int]
structure fW(k:Nat)(y:Dy):Prop where
 a:y.1.length=k
 b:y.2.length=k
 a0:∀ v∈y.1,0<=v/\v<10 ^ 30
 b0:∀ v∈y.2,0<=v/\v<10 ^ 30
def MT{ns}(s:xR ns){a}(K:a.length<=10){Y}(L:Y.length<=100){i:Nat}(hi:i<=10){o4 o5}:
  dF λy o4' o5'=>eQ (qD [‹ns.map D.int›,‹a›,↑(Y.map qw),some<|.int<|0+(i:Int),o4,o5] =
   some (.nx [‹ns.map D.int›,‹a›,↑((Y++[y]).map qw),some<|.int<|0+(i:Int),o4',o5'])) (fW a.length y):=by
 have g:KH [.int a.length]=some (qp 0 a.length):=by
  have:=yf (j:=a.length) ∅ ∅;simpa using this
 have h:bW (qp 0 a.length).length=true:=jb (by rw[jM];lia);have b:∀ f base ρ,0<=base->base<=1000->(∀ n:Int,0<=n->∃ v,f [.int n]=some (.int v)/\0<=v/\v<10 ^ 30)->(∃ o,ρ=[o,‹ns.map D.int›,some<|.int<|0+i]) ->
   ∃ V:List Int,jU (jc [] 0) qT (js f #[js jD #[pV 1,p2 jh (p2 jh (pI base)<|p2 va (pI 12)<|pV 2)<|pV 0]]) (qp 0 a.length) ρ=some (V.map D.int)/\V.length=a.length/\∀ v∈V,0<=v/\v<10 ^ 30:=by
  intro f base ρ M N t u;let[O,w,l,z]:=KO (G:=jc [] 0) (p:=js f #[js jD #[pV 1,p2 jh (p2 jh (pI base)<|p2 va (pI 12)<|pV 2)<|pV 0]]) (Good:=λd=>∃ v,d=.int v/\(0<=v/\v<10 ^ 30)) (P:=λρ=>∃ o,ρ=[o,‹ns.map D.int›,some<|.int<|0+i]) (xs:=qp 0 a.length) (by
   rintro x A ρ ⟨o,rfl⟩;let[j,r,rfl]:=M7.mp A;have r:=List.mem_range.mp r;let[d,B,hd,_]:=qV ns s (k:=base+12*(0+i)+(0+j)) ∅ ∅;let[v,C,E]:=t d hd;refine#v[[some<|.int<|0+j,‹ns.map D.int›,some<|.int<|0+i],.int v,rfl,?_,#v[v,rfl,E],_,rfl];simp(disch:=lia) [qH,yF ns,vS ns,B,C,-Int.zero_add]) u
  rw[jM] at l;let[V,rfl,F]:=Y1 z;rw[L1] at l;exact#v[V,w,l,F]
 let[V,H,l1,I]:=b jV 700 (jq [none,some 0,some 3] [‹ns.map D.int›,‹a›,↑(Y.map qw),some<|.int<|0+i,o4,o5]) (by decide) (by decide) (λn J=>(by
   have c:vR (.int 10) (.int 13)=some (.int 10000000000000):=rfl;have m:vR (.int 10) (.int 30)=some (.int 1000000000000000000000000000000):=rfl;have o:n%6=0\/n%6=1\/n%6=2\/n%6=3\/n%6=4\/n%6=5:=by lia
   rcases o with o | o | o | o | o | o
   ·exact#v[0,by simp(disch:=lia) [jV,jx,yq,jl,jL,o],by decide,by decide]
   ·exact#v[n/6%60,by simp(disch:=lia) [jV,jx,yq,jl,jL,o],by lia,by lia]
   ·exact#v[n/6%60,by simp(disch:=lia) [jV,jx,yq,jl,jL,o],by lia,by lia]
   ·exact#v[n/6%2000,by simp(disch:=lia) [jV,jx,yq,jl,jL,o],by lia,by lia]
   ·exact#v[n/6%10000000000000,by simp(disch:=lia) [jV,jx,yq,jl,jL,o,c],by lia,by lia]
   ·exact#v[n/6%1000000000000000000000000000000,by simp(disch:=lia) [jV,jx,yq,jl,jL,o,m],by lia,by lia])) #v[none,rfl]
 let[W,e2,l2,w2]:=b yA 706 (jq [none,some 0,some 3] [‹ns.map D.int›,‹a›,↑(Y.map qw),some<|.int<|0+i,↑(V.map D.int),o5]) (by decide) (by decide) (λn J=>(by
   have c:vR (.int 10) (.int 13)=some (.int 10000000000000):=rfl;have q:vR (.int 10) (.int 29)=some (.int 100000000000000000000000000000):=rfl;have o:n%6=0\/n%6=1\/n%6=2\/n%6=3\/n%6=4\/n%6=5:=by lia
   rcases o with o | o | o | o | o | o
   ·exact#v[0,by simp(disch:=lia) [yA,jx,vj,jl,jL,o],by decide,by decide]
   ·exact#v[0,by simp(disch:=lia) [yA,jx,vj,jl,jL,o],by decide,by decide]
   ·exact#v[0,by simp(disch:=lia) [yA,jx,vj,jl,jL,o],by decide,by decide]
   ·exact#v[n/6%40,by simp(disch:=lia) [yA,jx,vj,jl,jL,o],by lia,by lia]
   ·exact#v[n/6%10000000000000,by simp(disch:=lia) [yA,jx,vj,jl,jL,o,c],by lia,by lia]
   ·exact#v[n/6%100000000000000000000000000000,by simp(disch:=lia) [yA,jx,vj,jl,jL,o,q],by lia,by lia])) #v[none,rfl]
 have e:bW (Y.map qw).length=true:=yI ∅;refine#v[(V,W),‹V.map D.int›,‹W.map D.int›,?_,l1,l2,I,w2];rw[N6];show _=some (cf.nx [_,_,↑(Y.map qw++[.tup [.lst false<|V.map D.int,.lst false<|W.map D.int]]),_,_,_]);simp(disch:=lia) [qD,g,h,H,e2,yF V,vS V,yF W,vS W,e,jb,-Int.zero_add]
def MU(m:xR ns)  (n:DD.length<=10) (t:frzs DD=true):∃(Y:List Dy),cX (Jk [.lst false<|ns.map D.int,.lst false DD]=↑(Y.map qw)) (Y.length<=6) (∀ y∈Y,fW DD.length y):=by
 let[s0,o,p,_]:=qV ns m (k:=690) (by decide) (by decide);let[u,q,Y,b,c,d,rfl,f,g]:=vy (G:=jc [] 3) (xs:=qp 0 (s0%7).toNat) (λi ρ=>∃ Y b c d,ρ=[‹ns.map D.int›,‹DD›,↑(Y.map qw),b,c,d]/\Y.length=i/\∀ y∈Y,fW DD.length y) (by
  rintro i x ρ r ⟨Y,b,c,d,rfl,f,g⟩;let[rfl,hi]:=kG r;let[y,h,l,e,s]:=MT m n (Y:=Y) ∅ (i:=i) ∅;refine#v[_,_,rfl,.inl e,Y++[y],some<|.int<|0+i,h,l,rfl,by simp[f],λz a=>?_];rcases N3.mp a with a | a
  ·exact g z a
  ·rw[M9.mp a];exact s) (ρ:=[‹ns.map D.int›,‹DD›,some<|.lst true [],none,none,none]) #v[[],none,none,none,rfl,rfl,by simp]
 rw[jM] at f;refine#v[Y,?_,by lia,g];simp(disch:=lia) [Jk,jx,Kg,yF ns,vS ns,o,jl,yf (j:=s0%7) ∅ ∅,q,jb]
def h9(n:Nat)(d:D):Prop:=yd n [d,d]=some (.bl true)
def MW(n)(i):h9 (n+1) (.int i):=by
 unfold h9 yd;have a:gS (.int i) .non=some (.bl false):=rfl;simp[jx,kT,i9,a]
def MX(n)(i):h9 (n+1) (.str i):=by
 unfold h9 yd;have a:gS (.str i) .non=some (.bl false):=rfl;simp[jx,kT,i9,a]
theorem Qe:∀{l}{o2 o3},frzs l=true->(∀ x∈l,h9 n x)->∃ o2' o3',jY (gT 2<|gC (jc [] 2)<|gC (jc [] 3) gN) (kF<|yd n) (JV l l) [a0,a1,o2,o3]=some (.nx [a0,a1,o2',o3'])
 | [],o2,o3,_,_=>#v[o2,o3,rfl]
 | x::l,o2,o3,a,h=>by
  rw[kU,M0] at a;let[c,d,e]:=Qe a.2<|λy f=>h y (by simp[f]);refine#v[c,d,?_];have b:yd n [x,x]=some (.bl true):=h x (by simp);have g:(gT 2<|gC (jc [] 2)<|gC (jc [] 3) gN) (.tup [x,x]) [a0,a1,o2,o3]=some [a0,a1,some x,some x]:=rfl;have i:kF (yd n) [a0,a1,some x,some x]=some (.nx [a0,a1,some x,some x]):=by simp[kF,uc x a.1,b]
  rw[JV,jQ,g,L4,i,L4,JG,e]
def dC:Nat->D->Bool
 | 0,_=>false
 | _+1,.int _=>true
 | _+1,.str _=>true
 | n+1,.tup l=>decide (l.length<=1000)&&l.all (dC n)
 | n+1,.lst o l=>!o&&(decide (l.length<=1000)&&l.all (dC n))
 | _+1,_=>false
theorem Qz:∀ n d,dC n d=true->frz d=true
 | 0,_,h=>by cases h
 | n+1,.int _,_=>rfl
 | n+1,.str _,_=>rfl
 | n+1,.tup l,h=>by
  simp only[dC,M0,List.all_eq_true] at h;rw[frz,JP,List.all_eq_true];exact λx a=>Qz n x<|h.2 x a
 | n+1,.lst o l,h=>by
  simp only[dC,M0,List.all_eq_true] at h;rw[frz,JP,M0,List.all_eq_true];exact#v[h.1,λx a=>Qz n x<|h.2.2 x a]
 | n+1,.non,h=>by cases h
 | n+1,.bl _,h=>by cases h
 | n+1,.dK _ _ _,h=>by cases h
 | n+1,.dT _ _ _,h=>by cases h
 | n+1,.ins _ _ _ _,h=>by cases h
 | n+1,.dead,h=>by cases h
 | n+1,.tok _,h=>by cases h
 | n+1,.kt _,h=>by cases h
theorem wG:∀ n d,dC n d=true->h9 n d
 | 0,_,h=>by cases h
 | n+1,.int _,_=>MW n _
 | n+1,.str _,_=>MX n _
 | n+1,.tup l,h=>by
  have a:=Qz _ _ h;simp only[dC,M0,List.all_eq_true,decide_eq_true_eq] at h;exact(by
    have a:=(by rw[frz] at a;exact a);unfold h9 yd;let[j,k,e]:=Qe (a0:=some<|.tup l) (a1:=some<|.tup l) (o2:=none) (o3:=none) a<|λx c=>wG n x<|h.2 x c;have b:=jk l a;have f:wX (.bl true) (.bl true)=some (.bl false):=rfl;have g:wX (.bl false) (.bl false)=some (.bl false):=rfl;have i:fT 2 [.tup l,.tup l]=some (JV l l):=by rw[mQ rfl rfl<|N0 _,b]
    simp[jx,kT,i9,a,b,i,f,g,e])
 | n+1,.lst o l,h=>by
  have a:=Qz _ _ h;simp only[dC,M0,List.all_eq_true,decide_eq_true_eq] at h;rw[frz,M0] at a;let[m,q,p]:=h;cases o with
  | true=>cases m
  | false=>exact(by
    unfold h9 yd;let[j,k,e]:=Qe (a0:=‹l›) (a1:=‹l›) (o2:=none) (o3:=none) a.2<|λx c=>wG n x<|p x c;have b:=jk l a.2;have f:wX (.bl true) (.bl true)=some (.bl false):=rfl;have g:wX (.bl false) (.bl false)=some (.bl false):=rfl;have i:fT 2 [.lst false l,.lst false l]=some (JV l l):=by rw[mQ rfl rfl<|N0 _,b]
    simp[jx,kT,i9,a.2,b,i,f,g,e])
 | n+1,.non,h=>by cases h
 | n+1,.bl _,h=>by cases h
 | n+1,.dK _ _ _,h=>by cases h
 | n+1,.dT _ _ _,h=>by cases h
 | n+1,.ins _ _ _ _,h=>by cases h
 | n+1,.dead,h=>by cases h
 | n+1,.tok _,h=>by cases h
 | n+1,.kt _,h=>by cases h
theorem K0:∀ n d,dC n d=true->dC (n+1) d=true
 | 0,_,h=>by cases h
 | n+1,.int _,_=>rfl
 | n+1,.str _,_=>rfl
 | n+1,.tup l,h=>by
  simp only[dC,M0,List.all_eq_true] at h ⊢;exact#v[h.1,λx a=>by have:=K0 n x<|h.2 x a;simpa [dC] using this]
 | n+1,.lst o l,h=>by
  simp only[dC,M0,List.all_eq_true] at h ⊢;exact#v[h.1,h.2.1,λx a=>by have:=K0 n x<|h.2.2 x a;simpa [dC] using this]
 | n+1,.non,h=>by cases h
 | n+1,.bl _,h=>by cases h
 | n+1,.dK _ _ _,h=>by cases h
 | n+1,.dT _ _ _,h=>by cases h
 | n+1,.ins _ _ _ _,h=>by cases h
 | n+1,.dead,h=>by cases h
 | n+1,.tok _,h=>by cases h
 | n+1,.kt _,h=>by cases h
def MY(h:dC n d=true)(a:n<=m):dC m d=true:=by
 induction a with
 | refl=>exact h
 | step _ b=>exact K0 _ _ b
def MZ{n}{f}{l:List s}(a:l.length<=1000)(h:∀ x∈l,dC n (f x)=true):dC (n+1) (.lst false<|l.map f)=true:=by
 simp only[dC,M0,List.all_eq_true,decide_eq_true_eq];exact#v[rfl,by rw[L1];exact a,λx b=>by let[y,c,rfl]:=M7.mp b;exact h y c]
noncomputable abbrev Rw:=Int×List Nat×Int
def vE(w:Rw):D:=.tup [.int w.1,.str w.2.1,.int w.2.2]
def M_{B:List bQ}{i:Int}(a:0<=i)(h:i<B.length):∃ p∈B,jd (.lst o<|B.map<|jB false) (.int i)=some (jB false p)/\jd (jB false p) (.int 0)=some (.str p.nm):=by
 have hi:i.toNat<B.length:=by lia
 exact#v[B[i.toNat],List.getElem_mem hi,by rw[fv a<|by rw[L1];exact h,List.getElem?_map,E1 hi];rfl,rfl]
def Na{ns}(y:xR ns){B:List bQ}(A:∀ p∈B,Wd p.nm)(U:1<=B.length)(hB:B.length<=10)(fB:frzs (B.map<|jB false)=true){Y}(hY:Y.length<=10)(fY:frzs Y=true):
  ∃(W:List Rw),cX (Jm [.lst false<|ns.map D.int,.lst false<|B.map<|jB false,.lst false Y]=↑(W.map vE)) (W.length<=7) (∀ w∈W,Wd w.2.1/\0<=w.2.2):=by
 let[s0,C,V,_]:=qV ns y (k:=850) (by decide) (by decide);let[ρ',X,W,E,q,r,t,v,rfl,F,H]:=vy (G:=jc [] 4) (xs:=qp 0 (s0%8).toNat) (λi ρ=>∃ W E q r t v,ρ=[‹ns.map D.int›,‹B.map (jB false)›,‹Y›,↑(W.map vE),E,q,r,t,v]/\W.length=i/\∀ w∈W,Wd w.2.1/\0<=w.2.2) (by
  rintro i x ρ Z ⟨W,E,q,r,t,v,rfl,F,H⟩;let[rfl,hi]:=kG Z;let[w,r5,r6,r7,r8,e,hw]:=(show ∃(w:Rw) (I J K L:Option D),kJ [‹ns.map D.int›,‹B.map (jB false)›,‹Y›,↑(W.map vE),some<|.int<|0+(i:Int),q,r,t,v] =
   some (.nx [‹ns.map D.int›,‹B.map (jB false)›,‹Y›,↑((W++[w]).map vE),some<|.int<|0+(i:Int),I,J,K,L])/\Wd w.2.1/\0<=w.2.2 from by 
    have b:=yF ns;have d:=vS ns;let[n,en,hn,_]:=qV ns y (k:=851+(0+i)) ∅ ∅;let[s0,C,hs,_]:=qV ns y (k:=0) (by decide) (by decide);let[N,bs,nm]:=BP (s:=s0%1000000000000) ∅;have O:=nm 601 (by decide);have P:Wd (cI (s0%1000000000000) N 601):=(Q4 bs<|by decide).wd;generalize cI (s0%1000000000000) N 601=u at O P;let[p,hp,Q,f]:=M_ (o:=false) (U2 n<|show(B.length:Int)≠0 by lia)<|U0 n (show 0<(B.length:Int) by lia);have g:vR (.int 10) (.int 12)=some (.int 1000000000000):=rfl;have l:vR (.int 10) (.int 28)=some (.int 10000000000000000000000000000):=rfl;have m:vR (.int 10) (.int 13)=some (.int 10000000000000):=rfl;have a:bW (W.map vE).length=true:=yI ∅;have R:(B.map<|jB false).length=B.length:=L1 ..;have hc:∃ c:Int,jd (.lst true [.int<|n/10000%40,.int<|n/10000%10000000000000000000000000000,.int<|n/10000%10000000000000]) (.int<|n/1000%3)=some (.int c)/\0<=c:=by
     have:n/1000%3=0\/n/1000%3=1\/n/1000%3=2:=by lia
     rcases this with h | h | h<;>rw[h]<;>exact#v[_,rfl,by lia]
    let[c,S,c0]:=hc;by_cases T:n/6%8=0
    ·refine#v[(1+n/48%(Y.length+2),u,c),some<|.int n,some<|.str u,some<|.int<|1+n/48%(Y.length+2),some<|.int c,?_,P,c0];rw[N6];show _=some (cf.nx [_,_,_,↑(W.map vE++[.tup [.int<|1+n/48%(Y.length+2),.str u,.int c]]),_,_,_,_,_]);simp(disch:=lia) [kJ,b,d,en,C,O,R,jl,jL,Q,f,g,l,m,T,S,a,jb,-Int.zero_add]
    ·refine#v[(1+n/48%(Y.length+2),p.nm,c),some<|.int n,some<|.str p.nm,some<|.int<|1+n/48%(Y.length+2),some<|.int c,?_,A p hp,c0];rw[N6];show _=some (cf.nx [_,_,_,↑(W.map vE++[.tup [.int<|1+n/48%(Y.length+2),.str p.nm,.int c]]),_,_,_,_,_]);simp(disch:=lia) [kJ,b,d,en,R,jl,jL,Q,f,g,l,m,T,S,a,jb,-Int.zero_add])
  exact#v[_,_,rfl,.inl e,W++[w],some<|.int<|0+i,r5,r6,r7,r8,rfl,by simp[F],λz M=>(N3.mp M).elim (H z) λM=>by rw[M9.mp M];exact hw]) (ρ:=[‹ns.map D.int›,‹B.map (jB false)›,‹Y›,some<|.lst true [],none,none,none,none,none]) #v[[],none,none,none,none,none,rfl,rfl,by simp]
 rw[jM] at F;refine#v[W,?_,by lia,H];simp(disch:=lia) [Jm,jx,Kj,yF ns,vS ns,C,jl,yf (j:=s0%8) ∅ ∅,X,jb]
def iF(d:Int)(u:List Nat)(w:Rw):Bool:=decide (w.1=d)&&decide (w.2.1=u)
def j8(W:List Rw)(d:Int)(u:List Nat):Int:=((W.filter<|iF d u).map λw=>w.2.2).sum
def yY(W:List Rw)(d:Int):List bQ->List Int->List Int
 | p::B,v::l=>(v+j8 W d p.nm)::yY W d B l
 | _,_=>[]
def xA(B:List bQ)(W:List Rw):Int->List Dy->List Dy
 | _,[]=>[]
 | d,y::Y=>(y.1,yY W d B y.2)::xA B W (d+1) Y
theorem ui(B)(W):∀ d Y,(xA B W d Y).length=Y.length
 | _,[]=>rfl
 | d,y::Y=>by rw[xA,M3,M3,ui]
theorem Kk(W)(d):∀ B l,(yY W d B l).length=min B.length l.length
 | [],_=>by simp[yY]
 | _::_,[]=>by simp[yY]
 | p::B,v::l=>by rw[yY,M3,Kk];simp
def fL(o1 o2:Bool)(y:Dy):D:=.tup [.lst o1<|y.1.map D.int,.lst o2<|y.2.map D.int]
def qj(W:List Rw):frzs (W.map vE)=true:=yn (λ_=>rfl) _
theorem zM:∀{ks}{l},ks.length=l.length->a∈ks->JA ks (xZ ks l a d) k=if k=a then some d else JA ks l k
 | [],_,_,h=>by cases h
 | _::_,[],h,_=>by simp at h
 | x::ks,y::l,b,h=>by
  rw[xZ,JA,JA];by_cases e:x=k
  ·subst e;rw[if_pos rfl,if_pos rfl];by_cases e2:x=a
   ·rw[if_pos e2,if_pos e2]
   ·rw[if_neg e2,if_neg e2]
  ·rw[if_neg e,if_neg e];by_cases c:a∈ks
   ·exact zM ⇑b c
   ·have g:a=x:=by
     rcases M5.mp h with h | h
     ·exact h
     ·exact absurd h c
    subst g;have:∀{ks}{l},ks.length=l.length->¬ a∈ks->xZ ks l a d=l:=by
     intro ks
     induction ks with
     | nil=>intro l b _;cases l with
      | nil=>rfl
      | cons _ _=>simp at b
     | cons x ks i=>intro l b f;cases l with
      | nil=>simp at b
      | cons y l=>
       rw[xZ,if_neg<|λe=>f<|by rw[e];exact L7,i ⇑b (λh=>f<|L6 _ h)]
    rw[this ⇑b c,if_neg<|λz=>e z.symm]
theorem zT:∀{ks}{l},ks.length=l.length->¬ a∈ks->JA (ks++[a]) (l++[d]) k=if k=a then some d else JA ks l k
 | [],[],_,_=>by
  show(if a=k then some d else JA [] [] k)=_;by_cases e:a=k
  ·subst e;simp
  ·rw[if_neg e,if_neg<|λz=>e z.symm]
 | [],_::_,h,_=>by simp at h
 | _::_,[],h,_=>by simp at h
 | x::ks,y::l,b,h=>by
  rw[List.cons_append,List.cons_append,JA,JA,zT ⇑b (λz=>h<|L6 _ z)];by_cases e:x=k
  ·subst e;rw[if_pos rfl,if_pos rfl,if_neg<|λz=>h<|by rw[z];exact L7]
  ·rw[if_neg e,if_neg e]
def uz(b:ks.length=l.length):JA (kj ks l a d).1 (kj ks l a d).2 k=if k=a then some d else JA ks l k:=by
 unfold kj;by_cases h:a∈ks
 ·rw[if_pos h];exact zM b h
 ·rw[if_neg h];exact zT b h
def Y8(b:ks.length=l.length):(kj ks l a d).1.length=(kj ks l a d).2.length/\(kj ks l a d).1.length<=ks.length+1:=by
 unfold kj;by_cases h:a∈ks
 ·rw[if_pos h];exact#v[by rw[Qm a d b];exact b,Nat.le_succ _]
 ·rw[if_neg h];exact#v[by simp[b],by simp]
structure d6(W:List Rw)(ks:List<|List KA)(l:List D):Prop where
 n:ks.length=l.length
 m:ks.length<=W.length
 v:∀ d u,(JA ks l [.int d,.str u]).getD (.int 0)=.int (j8 W d u)
def Nb(W)(w)(d)(u):j8 (W++[w]) d u=j8 W d u+(if w.1=d/\w.2.1=u then w.2.2 else 0):=by
 unfold j8;congr 1;by_cases h:w.1=d/\w.2.1=u
 ·rw[if_pos h];simp[List.filter_cons,iF,h.1,h.2]
 ·rw[if_neg h];have:iF d u w=false:=by
   unfold iF;by_cases a:w.1=d
   ·have b:¬ w.2.1=u:=λz=>h #v[a,z];simp[b]
   ·simp[a]
  simp[List.filter_cons,this]
def d6.add(h:d6 W ks l)(w):d6 (W++[w]) (kj ks l [.int w.1,.str w.2.1]<|.int<|j8 W w.1 w.2.1+w.2.2).1 (kj ks l [.int w.1,.str w.2.1]<|.int<|j8 W w.1 w.2.1+w.2.2).2:=by
 let[n,m,v]:=h;refine#v[(Y8 n).1,?_,λd u=>?_]
 ·rw[N5,List.length_singleton];exact N8 (Y8 n).2 ∅
 ·rw[uz n,Nb];by_cases e:[KA.int d,KA.str u]=[KA.int w.1,KA.str w.2.1]
  ·rw[if_pos e];injection e with e1 e2;injection e1 with e1;injection e2 with e2 _;injection e2 with e2;subst e1;subst e2;rw[if_pos #v[rfl,rfl]];rfl
  ·rw[if_neg e,v d u,if_neg<|λz=>e<|by rw[z.1,z.2],Int.add_zero]
def Nc:∀{W}{V}{ks}{l}{o4 o5 o6},V.length+W.length<=1000->d6 V ks l->lI λks' l' o4' o5' o6'=>eQ (d6 (V++W) ks' l') (jY (gT 3<|gC (jc [] 4)<|gC (jc [] 5)<|gC (jc [] 6) gN) yL (W.map vE) [a0,a1,a2,some<|.dT true ks l,o4,o5,o6,none,none,none]=some (.nx [a0,a1,a2,some<|.dT true ks' l',o4',o5',o6',none,none,none])):=by
 intro W
 induction W with
 | nil=>
  intro V ks l o4 o5 o6 _ h;exact#v[ks,l,o4,o5,o6,by rw[N1];exact h,rfl]
 | cons w W a=>
  intro V ks l o4 o5 o6 b h;rw[M3] at b;let[ks',l',c,d,f,g,e]:=a (by simp;lia)<|h.add w;refine#v[ks',l',c,d,f,by rw[show V++w::W=V++[w]++W by simp];exact g,?_];have i:(gT 3<|gC (jc [] 4)<|gC (jc [] 5)<|gC (jc [] 6) gN) (vE w) [a0,a1,a2,some<|.dT true ks l,o4,o5,o6,none,none,none]=some [a0,a1,a2,some<|.dT true ks l,some<|.int w.1,some<|.str w.2.1,some<|.int w.2.2,none,none,none]:=rfl;have j:bW ks.length=true:=jb (by have:=h.m;lia);have k:yL [a0,a1,a2,some<|.dT true ks l,some<|.int w.1,some<|.str w.2.1,some<|.int w.2.2,none,none,none]=some (.nx [a0,a1,a2,some<|.dT true (kj ks l [.int w.1,.str w.2.1]<|.int<|j8 V w.1 w.2.1+w.2.2).1 (kj ks l [.int w.1,.str w.2.1]<|.int<|j8 V w.1 w.2.1+w.2.2).2,some<|.int w.1,some<|.str w.2.1,some<|.int w.2.2,none,none,none]):=by
   simp[yL,h.v w.1 w.2.1,j]
  rw[L5,jQ,i,L4,k,L4,JG,e]
theorem uB(h:d6 W ks l)  : ∀{B}{v}{o0 o1},
  jU (gT 2<|gC (jc [] 0)<|gC (jc [] 1) gN) qT (p2 jh (pV 1)<|YR (pV 2) (pV 3) (p2 jd (pV 0)<|pI 0)<|pI 0) (JV (B.map<|jB false)<|v.map D.int) [o0,o1,some<|.dT true ks l,some<|.int d]=some ((yY W d B v).map D.int)
 | [],_,_,_=>by simp[JV,yY]
 | _::_,[],_,_=>by simp[JV,yY]
 | p::B,x::v,o0,o1=>by
  have b:(gT 2<|gC (jc [] 0)<|gC (jc [] 1) gN) (.tup [jB false p,.int x]) [o0,o1,some<|.dT true ks l,some<|.int d]=some [some<|jB false p,some<|.int x,some<|.dT true ks l,some<|.int d]:=rfl;have a:jd (jB false p) (.int 0)=some (.str p.nm):=rfl;rw[L5,L5,JV,yD,b,yY,L5];simp[a,h.v d p.nm,uB h]
theorem ud(s:B.length<=100)(g:frzs (B.map<|jB false)=true)  (h:d6 W ks l)  : ∀{Y}{E}{n}{o4 o8 o9},E.length+Y.length<=1000->(∀ y∈Y,fW B.length y) ->
  dF λo4' o8' o9'=>jY (gT 2<|gC (jc [] 4)<|gC (jc [] 8) gN) yM (qY n<|Y.map qw) [‹B.map (jB false)›,a1,a2,some<|.dT true ks l,o4,a5,a6,↑(E.map<|fL true true),o8,o9] =
   some (.nx [‹B.map (jB false)›,a1,a2,some<|.dT true ks l,o4',a5,a6,↑((E++xA B W n Y).map (fL true true)),o8',o9'])
 | [],E,n,o4,o8,o9,_,_=>#v[o4,o8,o9,by simp[qY,xA]]
 | y::Y,E,n,o4,o8,o9,t,q=>by
  rw[M3] at t;have r:=q y (by simp);let[u,v,w,e]:=ud s g h (a1:=a1) (a2:=a2) (a5:=a5) (a6:=a6) (Y:=Y) (E:=E++[(y.1,yY W n B y.2)]) (n:=n+1) (o4:=some<|.int n) (o8:=some<|qw y) (o9:=none) (by simp;lia)<|λz x=>q z (by simp[x]);refine#v[u,v,w,?_];have A:(gT 2<|gC (jc [] 4)<|gC (jc [] 8) gN) (.tup [.int n,qw y]) [‹B.map (jB false)›,a1,a2,some<|.dT true ks l,o4,a5,a6,↑(E.map<|fL true true),o8,o9]=some [‹B.map (jB false)›,a1,a2,some<|.dT true ks l,some<|.int n,a5,a6,↑(E.map<|fL true true),some<|qw y,o9]:=rfl;have i:jd (qw y) (.int 0)=‹y.1.map D.int›:=rfl;have j:jd (qw y) (.int 1)=‹y.2.map D.int›:=rfl;have C:jU (gT 2<|gC (jc [] 0)<|gC (jc [] 1) gN) qT (p2 jh (pV 1)<|YR (pV 2) (pV 3) (p2 jd (pV 0)<|pI 0)<|pI 0) (JV (B.map<|jB false)<|y.2.map D.int) (jq [none,none,some 3,some 4] [‹B.map (jB false)›,a1,a2,some<|.dT true ks l,some<|.int n,a5,a6,↑(E.map<|fL true true),some<|qw y,o9])=some ((yY W n B y.2).map D.int):=uB h;have c:=yF y.1;have k:=yF y.2;have d:=vS y.2;have f:=jk _ g;have l1:bW (y.1.map D.int).length=true:=jb (by rw[L1,r.a];lia);have m:(B.map<|jB false).length<=(y.2.map D.int).length:=by rw[L1,L1,r.b];exact N0 _
  have F:bW (JV (B.map<|jB false)<|y.2.map D.int).length=true:=jb (by rw[KK,L1,L1];lia);have G:bW (E.map<|fL true true).length=true:=yI ∅;have H:yM [‹B.map (jB false)›,a1,a2,some<|.dT true ks l,some<|.int n,a5,a6,↑(E.map<|fL true true),some<|qw y,o9] =
    some (.nx [‹B.map (jB false)›,a1,a2,some<|.dT true ks l,some<|.int n,a5,a6,↑((E++[(y.1,yY W n B y.2)]).map (fL true true)),some<|qw y,none]):=by
   rw[N6];show _=some (cf.nx [_,_,_,_,_,_,_,↑(E.map (fL true true)++[.tup [.lst true<|y.1.map D.int,.lst true<|(yY W n B y.2).map D.int]]),_,_]);generalize B.map (jB false)=BB,E.map (fL true true)=EE,y.1.map D.int=VV,y.2.map D.int=UU at *;have o:fT 2 [.lst false BB,.lst false UU]=some (JV BB UU):=by rw[mQ rfl rfl m,f,d]
   have p:YO [.lst false VV]=↑VV:=by show(bif frzs VV then _ else _)=_;rw[c];rfl
   simp[yM,i,j,C,c,vS y.1,k,d,g,f,l1,F,G,o,p,jb]
  rw[L5,qY,jQ,A,L4,H,L4,JG,e,xA];simp
def QA(j:B.length<=100)(k:frzs (B.map<|jB false)=true)  (t:Y.length<=100) (h:frzs (Y.map qw)=true)  (v:W.length<=100) (m:∀ y∈Y,fW B.length y):
  yG [.lst false<|B.map<|jB false,.lst false<|Y.map qw,.lst false<|W.map vE]=↑((xA B W 1 Y).map (fL true true)):=by
 let[i,l,c,e,f,o,p]:=Nc (a0:=‹B.map (jB false)›) (a1:=‹Y.map qw›) (a2:=‹W.map vE›) (W:=W) (V:=[]) (ks:=[]) (l:=[]) (o4:=none) (o5:=none) (o6:=none) (by simp;lia) #v[rfl,N0 _,λd u=>rfl];let[w,x,z,e2]:=ud j k o (a1:=‹Y.map qw›) (a2:=‹W.map vE›) (a5:=e) (a6:=f) (E:=[]) (n:=1) (o4:=c) (o8:=none) (o9:=none) (by simp;lia) m;rw[X9,List.map_nil] at e2;have a:=qj W;have b:=jk _ h;have g:∀ q U,q U=‹Y.map qw›->hE #[pF q] (pI 1) U=some (qY 1<|Y.map qw):=by
  intro q U r;have s:#[pF q] U=some [.lst false<|Y.map qw]:=by simp[r,h,b]
  unfold hE;rw[s];show(bif Vg 1 then some (qY 1<|bV<|Y.map qw) else none)=_;rw[b];rfl
 simp[yG,jx,Jt,a,jk _ a,p,g (pV 1) [‹B.map (jB false)›,‹Y.map qw›,‹W.map vE›,some<|.dT true i l,c,e,f,some<|.lst true [],none,none] rfl,e2,jb]
def Nf(a o2)(E:List Dy):bV (E.map<|fL a o2)=E.map qw:=by
 rw[kQ,U3];exact List.map_congr_left λy _=>(by
   show D.tup [.lst false<|bV<|y.1.map D.int,.lst false<|bV<|y.2.map D.int]=_;rw[vS y.1,vS y.2];rfl)
def Ng(y):frz (qw y)=true:=by
 show frz (D.tup [.lst false<|y.1.map D.int,.lst false<|y.2.map D.int])=true;simp[yF y.1,yF y.2]
def Vt(E:List Dy):frzs (E.map qw)=true:=yn (Ng) _
def Nh{l:List s}{i}(h:i<l.length):atI l (i:Int)=l[i]?:=by
 unfold atI dI;simp
def sR(h:i<n):dI n (i:Int)=some i:=by
 unfold dI;rw[if_pos ∅,if_pos ∅];simp
def low(c T n:Int):Int:=c*n/T
def V3(c T:Int):List Int->Int->List Int×Int
 | [],left=>([],left)
 | n::ns,left=>if 0<left/\low c T n<n then((low c T n+1)::(V3 c T ns<|left-1).1,(V3 c T ns<|left-1).2) else(low c T n::(V3 c T ns left).1,(V3 c T ns left).2)
theorem Qw(c T):∀ ns left,(V3 c T ns left).1.length=ns.length
 | [],_=>rfl
 | n::ns,left=>by
  rw[V3];split
  ·simp[Qw c T ns]
  ·simp[Qw c T ns]
def xF{a b w}{L}{g n left}{i:Nat}(d:atI L (i:Int)=some (.int g))(e:dI L.length (i:Int)=some i)(c:L[i]?=some (.int g)):
  Jd [a,b,w,↑L,some<|.int left,some<|.int i,some<|.int n] =
   some (.nx<|if 0<left/\g<n then [a,b,w,↑(L.set i<|.int<|g+1),some<|.int<|left-1,some<|.int i,some<|.int n] else [a,b,w,↑L,some<|.int left,some<|.int i,some<|.int n]):=by
 by_cases f:0<left<;>by_cases h:g<n<;>simp[Jd,jd,d,f,h,e,c]
def wE(a b w)(c T):∀ ns pre left o5 o6,
  ∃ o5' o6',jY (gT 2<|gC (jc [] 5)<|gC (jc [] 6) gN) Jd (vf pre.length<|ns.map D.int) [a,b,w,↑((pre++ns.map (low c T)).map D.int),some<|.int left,o5,o6] =
   some (.nx [a,b,w,↑((pre++(V3 c T ns left).1).map D.int),some<|.int (V3 c T ns left).2,o5',o6']):=by
 intro ns
 induction ns with
 | nil=>
  intro pre left o5 o6;exact#v[o5,o6,by simp[vf,V3]]
 | cons n ns k=>
  intro pre left o5 o6;have d:=xF (a:=a) (b:=b) (w:=w) (L:=(pre++low c T n::ns.map (low c T)).map D.int) (g:=low c T n) (n:=n) (left:=left) (i:=pre.length)
   (by rw[Nh<|by simp];simp) (sR<|by simp) (by simp)
  have f:((pre++low c T n::ns.map (low c T)).map D.int).set pre.length (D.int<|low c T n+1)=(pre++(low c T n+1)::ns.map (low c T)).map D.int:=by simp
  rw[f] at d;have l:(gT 2<|gC (jc [] 5)<|gC (jc [] 6) gN) (.tup [.int pre.length,.int n]) [a,b,w,↑((pre++low c T n::ns.map (low c T)).map D.int),some<|.int left,o5,o6]=some [a,b,w,↑((pre++low c T n::ns.map (low c T)).map D.int),some<|.int left,some<|.int pre.length,some<|.int n]:=rfl;rw[L5,vf,jQ,L5,l,L4,d,L4,JG];by_cases h:0<left/\low c T n<n
  ·let[o5',o6',e]:=k (pre++[low c T n+1]) (left-1) (some<|.int pre.length)<|some<|.int n;refine#v[o5',o6',?_];have j:(pre++[low c T n+1]).length=pre.length+1:=by simp
   rw[j] at e;rw[V3,if_pos h,if_pos h];simp only[List.append_assoc] at e;exact e
  ·let[o5',o6',e]:=k (pre++[low c T n]) left (some<|.int pre.length) (some<|.int n);refine#v[o5',o6',?_];have j:(pre++[low c T n]).length=pre.length+1:=by simp
   rw[j] at e;rw[V3,if_neg h,if_neg h];simp only[List.append_assoc] at e;exact e
def vF(ns:List Int)(c:Int):List Int:=if ns.sum<=c then ns else(V3 c ns.sum ns<|c-(ns.map<|low c ns.sum).sum).1
def Ni(f:ns.length<=20)(a:∀ x∈ns,0<=x/\x<=10 ^ 20)(g:0<=c)(h1:c<=2 ^ 900)(i:ns.sum<=10 ^ 30):
  Jg [.lst false<|ns.map D.int,.int c]=↑((vF ns c).map D.int):=by
 by_cases h:ns.sum<=c
 ·simp[Jg,jx,Qo,vF,h]
 ·have b:jU (jc [] 0) qT (p2 jK (p2 va (pV 1)<|pV 0)<|pV 2) (ns.map D.int) (jq [none,some 1,some 2] [‹ns.map D.int›,some<|.int c,some<|.int ns.sum,none,none,none,none])=some (ns.map λn=>D.int<|low c ns.sum n):=by
   refine jA rfl (λs=>∃ o,s=[o,some<|.int c,some<|.int ns.sum]) ?_ #v[none,rfl];rintro x d s ⟨o,rfl⟩;have:=a x d;refine#v[[some<|.int x,some<|.int c,some<|.int ns.sum],rfl,?_,some<|.int x,rfl];simp(disch:=lia) [qH,jL,low]
  let[j,k,e]:=wE (‹ns.map D.int›) (some<|.int c) (some<|.int ns.sum) c ns.sum ns [] (c-(ns.map<|low c ns.sum).sum) none none;simp only[X9,List.length_nil,U3] at e;have e2:(D.int ∘ low c ns.sum)=λn=>D.int (low c ns.sum n):=rfl;rw[e2] at e;have e3:ns.map (λn=>D.int<|low c ns.sum n)=(ns.map<|low c ns.sum).map D.int:=by simp
  rw[e3] at b e;simp(disch:=lia) [Jg,jx,Qo,vF,h,b,e,jb,-List.map_map]
theorem K1(c T):∀ ns left,(V3 c T ns left).1.sum+(V3 c T ns left).2=(ns.map<|low c T).sum+left
 | [],left=>by simp[V3]
 | n::ns,left=>by
  rw[V3];split
  ·have:=K1 c T ns<|left-1;simp only[List.sum_cons,L5]
   lia
  ·have:=K1 c T ns left;simp only[List.sum_cons,L5]
   lia
def d_(c T:Int):List Int->Int
 | []=>0
 | n::ns=>(if low c T n<n then 1 else 0)+d_ c T ns
theorem BY(c T):∀ ns:List Int,0<=d_ c T ns
 | []=>by simp[d_]
 | n::ns=>by
  have:=BY c T ns;rw[d_];split<;>lia
theorem J4(c T):∀ ns left,0<=left->left<=d_ c T ns->(V3 c T ns left).2=0
 | [],left,h,k=>by simp[V3,d_] at *;lia
 | n::ns,left,h,k=>by
  rw[d_] at k;rw[V3];have:=BY c T ns;split
  ·next g=>
   exact J4 c T ns (left-1) ∅ ∅
  ·next g=>
   by_cases g2:low c T n<n
   ·rw[if_pos g2] at k;exact J4 c T ns left h ∅
   ·rw[if_neg g2] at k;exact J4 c T ns left h ∅
def BZ(b:0<=c)(f:c<T)(a:0<=n):T*low c T n<=c*n/\c*n<=T*low c T n+T*(if low c T n<n then 1 else 0)/\0<=low c T n/\low c T n<=n:=by
 unfold low;have e:=Int.mul_ediv_add_emod (c*n) T;have h:=U2 (c*n) (show T≠0 by lia);have r1:=U0 (c*n) (show 0<T by lia);have d:0<=c*n/T:=Int.ediv_nonneg (Int.mul_nonneg b a) ∅;have l1:c*n/T<=n:=by
  have:c*n<=T*n:=Int.mul_le_mul_of_nonneg_right ∅ a;exact Int.ediv_le_of_le_mul ∅ ∅
 refine#v[by lia,?_,d,l1];split
 ·lia
 ·next g=>
  have e2:c*n/T=n:=by lia
  have:c*n<=T*n:=Int.mul_le_mul_of_nonneg_right ∅ a
  lia
theorem ur(a:0<=c)(b:c<T):∀ ns,(∀ x∈ns,0<=x)->T*(ns.map<|low c T).sum<=c*ns.sum/\c*ns.sum<=T*(ns.map<|low c T).sum+T*d_ c T ns
 | [],_=>by simp[d_]
 | n::ns,h=>by
  have i:=ur a b ns<|λx d=>h x (by simp[d]);have j:=BZ a b<|h n (by simp);simp only[L5,List.sum_cons,d_]
  lia
def Nj(d:0<=c)(e:c<ns.sum)(h:∀ x∈ns,0<=x):
  0<=c-(ns.map<|low c ns.sum).sum/\(V3 c ns.sum ns<|c-(ns.map<|low c ns.sum).sum).1.sum=c:=by
 have b:=ur d e ns h;have f:(ns.map<|low c ns.sum).sum<=c:=by
  refine Int.le_of_mul_le_mul_left (a:=ns.sum) ?_ ∅;rw[Int.mul_comm ns.sum c];exact b.1
 have g:c<=(ns.map<|low c ns.sum).sum+d_ c ns.sum ns:=by
  refine Int.le_of_mul_le_mul_left (a:=ns.sum) ?_ ∅;rw[Int.mul_add,Int.mul_comm ns.sum c];exact b.2
 have l:=J4 c ns.sum ns (c-(ns.map<|low c ns.sum).sum) ∅ ∅;have s:=K1 c ns.sum ns<|c-(ns.map<|low c ns.sum).sum;exact#v[by lia,by lia]
theorem B1:∀(ns:List Int),(∀ x∈ns,0<=x/\x<=b)->0<=ns.sum/\ns.sum<=b*ns.length
 | [],_=>by simp
 | n::ns,h=>by
  have i:=B1 ns<|λx a=>h x (by simp[a]);have j:=h n (by simp);simp only[List.sum_cons,M3]
  lia
def wk:(vF ns c).length=ns.length:=by
 unfold vF;split
 ·rfl
 ·exact Qw _ _ _ _
structure iG(p:W2):Prop where
 lo:1<=p.2
 hi:p.2<=10
def ts(P:List W2):List Int:=P.map (·.2)
def iH(c:Int)(P:List W2):List Int:=P.map λp=>(c*p.2+9)/10
def ub(c:Int)(P:List W2):List Int:=P.map λp=>c*p.2/10
def gb(odd:Int):Nat->List Int->List Int
 | _,[]=>[]
 | k,x::l=>(if(k:Int)<odd then x+1 else x)::gb odd (k+1) l
theorem uX(a):∀ k l,(gb a k l).length=l.length
 | _,[]=>rfl
 | k,x::l=>by rw[gb,M3,M3,uX]
theorem B3(a):∀ k l,(∀ x∈l,0<=x)->∀ x∈gb a k l,0<=x
 | _,[],_,x,b=>by simp[gb] at b
 | k,y::l,h,x,b=>by
  have d:=h y (by simp);rcases M5.mp b with rfl | b
  ·lia
  ·exact B3 a (k+1) l (λz c=>h z<|by simp[c]) x b
def yT(P:List W2)(c:Int):List Int×Int:=if 10<(ts P).sum then(iH c P,(iH c P).sum-c) else(gb (c*(ts P).sum/10-(ub c P).sum) 0<|ub c P,0)
def Nk(h:∀ p∈P,iG p):0<=(ts P).sum/\(ts P).sum<=10*P.length:=by
 induction P with
 | nil=>simp[ts]
 | cons p P c=>
  have a:=c λx d=>h x (by simp[d]);have b:=h p (by simp);have e:=b.lo;have f:=b.hi;simp only[ts,L5,List.sum_cons,M3] at a ⊢
  lia
def Q2(P:List W2):frzs (P.map e2)=true/\bV (P.map e2)=P.map e2:=by
 refine#v[qQ λd hd=>?_,oq λd hd=>?_]
 all_goals let[p,a,rfl]:=M7.mp hd;rfl
theorem zi(a):∀ l k o0 o1,jU (gT 2<|gC (jc [] 0)<|gC (jc [] 1) gN) qT (f9 (jt<|p2 i7 (pV 0)<|pV 2) (p2 jh (pV 1)<|pI 1)<|pF<|pV 1) (vf k<|l.map D.int) [o0,o1,some<|.int a]=some ((gb a k l).map D.int)
 | [],k,o0,o1=>rfl
 | x::l,k,o0,o1=>by
  have c:(gT 2<|gC (jc [] 0)<|gC (jc [] 1) gN) (.tup [.int k,.int x]) [o0,o1,some<|.int a]=some [some<|.int k,some<|.int x,some<|.int a]:=rfl;have b:=zi a l (k+1) (some<|.int k)<|some<|.int x;rw[L5,vf,yD,c,L4];by_cases h:k<a
  ·simp[h,b,gb]
  ·simp[h,b,gb]
def Nl(q:P.length<=10)(d:∀ p∈P,iG p)(r:0<=c)(h1:c<=2 ^ 900):Vw [.lst false<|P.map e2,.int c]=some (.tup [.lst true<|(yT P c).1.map D.int,.int (yT P c).2]):=by
 have l:k8 [.lst false<|P.map e2]=some (.int (ts P).sum):=by 
   have a:jU (jc [] 0) qT (pF<|p2 jd (pV 0)<|pI 1) (P.map e2) (jq [none] [‹P.map e2›])=some (P.map λp=>D.int p.2):=by
    refine jA rfl (λu=>∃ o,u=[o]) ?_ #v[none,rfl];rintro x b u ⟨o,rfl⟩;exact#v[_,rfl,rfl,_,rfl]
   have e:(P.map λp=>D.int p.2)=(ts P).map D.int:=by unfold ts;rw[U3];rfl
   rw[e] at a;simp(disch:=lia) [k8,jx,Vx,(Q2 P).1,a,jb]
 have s:=Nk d;have f:=Q2 P;by_cases h:10<(ts P).sum
 ·have a:jU (jc [] 0) qT (p2 jK (p2 jh (p2 va (pV 1)<|p2 jd (pV 0)<|pI 1)<|pI 9)<|pI 10) (P.map e2) (jq [none,some 1] [‹P.map e2›,some<|.int c,some<|.int (ts P).sum,none,none])=some (P.map λp=>D.int<|(c*p.2+9)/10):=by
   refine jA rfl (λu=>∃ o,u=[o,some<|.int c]) ?_ #v[none,rfl];rintro x b u ⟨o,rfl⟩;refine#v[[some<|e2 x,some<|.int c],rfl,?_,_,rfl];have g:jd (e2 x) (.int 1)=some (.int x.2):=rfl;have m:=(d x b).lo;have n:=(d x b).hi;simp(disch:=lia) [g,qH,jL]
  have e:(P.map λp=>D.int<|(c*p.2+9)/10)=(iH c P).map D.int:=by unfold iH;rw[U3];rfl
  rw[e] at a;have i:yT P c=(iH c P,(iH c P).sum-c):=if_pos h;rw[i];simp(disch:=lia) [Vw,jx,wL,f.1,f.2,l,h,a,jb]
 ·have a:jU (jc [] 0) qT (p2 jK (p2 va (pV 1)<|p2 jd (pV 0)<|pI 1)<|pI 10) (P.map e2) (jq [none,some 1] [‹P.map e2›,some<|.int c,some<|.int (ts P).sum,none,none])=some (P.map λp=>D.int<|c*p.2/10):=by
   refine jA rfl (λu=>∃ o,u=[o,some<|.int c]) ?_ #v[none,rfl];rintro x b u ⟨o,rfl⟩;refine#v[[some<|e2 x,some<|.int c],rfl,?_,_,rfl];have g:jd (e2 x) (.int 1)=some (.int x.2):=rfl;have m:=(d x b).lo;have n:=(d x b).hi;simp(disch:=lia) [g,qH,jL]
  have e:(P.map λp=>D.int<|c*p.2/10)=(ub c P).map D.int:=by unfold ub;rw[U3];rfl
  rw[e] at a;have i:yT P c=(gb (c*(ts P).sum/10-(ub c P).sum) 0<|ub c P,0):=if_neg h;rw[i];have j:jq [none,none,some 4] [‹P.map e2›,some<|.int c,some<|.int (ts P).sum,‹(ub c P).map D.int›,some<|.int<|c*(ts P).sum/10-(ub c P).sum]=[none,none,some<|.int<|c*(ts P).sum/10-(ub c P).sum]:=rfl;have k:bW (vf 0<|(ub c P).map D.int).length=true:=jb (by rw[JY];simp[ub];lia);simp(disch:=lia) [Vw,jx,wL,f.1,f.2,l,h,a,jb,qH,jL,j,zi (c*(ts P).sum/10-(ub c P).sum) (ub c P) 0 none none,k,-List.map_map]
theorem xL(a:0<=c)(d:c<T):∀ ns left,(∀ x∈ns,0<=x)->∀(i:Nat) g n,(V3 c T ns left).1[i]?=some g->ns[i]?=some n->0<=g/\g<=n
 | [],left,_,i,g,n,_,h=>by simp at h
 | m::ns,left,hp,i,g,n,h1,h2=>by
  have b:=BZ a d<|hp m (by simp);rw[V3] at h1;cases i with
  | zero=>
   simp at h2;split at h1<;>simp at h1<;>subst h1<;>lia
  | succ i=>
   simp at h2;split at h1
   ·simp at h1;exact xL a d ns _ (λx e=>hp x<|by simp[e]) i g n h1 h2
   ·simp at h1;exact xL a d ns _ (λx e=>hp x<|by simp[e]) i g n h1 h2
def Nn{ns}{c}(a:0<=c)(h:∀ x∈ns,0<=x){i:Nat}{g n}(h1:(vF ns c)[i]?=some g)(h2:ns[i]?=some n):0<=g/\g<=n:=by
 unfold vF at h1;split at h1
 ·rw[h2] at h1;cases h1;exact#v[h _<|List.mem_of_getElem? h2,Int.le_refl _]
 ·exact xL a ∅ ns _ h i g n h1 h2
def No(a:0<=c)(h:∀ x∈ns,0<=x):(vF ns c=ns/\ns.sum<=c)\/(vF ns c).sum=c:=by
 unfold vF;split
 ·lia
 ·exact .inr (Nj a ∅ h).2
def Np(l:List W2):yh (l.map e2)=true:=by
 rw[yz,List.all_map,List.all_eq_true];intro x _;rfl
def b_(L s:Int):Int:=if s<L then s else L
def oM:List Nat:=[101,97,116]
def put(f:List Nat->Int)(c:List Nat)(v:Int):List Nat->Int:=λn=>if n=c then v else f n
def dN:List (List Nat)->(List Nat->Int)->Int->(List Nat->Int)×Int
 | [],f,L=>(f,L)
 | c::E,f,L=>dN E (put f c<|f c-b_ L (f c))<|L-b_ L (f c)
def iI:Nat->List (List Nat)->(List Nat->Int)->Int->List D
 | _,[],_,_=>[]
 | k,c::E,f,L=>.tup [.int k,.str oM,.str c,.int L,.int<|b_ L<|f c]::iI (k+1) E (put f c<|f c-b_ L (f c)) (L-b_ L (f c))
def B5(h:0<=L)(h':0<=s):0<=b_ L s/\b_ L s<=L/\b_ L s<=s:=by unfold b_;split<;>lia
def oO(h:∀ n,0<=f n)(a:0<=v)(n):0<=put f c v n:=by
 unfold put;by_cases e:n=c
 ·lia
 ·rw[if_neg e];exact h n
theorem B7:∀{E}{f}{L},(∀ n,0<=f n)->0<=L->(∀ n,0<=(dN E f L).1 n/\(dN E f L).1 n<=f n)/\0<=(dN E f L).2
 | [],f,L,h,a=>#v[λn=>#v[h n,Int.le_refl _],a]
 | c::E,f,L,h,a=>by
  have g:=B5 a<|h c;have q:=B7 (E:=E) (f:=put f c<|f c-b_ L (f c)) (L:=L-b_ L (f c)) (oO h ∅) ∅;refine#v[λn=>#v[(q.1 n).1,Int.le_trans (q.1 n).2 ?_],q.2];unfold put;split
  ·lia
  ·lia
def Nq(h:d≠c):put f c u d=f d:=if_neg h
def cb(o:Bool)(S W Rn Lv:List W2)(x:Int):D:=.tup [.lst o<|S.map e2,.lst o<|W.map e2,.lst o<|Rn.map e2,.lst o<|Lv.map e2,.int x]
def YI(o)(S W Rn Lv)(x):fz (cb o S W Rn Lv x)=cb false S W Rn Lv x:=by simp[cb,JZ]
def JI(S W Rn Lv)(x):frz (cb false S W Rn Lv x)=true:=by simp[cb,ye]
def zy(S W Rn Lv)(x):vz (cb true S W Rn Lv x)=true:=by simp[cb,Np]
theorem Kc(g:N.length<=1000):∀{E}{s}{f}{L}{acc}{o6 o7 o8},(∀ c∈E,c∈N)->acc.length+E.length<=1000 ->
  dF λo6' o7' o8'=>jY (gT 2<|gC (jc [] 6)<|gC (jc [] 7) gN) VO (vf s<|E.map D.str) [a0,a1,a2,some<|bY true N f,some<|.int L,↑acc,o6,o7,o8,o9] =
   some (.nx [a0,a1,a2,some<|bY true N (dN E f L).1,some<|.int (dN E f L).2,↑(acc++iI s E f L),o6',o7',o8',o9])
 | [],s,f,L,acc,o6,o7,o8,_,_=>#v[o6,o7,o8,by rw[iI,N1];rfl]
 | c::E,s,f,L,acc,o6,o7,o8,b,h=>by
  rw[M3] at h;have a:=b c (by simp);let[o6',o7',o8',e]:=Kc (a0:=a0) (a1:=a1) (a2:=a2) (o9:=o9) g (E:=E) (f:=put f c<|f c-b_ L (f c)) (L:=L-b_ L (f c)) (acc:=acc++[.tup [.int s,.str oM,.str c,.int L,.int<|b_ L<|f c]]) (o6:=some<|.int s) (o7:=some<|.str c) (o8:=some<|.int<|b_ L<|f c) (λd hd=>b d<|by simp[hd]) (by rw[N5];simp only[M3,List.length_nil];lia);refine#v[o6',o7',o8',?_];have i:xB [.int L,.int<|f c]=some (.int<|b_ L<|f c):=rfl;rw[L5,vf,lz ?_,e,iI,dN];simp;simp(disch:=first | lia | (simp;done) | (simp;lia)) [VO,yk (o:=true) (f:=f) a,i,Y9 f a,um (f:=f) (v:=f c-b_ L (f c)) a,jb,oM];simp[bY,put]
def cE(N:W1)(f:List Nat->Int):List W2:=N.map λn=>(n,f n)
def fw(W:List W2)(f:List Nat->Int):List W2:=W.map λq=>(q.1,if 0<f q.1 then q.2 else 0)
def Nr(d:∀ q∈W,q.1∈N):jU (gT 2<|gC (jc [] 0)<|gC (jc [] 1) gN) qT (yH #[pF<|pV 0,f9 (jt<|p2 Km (p2 yW (pV 2)<|pV 0)<|pI 0) (pF<|pV 1)<|pI 0]) (W.map e2) [none,none,some<|bY true N f]=some ((fw W f).map e2):=by
 unfold fw;rw[U3];refine jA rfl (λs=>∃ o a,s=[o,a,some<|bY true N f]) ?_ #v[none,none,rfl];rintro q e s ⟨o,a,rfl⟩;have b:=yk (o:=true) (f:=f)<|d q e;refine#v[[some<|.str q.1,some<|.int q.2,some<|bY true N f],rfl,?_,_,_,rfl];by_cases c:0<f q.1
 ·simp[b,c,jb,e2]
 ·simp[b,c,jb,e2]
def Nt{p}{S W Rn Lv}{x L}{O}(h:bP O p)(a:S.map (·.1)=p.told.map (·.1))(d:W.map (·.1)=p.told.map (·.1))(F:Rn.length<=10)(G:Lv.length<=10):
  Qi [jB false p,cb false S W Rn Lv x,.int L]=some (.tup [.lst true<|iI 0 p.eats (fnOf S) L,cb true (cE (p.told.map (·.1)) (dN p.eats (fnOf S) L).1) (fw W (dN p.eats (fnOf S) L).1) Rn Lv<|x+(dN p.eats (fnOf S) L).2]):=by
 have H:=h.told2;have nd:(S.map (·.1)).Nodup:=by rw[a];exact h.toldn
 have i:S.length<=10:=by
  have:=congrArg List.length a;rw[L1,L1] at this
  lia
 have j:W.length<=10:=by
  have:=congrArg List.length d;rw[L1,L1] at this
  lia
 have k:=h.eats2;have l:jd (cb false S W Rn Lv x) (.int 0)=‹S.map e2›:=rfl;have m:jd (cb false S W Rn Lv x) (.int 1)=‹W.map e2›:=rfl;have o:jd (cb false S W Rn Lv x) (.int 2)=‹Rn.map e2›:=rfl;have r:jd (cb false S W Rn Lv x) (.int 3)=‹Lv.map e2›:=rfl;have t:jd (cb false S W Rn Lv x) (.int 4)=some (.int x):=rfl;have u:jd (jB false p) (.int 3)=‹p.eats.map D.str›:=rfl;have v:yZ [.lst false<|S.map e2]=some (bY true (p.told.map (·.1))<|fnOf S):=by rw[<- a];exact yo nd ∅
 let[w,y,z,e]:=Kc (a0:=some<|jB false p) (a1:=some<|cb false S W Rn Lv x) (a2:=some<|.int L) (o9:=none) (by rw[L1];lia) (s:=0) (f:=fnOf S) (L:=L) (acc:=[]) (o6:=none) (o7:=none) (o8:=none) h.eatsm (by simp;lia);have A:=Nr (N:=p.told.map (·.1)) (f:=(dN p.eats (fnOf S) L).1) (λq B=>by rw[<- d];exact M7.mpr #v[q,B,rfl]);have g:=zf (p.told.map (·.1)) (dN p.eats (fnOf S) L).1;have b:((p.told.map (·.1)).map λn=>D.tup [.str n,.int<|(dN p.eats (fnOf S) L).1 n])=(cE (p.told.map (·.1)) (dN p.eats (fnOf S) L).1).map e2:=by simp[cE,e2]
 rw[b] at g;have C:bW W.length=true:=jb ∅;have c:∀ U,pV 3 U=some (bY true (p.told.map (·.1)) (dN p.eats (fnOf S) L).1)->yP (pV 3) U=↑((cE (p.told.map (·.1)) (dN p.eats (fnOf S) L).1).map e2):=by
  intro U E;rw[yP,E];show(bif frzs ((p.told.map (·.1)).map λn=>D.int<|(dN p.eats (fnOf S) L).1 n) then _ else _)=_;rw[A5,<- g];rfl
 generalize cb false S W Rn Lv x=BK at *;simp(disch:=first | lia | (simp;done) | (simp;lia)) [Qi,jx,BE,l,m,o,r,t,u,v,e,jq,ye,A,c,jb,cb,-yP]
def Yv{S:List W2}(h:∀ q∈S,0<=q.2)(n):0<=fnOf S n:=by
 unfold fnOf
 induction S with
 | nil=>exact Int.le_refl _
 | cons q S a=>
  rw[eu];by_cases e:q.1=n
  ·rw[if_pos e];exact h q (by simp)
  ·rw[if_neg e];exact a λr b=>h r (by simp[b])
def hit(rn:List W2):List WL->Option (List Nat)
 | []=>none
 | x::l=>if x.2.1<=(eu x.1 rn).getD 0 then some x.2.2 else hit rn l
def Nu:∀{L}{o2 o3 o4},(∀ x∈L,x.1∈rn.map (·.1)) ->
  dF λo2' o3' o4'=>jY (gT 3<|gC (jc [] 2)<|gC (jc [] 3)<|gC (jc [] 4) gN) vn (L.map eL) [some<|jB false p,some<|.dK false (rn.map λq=>KA.str q.1)<|rn.map λq=>D.int q.2,o2,o3,o4] =
   match hit rn L with
   | some w=>some<|.rt (.str w) [some<|jB false p,some<|.dK false (rn.map λq=>KA.str q.1)<|rn.map λq=>D.int q.2,o2',o3',o4']
   | none=>some (.nx [some<|jB false p,some<|.dK false (rn.map λq=>KA.str q.1)<|rn.map λq=>D.int q.2,o2',o3',o4']):=by
 intro L
 induction L with
 | nil=>
  intro o2 o3 o4 _;exact#v[o2,o3,o4,rfl]
 | cons x L i=>
  intro o2 o3 o4 h;let[r,c,_]:=uo<|h x (by simp);have j:qv (rn.map λq=>KA.str q.1) (rn.map λq=>D.int q.2) (.str x.1)=some (.int r):=by
   have a:=xa x.1<|rn.map λq=>(q.1,D.int q.2);rw[U3,U3,A4 D.int x.1 rn,c] at a;exact a
  have f:=j;have g:(gT 3<|gC (jc [] 2)<|gC (jc [] 3)<|gC (jc [] 4) gN) (eL x) [some<|jB false p,some<|.dK false (rn.map λq=>KA.str q.1)<|rn.map λq=>D.int q.2,o2,o3,o4]=some [some<|jB false p,some<|.dK false (rn.map λq=>KA.str q.1)<|rn.map λq=>D.int q.2,some<|.str x.1,some<|.int x.2.1,some<|.str x.2.2]:=rfl;by_cases b:x.2.1<=r
  ·have d:hit rn (x::L)=some x.2.2:=by rw[hit,c];exact if_pos b
   refine#v[some<|.str x.1,some<|.int x.2.1,some<|.str x.2.2,?_];rw[d,L5,jQ,g,L4];simp[vn,f,b]
  ·have d:hit rn (x::L)=hit rn L:=by rw[hit,c];exact if_neg b
   let[o2',o3',o4',e]:=i (o2:=some<|.str x.1) (o3:=some<|.int x.2.1) (o4:=some<|.str x.2.2) λy k=>h y (by simp[k]);refine#v[o2',o3',o4',?_];rw[d,<- e,L5,jQ,g,L4];simp[vn,f,b]
def lD(p:bQ):List Nat:=(p.orders.map (·.nm)).headD []
def Nv(h:bP O p)  (c:rn.map (·.1)=p.told.map (·.1)):
  vw [jB false p,.dK false (rn.map λq=>KA.str q.1)<|rn.map λq=>D.int q.2]=some (.str<|(hit rn p.looks).getD (lD p)):=by
 let[f,g,i,e]:=Nu (p:=p) (o2:=none) (o3:=none) (o4:=none) (by rw[c];exact λx j=>(h.looks x j).1);let[d,mU,oP]:=(show ∃ d,jd (.lst false<|p.orders.map<|yx false) (.int 0)=some d/\jd d (.int 0)=some (.str<|lD p) from by 
   have a:=h.orders1;unfold lD;cases e:p.orders with
   | nil=>rw[e] at a;simp at a
   | cons x l=>exact#v[yx false x,by rw[fv (by decide)<|by simp];rfl,rfl])
 have b:jd (jB false p) (.int 5)=‹p.looks.map eL›:=rfl;have k:jd (jB false p) (.int 4)=‹p.orders.map (yx false)›:=rfl;cases hh:hit rn p.looks with
 | none=>
  rw[hh] at e;simp[vw,jx,qW,b,k,KN,sN,e,mU,oP]
 | some w=>
  rw[hh] at e;simp[vw,jx,qW,b,KN,sN,e]
def Nw{O}{p}(h:bP O p){sz ow b lv:List W2}{x}(c:b.map (·.1)=p.told.map (·.1)):
  v8 [jB false p,.tup [.lst false<|sz.map e2,.lst false<|ow.map e2,.lst false<|b.map e2,.lst false<|lv.map e2,.int x]]=some (.str<|(hit b p.looks).getD (lD p)):=by
 have j:b.length<=10:=by
  have:=congrArg List.length c;rw[L1,L1] at this;have:=h.told2
  lia
 have f:jd (.tup [.lst false<|sz.map e2,.lst false<|ow.map e2,.lst false<|b.map e2,.lst false<|lv.map e2,.int x]) (.int 2)=‹b.map e2›:=rfl;have g:yZ [.lst false<|b.map e2]=some (.dK true (b.map λq=>KA.str q.1)<|b.map λq=>D.int q.2):=by
  have:=Ku (o:=false) (l:=b.map λq=>(q.1,D.int q.2)) (by rw[U3];have:=h.toldn;rw[<- c] at this;exact this) (by intro q i;let[a,_,rfl]:=M7.mp i;rfl) (by rw[L1];lia);rw[U3,U3,U3] at this;exact this
 have d:bV (b.map λq=>D.int q.2)=b.map λq=>D.int q.2:=vD (λ_=>rfl) _;have e:fz (.dK true (b.map λq=>KA.str q.1)<|b.map λq=>D.int q.2)=.dK false (b.map λq=>KA.str q.1) (b.map λq=>D.int q.2):=by rw[fz,d]
 simp[v8,jx,Vp,f,g,h.fz false,e,Nv h c]
def Jb(p:bQ):List W2:=p.told.map λc=>(c.1,0)
def lE(p:bQ):List W2:=p.told.map λc=>(c.1,c.2.1)
def lF(p:bQ):List W2:=p.marks.map λc=>(c.1,0)
def wB(l:List W3):jU (jc [] 0) qT (yH #[pF<|p2 jd (pV 0)<|pI 0,pI 0]) (l.map e3) [none]=some ((l.map λc=>((c.1,0):W2)).map e2):=by
 rw[U3];refine jA rfl (λs=>∃ o,s=[o]) ?_ #v[none,rfl];rintro c b s ⟨o,rfl⟩;refine#v[[some<|e3 c],rfl,?_,_,rfl];have a:jd (e3 c) (.int 0)=some (.str c.1):=rfl;simp[a,jb,e2]
def Nx(l:List W3):jU (jc [] 0) qT (yH #[pF<|p2 jd (pV 0)<|pI 0,pF<|p2 jd (pV 0)<|pI 1]) (l.map e3) [none]=some ((l.map λc=>((c.1,c.2.1):W2)).map e2):=by
 rw[U3];refine jA rfl (λs=>∃ o,s=[o]) ?_ #v[none,rfl];rintro c d s ⟨o,rfl⟩;refine#v[[some<|e3 c],rfl,?_,_,rfl];have a:jd (e3 c) (.int 0)=some (.str c.1):=rfl;have b:jd (e3 c) (.int 1)=some (.int c.2.1):=rfl;simp[a,b,jb,e2]
def Ny(l:List W2):jU (jc [] 0) qT (yH #[pF<|p2 jd (pV 0)<|pI 0,pI 0]) (l.map e2) [none]=some ((l.map λc=>((c.1,0):W2)).map e2):=by
 rw[U3];refine jA rfl (λs=>∃ o,s=[o]) ?_ #v[none,rfl];rintro c a s ⟨o,rfl⟩;refine#v[[some<|e2 c],rfl,?_,_,rfl];have b:jd (e2 c) (.int 0)=some (.str c.1):=rfl;simp[ jb];rfl
def fM(p:bQ)(rn:List W2):List Nat:=(hit rn p.looks).getD (lD p)
theorem B8:∀{L},hit rn L=some w->∃ x∈L,x.2.2=w
 | [],h=>by simp[hit] at h
 | x::L,h=>by
  rw[hit] at h;split at h
  ·cases h;exact#v[x,by simp,rfl]
  ·let[y,a,e]:=B8 h;exact#v[y,by simp[a],e]
def Nz(h:bP O p)(a):fM p a∈p.orders.map (·.nm):=by
 unfold fM;cases e:hit a p.looks with
 | some w=>
  let[x,c,rfl]:=B8 e;exact h.looksm x c
 | none=>
  have b:=h.orders1;unfold lD;cases e:p.orders with
  | nil=>rw[e] at b;simp at b
  | cons x l=>simp
def Qg(h:bP O p):vx [jB false p]=some (cb true (lE p) (Jb p) (Jb p) (lF p) 0):=by
 have a:jd (jB false p) (.int 1)=‹p.told.map e3›:=rfl;have b:jd (jB false p) (.int 2)=‹p.marks.map e2›:=rfl;have c:=h.told2;have d:=h.marks2;have l1:bW p.told.length=true:=jb ∅;have l2:bW p.marks.length=true:=jb ∅;simp[vx,jx,YJ,a,b,qf,ye,l1,l2,jq,wB p.told,Nx p.told,Ny p.marks,cb,lE,Jb,lF,-List.map_map]
def h_(p:bQ):List Nat->Int:=fnOf<|p.told.map λc=>(c.1,c.2.2)
def ia(p:bQ)(f:List Nat->Int)(W:List W2):List W2:=W.map λq=>(q.1,if 0<f q.1 then q.2+h_ p q.1 else q.2)
def NA(l:List W3):jU (jc [] 0) qT (yH #[pF<|p2 jd (pV 0)<|pI 0,pF<|p2 jd (pV 0)<|pI 2]) (l.map e3) [none]=some ((l.map λc=>((c.1,c.2.2):W2)).map e2):=by
 rw[U3];refine jA rfl (λs=>∃ o,s=[o]) ?_ #v[none,rfl];rintro c d s ⟨o,rfl⟩;refine#v[[some<|e3 c],rfl,?_,_,rfl];have a:jd (e3 c) (.int 0)=some (.str c.1):=rfl;have b:jd (e3 c) (.int 2)=some (.int c.2.2):=rfl;simp[a,b,jb,e2]
def QN{O}{p}(h:bP O p){S W Rn Lv}{x}(b:S.map (·.1)=p.told.map (·.1))(e:W.map (·.1)=p.told.map (·.1)):
  qo [jB false p,cb false S W Rn Lv x]=some (cb false S (ia p (fnOf S) W) Rn Lv x):=by
 have B:=h.told2;have nd:(S.map (·.1)).Nodup:=by rw[b];exact h.toldn
 have m:S.length<=10:=by
  have:=congrArg List.length b;rw[L1,L1] at this
  lia
 have n:W.length<=10:=by
  have:=congrArg List.length e;rw[L1,L1] at this
  lia
 have g:jd (cb false S W Rn Lv x) (.int 0)=‹S.map e2›:=rfl;have r:jd (cb false S W Rn Lv x) (.int 1)=‹W.map e2›:=rfl;have s:jd (cb false S W Rn Lv x) (.int 2)=‹Rn.map e2›:=rfl;have t:jd (cb false S W Rn Lv x) (.int 3)=‹Lv.map e2›:=rfl;have u:jd (cb false S W Rn Lv x) (.int 4)=some (.int x):=rfl;have v:jd (jB false p) (.int 1)=‹p.told.map e3›:=rfl;have w:yZ [.lst false<|S.map e2]=some (bY true (p.told.map (·.1))<|fnOf S):=by rw[<- b];exact yo nd ∅
 have a:(p.told.map λc=>((c.1,c.2.2):W2)).map (·.1)=p.told.map (·.1):=by simp
 have d:yZ [.lst true<|(p.told.map λc=>((c.1,c.2.2):W2)).map e2]=some (bY true (p.told.map (·.1))<|h_ p):=by
  have:=yo (o:=true) (by rw[a];exact h.toldn) (by rw[L1];lia);rw[a] at this;exact this
 have y:jU (gT 2<|gC (jc [] 0)<|gC (jc [] 1) gN) qT (yH #[pF<|pV 0,f9 (jt<|p2 Km (p2 yW (pV 2)<|pV 0)<|pI 0) (p2 jh (pV 1)<|p2 yW (pV 3)<|pV 0)<|pF<|pV 1]) (W.map e2) [none,none,some (bY true (p.told.map (·.1))<|fnOf S),some (bY true (p.told.map (·.1))<|h_ p)]=some ((ia p (fnOf S) W).map e2):=by
  unfold ia;rw[U3];refine jA rfl (λU=>∃ o i,U=[o,i,some (bY true (p.told.map (·.1))<|fnOf S),some (bY true (p.told.map (·.1))<|h_ p)]) ?_ #v[none,none,rfl];rintro q z U ⟨o,i,rfl⟩;have j:q.1∈p.told.map (·.1):=by rw[<- e];exact M7.mpr #v[q,z,rfl]
  have k:=yk (o:=true) (f:=fnOf S) j;have A:=yk (o:=true) (f:=h_ p) j;refine#v[[some<|.str q.1,some<|.int q.2,some (bY true (p.told.map (·.1))<|fnOf S),some (bY true (p.told.map (·.1))<|h_ p)],rfl,?_,_,_,rfl];by_cases l:0<fnOf S q.1
  ·simp[k,A,l,jb,e2]
  ·simp[k,l,jb,e2]
 have l1:bW p.told.length=true:=jb ∅;have l2:bW W.length=true:=jb ∅;generalize C:cb false S W Rn Lv x=BK at *;simp(disch:=first | lia | (simp;done) | (simp;lia)) [qo,jx,Vi,g,r,v,w,d,NA p.told,y,jq,ye,JZ,qf,xz,l1,l2,jb,cb,-yH,-f9,-List.map_map];simp(disch:=first | lia | (simp;done) | (simp;lia)) [g,s,t,u,ye,jb]
noncomputable abbrev EN:=List Nat×List Nat
abbrev LN:=List<|EN×Int
def kL(r:EN×Int):List KA:=[.str r.1.1,.str r.1.2]
def vL(r:EN×Int):D:=.int r.2
def dh(o:Bool)(l:LN):D:=.dT o (l.map kL)<|l.map vL
def Jy:LN->EN->Option Int
 | [],_=>none
 | r::l,k=>if r.1=k then some r.2 else Jy l k
def ib(l:LN)(k:EN)(v:Int):LN:=l.map λr=>(r.1,if r.1=k then v else r.2)
def gc(l:LN)(k:EN)(v:Int):LN:=if k∈l.map (·.1) then ib l k v else l++[(k,v)]
def NB:([KA.str a,KA.str b]=[KA.str c,KA.str d])=((a,b)=((c,d):EN)):=by simp
def mT(r)(k):(kL r=[KA.str k.1,KA.str k.2])=(r.1=k):=by
 obtain⟨⟨a,b⟩,n⟩:=r;let[c,d]:=k;exact NB
theorem VT(k):∀ l:LN,JA (l.map kL) (l.map vL) [.str k.1,.str k.2]=(Jy l k).map D.int
 | []=>rfl
 | r::l=>by
  rw[L5,L5,JA,Jy];by_cases h:r.1=k
  ·rw[if_pos h,if_pos<|by rw[mT];exact h];rfl
  ·rw[if_neg h,if_neg<|by rw[mT];exact h,VT k l]
theorem B9(k)(v):∀ l:LN,xZ (l.map kL) (l.map vL) [.str k.1,.str k.2] (.int v)=(ib l k v).map vL
 | []=>rfl
 | r::l=>by
  rw[L5,L5,xZ,B9 k v l];by_cases h:r.1=k
  ·rw[if_pos<|by rw[mT];exact h];simp[ib,h,vL]
  ·rw[if_neg<|by rw[mT];exact h];simp[ib,h]
theorem sS(k):∀ l:LN,([KA.str k.1,KA.str k.2]∈l.map kL)↔k∈l.map (·.1)
 | []=>by simp
 | r::l=>by
  rw[L5,L5,M5,M5,sS k l];have:=mT r k;constructor
  ·lia
  ·lia
def ND(l)(k)(v):(ib l k v).map (·.1)=l.map (·.1):=by unfold ib;rw[U3];rfl
def NE(l)(k)(v):(ib l k v).map kL=l.map kL:=by unfold ib;rw[U3];rfl
def wx(k)(v)(l):kj (l.map kL) (l.map vL) [.str k.1,.str k.2] (.int v)=((gc l k v).map kL,(gc l k v).map vL):=by
 unfold kj gc;by_cases h:k∈l.map (·.1)
 ·rw[if_pos h,if_pos<|(sS k l).mpr h,B9,NE]
 ·rw[if_neg h,if_neg λz=>h<|(sS k l).mp z];simp[kL,vL]
structure cu(N:W1)(l:LN):Prop where
 nd:(l.map (·.1)).Nodup
 mem:∀ r∈l,r.1.1∈N/\r.1.2∈N/\0<=r.2
def B_(h:cu N l)  (h1:k.1∈N) (h2:k.2∈N) (f:0<=v):cu N (gc l k v):=by
 unfold gc;by_cases e:k∈l.map (·.1)
 ·rw[if_pos e];refine#v[by rw[ND];exact h.nd,λr c=>?_];let[q,g,rfl]:=M7.mp c;have:=h.mem q g;refine#v[this.1,this.2.1,?_];split
  ·lia
  ·lia
 ·rw[if_neg e];refine#v[?_,λr c=>?_]
  ·rw[N6,X3];exact#v[h.nd,by simp,λa i b d=>by simp at d;rintro rfl;exact e<|d▸i]
  ·rcases N3.mp c with c | c
   ·exact h.mem r c
   ·rw[M9.mp c];exact#v[h1,h2,f]
theorem wc{N:W1}  : ∀{l},(∀ r∈l,r.1.1∈N/\r.1.2∈N/\0<=r.2)->0<=(Jy l k).getD 0
 | [],_=>Int.le_refl _
 | r::l,h=>by
  rw[Jy];split
  ·exact(h r<|by simp).2.2
  ·exact wc λq a=>h q (by simp[a])
theorem xh [DecidableEq s]:∀{l m:List s},l.Nodup->(∀ x∈l,x∈m)->l.length<=m.length
 | [],m,_,_=>by simp
 | a::l,m,b,d=>by
  have e:=d a (by simp);rw[List.nodup_cons] at b;have:=xh b.2 λx f=>by
   have c:x≠a:=λz=>b.1<|z▸f;exact(List.mem_erase_of_ne c).mpr (d x<|by simp[f])
  rw[List.length_erase_of_mem e] at this;have g:=List.length_pos_of_mem e;simp only[M3]
  lia
def cu.len(h:cu N l)(c:N.length<=6):l.length<=36:=by
 have:=xh (m:=N.flatMap λa=>N.map λb=>(a,b)) h.nd λx d=>by
  let[r,f,rfl]:=M7.mp d;have:=h.mem r f;exact List.mem_flatMap.mpr #v[r.1.1,this.1,M7.mpr #v[r.1.2,this.2.1,rfl]]
 rw[L1,List.length_flatMap] at this;have e:(N.map λa=>(N.map λb=>((a,b):EN)).length)=N.map λ_=>N.length:=by simp
 have e2:∀ n (M:W1),(M.map λ_=>n).sum=M.length*n:=λn M=>by
  induction M with
  | nil=>simp
  | cons a M g=>simp only[L5,List.sum_cons,M3,Nat.succ_mul];lia
 rw[e,e2] at this;have i:=Nat.mul_le_mul c c
 lia
noncomputable abbrev MV:=List Nat×List Nat×Int
def eM(m:MV):D:=.tup [.str m.1,.str m.2.1,.int m.2.2]
def d7(nm:List Nat)(l:LN)(m:MV):LN:=if m.1=qF then gc l (nm,m.2.1) ((Jy l (nm,m.2.1)).getD 0+m.2.2) else gc l (m.2.1,nm) ((Jy l (m.2.1,nm)).getD 0-m.2.2)
structure eF(nm:List Nat)(N:W1)(c:Int)(l:LN)(m:MV):Prop where
 kd:m.1=qF\/(m.1=V6/\m.2.2<=(Jy l (m.2.1,nm)).getD 0)
 ot:m.2.1∈N
 po:0<m.2.2
 hi:m.2.2<=c
def Ca(h:cu N l)(a:nm∈N)(k:eF nm N c l m):cu N (d7 nm l m):=by
 unfold d7;have po:=k.po;rcases k.kd with e | ⟨e,e2⟩
 ·rw[if_pos e];have:=wc (k:=(nm,m.2.1)) h.mem;exact B_ h a k.ot ∅
 ·rw[if_neg ∅];exact B_ h k.ot a ∅
def NF(h:0<c)(h2:c<=(Jy l k).getD 0):∃ v,Jy l k=some v:=by
 cases e:Jy l k with
 | some v=>exact#v[v,rfl]
 | none=>rw[e] at h2;simp at h2;lia
def Cb(h:l.length<=100)(k:eF nm N c l m):yQ [dh true l,.str nm,.str m.1,.str m.2.1,.int m.2.2]=some (.non,dh true<|d7 nm l m):=by
 have a:bW l.length=true:=jb ∅;rcases k.kd with e | ⟨e,e2⟩
 ·have b:=VT (nm,m.2.1) l;have p1:=wx (nm,m.2.1) ((Jy l (nm,m.2.1)).getD 0+m.2.2) l;have g:VJ (dh true l) [.str nm,.str m.2.1] (.int 0)=some (.int<|(Jy l (nm,m.2.1)).getD 0):=by
   show some ((JA (l.map kL) (l.map vL) [.str nm,.str m.2.1]).getD (.int 0))=_;rw[b];cases Jy l (nm,m.2.1)<;>rfl
  have d:d7 nm l m=gc l (nm,m.2.1) ((Jy l (nm,m.2.1)).getD 0+m.2.2):=if_pos e;rw[d];simp only[dh] at *;simp[yQ,km,JF,e,g,p1,a,YG]
 ·let[v,f]:=NF k.po e2;have b:=VT (m.2.1,nm) l;rw[f] at b;have d:d7 nm l m=gc l (m.2.1,nm) (v-m.2.2):=by unfold d7;rw[if_neg ∅,f];rfl
  rw[d];simp only[dh] at *;simp[yQ,km,JF,sw,e,b,wx (m.2.1,nm) (v-m.2.2) l,a,YG]
def eR(r:EN×Int):D:=.tup [.str r.1.1,.str r.1.2,.int r.2]
def vZ(l:LN):frzs (l.map eR)=true:=yn (λ_=>rfl) _
def YE(l:LN):bV (l.map eR)=l.map eR:=vD (λ_=>rfl) _
def zj(l):vz (dh true l)=true:=by
 have:yh (l.map vL)=true:=by rw[yz,List.all_map,List.all_eq_true];intro x _;rfl
 simp[dh,vz,this]
theorem uV:∀(l a:LN),((a++l).map (·.1)).Nodup->(l.map λr=>(kL r,vL r)).foldl (λacc kv=>kj acc.1 acc.2 kv.1 kv.2) (a.map kL,a.map vL)=((a++l).map kL,(a++l).map vL)
 | [],a,_=>by simp
 | r::l,a,h=>by
  have b:r.1∉a.map (·.1):=by
   rw[N6,X3] at h;intro z;exact h.2.2 _ z r.1 (by simp) rfl
  have e:kj (a.map kL) (a.map vL) (kL r) (vL r)=((a++[r]).map kL,(a++[r]).map vL):=by
   have:=wx r.1 r.2 a;unfold gc at this;rw[if_neg b] at this;exact this
  show List.foldl _ (kj (a.map kL) (a.map vL) (kL r)<|vL r) _=_;rw[e,uV l (a++[r]) ⇑h];simp
theorem zO:∀(l:LN) o0 o1 o2,jU (gT 3<|gC (jc [] 0)<|gC (jc [] 1)<|gC (jc [] 2) gN) qT (yH #[sG (pV 0)<|pV 1,pF<|pV 2]) (l.map eR) [o0,o1,o2]=some (l.map λr=>.tup [.kt<|kL r,vL r])
 | [],_,_,_=>rfl
 | r::l,o0,o1,o2=>by
  have a:=zO l (some<|.str r.1.1) (some<|.str r.1.2)<|some<|.int r.2;have b:gT 3 (gC (jc [] 0)<|gC (jc [] 1)<|gC (jc [] 2) gN) (eR r) [o0,o1,o2]=some [some<|.str r.1.1,some<|.str r.1.2,some<|.int r.2]:=rfl;rw[L5,yD,b,L4];simp[a,qT,kL,vL,vT,jb]
theorem Cc:∀ l:LN,xQ (l.map λr=>.tup [.kt<|kL r,vL r])=some (l.map λr=>(kL r,vL r))
 | []=>rfl
 | r::l=>by rw[L5,xQ,Cc l];rfl
def Cd(h:(l.map (·.1)).Nodup)(b:l.length<=1000):yu [.lst false<|l.map eR]=some (dh true l):=by
 have e:=zO l none none none;have d:sx (l.map λr=>(kL r,vL r))=(l.map kL,l.map vL):=uV l [] ⇑h;have a:bW l.length=true:=jb ∅;have fd:uU [.lst true<|l.map λr=>.tup [.kt<|kL r,vL r]]=some (dh true l):=by
  show(xQ _).bind _=_;rw[Cc,L4,d];simp[a,dh]
 simp[yu,jx,qC,jq,e,fd,vZ,a]
def ed(nm:List Nat)(l:LN)(ms:List MV):LN:=ms.foldl (d7 nm) l
def cK(nm:List Nat)(N:W1)(c:Int):LN->List MV->Prop
 | _,[]=>True
 | l,m::ms=>eF nm N c l m/\cK nm N c (d7 nm l m) ms
theorem cK.snoc:∀{ms}{l},cK nm N c l ms->eF nm N c (ed nm l ms) m->cK nm N c l (ms++[m])
 | [],l,_,h=>#v[h,trivial]
 | a::ms,l,h,k=>#v[h.1,cK.snoc h.2 k]
def ut(nm)(l)(ms)(m):ed nm l (ms++[m])=d7 nm (ed nm l ms) m:=by simp[ed]
theorem sT(a:nm∈N):∀{ms}{l},cu N l->cK nm N c l ms->cu N (ed nm l ms)
 | [],l,h,_=>h
 | m::ms,l,h,k=>sT a (l:=d7 nm l m) (Ca h a k.1) k.2
theorem Vn(a:nm∈N)(b:N.length<=6)  : ∀{ms}{l}{o4 o5 o6},cu N l->cK nm N c l ms ->
  dF λo4' o5' o6'=>jY (gT 3<|gC (jc [] 4)<|gC (jc [] 5)<|gC (jc [] 6) gN) vG (ms.map eM) [a0,some<|.str nm,a2,some<|dh true l,o4,o5,o6]=some (.nx [a0,some<|.str nm,a2,some<|dh true<|ed nm l ms,o4',o5',o6'])
 | [],l,o4,o5,o6,_,_=>#v[o4,o5,o6,rfl]
 | m::ms,l,o4,o5,o6,h,k=>by
  let[o4',o5',o6',e]:=Vn a b (o4:=some<|.str m.1) (o5:=some<|.str m.2.1) (o6:=some<|.int m.2.2) (Ca h a k.1) k.2;refine#v[o4',o5',o6',?_];have d:=Cb (by have:=h.len b;lia) k.1;rw[L5,lz ?_,e];rfl;show(some _).bind _=_;simp[vG,d,Yw,kR]
theorem Kq:∀ l:LN,Bh (l.map kL) (l.map vL)=some ((l.filter λr=>decide<|0<r.2).map eR)
 | []=>rfl
 | r::l=>by
  show(Bh (l.map kL)<|l.map vL).bind _=_;rw[Kq l,L4,List.filter_cons];by_cases h:0<r.2
  ·simp[h];rfl
  ·simp[h]
theorem ue:∀ l:LN,∃ rs,lp (l.map eR)=some rs
 | []=>#v[[],rfl]
 | r::l=>by
  let[rs,e]:=ue l;exact#v[(S r.1.1,S r.1.2,r.2)::rs,by show(lp<|l.map eR).bind _=_;rw[e];rfl]
def Ce:D->EN
 | .tup [.str a,.str b,_]=>(a,b)
 | _=>([],[])
def NG(h:cu N l)  : ∃(l':LN),cX (wZ rs (l.map eR)=l'.map eR) (cu N l') (l'.length=l.length):=by
 have p:=LC (rs:=rs) (l:=l.map eR);let[l',e,b]:=Y1 λy c=>by
  let[r,a,rfl]:=M7.mp<|p.mem_iff.mp c;exact#v[r,rfl,a]
 refine#v[l',e,#v[?_,λr a=>h.mem r<|b r a],?_]
 ·rw[e] at p;have p2:=p.map Ce;rw[U3,U3] at p2;have d:(Ce ∘ eR)=λr:EN×Int=>r.1:=by funext r;rfl
  exact p2.nodup_iff.mpr h.nd
 ·have:=p.length_eq;rw[e,L1,L1] at this;exact this
def NH(h:cu N l):cu N (l.filter λr=>decide<|0<r.2):=
 ⟨h.nd.sublist<|List.Sublist.map _<|List.filter_sublist,λr a=>h.mem r (List.mem_filter.mp a).1⟩
def NI(m:nm∈N)(b:N.length<=6)  (h:cu N l) (k:cK nm N c l ms):
  ∃ l':LN,vq [.lst false<|l.map eR,.str nm,.lst false<|ms.map eM]=↑(l'.map eR)/\cu N l':=by
 have y:=h.len b;have p:=Cd h.nd ∅;have n:=sT m h k;have q:=n.len b;let[s,t,u,e]:=Vn m b (a0:=‹l.map eR›) (a2:=‹ms.map eM›) (o4:=none) (o5:=none) (o6:=none) h k;let[o,e3]:=ue<|(ed nm l ms).filter λr=>decide<|0<r.2;let[l',v,w,_]:=NG (rs:=o)<|NH n;have x:=Kq<|ed nm l ms;have d:(((ed nm l ms).filter λr=>decide<|0<r.2).map eR).length<64:=by
  rw[L1];have:=List.length_filter_le (λr:EN×Int=>decide<|0<r.2)<|ed nm l ms
  lia
 have f:frzs (ms.map eM)=true:=yn (λ_=>rfl) _;have a:bV (ms.map eM)=ms.map eM:=vD (λ_=>rfl) _;have g:f5 (dh true<|ed nm l ms)=some ((ed nm l ms).map kL,(ed nm l ms).map vL):=rfl;have i:bW ((ed nm l ms).map kL).length=true:=yI ∅;have j:=zj l;refine#v[l',?_,w];simp[vq,jx,JB,p,j,vZ,YE,f,a,e,g,x,e3,v,f6,-List.length_map,i,d]
def NS:List Str:=["pool_name","marks","sizes","owed","levels","loans","cash","served","entries","moves"]
abbrev de(o:Bool)(a0 a1 a2 a3 a4 a5 a6 a7 a8 a9:D):D:=.ins o 0 NS [a0,a1,a2,a3,a4,a5,a6,a7,a8,a9]
def Cf:JM NS [a0,a1,a2,a3,a4,a5,a6,a7,a8,a9] "pool_name" = some a0:=rfl
def mU:JM NS [a0,a1,a2,a3,a4,a5,a6,a7,a8,a9] "marks" = some a1:=rfl
def oP:JM NS [a0,a1,a2,a3,a4,a5,a6,a7,a8,a9] "sizes" = some a2:=rfl
def mV:JM NS [a0,a1,a2,a3,a4,a5,a6,a7,a8,a9] "owed" = some a3:=rfl
def NK:JM NS [a0,a1,a2,a3,a4,a5,a6,a7,a8,a9] "levels" = some a4:=rfl
def Cg:JM NS [a0,a1,a2,a3,a4,a5,a6,a7,a8,a9] "loans" = some a5:=rfl
def Ch:JM NS [a0,a1,a2,a3,a4,a5,a6,a7,a8,a9] "cash" = some a6:=rfl
def NL:JM NS [a0,a1,a2,a3,a4,a5,a6,a7,a8,a9] "entries" = some a8:=rfl
def NO:JM NS [a0,a1,a2,a3,a4,a5,a6,a7,a8,a9] "moves" = some a9:=rfl
def g2:Jp 0 "sizes" kR (de true a0 a1 a2 a3 a4 a5 a6 a7 a8 a9)=some (a2,λz=>de true a0 a1 z a3 a4 a5 a6 a7 a8 a9):=rfl
def g3:Jp 0 "owed" kR (de true a0 a1 a2 a3 a4 a5 a6 a7 a8 a9)=some (a3,λz=>de true a0 a1 a2 z a4 a5 a6 a7 a8 a9):=rfl
def g4:Jp 0 "levels" kR (de true a0 a1 a2 a3 a4 a5 a6 a7 a8 a9)=some (a4,λz=>de true a0 a1 a2 a3 z a5 a6 a7 a8 a9):=rfl
def g7:Jp 0 "served" kR (de true a0 a1 a2 a3 a4 a5 a6 a7 a8 a9)=some (a7,λz=>de true a0 a1 a2 a3 a4 a5 a6 z a8 a9):=rfl
def g8:Jp 0 "entries" kR (de true a0 a1 a2 a3 a4 a5 a6 a7 a8 a9)=some (a8,λz=>de true a0 a1 a2 a3 a4 a5 a6 a7 z a9):=rfl
def g9:Jp 0 "moves" kR (de true a0 a1 a2 a3 a4 a5 a6 a7 a8 a9)=some (a9,λz=>de true a0 a1 a2 a3 a4 a5 a6 a7 a8 z):=rfl
def NQ:Jr NS [a0,a1,a2,a3,a4,a5,a6,a7,a8,a9] "cash" z=(NS,[a0,a1,a2,a3,a4,a5,z,a7,a8,a9]):=rfl
def NR{a0 a1 a2 a3 a4 a5 a7 a8 a9}{s}{i}{pv}{m n}(a:pV i s=some (de true a0 a1 a2 a3 a4 a5 (.int m) a7 a8 a9))(b:pv s=some (.int n)):
  VQ i kR 0 "cash" (λm n=>m-n) pv s=some (.nx<|s.set i<|some<|de true a0 a1 a2 a3 a4 a5 (.int<|m-n) a7 a8 a9):=by
 have e:(NS.length<=900)=True:=by simp[NS]
 unfold VQ;rw[a];simp[kR,Ch,NQ,b,e]
def Qb{ρ}{i}{w}{L}{pk pv}{t}{N}{f}{a}{g}{n}(c:pV i ρ=some t)(d:L t=some (bY true N f,a))(e:pk ρ=some (.str w))(h:pv ρ=some (.int n))(b:w∈N)(j:N.length<=1000):
  vH i L pk g pv ρ=some (.nx<|ρ.set i<|some<|a<|bY true N<|put f w<|g (f w) n):=by
 rw[vH,e,L4,show vT (.str w)=some (.str w) from rfl,L4,c,L4,d,L4,show gP (bY true N f,a).1=some (N.map KA.str,N.map λn=>D.int<|f n) from rfl,L4,Y9 f b,L4,show yS (.int<|f w)=some (f w) from rfl,L4,h,L4,show yS (.int n)=some n from rfl,L4,yI ∅,cond_true,um b];rfl
def fx(o:Bool)(l:W1):D:=.dK o (l.map KA.str)<|l.map λ_=>D.bl true
def Yl(l:W1)(w:List Nat):List (List Nat):=if w∈l then l else l++[w]
def NT(l)(w):ki (l.map KA.str) (l.map λ_=>D.bl true) (.str w) (.bl true)=((Yl l w).map KA.str,(Yl l w).map λ_=>D.bl true):=by
 have b:(KA.str w∈l.map KA.str)↔w∈l:=by simp
 have c:∀ l:List (List Nat),wj (l.map KA.str) (l.map λ_=>D.bl true) (.str w) (.bl true)=l.map λ_=>D.bl true:=λl=>by
  induction l with
  | nil=>rfl
  | cons a l d=>rw[L5,L5,wj,d];split<;>rfl
 unfold ki Yl;by_cases h:w∈l
 ·rw[if_pos h,if_pos<|b.mpr h,c]
 ·rw[if_neg h,if_neg λz=>h<|b.mp z];simp
def NU(a:pV i ρ=some (de true a0 a1 a2 a3 a4 a5 a6 (fx true l) a8 a9))(b:pk ρ=some (.str w))(c:l.length<=1000):
  Vl i (Jp 0 "served" kR) pk (pC<|.bl true) ρ=some (.nx<|ρ.set i<|some<|de true a0 a1 a2 a3 a4 a5 a6 (fx true<|Yl l w) a8 a9):=by
 unfold Vl;rw[show(pC<|D.bl true) ρ=some (.bl true) from rfl,L4,a,L4,g7,L4];show((pk ρ).bind λq=>_)=_;rw[b,L4];show(bif bW (l.map KA.str).length&&(true||_) then some (cf.nx<|ρ.set i<|some<|de true a0 a1 a2 a3 a4 a5 a6 (.dK true (ki (l.map KA.str) (l.map λ_=>D.bl true) (.str w)<|.bl true).1 (ki (l.map KA.str) (l.map λ_=>D.bl true) (.str w)<|.bl true).2) a8 a9) else none)=_;rw[yI ∅,NT];rfl
def NV(h:yW a3 (.str w)=some (.int v)):jg [de false a0 a1 a2 a3 a4 a5 a6 a7 a8 a9,.tup [.str mR,.str w]]=some (.int v):=by
 simp[jg,jx,jW,mV,h,iB]
def NW(h:yW a3 (.str w)=some (.int v))(h2:yW a2 (.str w)=some (.int u)):jg [de false a0 a1 a2 a3 a4 a5 a6 a7 a8 a9,.tup [.str VX,.str w]]=some (.int<|v+u):=by
 simp[jg,jx,jW,mV,oP,h,h2,iB]
def NX:∃ z,jg [de false (.str nm) a1 a2 a3 a4 (dh false l) a6 a7 a8 a9,.tup [.str qF,.str w,.int j]]=some (.int z)/\0<=z:=by
 have a:VJ (dh false l) [.str nm,.str w] (.int 0)=some (.int<|(Jy l (nm,w)).getD 0):=by
  show some ((JA (l.map kL) (l.map vL) [.str nm,.str w]).getD (.int 0))=_;rw[VT (nm,w) l];cases Jy l (nm,w)<;>rfl
 generalize(Jy l (nm,w)).getD 0=u at a;refine#v[if j-u<0 then 0 else j-u,?_,by split<;>lia];have b:me [.int<|j-u,.int 0]=some (.int<|if j-u<0 then 0 else j-u):=rfl;simp[jg,jx,jW,Cg,Cf,a,iB,b]
def zG:jg [de false (.str nm) a1 a2 a3 a4 (dh false l) a6 a7 a8 a9,.tup [.str V6,.str w]]=some (.int<|(Jy l (w,nm)).getD 0):=by
 have a:VJ (dh false l) [.str w,.str nm] (.int 0)=some (.int<|(Jy l (w,nm)).getD 0):=by
  show some ((JA (l.map kL) (l.map vL) [.str w,.str nm]).getD (.int 0))=_;rw[VT (w,nm) l];cases Jy l (w,nm)<;>rfl
 simp[jg,jx,jW,Cg,Cf,a,iB]
def NY:jg [de false a0 a1 a2 a3 a4 a5 (.int v) a7 a8 a9,.tup [.str oJ,.str w]]=some (.int v):=by
 simp[jg,jx,jW,Ch,iB]
structure En where
 pl:Int
 kd:List Nat
 nm:List Nat
 nd:Int
 gt:Int
def e5(e:En):D:=.tup [.int e.pl,.str e.kd,.str e.nm,.int e.nd,.int e.gt]
structure Fl where
 sz:List Nat->Int
 ow:List Nat->Int
 lv:List Nat->Int
 ln:LN
 cash:Int
 sv:List (List Nat)
 en:List En
 mv:List MV
noncomputable abbrev bQ.C(p:bQ):List (List Nat):=p.told.map (·.1)
noncomputable abbrev bQ.P(p:bQ):List (List Nat):=p.marks.map (·.1)
def jC(p:bQ)(o:Bool)(x:Fl):D:=de o (.str p.nm) (bY o p.P<|fnOf p.marks) (bY o p.C x.sz) (bY o p.C x.ow) (bY o p.P x.lv) (dh o x.ln) (.int x.cash) (fx o x.sv) (.lst o<|x.en.map e5)<|.lst o<|x.mv.map eM
def NZ(o)(N)(f):fz (bY o N f)=bY false N f:=by
 have:bV (N.map λn=>D.int<|f n)=N.map λn=>D.int (f n):=vD (λ_=>rfl) _;simp[bY,fz,this]
def N_(o)(l):fz (dh o l)=dh false l:=by
 have:bV (l.map vL)=l.map vL:=vD (λ_=>rfl) _;simp[dh,fz,this]
def Oa(o)(l):fz (fx o l)=fx false l:=by
 have:bV (l.map λ_=>D.bl true)=l.map λ_=>D.bl true:=vD (λ_=>rfl) _;unfold fx;rw[fz,this]
def Ci(l:List En):bV (l.map e5)=l.map e5:=vD (λ_=>rfl) _
def Cj(l:List En):frzs (l.map e5)=true:=yn (λ_=>rfl) _
def zN(l:List MV):bV (l.map eM)=l.map eM:=vD (λ_=>rfl) _
def KY(l:List MV):frzs (l.map eM)=true:=yn (λ_=>rfl) _
def Ob(p)(o)(x):fz (jC p o x)=jC p false x:=by
 unfold jC de;simp[ NZ,N_,Oa,fz,Ci,zN]
section
variable {p:bQ}{x:Fl}{ρ:Rh}{w:List Nat}
def wU{i}{pv}{n}(a:pV i ρ=some (jC p true x))(b:pv ρ=some (.int n)):
  VQ i kR 0 "cash" (λm n=>m-n) pv ρ=some (.nx<|ρ.set i<|some<|jC p true {x with cash:=x.cash-n}):=NR a b
def zR{i}{pv}{e}(a:pV i ρ=some (jC p true x))(b:pv ρ=some (e5 e))(c:x.en.length<=1000):
  qt i (Jp 0 "entries" kR) pv ρ=some (.nx<|ρ.set i<|some<|jC p true {x with en:=x.en++[e]}):=by
 rw[qt,b,L4,a,L4];unfold jC;rw[g8,L4,VG,L4,yI ∅,cond_true,N6];rfl
def Oc{i}{pv}{m}(a:pV i ρ=some (jC p true x))(b:pv ρ=some (eM m))(c:x.mv.length<=1000):
  qt i (Jp 0 "moves" kR) pv ρ=some (.nx<|ρ.set i<|some<|jC p true {x with mv:=x.mv++[m]}):=by
 rw[qt,b,L4,a,L4];unfold jC;rw[g9,L4,VG,L4,yI ∅,cond_true,N6];rfl
def oQ{i}{pk pv}{n}(a:pV i ρ=some (jC p true x))(b:pk ρ=some (.str w))(c:pv ρ=some (.int n))(d:w∈p.C)(e:p.C.length<=1000):
  vH i (Jp 0 "owed" kR) pk (λm n=>m-n) pv ρ=some (.nx<|ρ.set i<|some<|jC p true {x with ow:=put x.ow w (x.ow w-n)}):=Qb a g3 b c d e
def Od{i}{pk pv}{n}(a:pV i ρ=some (jC p true x))(b:pk ρ=some (.str w))(c:pv ρ=some (.int n))(d:w∈p.C)(e:p.C.length<=1000):
  vH i (Jp 0 "sizes" kR) pk (λm n=>m-n) pv ρ=some (.nx<|ρ.set i<|some<|jC p true {x with sz:=put x.sz w (x.sz w-n)}):=Qb a g2 b c d e
def Oe{i}{pk pv}{n}(a:pV i ρ=some (jC p true x))(b:pk ρ=some (.str w))(c:pv ρ=some (.int n))(d:w∈p.P)(e:p.P.length<=1000):
  vH i (Jp 0 "levels" kR) pk (λm n=>m+n) pv ρ=some (.nx<|ρ.set i<|some<|jC p true {x with lv:=put x.lv w (x.lv w+n)}):=Qb a g4 b c d e
def Of{i}{pk pv}{n}(a:pV i ρ=some (jC p true x))(b:pk ρ=some (.str w))(c:pv ρ=some (.int n))(d:w∈p.P)(e:p.P.length<=1000):
  vH i (Jp 0 "levels" kR) pk (λm n=>m-n) pv ρ=some (.nx<|ρ.set i<|some<|jC p true {x with lv:=put x.lv w (x.lv w-n)}):=Qb a g4 b c d e
def Ck{i}{pk}(a:pV i ρ=some (jC p true x))(b:pk ρ=some (.str w))(c:x.sv.length<=1000):
  Vl i (Jp 0 "served" kR) pk (pC<|.bl true) ρ=some (.nx<|ρ.set i<|some<|jC p true {x with sv:=Yl x.sv w}):=NU a b c
def Og{o}:xO 0 "pool_name" (jC p o x)=some (.str p.nm):=rfl
def sU{o}:xO 0 "owed" (jC p o x)=some (bY o p.C x.ow):=rfl
def K9{o}:xO 0 "cash" (jC p o x)=some (.int x.cash):=rfl
def Oh{c}(a:w∈p.C)(b:p.C.length<=1000):jw [jC p true x,.str mR,.str w,.int c]=some (.non,jC p true {x with ow:=put x.ow w (x.ow w-c)}):=by
 simp[jw,km,yO,oQ (ρ:=[some<|jC p true x,some<|.str mR,some<|.str w,some<|.int c,none]) (i:=0) (pk:=pV 2) (pv:=pV 3) rfl rfl rfl a b,YG]
def Oj{c}(a:w∈p.C)(b:p.C.length<=1000):jw [jC p true x,.str VX,.str w,.int c]=some (.non,jC p true {x with ow:=put x.ow w<|x.ow w-b_ c (x.ow w),sz:=put x.sz w (x.sz w-(c-b_ c (x.ow w)))}):=by
 have d:xB [.int c,.int<|x.ow w]=some (.int<|b_ c<|x.ow w):=rfl;simp[jw,km,yO,oQ (ρ:=[some<|jC p true x,some<|.str VX,some<|.str w,some<|.int c,some<|.int<|b_ c<|x.ow w]) (i:=0) (pk:=pV 2) (pv:=pV 4) rfl rfl rfl a b,Od (ρ:=[some<|jC p true {x with ow:=put x.ow w (x.ow w-b_ c (x.ow w))},some<|.str VX,some<|.str w,some<|.int c,some<|.int<|b_ c<|x.ow w]) (i:=0) (pk:=pV 2) (pv:=p2 Yo (pV 3)<|pV 4) (n:=c-b_ c (x.ow w)) rfl rfl (by simp) a b,sU (p:=p) (x:=x) (o:=true),yk (o:=true) (f:=x.ow) a,d,YG]
def Ol{c}(a:w∈p.P)(b:p.P.length<=1000):jw [jC p true x,.str mS,.str w,.int c]=some (.non,jC p true {x with lv:=put x.lv w (x.lv w+c)}):=by
 simp[jw,km,yO,Oe (ρ:=[some<|jC p true x,some<|.str mS,some<|.str w,some<|.int c,none]) (i:=0) (pk:=pV 2) (pv:=pV 3) rfl rfl rfl a b,YG]
def sV{kw}(h:kw=qF\/kw=V6):QH false (.str kw) (.tup [.str [108,101,110,100],.str [98,97,99,107]])=some (.bl true):=by
 rcases h with rfl | rfl<;>rfl
def Cl{m}{N}{c}(k:eF p.nm N c x.ln m)(d:x.ln.length<=100)(e:x.mv.length<=1000):jw [jC p true x,.str m.1,.str m.2.1,.int m.2.2]=some (.non,jC p true {x with ln:=d7 p.nm x.ln m,mv:=x.mv++[m]}):=by
 have b:=k.kd.imp id (·.1);have a:∀ r:Rh,Yw yQ 0 (Jp 0 "loans" kR) #[pF<|JN 0 "pool_name"<|pV 0,pF<|pV 1,pF<|pV 2,pF<|pV 3] (some (jC p true x)::some (.str m.1)::some (.str m.2.1)::some (.int m.2.2)::r)=some (.non,some (jC p true {x with ln:=d7 p.nm x.ln m})::some (.str m.1)::some (.str m.2.1)::some (.int m.2.2)::r):=by
  intro r;have f:Jp 0 "loans" kR (jC p true x)=some (dh true x.ln,λz=>de true (.str p.nm) (bY true p.P<|fnOf p.marks) (bY true p.C x.sz) (bY true p.C x.ow) (bY true p.P x.lv) z (.int x.cash) (fx true x.sv) (.lst true<|x.en.map e5)<|.lst true<|x.mv.map eM):=rfl;have e2:jC p true {x with ln:=d7 p.nm x.ln m}=de true (.str p.nm) (bY true p.P<|fnOf p.marks) (bY true p.C x.sz) (bY true p.C x.ow) (bY true p.P x.lv) (dh true<|d7 p.nm x.ln m) (.int x.cash) (fx true x.sv) (.lst true<|x.en.map e5) (.lst true<|x.mv.map eM):=rfl;rw[e2];unfold Yw;simp[Og (p:=p) (x:=x) (o:=true),f,Cb d k]
 have g:(m.1==mR)=false:=by lia
 have h:(m.1==VX)=false:=by lia
 have j:(m.1==mS)=false:=by lia
 simp[jw,km,yO,a,Oc (ρ:=[some<|jC p true {x with ln:=d7 p.nm x.ln m},some<|.str m.1,some<|.str m.2.1,some<|.int m.2.2,none]) (i:=0) (pv:=yH #[pF<|pV 1,pF<|pV 2,pF<|pV 3]) (m:=m) rfl (by rfl) e,sV b,k.po,g,h,j,YG,jb,-qt]
def V2{kw}{c}(h:kw=oJ\/((kw=qF\/kw=V6)/\¬ 0<c)):jw [jC p true x,.str kw,.str w,.int c]=some (.non,jC p true x):=by
 rcases h with rfl | ⟨rfl | rfl,h⟩
 ·rfl
 ·have a:=sV<|.inl rfl;simp[jw,km,yO,a,h,YG,jb]
 ·have a:=sV<|.inr rfl;simp[jw,km,yO,a,h,YG,jb]
end
def JT(a:pV i ρ=some (jC p true x))(b:pa ρ=some ds)(c:frzs ds=true)
  (d:∀ a0 a1 a2 a3 a4 a5 a6 a7 a8 a9:D,JM NS [a0,a1,a2,a3,a4,a5,a6,a7,a8,a9] mn=none):vA m i 0 mn pa ρ=(m<|jC p true x::ds).bind λr=>some (r.1,ρ.set i<|some r.2):=by
 rw[vA,b,L4,a,L4];show(bif true&&(frzs ds&&(JM NS _ mn).isNone) then _ else none)=_;rw[d,c];rfl
def Cm(a:po ρ=some (jC p o x))(b:pa ρ=some ds)
  (c:∀ a0 a1 a2 a3 a4 a5 a6 a7 a8 a9:D,JM NS [a0,a1,a2,a3,a4,a5,a6,a7,a8,a9] mn=none) (e:m (jC p false x::bV ds)=some r) (f:vz r=true):Yx m 0 mn po pa ρ=some r:=by
 rw[Yx,a,L4];show(bif true&&(JM NS _ mn).isNone then(pa ρ).bind λds=>(m<|bV<|jC p o x::ds).bind λd=>bif frzs (jC p o x::ds)||vz d then some d else none else none)=_;rw[c,b,L4,bV,Ob,e,L4,f,Bool.or_true];rfl
def Om(k:jd d (.int 0)=some (.str kw))(l:jd d (.int 1)=some (.str w))(fd:fz d=d)
  (j:jg [jC p false x,d]=some (.int nd))
  (give:jw [jC p true {x with cash:=x.cash-b_ nd x.cash,en:=x.en++[#v[pl,kw,w,nd,b_ nd x.cash]]},.str kw,.str w,.int<|b_ nd x.cash]=some (.non,jC p true y))
  (h:QH false (.str kw) (.tup [.str [112,97,121],.str [114,101,112,97,121]])=some (.bl b)) (q:x.en.length<=1000) (t:y.sv.length<=1000):
  jv [jC p true x,.int pl,d]=some (.non,jC p true<|if b=true/\b_ nd x.cash=nd/\0<nd then{y with sv:=Yl y.sv w} else y):=by
 have m:xB [.int nd,.int x.cash]=some (.int<|b_ nd x.cash):=rfl;generalize A:b_ nd x.cash=g at *;have n:=K9 (p:=p) (x:=x) (o:=true);have a:∀ r:Rh,Yx jg 0 "need_of" (pV 0) #[pV 2] (some (jC p true x)::some (.int pl)::some d::r)=some (.int nd):=λr=>Cm rfl (ds:=[d]) (by simp) (λ_ _ _ _ _ _ _ _ _ _=>rfl) (by rw[show bV [d]=[d] by rw[bV,fd];rfl];exact j) rfl;have c:=wU (ρ:=[some<|jC p true x,some<|.int pl,some d,some<|.str kw,some<|.str w,some<|.int nd,some<|.int g]) (i:=0) (pv:=pV 6) rfl rfl;have e:=zR (ρ:=[some<|jC p true {x with cash:=x.cash-g},some<|.int pl,some d,some<|.str kw,some<|.str w,some<|.int nd,some<|.int g]) (i:=0) (pv:=yH #[pF<|pV 1,pF<|pV 3,pF<|pV 4,pF<|pV 5,pF<|pV 6]) (e:=#v[pl,kw,w,nd,g]) rfl (by rfl) q;have f:vA jw 0 0 "give" #[pF<|pV 3,pF<|pV 4,pF<|pV 6] [some<|jC p true {x with cash:=x.cash-g,en:=x.en++[#v[pl,kw,w,nd,g]]},some<|.int pl,some d,some<|.str kw,some<|.str w,some<|.int nd,some<|.int g]=some (.non,[some<|jC p true y,some<|.int pl,some d,some<|.str kw,some<|.str w,some<|.int nd,some<|.int g]):=by
  rw[JT rfl (ds:=[.str kw,.str w,.int g]) (by simp) rfl<|λ_ _ _ _ _ _ _ _ _ _=>rfl,give];rfl
 have s:=Ck (ρ:=[some<|jC p true y,some<|.int pl,some d,some<|.str kw,some<|.str w,some<|.int nd,some<|.int g]) (i:=0) (pk:=pV 4) rfl rfl t;have z:jC p true (if b=true/\g=nd/\0<nd then{y with sv:=Yl y.sv w} else y)=if b=true/\g=nd/\0<nd then jC p true {y with sv:=Yl y.sv w} else jC p true y:=by lia
 rw[z];cases b with
 | false=>simp[jv,km,yc,k,l,a,n,m,c,e,f,h,YG,jb,-qt,-Yx,-vA]
 | true=>
  by_cases u:g=nd
  ·subst u;by_cases v:0<g
   ·simp[jv,km,yc,k,l,a,n,m,c,e,f,s,h,v,YG,jb,-rR,-qt,-Yx,-vA]
   ·simp[jv,km,yc,k,l,a,n,m,c,e,f,s,h,v,YG,jb,-rR,-qt,-Yx,-vA]
  ·simp[jv,km,yc,k,l,a,n,m,c,e,f,s,h,u,YG,jb,-rR,-qt,-Yx,-vA]
structure cA(p:bQ)(N:W1)(c B:Int)(L0:LN)(x:Fl):Prop where
 sz:∀ n,0<=x.sz n
 ow:∀ n,0<=x.ow n/\x.ow n<=B
 lv:∀ n,0<=x.lv n
 ln:x.ln=ed p.nm L0 x.mv
 mv:cK p.nm N c L0 x.mv
 c0:0<=x.cash
 c1:x.cash<=c
 svl:x.sv.length<=x.en.length
 mvl:x.mv.length<=x.en.length
def z7(l)(w):(Yl l w).length<=l.length+1:=by
 unfold Yl;split<;>simp
def uM(h:∀ n,0<=f n/\f n<=B)(a:0<=v)(h1:v<=B)(n):0<=put f w v n/\put f w v n<=B:=by
 unfold put;split
 ·exact#v[a,h1]
 ·exact h n
def On(h:bP O p)(G:∀ w∈O,w∈N)(L:p.nm∈N)(M:N.length<=6)(Q:cu N L0)(k:cA p N c B L0 x) 
  (R:(d=.tup [.str kw,.str w]/\sM p.C p.P O kw w)\/(∃ j,kw=qF/\d=.tup [.str kw,.str w,.int j]/\w∈O)) (S:x.en.length<=900):
  ∃ x' e,jv [jC p true x,.int pl,d]=some (.non,jC p true x')/\cA p N c B L0 x'/\x'.en=x.en++[e]:=by
 have H:p.C.length<=1000:=by have:=h.told2;rw[L1];lia
 have T:p.P.length<=1000:=by have:=h.marks2;rw[L1];lia
 have c0:=k.c0;have c1:=k.c1;have svl:=k.svl;have mvl:=k.mvl;have q:cu N x.ln:=by rw[k.ln];exact sT L Q k.mv
 have U:=q.len M;have key:∀{nd:Int}{y:Fl}{b:Bool},jd d (.int 0)=some (.str kw)->jd d (.int 1)=some (.str w)->fz d=d->jg [jC p false x,d]=some (.int nd)->0<=nd ->
   (0<=b_ nd x.cash->b_ nd x.cash<=nd->b_ nd x.cash<=x.cash->jw [jC p true {x with cash:=x.cash-b_ nd x.cash,en:=x.en++[#v[pl,kw,w,nd,b_ nd x.cash]]},.str kw,.str w,.int<|b_ nd x.cash]=some (.non,jC p true y)/\
    y.cash=x.cash-b_ nd x.cash/\y.en=x.en++[#v[pl,kw,w,nd,b_ nd x.cash]]/\y.sv=x.sv/\(∀ n,0<=y.sz n)/\(∀ n,0<=y.ow n/\y.ow n<=B)/\(∀ n,0<=y.lv n)/\y.ln=ed p.nm L0 y.mv/\cK p.nm N c L0 y.mv/\y.mv.length<=x.mv.length+1) ->
   QH false (.str kw) (.tup [.str [112,97,121],.str [114,101,112,97,121]])=some (.bl b) ->
   ∃ x' e,jv [jC p true x,.int pl,d]=some (.non,jC p true x')/\cA p N c B L0 x'/\x'.en=x.en++[e]:=by
  intro nd y b f g fd r V give A;have E:0<=b_ nd x.cash/\b_ nd x.cash<=nd/\b_ nd x.cash<=x.cash:=by unfold b_;split<;>lia
  let[W,I,J,F,X,Y,Z,y7,y8,y9]:=give E.1 E.2.1 E.2.2;have e:=Om (p:=p) (x:=x) (w:=w) (pl:=pl) (y:=y) f g fd r W A ∅ (by rw[F];lia);have K:y.en.length=x.en.length+1:=by rw[J];simp
  have i:cA p N c B L0 y:=#v[X,Y,Z,y7,y8,by rw[I];lia,by rw[I];lia,by rw[F];lia,by rw[K];exact N8 y9<|Nat.succ_le_succ mvl];let[r1,r2]:=(show cA p N c B L0 (if(b=true/\b_ nd x.cash=nd/\0<nd) then{y with sv:=Yl y.sv w} else y)/\(if(b=true/\b_ nd x.cash=nd/\0<nd) then{y with sv:=Yl y.sv w} else y).en=y.en from by 
    split
    ·exact#v[#v[i.sz,i.ow,i.lv,i.ln,i.mv,i.c0,i.c1,N8 (z7 _ _)<|by rw[F,K];lia,i.mvl],rfl]
    ·exact#v[i,rfl])
  exact#v[_,_,e,r1,r2.trans J]
 rcases R with⟨rfl,hk⟩ | ⟨j,rfl,rfl,a⟩
 ·have f:jd (.tup [.str kw,.str w]) (.int 0)=some (.str kw):=rfl;have g:jd (.tup [.str kw,.str w]) (.int 1)=some (.str w):=rfl;rcases hk with⟨rfl | rfl | rfl,a⟩ | ⟨rfl,a⟩ | ⟨rfl,a⟩
  ·refine key (b:=true) f g rfl (NV<|yk a) (k.ow w).1 (λo m g2=>#v[Oh a H,rfl,rfl,rfl,k.sz,?_,k.lv,k.ln,k.mv,by simp]) rfl;have:=k.ow w;exact uM k.ow (by dsimp only;lia) (by dsimp only;lia)
  ·have hs:=k.sz w;have ho:=k.ow w;refine key (b:=true) f g rfl (NW (yk a)<|yk a) ∅ (λo m g2=>#v[Oj a H,rfl,rfl,rfl,?_,?_,k.lv,k.ln,k.mv,by simp]) rfl
   ·refine oO k.sz ?_;unfold b_;split<;>lia
   ·refine uM k.ow ?_ ?_
    all_goals
     unfold b_;split<;>lia
  ·refine key (b:=false) f g rfl NY c0 (λo m g2=>#v[V2<|.inl rfl,rfl,rfl,rfl,k.sz,k.ow,k.lv,k.ln,k.mv,by simp]) rfl
  ·let[z,u,v]:=(show ∃ z,jg [de false (D.str p.nm) (bY false p.P<|fnOf p.marks) (bY false p.C x.sz) (bY false p.C x.ow) (bY false p.P x.lv) (dh false x.ln) (D.int x.cash) (fx false x.sv) (D.lst false<|List.map e5 x.en)<|D.lst false<|List.map eM x.mv,.tup [.str mS,.str w]]=some (.int z)/\0<=z from by 
    refine#v[if(fnOf p.marks w)-(x.lv w)<0 then 0 else(fnOf p.marks w)-(x.lv w),?_,by split<;>lia];have hm:me [.int<|(fnOf p.marks w)-(x.lv w),.int 0]=some (.int<|if(fnOf p.marks w)-(x.lv w)<0 then 0 else(fnOf p.marks w)-(x.lv w)):=rfl;simp[jg,jx,jW,mU,NK,(yk a),(yk a),iB,hm])
   refine key (b:=false) f g rfl u v (λo m g2=>#v[Ol a T,rfl,rfl,rfl,k.sz,k.ow,?_,k.ln,k.mv,by simp]) rfl;have:=k.lv w;exact oO k.lv (by dsimp only;lia)
  ·have s:0<=(Jy x.ln (w,p.nm)).getD 0:=wc q.mem;by_cases t:0<b_ ((Jy x.ln (w,p.nm)).getD 0) x.cash
   ·refine key (b:=false) (y:={x with cash:=x.cash-b_ ((Jy x.ln (w,p.nm)).getD 0) x.cash,en:=x.en++[#v[pl,V6,w,(Jy x.ln (w,p.nm)).getD 0,b_ ((Jy x.ln (w,p.nm)).getD 0) x.cash]],ln:=d7 p.nm x.ln (V6,w,b_ ((Jy x.ln (w,p.nm)).getD 0) x.cash),mv:=x.mv++[(V6,w,b_ ((Jy x.ln (w,p.nm)).getD 0) x.cash)]}) f g rfl zG s (λo m g2=>?_) rfl;have mk:eF p.nm N c x.ln (V6,w,b_ ((Jy x.ln (w,p.nm)).getD 0) x.cash):=#v[.inr #v[rfl,m],G w a,t,by dsimp only;lia];refine#v[Cl (x:={x with cash:=x.cash-b_ ((Jy x.ln (w,p.nm)).getD 0) x.cash,en:=x.en++[#v[pl,V6,w,(Jy x.ln (w,p.nm)).getD 0,b_ ((Jy x.ln (w,p.nm)).getD 0) x.cash]]}) mk (by show x.ln.length<=100;lia)<|by show x.mv.length<=1000;lia,rfl,rfl,rfl,k.sz,k.ow,k.lv,?_,?_,by simp]
    ·dsimp only;rw[ut,<- k.ln]
    ·exact cK.snoc k.mv (by rw[<- k.ln];exact mk)
   ·exact key (b:=false) f g rfl zG s (λo m g2=>#v[V2<|.inr #v[.inr rfl,t],rfl,rfl,rfl,k.sz,k.ow,k.lv,k.ln,k.mv,by simp]) rfl
 ·have f:jd (.tup [.str qF,.str w,.int j]) (.int 0)=some (.str qF):=rfl;have g:jd (.tup [.str qF,.str w,.int j]) (.int 1)=some (.str w):=rfl;let[z,u,v]:=NX (a1:=bY false p.P<|fnOf p.marks) (a2:=bY false p.C x.sz) (a3:=bY false p.C x.ow) (a4:=bY false p.P x.lv) (l:=x.ln) (nm:=p.nm) (a6:=.int x.cash) (a7:=fx false x.sv) (a8:=.lst false<|x.en.map e5) (a9:=.lst false<|x.mv.map eM) (w:=w) (j:=j);by_cases t:0<b_ z x.cash
  ·refine key (b:=false) (y:={x with cash:=x.cash-b_ z x.cash,en:=x.en++[#v[pl,qF,w,z,b_ z x.cash]],ln:=d7 p.nm x.ln (qF,w,b_ z x.cash),mv:=x.mv++[(qF,w,b_ z x.cash)]}) f g rfl u v (λo m g2=>?_) rfl;have mk:eF p.nm N c x.ln (qF,w,b_ z x.cash):=#v[.inl rfl,G w a,t,by dsimp only;lia];refine#v[Cl (x:={x with cash:=x.cash-b_ z x.cash,en:=x.en++[#v[pl,qF,w,z,b_ z x.cash]]}) mk (by show x.ln.length<=100;lia)<|by show x.mv.length<=1000;lia,rfl,rfl,rfl,k.sz,k.ow,k.lv,?_,?_,by simp]
   ·dsimp only;rw[ut,<- k.ln]
   ·exact cK.snoc k.mv (by rw[<- k.ln];exact mk)
  ·exact key (b:=false) f g rfl u v (λo m g2=>#v[V2<|.inr #v[.inl rfl,t],rfl,rfl,rfl,k.sz,k.ow,k.lv,k.ln,k.mv,by simp]) rfl
noncomputable abbrev oR:=List Nat×Int×Int
def eT(t:oR):D:=.tup [.str t.1,.int t.2.1,.int t.2.2]
def lG(pl:Int)(t:oR):En:=#v[pl,qx,t.1,t.2.1,t.2.2]
theorem Cn:∀(ws:W1) (ns gs:List Int),lr (ws.map D.str) (ns.map D.int) (gs.map D.int)=(ws.zip<|ns.zip gs).map eT
 | [],_,_=>rfl
 | _::_,[],_=>rfl
 | _::_,_::_,[]=>rfl
 | w::ws,n::ns,g::gs=>by
  rw[L5,L5,L5,lr,Cn ws ns gs];rfl
theorem KF(h:bP O p)  : ∀{T:List oR}{x}{o6 o7 o8},cA p N c B L0 x->x.en.length+T.length<=950->(T.map (·.1)).Nodup ->
  (∀ t∈T,t.1∈p.C/\t.2.1=x.ow t.1/\0<=t.2.2/\t.2.2<=t.2.1)->(T.map (·.2.2)).sum<=x.cash ->
  fA λ(x':Fl) (o6' o7' o8':Option D)=>cX (jY (gT 3<|gC (jc [0] 6)<|gC (jc [0] 7)<|gC (jc [0] 8) gN) yN (T.map eT) [some<|jC p true x,some<|.int pl,a2,a3,a4,some<|.bl b,o6,o7,o8]=some (.nx [some<|jC p true x',some<|.int pl,a2,a3,a4,some<|.bl b,o6',o7',o8'])) (cA p N c B L0 x')<|x'.en=x.en++T.map (lG pl)
 | [],x,o6,o7,o8,k,_,_,_,_=>#v[x,o6,o7,o8,rfl,k,by simp]
 | t::T,x,o6,o7,o8,k,w,nd,f,y=>by
  let[m,A,E,F]:=f t (by simp);rw[L5,List.nodup_cons] at nd;rw[M3] at w;rw[L5,List.sum_cons] at y;have G:0<=(T.map (·.2.2)).sum:=by
   have:∀(T:List oR),(∀ t∈T,0<=t.2.2)->0<=(T.map (·.2.2)).sum:=λT=>by
    induction T with
    | nil=>intro _;simp
    | cons a T H=>intro q;rw[L5,List.sum_cons];have:=H<|λt f=>q t (by simp[f]);have:=q a (by simp);lia
   exact this T λg j=>(f g<|by simp[j]).2.2.1
  have I:p.C.length<=1000:=by have:=h.told2;rw[L1];lia
  have c1:=k.c1;have svl:=k.svl;have mvl:=k.mvl;have J:=k.ow t.1
  let K:Fl:={x with cash:=x.cash-t.2.2}
  let L:Fl:={K with ow:=put x.ow t.1 (x.ow t.1-t.2.2)}
  let o:Fl:={L with en:=x.en++[lG pl t]}
  let l:Fl:=if b=true then{o with sv:=Yl x.sv t.1} else o
  have M:cA p N c B L0 l:=by
   have P:(x.en++[lG pl t]).length=x.en.length+1:=by simp
   have u:∀ n,0<=put x.ow t.1 (x.ow t.1-t.2.2) n/\put x.ow t.1 (x.ow t.1-t.2.2) n<=B:=uM k.ow ∅ ∅;have Q:=z7 x.sv t.1;have d:0<=x.cash-t.2.2/\x.cash-t.2.2<=c:=by lia
   cases b with
   | true=>exact#v[k.sz,u,k.lv,k.ln,k.mv,d.1,d.2,by lia,by lia]
   | false=>exact#v[k.sz,u,k.lv,k.ln,k.mv,d.1,d.2,by lia,by lia]
  have v:l.en=x.en++[lG pl t]:=by lia
  have U:l.cash=x.cash-t.2.2:=by lia
  have R:l.ow=put x.ow t.1 (x.ow t.1-t.2.2):=by lia
  let[x',o6',o7',o8',e,S,r]:=KF h (pl:=pl) M (by rw[v];simp;lia) nd.2 (λg j=>by
   have:=f g (by simp[j]);have s:g.1≠t.1:=λz=>nd.1<|z▸M7.mpr #v[g,j,rfl];rw[R,Nq s];exact this) ∅
  refine#v[x',o6',o7',o8',?_,S,by rw[r,v];simp];rw[L5,lz ?_,e];show yN [some<|jC p true x,some<|.int pl,a2,a3,a4,some<|.bl b,some<|.str t.1,some<|.int t.2.1,some<|.int t.2.2]=_;apply sq<|wU rfl rfl;apply sq<|oQ rfl rfl rfl m I;apply sq<|zR (e:=lG pl t) rfl (by rfl) ∅;cases b with
  | false=>rfl
  | true=>exact Ck (pk:=pV 6) (ρ:=[some<|jC p true o,some<|.int pl,a2,a3,a4,some<|.bl true,some<|.str t.1,some<|.int t.2.1,some<|.int t.2.2]) (i:=0) rfl rfl ∅
def uy(l:List Int):frzs (l.map D.int)=true:=yn (λ_=>rfl) _
def K4(l:List Int):bV (l.map D.int)=l.map D.int:=vD (λ_=>rfl) _
def V9(l:List Int):yh (l.map D.int)=true:=by
 rw[yz,List.all_map,List.all_eq_true];intro x _;rfl
theorem wu:∀{a:List s}{b:List u},a.length=b.length->(a.zip b).map (·.2)=b
 | [],[],_=>rfl
 | [],_::_,h=>by simp at h
 | _::_,[],h=>by simp at h
 | a::l,b::m,h=>by simp at h;simp[wu h]
theorem Co:∀{a:List s}{b:List u},a.length=b.length->(a.zip b).map (·.1)=a
 | [],[],_=>rfl
 | [],_::_,h=>by simp at h
 | _::_,[],h=>by simp at h
 | a::l,b::m,h=>by simp at h;simp[Co h]
def Oo{x}{N O}{c B}(h:bP O p)(k:cA p N c B L0 x)(hB:B<=10 ^ 20)(hc:c<=2 ^ 900){pl:Int}{ws:W1}(hl:ws.length<=20)(Q:∀ w∈ws,w∈p.C)(nd:ws.Nodup)(W:x.en.length<=900):
  dv λx' es=>d8 (jR [jC p true x,.int pl,.tup<|ws.map D.str]=some (.non,jC p true x')) (cA p N c B L0 x') (x'.en=x.en++es) (es.length=ws.length):=by
 have c0:=k.c0;have c1:=k.c1
 let ns:=ws.map x.ow
 have d:∀ v∈ns,0<=v/\v<=10 ^ 20:=λv H=>by
  let[w,_,rfl]:=M7.mp H;have:=k.ow w
  lia
 have r:=λv H=>(d v H).1;have j:ns.length=ws.length:=L1 ..;have s:ns.sum<=10 ^ 30:=by
  have:=B1 ns d
  lia
 have l:(vF ns x.cash).length=ws.length:=by rw[wk,j]
 let a:=vF ns x.cash
 let T:=ws.zip<|ns.zip a
 have I:T.map (·.1)=ws:=Co (by rw[List.length_zip,j,l];simp);have J:T.map (·.2)=ns.zip a:=wu (by rw[List.length_zip,j,l];simp);have K:T.map (·.2.2)=a:=by
  have:T.map (·.2.2)=(T.map (·.2)).map (·.2):=by simp
  rw[this,J];exact wu ∅
 have L:T.length=ws.length:=by rw[<- I,L1]
 have u:∀ t∈T,t.1∈p.C/\t.2.1=x.ow t.1/\0<=t.2.2/\t.2.2<=t.2.1:=by
  intro t M;let[i,hi]:=List.mem_iff_getElem?.mp M;rw[List.getElem?_zip_eq_some] at hi;let[R,y]:=hi;rw[List.getElem?_zip_eq_some] at y;let[y,X]:=y;have S:=Nn c0 r X y;have m:=y;rw[List.getElem?_map,R] at m;simp at m;exact#v[Q _<|List.mem_of_getElem? R,m.symm,S]
 have Y:∀ g∈a,0<=g:=λg U=>by
  rw[<- K] at U;let[t,M,rfl]:=M7.mp U;exact(u t M).2.2.1
 have Z:a.sum<=x.cash:=by
  rcases No c0 r with⟨q1,q2⟩ | q
  ·lia
  ·lia
 let b:Bool:=decide (0<ns.sum)&&decide (a=ns)
 let[x',o6,o7,o8,e,k',P]:=KF h (a2:=some<|.tup<|ws.map D.str) (a3:=‹ns.map D.int›) (a4:=‹a.map D.int›) (b:=b) (o6:=none) (o7:=none) (o8:=none) k ∅ ∅ u ∅;refine#v[x',T.map<|lG pl,?_,k',P,by rw[L1,L]];have V:jU (jc [] 0) qT (pF<|p2 yW (JN 0 "owed"<|pV 1)<|pV 0) (ws.map D.str) [none,some<|jC p true x]=some (ns.map D.int):=by
  rw[U3];refine jA rfl (λρ=>∃ o,ρ=[o,some<|jC p true x]) ?_ #v[none,rfl];rintro q hq ρ ⟨o,rfl⟩;refine#v[[some<|.str q,some<|jC p true x],rfl,?_,_,rfl];simp[sU (p:=p) (x:=x) (o:=true),yk (o:=true) (f:=x.ow)<|Q q hq]
 have z:=K9 (p:=p) (x:=x) (o:=true);have A:bW ws.length=true:=jb ∅;have E:qr (.lst true<|a.map D.int) (.lst true<|ns.map D.int)=some (.bl<|decide<|a=ns):=by 
   show(bif d4 20 (.lst true<|a.map D.int)&&d4 20 (.lst true<|ns.map D.int) then some (D.bl<|f_ (a.map D.int)<|ns.map D.int) else none)=_;rw[zS];show(bif w8 19 (a.map D.int)&&w8 19 (ns.map D.int) then _ else _)=_;rw[Q9,Q9];rfl
 have F:fT 3 [.tup<|ws.map D.str,.lst false<|ns.map D.int,.lst false<|a.map D.int]=some (T.map eT):=by
  rw[Mj rfl rfl rfl (by rw[L1,L1];lia)<|by rw[L1,L1];exact Nat.le_of_eq l.symm,qk,K4,K4,Cn ws ns a]
 have G:Jg [.lst false<|ns.map D.int,.int x.cash]=↑(a.map D.int):=(Ni ∅ d c0 ∅ s);have S:b=(decide (0<ns.sum)&&decide (a=ns)):=rfl
 clear_value T a ns b
 by_cases q:0<ns.sum
 ·have n:b=decide (a=ns):=by lia
  rw[n] at e;simp[jR,km,vi,jq,V,z,A,G,E,uy,K4,V9,q,F,e,YG,yt,qk]
 ·have n:b=false:=by lia
  rw[n] at e;simp[jR,km,vi,jq,V,z,A,G,E,uy,K4,V9,q,F,e,YG,yt,qk]
noncomputable abbrev sW:List Nat:=[103,117,97,114,100]
noncomputable abbrev sX:List Nat:=[112,97,114,116]
noncomputable abbrev Op:List Nat:=[116,119,105,99,101]
def Oq(h:bP O p)(k:cA p N c B L0 x)  (h1:po∈p.P) (h2:cl∈p.C) (b:x.en.length<=900):
  dv λx' e=>cX (yB [jC p true x,.int pl,.str po,.str cl]=some (.non,jC p true x')) (cA p N c B L0 x') (x'.en=x.en++[e]):=by
 have d:p.C.length<=1000:=by have:=h.told2;rw[L1];lia
 have i:p.P.length<=1000:=by have:=h.marks2;rw[L1];lia
 have j:=k.ow cl;have svl:=k.svl;have mvl:=k.mvl;have l:xB [.int<|x.ow cl,.int<|x.lv po]=some (.int<|b_ (x.ow cl)<|x.lv po):=rfl;have v:=B5 j.1<|k.lv po;generalize b_ (x.ow cl) (x.lv po)=g at *
 let m:Fl:={x with lv:=put x.lv po (x.lv po-g)}
 let n:Fl:={m with ow:=put x.ow cl (x.ow cl-g)}
 let a:Fl:={n with en:=x.en++[#v[pl,sW,cl,x.ow cl,g]]}
 have q:(x.en++[(#v[pl,sW,cl,x.ow cl,g]:En)]).length=x.en.length+1:=by simp
 refine#v[a,#v[pl,sW,cl,x.ow cl,g],?_,#v[k.sz,uM k.ow ∅ ∅,oO k.lv ∅,k.ln,k.mv,k.c0,k.c1,by lia,by lia],rfl];have r:=sU (p:=p) (x:=x) (o:=true);have s:=yk (o:=true) (f:=x.ow) h2;have t:xO 0 "levels" (jC p true x)=some (bY true p.P x.lv):=rfl;have u:=yk (o:=true) (f:=x.lv) h1;show((vg [some<|jC p true x,some<|.int pl,some<|.str po,some<|.str cl,none,none]).bind (YG 0))=_;have e:vg [some<|jC p true x,some<|.int pl,some<|.str po,some<|.str cl,none,none]=some (.nx [some<|jC p true a,some<|.int pl,some<|.str po,some<|.str cl,some<|.int<|x.ow cl,some<|.int g]):=by
  apply sq (ρ':=[some<|jC p true x,some<|.int pl,some<|.str po,some<|.str cl,some<|.int<|x.ow cl,none]) (by generalize jC p true x=X at *;generalize bY true p.C x.ow=D1 at *;simp[r,s]);apply sq (ρ':=[some<|jC p true x,some<|.int pl,some<|.str po,some<|.str cl,some<|.int<|x.ow cl,some<|.int g]) (by generalize jC p true x=X at *;generalize bY true p.P x.lv=D2 at *;simp[t,u,l]);apply sq<|Of rfl rfl rfl h1 i;apply sq<|oQ rfl rfl rfl h2 d;exact zR rfl (by rfl) ∅
 rw[e];rfl
def Os{p}{x:Fl}{N}{c B}{f}{ts}{a1 a2}{A:List Int}(h:jd ts (.int 0)=↑(A.map D.int))(i:∀ v∈A,0<=v):∀{Q:List W2}{s}{x}{o4 o5 o6 o7},cA p N c B f x->s+Q.length=A.length->x.en.length+Q.length<=900 ->
  oT λx' es o4' o5' o6' o7'=>d8 (jY (gT 2<|gC (jc [0] 4)<|gC (jc [0] 5) gN) kf (vf s<|Q.map e2) [some<|jC p true x,a1,a2,some ts,o4,o5,o6,o7]=some (.nx [some<|jC p true x',a1,a2,some ts,o4',o5',o6',o7'])) (cA p N c B f x') (x'.en=x.en++es) (es.length=Q.length):=by
 intro Q
 induction Q with
 | nil=>
  intro s x o4 o5 o6 o7 k _ _;exact#v[x,[],o4,o5,o6,o7,rfl,k,by simp,rfl]
 | cons q Q n=>
  intro s x o4 o5 o6 o7 k r j;rw[M3] at r j;have a:s<A.length:=by lia
  have b:jd (.lst true<|A.map D.int) (.int s)=some (.int A[s]):=by
   rw[fv ∅ (by rw[L1];lia),N9,List.getElem?_map,E1 a];rfl
  have d:=i _<|List.getElem_mem a;generalize A[s]=ask at b d;have c0:=k.c0;have c1:=k.c1;have svl:=k.svl;have mvl:=k.mvl;have t:xB [.int ask,.int x.cash]=some (.int<|b_ ask x.cash):=rfl;have F:0<=b_ ask x.cash/\b_ ask x.cash<=ask/\b_ ask x.cash<=x.cash:=by unfold b_;split<;>lia
  generalize b_ ask x.cash=g at *
  let u:Fl:={x with cash:=x.cash-g}
  let w:Fl:={u with en:=x.en++[#v[s,sX,q.1,ask,g]]}
  have y:(x.en++[(#v[s,sX,q.1,ask,g]:En)]).length=x.en.length+1:=by simp
  have z:cA p N c B f w:=#v[k.sz,k.ow,k.lv,k.ln,k.mv,by lia,by lia,by lia,by lia];let[x',es,o4',o5',o6',o7',e,C,l,m]:=n (s:=s+1) z ∅ ∅;refine#v[x',#v[s,sX,q.1,ask,g]::es,o4',o5',o6',o7',?_,C,by rw[l];show(x.en++[_])++es=_;simp,by rw[M3,M3,m]];have G:jd (e2 q) (.int 0)=some (.str q.1):=rfl;have E:=K9 (p:=p) (x:=x) (o:=true);rw[L5,vf,lz ?_,e];apply sq (ρ':=[some<|jC p true x,a1,a2,some ts,some<|.int s,some<|e2 q,some<|.int ask,o7]) (by generalize jC p true x=X at *;simp[h,b]);apply sq (ρ':=[some<|jC p true x,a1,a2,some ts,some<|.int s,some<|e2 q,some<|.int ask,some<|.int g]) (by generalize jC p true x=X at *;simp[E,t]);apply sq<|wU rfl rfl;exact zR rfl (by rfl) ∅
def Ot{C P O}{os:List cY}(h:∀ x∈os,cg C P O x):bV (os.map<|yx false)=os.map (yx false):=jk _<|vt h
def Ou:∀{os:List cY}{o2},(∀ x∈os,cg C P O x)->nm∈os.map (·.nm) ->
  ∃ o∈os,o.nm=nm/\∃ r,jY (jc [] 2) ym (os.map<|yx false) [a0,some<|.str nm,o2]=some (.rt (yx false o) r):=by
 intro os
 induction os with
 | nil=>
  intro o2 _ h;simp at h
 | cons o os f=>
  intro o2 c h;have d:jd (yx false o) (.int 0)=some (.str o.nm):=rfl;by_cases q:o.nm=nm
  ·refine#v[o,by simp,q,[a0,some<|.str nm,some<|yx false o],?_];have a:(o.nm==nm)=true:=by lia
   rw[L5,jQ];simp[ym,d,a,(c o<|by simp).frz]
  ·have a:=U4.mpr q;have g:nm∈os.map (·.nm):=by grind
   let[i,b,j,r,e]:=f (λx k=>c x<|by simp[k]) g;refine#v[i,by simp[b],j,r,?_];have l:ym [a0,some<|.str nm,some<|yx false o]=some (.nx [a0,some<|.str nm,some<|yx false o]):=by
    simp[ym,d,a]
   rw[L5,fK ?_ l,e];rfl
theorem xi:∀{ns}{l},f∉ns->ns.length=l.length->Jr ns l f v=(ns++[f],l++[v])
 | [],[],_,_=>rfl
 | [],_::_,_,e=>by simp at e
 | _::_,[],_,e=>by simp at e
 | n::ns,x::l,h,e=>by rw[Jr,if_neg λz=>h<|by simp[z],xi (λz=>h<|by simp[z]) ⇑e];rfl
def kO{f}{pv}{r:Rh}{ns}{l}{v}(a:pv (some (.ins true 0 ns l)::r)=some v)(h:f∉ns/\ns.length<=900:=by decide)(e:ns.length=l.length:=by rfl):Yq 0 0 f pv (some (.ins true 0 ns l)::r)=some (.nx<|some (.ins true 0 (ns++[f])<|l++[v])::r):=by
 rw[Yq,a,L4];show(bif (0==0)&&decide (ns.length<=900) then some (cf.nx<|some (D.ins true 0 (Jr ns l f v).1 (Jr ns l f v).2)::r) else none)=_;rw[xi h.1 e,X5 h.2];rfl
def Ov(o)(w):∀ l:List (List Nat),∃ b,mE true (.str w) (fx o l)=some (.bl b):=λl=>#v[_,rfl]
def xM(m:NC.length<=1000)  : ∀{R:List W2}{acc}{o4 o5 o6},(∀ q∈R,q.1∈NC)->acc.length+R.length<=1000 ->
  fA λ(R':List W2) (o4' o5' o6':Option D)=>eQ (jY (gT 2<|gC (jc [] 4)<|gC (jc [] 5) gN) jH (R.map e2) [some<|jC p false x,a1,some<|bY true NC f,↑(acc.map e2),o4,o5,o6]=some (.nx [some<|jC p false x,a1,some<|bY true NC f,↑((acc++R').map e2),o4',o5',o6'])) (R'.map (·.1)=R.map (·.1)):=by
 intro R
 induction R with
 | nil=>
  intro acc o4 o5 o6 _ _;exact#v[[],o4,o5,o6,by simp,rfl]
 | cons q R n=>
  intro acc o4 o5 o6 i s;rw[M3] at s;let[b,j]:=Ov false q.1 x.sv;have k:xO 0 "served" (jC p false x)=some (fx false x.sv):=rfl;have c:=yk (o:=true) (f:=f)<|i q (by simp);have key:∃ d o6',jH [some<|jC p false x,a1,some<|bY true NC f,↑(acc.map e2),some<|.str q.1,some<|.int q.2,o6]=some (.nx [some<|jC p false x,a1,some<|bY true NC f,↑((acc++[d]).map e2),some<|.str q.1,some<|.int q.2,o6'])/\d.1=q.1:=by
   by_cases l:0<f q.1
   ·cases b with
    | true=>exact#v[(q.1,q.2+1),some<|.bl true,by simp(disch:=first | lia | (simp;done) | (simp;lia)) [jH,c,k,j,l,jb,e2],rfl]
    | false=>exact#v[(q.1,0),some<|.bl false,by simp(disch:=first | lia | (simp;done) | (simp;lia)) [jH,c,k,j,jb,e2],rfl]
   ·exact#v[(q.1,0),some<|.bl false,by simp(disch:=first | lia | (simp;done) | (simp;lia)) [jH,c,l,jb,e2],rfl]
  let[d,o6',g,hd]:=key;let[R',o4',o5',a,e,h]:=n (acc:=acc++[d]) (λr t=>i r<|by simp[t]) (by simp;lia);refine#v[d::R',o4',o5',a,?_,by rw[L5,L5,h,hd]];rw[L5,fK ?_ g,e];simp;rfl
def Yk(h:po s=some (bY o M f)):yP po s=↑((cE M f).map e2):=by
 unfold yP;rw[h];show(bif frzs (M.map λn=>D.int<|f n) then some (D.lst true<|((M.map KA.str).zip (M.map λn=>D.int<|f n)).map λp=>D.tup [d5 p.1,p.2]) else none)=_;rw[A5,zf];simp[cE,e2]
def Ow{x}{O}(h:bP O p){S W Rn Lv}{z}(a:S.map (·.1)=p.C)(b:Rn.map (·.1)=p.C):
  ∃ R':List W2,R'.map (·.1)=p.C/\jN [jC p false x,cb false S W Rn Lv z]=some (cb true (cE p.C x.sz) (cE p.C x.ow) R' (cE p.P x.lv) z):=by
 have u:=h.told2;have v:S.length<=10:=by have:=congrArg List.length a;rw[L1,L1] at this;lia
 have w:Rn.length<=10:=by have:=congrArg List.length b;rw[L1,L1] at this;lia
 have d:yZ [.lst false<|S.map e2]=some (bY true p.C<|fnOf S):=by rw[<- a];exact yo (by rw[a];exact h.toldn) ∅
 let[R',g,i,j,e,c]:=xM (p:=p) (x:=x) (NC:=p.C) (f:=fnOf S) (by rw[L1];lia) (a1:=some<|cb false S W Rn Lv z) (acc:=[]) (o4:=none) (o5:=none) (o6:=none) (λq k=>by rw[<- b];exact M7.mpr #v[q,k,rfl]) (by simp;lia);rw[X9,List.map_nil] at e;refine#v[R',by rw[c,b],?_];have l:jd (cb false S W Rn Lv z) (.int 0)=‹S.map e2›:=rfl;have m:jd (cb false S W Rn Lv z) (.int 2)=‹Rn.map e2›:=rfl;have n:jd (cb false S W Rn Lv z) (.int 4)=some (.int z):=rfl;have o:∀ r:Rh,yP (JN 0 "sizes"<|pV 0) (some (jC p false x)::r)=↑((cE p.C x.sz).map e2):=λr=>Yk rfl;have s:∀ r:Rh,yP (JN 0 "owed"<|pV 0) (some (jC p false x)::r)=↑((cE p.C x.ow).map e2):=λr=>Yk rfl;have t:∀ r:Rh,yP (JN 0 "levels"<|pV 0) (some (jC p false x)::r)=↑((cE p.P x.lv).map e2):=λr=>Yk rfl;show _=some (D.tup [.lst true<|(cE p.C x.sz).map e2,.lst true<|(cE p.C x.ow).map e2,.lst true<|R'.map e2,.lst true<|(cE p.P x.lv).map e2,.int z]);simp(disch:=first | lia | (simp;done) | (simp;lia)) [jN,jx,kI,l,m,n,d,ye,JZ,e,o,s,t,jb,-yP]
def Ox{Q:List W2}(h:bP O p)(k:cA p N c B L0 x)(M:c<=2 ^ 900)  (r:∀ q∈Q,Wd q.1/\1<=q.2/\q.2<=10) (j:Q.length<=10) (G:x.en.length<=100):
  dv λx' es=>d8 (jP [jC p true x,.lst false<|Q.map e2]=some (.non,jC p true x')) (cA p N c B L0 x') (x'.en=x.en++es) (es.length<=11):=by
 have c0:=k.c0;have c1:=k.c1;have t:∀ q∈Q,iG q:=λq u=>#v[(r q u).2.1,(r q u).2.2];have v:=Nl j t c0 ∅;have P:(yT Q x.cash).1.length=Q.length:=by 
   unfold yT;split
   ·simp[iH]
   ·rw[uX];simp[ub]
 let[a,es,w,y,z,A,e,b,f,H]:=Os (ts:=.tup [.lst true<|(yT Q x.cash).1.map D.int,.int (yT Q x.cash).2]) (a1:=‹Q.map e2›) (a2:=some<|.int x.cash) rfl ((by
   have C:∀ p∈Q,0<=x.cash*p.2:=λp h=>Int.mul_nonneg c0 (by have:=(t p h).lo;lia);unfold yT;split
   ·intro x l;let[p,h,rfl]:=M7.mp l;have:=C p h
    lia
   ·refine B3 _ _ _ λx l=>?_;let[p,h,rfl]:=M7.mp l;have:=C p h
    lia)) (Q:=Q) (s:=0) (x:=x) (o4:=none) (o5:=none) (o6:=none) (o7:=none) k ∅ ∅
 have g:=K9 (p:=p) (x:=x) (o:=true);have I:jd (.tup [.lst true<|(yT Q x.cash).1.map D.int,.int (yT Q x.cash).2]) (.int 0)=↑((yT Q x.cash).1.map D.int):=rfl;have E:jd (.tup [.lst true<|(yT Q x.cash).1.map D.int,.int (yT Q x.cash).2]) (.int 1)=some (.int (yT Q x.cash).2):=rfl;by_cases F:0<(yT Q x.cash).2
 ·let d:En:=#v[-1,Op,[],(yT Q x.cash).1.sum,x.cash]
  let m:Fl:={a with en:=a.en++[d]}
  have R:(a.en++[d]).length=a.en.length+1:=by simp
  have J:=b.svl;have K:=b.mvl;refine#v[m,es++[d],?_,#v[b.sz,b.ow,b.lv,b.ln,b.mv,b.c0,b.c1,by lia,by lia],by show a.en++[d]=_;rw[f];simp,by simp;lia];have n:a.en.length<=1000:=by rw[f,N5];lia
  have s2:=zR (ρ:=[some<|jC p true a,‹Q.map e2›,some<|.int x.cash,some<|.tup [.lst true<|(yT Q x.cash).1.map D.int,.int (yT Q x.cash).2],w,y,z,A]) (i:=0) (pv:=yH #[p1 xK<|pI 1,pS [116,119,105,99,101],pS [],bZ fR #[p2 jd (pV 3)<|pI 0],pF<|pV 2]) (e:=d) rfl (by simp[jb,e5,d,I]) n;have L:jC p true {a with en:=a.en++[d]}=jC p true m:=rfl;rw[L] at s2
  clear_value m d
  simp[jP,km,ve,g,v,ye,JZ,e,E,F,s2,YG,-qt]
 ·refine#v[a,es,?_,b,f,by lia];simp[jP,km,ve,g,v,ye,JZ,e,E,F,YG]
def Oy(h:bP O p)(v:∀ w∈O,w∈N)(y:p.nm∈N)(z:N.length<=6)(A:cu N L0)(E:B<=10 ^ 20)(F:c<=2 ^ 900)  : ∀{R}{s}{x}{o7 o8},(∀ d∈R,cG p.C p.P O d)->cA p N c B L0 x->x.en.length+20*R.length<=800 ->
  fA λx' es o7' o8'=>d8 (jY (gT 2<|gC (jc [] 7)<|gC (jc [] 8) gN) Jc (qY s R) [a0,a1,a2,a3,a4,a5,some<|jC p true x,o7,o8,a9]=some (.nx [a0,a1,a2,a3,a4,a5,some<|jC p true x',o7',o8',a9])) (cA p N c B L0 x') (x'.en=x.en++es) (es.length<=20*R.length):=by
 intro R
 induction R with
 | nil=>
  intro s x o7 o8 _ k _;exact#v[x,[],o7,o8,rfl,k,by simp,by simp]
 | cons d R G=>
  intro s x o7 o8 u k n;rw[M3] at n;let[S,o,H,I,b,T]:=(show ∃ x' es,Jc [a0,a1,a2,a3,a4,a5,some<|jC p true x,some<|.int s,some d,a9]=some (.nx [a0,a1,a2,a3,a4,a5,some<|jC p true x',some<|.int s,some d,a9])/\cA p N c B L0 x'/\x'.en=x.en++es/\es.length<=20 from by 
    have a:∀{kw w},((d=.tup [.str kw,.str w]/\sM p.C p.P O kw w)\/(∃ j,kw=qF/\d=.tup [.str kw,.str w,.int j]/\w∈O))->(kw==qx)=false->jd d (.int 0)=some (.str kw)->frz d=true->fz d=d ->
      ∃ x' es,Jc [a0,a1,a2,a3,a4,a5,some<|jC p true x,some<|.int s,some d,a9]=some (.nx [a0,a1,a2,a3,a4,a5,some<|jC p true x',some<|.int s,some d,a9])/\cA p N c B L0 x'/\x'.en=x.en++es/\es.length<=20:=by
     intro kw w hd q r f J;let[x',e,ex,g,K]:=On h v y z A k hd ∅;refine#v[x',[e],?_,g,K,by simp];have m:=JT (m:=jv) (mn:="take_rule") (pa:=#[pF<|pV 7,pF<|pV 8]) (ρ:=[a0,a1,a2,a3,a4,a5,some<|jC p true x,some<|.int s,some d,a9]) (i:=6) (ds:=[.int s,d]) rfl (by simp[f]) (by simp[f])<|λ_ _ _ _ _ _ _ _ _ _=>rfl;rw[ex,L4] at m;simp[Jc,r,q,m,-vA]
    cases(u d<|by simp) with
    | two kw w q U V l=>
     exact a (.inl #v[rfl,l]) (U4.mpr q) rfl rfl rfl
    | lend w i L l=>exact a (.inr #v[i,rfl,rfl,l]) rfl rfl rfl rfl
    | share ws M L l nd=>
     let[x',es,ex,g,bl,Q]:=Oo h k E F (N8 M<|by decide) l nd ∅;refine#v[x',es,?_,g,bl,by lia];have m:=JT (m:=jR) (mn:="take_share") (pa:=#[pF<|pV 7,pF<|p2 jd (pV 8)<|pI 1]) (ρ:=[a0,a1,a2,a3,a4,a5,some<|jC p true x,some<|.int s,some<|.tup [.str qx,.tup<|ws.map D.str],a9]) (i:=6) (ds:=[.int s,.tup<|ws.map D.str]) rfl (by simp[iB]) (by simp)<|λ_ _ _ _ _ _ _ _ _ _=>rfl;rw[ex,L4] at m;have r:jd (.tup [.str qx,.tup<|ws.map D.str]) (.int 0)=some (.str qx):=rfl;simp[Jc,r,m,-vA])
  let[x',es,o7',o8',e,g,t,W]:=G (λd hd=>u d<|by simp[hd]) I (by rw[b,N5];lia);refine#v[x',o++es,o7',o8',?_,g,by rw[t,b,List.append_assoc],by rw[N5,M3];lia];rw[qY,fK ?_ H,e];rfl
def wY(h:bP O p)  : ∀{G:List WG}{s}{x}{o7 o9},(∀ g∈G,g.1∈p.P/\g.2∈p.C)->cA p N c B L0 x->x.en.length+G.length<=900 ->
  fA λx' es o7' o9'=>d8 (jY (gT 2<|gC (jc [] 7)<|gC (jc [] 9) gN) KP (vf s<|G.map eG) [a0,a1,a2,a3,a4,a5,some<|jC p true x,o7,a8,o9]=some (.nx [a0,a1,a2,a3,a4,a5,some<|jC p true x',o7',a8,o9'])) (cA p N c B L0 x') (x'.en=x.en++es) (es.length=G.length):=by
 intro G
 induction G with
 | nil=>
  intro s x o7 o9 _ k _;exact#v[x,[],o7,o9,rfl,k,by simp,rfl]
 | cons g G j=>
  intro s x o7 o9 b k d;rw[M3] at d;let[t,l,ex,n,a]:=Oq h k (b g<|by simp).1 (b g<|by simp).2 ∅;let[x',es,o7',o9',e,o,f,q]:=j (o7:=some<|.int s) (o9:=some<|eG g) (λg r=>b g<|by simp[r]) n (by rw[a,N5,List.length_singleton];lia);refine#v[x',l::es,o7',o9',?_,o,by rw[f,a];simp,by rw[M3,q,M3]];have u:jd (eG g) (.int 0)=some (.str g.1):=rfl;have v:jd (eG g) (.int 1)=some (.str g.2):=rfl;have m:=JT (m:=yB) (mn:="take_guard") (pa:=#[pF<|pV 7,pF<|p2 jd (pV 9)<|pI 0,pF<|p2 jd (pV 9)<|pI 1]) (ρ:=[a0,a1,a2,a3,a4,a5,some<|jC p true x,some<|.int s,a8,some<|eG g]) (i:=6) (ds:=[.int s,.str g.1,.str g.2]) rfl (by rfl) rfl<|λ_ _ _ _ _ _ _ _ _ _=>rfl;rw[ex,L4] at m;rw[L5,vf,lz ?_,e];simp[KP,m,-vA]
def Oz(a:pV i ρ=some (jC p true x))(b:pe ρ=some r):lu i 0 "entries" "moves" pe ρ=some (.tup [.lst true<|x.en.map e5,r,.lst true<|x.mv.map eM],ρ.set i none):=by
 rw[lu,a,L4];have c:zK (jC p true x)=some (0,NS,[.str p.nm,bY true p.P<|fnOf p.marks,bY true p.C x.sz,bY true p.C x.ow,bY true p.P x.lv,dh true x.ln,.int x.cash,fx true x.sv,.lst true<|x.en.map e5,.lst true<|x.mv.map eM]):=rfl;rw[c,L4,NL,NO,b];rfl
structure eH(p:bQ)(B:Int)(S W Rn Lv:List W2):Prop where
 s1:S.map (·.1)=p.C
 s2:∀ q∈S,0<=q.2
 w1:W.map (·.1)=p.C
 w2:∀ q∈W,0<=q.2/\q.2<=B
 r1:Rn.map (·.1)=p.C
 l1:Lv.map (·.1)=p.P
 l2:∀ q∈Lv,0<=q.2
def xY{B}{S:List W2}(a:0<=B)(h:∀ q∈S,q.2<=B)(n):fnOf S n<=B:=by
 unfold fnOf
 induction S with
 | nil=>exact a
 | cons q S b=>
  rw[eu];by_cases e:q.1=n
  ·rw[if_pos e];exact h q (by simp)
  ·rw[if_neg e];exact b λr c=>h r (by simp[c])
def OA{p:bQ}{N O:W1}{c B:Int}{a:LN}(h:bP O p)(hO:∀ w∈O,w∈N)(hn:p.nm∈N)(Z:N.length<=6)(H:cu N a)(I:0<=B)(hB:B<=10 ^ 20)(J:0<=c)(hc:c<=2 ^ 900){S W Rn Lv:List W2}{z:Int}(b:eH p B S W Rn Lv){nm:List Nat}(hm:nm∈p.orders.map (·.nm)):
  dF λ(x:Fl) (es:List En) (R':List W2)=>eS (oH [jB false p,.str nm,cb false S W Rn Lv z,.int c,.lst false<|a.map eR]=some (.tup [.lst true<|es.map e5,cb true (cE p.C x.sz) (cE p.C x.ow) R' (cE p.P x.lv) z,.lst true<|x.mv.map eM])) (cA p N c B a x) (R'.map (·.1)=p.C) (es.length<=300) (x.mv.length<=300):=by
 let[o,K,honm,en]:=(show ∃ o∈p.orders,o.nm=nm/\vM [jB false p,.str nm]=some (yx false o) from by 
   let[o,K,L,r,e]:=Ou (a0:=some<|jB false p) (o2:=none) h.orders hm;refine#v[o,K,L,?_];have j4:jd (jB false p) (.int 4)=‹p.orders.map (yx false)›:=rfl;simp[vM,jx,J8,j4,vt h.orders,Ot h.orders,e])
 have f:=h.orders o K;have hll:=H.len Z;have ei:yU [.ins true 0 [] [],jB false p,cb false S W Rn Lv z,.int c,.lst false<|a.map eR]=some (.non,jC p true #v[fnOf S,fnOf W,fnOf Lv,a,c,[],[],[]]):=by 
   have t2:=h.told2;have m2:=h.marks2;have lS:S.length<=10:=by have:=congrArg List.length b.s1;rw[L1,L1] at this;lia
   have lW:W.length<=10:=by have:=congrArg List.length b.w1;rw[L1,L1] at this;lia
   have lV:Lv.length<=10:=by have:=congrArg List.length b.l1;rw[L1,L1] at this;lia
   have dM:yZ [.lst false<|p.marks.map e2]=some (bY true p.P<|fnOf p.marks):=yo h.marksn ∅;have dS:yZ [.lst false<|S.map e2]=some (bY true p.C<|fnOf S):=by rw[<- b.s1];exact yo (by rw[b.s1];exact h.toldn) ∅
   have dW:yZ [.lst false<|W.map e2]=some (bY true p.C<|fnOf W):=by rw[<- b.w1];exact yo (by rw[b.w1];exact h.toldn) ∅
   have dV:yZ [.lst false<|Lv.map e2]=some (bY true p.P<|fnOf Lv):=by rw[<- b.l1];exact yo (by rw[b.l1];exact h.marksn) ∅
   have eL:=Cd H.nd ∅;have cL:=zj a;have j0:jd (cb false S W Rn Lv z) (.int 0)=‹S.map e2›:=rfl;have j1:jd (cb false S W Rn Lv z) (.int 1)=‹W.map e2›:=rfl;have j3:jd (cb false S W Rn Lv z) (.int 3)=‹Lv.map e2›:=rfl;have jp:jd (jB false p) (.int 0)=some (.str p.nm):=rfl;have jm:jd (jB false p) (.int 2)=‹p.marks.map e2›:=rfl;generalize cb false S W Rn Lv z=BK,jB false p=PP at *;show _=some (D.non,D.ins true 0 NS [.str p.nm,bY true p.P<|fnOf p.marks,bY true p.C<|fnOf S,bY true p.C<|fnOf W,bY true p.P<|fnOf Lv,dh true a,.int c,.dK true [] [],.lst true [],.lst true []]);generalize bY true p.P (fnOf p.marks)=a1,bY true p.C (fnOf S)=a2,bY true p.C (fnOf W)=a3,bY true p.P (fnOf Lv)=a4,dh true a=a5 at *;have e0:qN [some<|.ins true 0 [] [],some PP,some BK,some<|.int c,‹a.map eR›]=some (.nx [some<|.ins true 0 NS [.str p.nm,a1,a2,a3,a4,a5,.int c,.dK true [] [],.lst true [],.lst true []],some PP,some BK,some<|.int c,‹a.map eR›]):=by
    apply sq<|kO (v:=.str p.nm) (by simp[jp]);apply sq<|kO (v:=a1) (by simp[jm,dM]);apply sq<|kO (v:=a2) (by simp[j0,dS]);apply sq<|kO (v:=a3) (by simp[j1,dW]);apply sq<|kO (v:=a4) (by simp[j3,dV]);apply sq<|kO (v:=a5) (by simp[eL,cL,YE]);apply sq<|kO (v:=.int c) (by simp);apply sq<|kO rfl;apply sq<|kO (v:=.lst true []) (by rfl);exact kO (by rfl)
   exact congrArg (Option.bind · (YG 0)) e0
 have k0:cA p N c B a #v[fnOf S,fnOf W,fnOf Lv,a,c,[],[],[]]:=#v[Yv b.s2,λn=>#v[Yv (λq M=>(b.w2 q M).1) n,xY I (λq M=>(b.w2 q M).2) n],Yv b.l2,rfl,trivial,J,Int.le_refl _,by simp,by simp];have d:(#v[fnOf S,fnOf W,fnOf Lv,a,c,[],[],[]]:Fl).en=[]:=rfl;generalize(#v[fnOf S,fnOf W,fnOf Lv,a,c,[],[],[]]:Fl)=x0 at ei k0 d;let[x1,es,L,k1,t,esl]:=Ox h k0 hc f.parts f.plen (by rw[d];simp);have x1l:x1.en.length<=11:=by rw[t,d,X9];lia
 have rl:=f.len;let[x2,Q,R,G,T,k2,u,n2]:=Oy h hO hn Z H hB hc (a0:=some<|jB false p) (a1:=some<|.str nm) (a2:=some<|cb false S W Rn Lv z) (a3:=some<|.int c) (a4:=‹a.map eR›) (a5:=some<|yx false o) (a9:=none) (s:=o.parts.length) (o7:=none) (o8:=none) f.rules k1 ∅;have g2:=h.guards2;let[j,U,p7,p9,V,k3,X,n3]:=wY h (a0:=some<|jB false p) (a1:=some<|.str nm) (a2:=some<|cb false S W Rn Lv z) (a3:=some<|.int c) (a4:=‹a.map eR›) (a5:=some<|yx false o) (a8:=G) (s:=0) (x:=x2) (o7:=R) (o9:=none) (λg hg=>(h.guards g hg).2.2) k2 (by rw[u,N5];lia);let[R',Y,eb]:=Ow (x:=j) h (S:=S) (W:=W) (Rn:=Rn) (Lv:=Lv) (z:=z) b.s1 b.r1;have y:(es++(Q++U)).length<=300:=by
  simp only[N5]
  lia
 have A:j.en=es++(Q++U):=by rw[X,u,t,d];simp
 have mvl:=k3.mvl;refine#v[j,es++(Q++U),R',?_,k3,Y,y,by rw[A] at mvl;lia];have i1:jd (yx false o) (.int 1)=‹o.parts.map e2›:=rfl;have i2:jd (yx false o) (.int 2)=‹o.rules›:=rfl;have j6:jd (jB false p) (.int 6)=‹p.guards.map eG›:=rfl;have k:=h.frz;have E:=JI S W Rn Lv z;have m1:=JT (p:=p) (x:=x0) (m:=jP) (mn:="take_parts") (pa:=#[pF<|p2 jd (pV 5)<|pI 1]) (ρ:=[some<|jB false p,some<|.str nm,some<|cb false S W Rn Lv z,some<|.int c,‹a.map eR›,some<|yx false o,some<|jC p true x0,none,none,none]) (i:=6) (ds:=[.lst false<|o.parts.map e2]) rfl (by simp[i1,ye]) (by simp[ye])<|λ_ _ _ _ _ _ _ _ _ _=>rfl;rw[L,L4] at m1;have F:∀ ρ:Rh,#[pF<|p2 jd (pV 5)<|pI 2] ρ=some [.lst false o.rules]->bZ Jq #[p2 jd (pV 5)<|pI 1] ρ=some (.int o.parts.length)->hE #[pF<|p2 jd (pV 5)<|pI 2] (bZ Jq #[p2 jd (pV 5)<|pI 1]) ρ=some (qY o.parts.length o.rules):=by
  intro ρ q1 q2;unfold hE;rw[q1,q2];have:=f.plen;show(bif Vg o.parts.length then some (qY _<|bV o.rules) else none)=_;rw[z5 ∅ ∅,f.fzr];rfl
 have h1:=F [some<|jB false p,some<|.str nm,some<|cb false S W Rn Lv z,some<|.int c,‹a.map eR›,some<|yx false o,some<|jC p true x1,none,none,none] (by simp[i2,f.frzr]) (by simp[i1]);have mm:=Cm (p:=p) (x:=j) (o:=true) (m:=jN) (mn:="book_behind") (po:=pV 6) (pa:=#[pV 2]) (ρ:=[some<|jB false p,some<|.str nm,some<|cb false S W Rn Lv z,some<|.int c,‹a.map eR›,some<|yx false o,some<|jC p true j,p7,G,p9]) (ds:=[cb false S W Rn Lv z]) rfl (by simp) (λ_ _ _ _ _ _ _ _ _ _=>rfl) (by rw[show bV [cb false S W Rn Lv z]=[cb false S W Rn Lv z] by rw[bV,YI false S W Rn Lv z];rfl];exact eb)<|zy _ _ _ _ _;have m3:=Oz (p:=p) (x:=j) (i:=6) (pe:=Yx jN 0 "book_behind" (pV 6) #[pV 2]) (ρ:=[some<|jB false p,some<|.str nm,some<|cb false S W Rn Lv z,some<|.int c,‹a.map eR›,some<|yx false o,some<|jC p true j,p7,G,p9]) rfl mm;rw[A] at m3;have l:lj yU 0 #[pF<|pV 0,pF<|pV 2,pF<|pV 3,pF<|pV 4] [some<|jB false p,some<|.str nm,some<|cb false S W Rn Lv z,some<|.int c,‹a.map eR›,some<|yx false o,none,none,none,none]=some (jC p true x0):=by
  rw[lj];have:#[pF<|pV 0,pF<|pV 2,pF<|pV 3,pF<|pV 4] [some<|jB false p,some<|.str nm,some<|cb false S W Rn Lv z,some<|.int c,‹a.map eR›,some<|yx false o,none,none,none,none]=some [jB false p,cb false S W Rn Lv z,.int c,.lst false<|a.map eR]:=by simp[k,E,vZ]
  rw[this,L4,ei];simp[k,E,vZ]
 simp[oH,jx,BG,en,h.fz false,k,l,m1,h1,T,j6,xN,BQ,V,m3,-vA,-lj,-lu,-Yx]
def lH:Nat->List (List Nat)->(List Nat->Int)->Int->List En
 | _,[],_,_=>[]
 | k,c::E,f,L=>#v[k,oM,c,L,b_ L<|f c]::lH (k+1) E (put f c<|f c-b_ L (f c)) (L-b_ L (f c))
theorem Cp:∀ E k f L,iI k E f L=(lH k E f L).map e5
 | [],_,_,_=>rfl
 | c::E,k,f,L=>by rw[iI,lH,Cp E,L5];rfl
theorem Cq:∀ E k f L,(lH k E f L).length=E.length
 | [],_,_,_=>rfl
 | c::E,k,f,L=>by rw[lH,M3,M3,Cq E]
noncomputable abbrev LG:=List Nat×List Nat×En
def e7(q:LG):D:=.tup [.str q.1,.str q.2.1,.int q.2.2.pl,.str q.2.2.kd,.str q.2.2.nm,.int q.2.2.nd,.int q.2.2.gt]
def Ja(l:List LG):frzs (l.map e7)=true:=yn (λ_=>rfl) _
def Kv(l:List LG):bV (l.map e7)=l.map e7:=vD (λ_=>rfl) _
def Y4(M)(f):(cE M f).map (·.1)=M:=by unfold cE;rw[U3];exact List.map_id _
def Qj(h:q∈cE M f):∃ n,q.2=f n:=by
 let[n,_,rfl]:=M7.mp h;exact#v[n,rfl]
theorem zX:∀{ms}{l},cK nm N c l ms->∀ m∈ms,m.2.1∈N/\0<=m.2.2/\m.2.2<=c
 | [],_,_,m,h=>by cases h
 | a::ms,l,k,m,h=>by
  rcases M5.mp h with rfl | h
  ·exact#v[k.1.ot,Int.le_of_lt k.1.po,k.1.hi]
  ·exact zX k.2 m h
def OB(h:bP O p)(n):0<=h_ p n/\h_ p n<=10 ^ 12:=by
 refine#v[Yv (λq b=>?_) n,xY (by decide) (λq b=>?_) n]
 all_goals
  let[a,c,rfl]:=M7.mp b;have:=h.told a c
  lia
def wN{p:bQ}{N O:W1}{c B:Int}{M:LN}(h:bP O p)(hO:∀ w∈O,w∈N)(hn:p.nm∈N)(hN:N.length<=6)(hL:cu N M)(hB0:0<=B)(hB:B<=10 ^ 19)(Q:0<=c)(hc:c<=2 ^ 900){S W Rn Lv:List W2}{z d:Int}(b:eH p B S W Rn Lv)(u:0<=d):
  mZ λ(S' W' R' L':List W2) (z':Int) (ln':LN) (mv:List MV) (sg:List LG)=>oU (kW [jB false p,cb false S W Rn Lv z,.lst false<|M.map eR,.int c,.int d] =
    some (.tup [cb false S' W' R' L' z',.lst true<|ln'.map eR,.lst false<|mv.map eM,.lst false<|sg.map e7])) (eH p (B+10 ^ 12) S' W' R' L') (cu N ln') (∀ m∈mv,m.2.1∈N/\0<=m.2.2/\m.2.2<=c) (mv.length<=300) (sg.length<=310):=by
 have lR:Rn.length<=10:=by have:=congrArg List.length b.r1;rw[L1,L1] at this;have:=h.told2;lia
 have lV:Lv.length<=10:=by have:=congrArg List.length b.l1;rw[L1,L1] at this;have:=h.marks2;lia
 have y:=Nt (x:=z) (L:=d) h b.s1 b.w1 lR lV;have v:=B7 (E:=p.eats) (Yv b.s2) u;generalize hF:(dN p.eats (fnOf S) d).1=F at y v;generalize(dN p.eats (fnOf S) d).2=lft at y v;rw[Cp] at y;have R:=Cq p.eats 0 (fnOf S) d;generalize lH 0 p.eats (fnOf S) d=lg at y R;have no:v8 [jB false p,cb false S W Rn Lv z]=some (.str<|fM p Rn):=Nw h b.r1;have A:(cE p.C F).map (·.1)=p.C:=Y4 _ _;have G:(fw W F).map (·.1)=p.C:=by unfold fw;rw[U3];exact b.w1
 have wd:=QN (p:=p) h (S:=cE p.C F) (W:=fw W F) (Rn:=Rn) (Lv:=Lv) (x:=z+lft) A G;have b1:eH p (B+10 ^ 12) (cE p.C F) (ia p (fnOf<|cE p.C F)<|fw W F) Rn Lv:=by
  refine#v[A,λq g=>?_,?_,λq g=>?_,b.r1,b.l1,b.l2]
  ·let[n,e]:=Qj g;rw[e];exact(v.1 n).1
  ·unfold ia;rw[U3];exact G
  ·unfold ia at g;let[r,hr,rfl]:=M7.mp g;let[t,ht,rfl]:=M7.mp hr;have h1:=b.w2 t ht;have h2:=OB h t.1;constructor
   ·lia
   ·lia
 let[x,EN,R',ef,H,T,hel,mvl]:=OA (p:=p) h hO hn hN hL (B:=B+10 ^ 12) ∅ ∅ Q hc (z:=z+lft) b1 (Nz h Rn);let[ln',eb,U]:=NI hn hN hL H.mv;have j:jd (jB false p) (.int 0)=some (.str p.nm):=rfl;have V:jU (jc [] 0) qT (p2 jh (yH #[pF<|p2 jd (pV 1)<|pI 0,pS []])<|pV 0) (lg.map e5) [none,some<|jB false p]=some ((lg.map λe=>((p.nm,[],e):LG)).map e7):=by 
   rw[U3];refine jA rfl (λρ=>∃ o,ρ=[o,some<|jB false p]) ?_ #v[none,rfl];rintro e he ρ ⟨o,rfl⟩;refine#v[[some<|e5 e,some<|jB false p],rfl,?_,_,rfl];have X:jh (.tup [.str p.nm,.str []]) (e5 e)=some (e7 (p.nm,[],e)):=rfl;simp[j,X,jb]
 have I:jU (jc [] 0) qT (p2 jh (yH #[pF<|p2 jd (pV 1)<|pI 0,pF<|pV 2])<|pV 0) (EN.map e5) [none,some<|jB false p,some<|.str<|fM p Rn]=some ((EN.map λe=>((p.nm,(fM p Rn),e):LG)).map e7):=by 
   rw[U3];refine jA rfl (λρ=>∃ o,ρ=[o,some<|jB false p,some<|.str<|fM p Rn]) ?_ #v[none,rfl];rintro e he ρ ⟨o,rfl⟩;refine#v[[some<|e5 e,some<|jB false p,some<|.str<|fM p Rn],rfl,?_,_,rfl];have X:jh (.tup [.str p.nm,.str<|fM p Rn]) (e5 e)=some (e7 (p.nm,(fM p Rn),e)):=rfl;simp[j,X,jb]
 refine#v[cE p.C x.sz,cE p.C x.ow,R',cE p.P x.lv,z+lft,ln',x.mv,(lg.map λe=>((p.nm,[],e):LG))++EN.map λe=>((p.nm,fM p Rn,e):LG),?_,#v[Y4 _ _,λq g=>?_,Y4 _ _,λq g=>?_,T,Y4 _ _,λq g=>?_],U,zX H.mv,mvl,by have:=h.eats2;simp;lia]
 rotate_left
 ·let[n,e]:=Qj g;rw[e];exact H.sz n
 ·let[n,e]:=Qj g;rw[e];exact H.ow n
 ·let[n,e]:=Qj g;rw[e];exact H.lv n
 have fp:=h.fz false;have Y:=h.frz;have Z:=YI false S W Rn Lv z;have hb2:=JI S W Rn Lv z;have hb3:=YI true (cE p.C F) (fw W F) Rn Lv<|z+lft;have hb4:=JI (cE p.C F) (fw W F) Rn Lv<|z+lft;have hb5:=YI false (cE p.C F) (fw W F) Rn Lv<|z+lft;have hb8:=YI true (cE p.C x.sz) (cE p.C x.ow) R' (cE p.P x.lv)<|z+lft;have J:=JI (cE p.C x.sz) (cE p.C x.ow) R' (cE p.P x.lv)<|z+lft;have hl1:bW lg.length=true:=jb (by have:=h.eats2;lia);have K:bW EN.length=true:=jb ∅;generalize hG1:(lg.map λe=>((p.nm,[],e):LG))=G1 at *;generalize hG2:(EN.map λe=>((p.nm,fM p Rn,e):LG))=G2 at *;have g1l:G1.length<=1000:=by rw[<- hG1,L1];have:=h.eats2;lia
 have g2l:G2.length<=1000:=by rw[<- hG2,L1];lia
 have hl3:bW (G1.length+G2.length)=true:=jb ∅;generalize jB false p=PP,cb false S W Rn Lv z=B0,cb false (cE p.C F) (fw W F) Rn Lv (z+lft)=B2,cb true (cE p.C x.sz) (cE p.C x.ow) R' (cE p.P x.lv) (z+lft)=B4 at *;have t0:∀{a b:D},jd (.tup [a,b]) (.int 0)=some a:=rfl;have t1:∀{a b:D},jd (.tup [a,b]) (.int 1)=some b:=rfl;have f:∀{a b c:D},jd (.tup [a,b,c]) (.int 0)=some a:=rfl;have k:∀{a b c:D},jd (.tup [a,b,c]) (.int 1)=some b:=rfl;have s:∀{a b c:D},jd (.tup [a,b,c]) (.int 2)=some c:=rfl;have ha1:bV (G1.map e7++G2.map e7)=G1.map e7++G2.map e7:=by rw[<- N6,Kv]
 have ha2:frzs (G1.map e7++G2.map e7)=true:=by rw[<- N6,Ja]
 have hx:=sQ (i:=8) (p:=yi (YS<|p2 jd (pV 7)<|pI 0) (jc [] 0) qT (p2 jh (yH #[pF<|p2 jd (pV 1)<|pI 0,pF<|pV 2])<|pV 0) [none,some 0,some 6]) (ρ:=[some PP,some B0,‹M.map eR›,some<|.int c,some<|.int d,some<|.tup [.lst false<|lg.map e5,B2],some<|.str<|fM p Rn,some<|.tup [.lst true<|EN.map e5,B4,.lst true<|x.mv.map eM],↑(G1.map e7)]) (e:=.lst true<|G2.map e7) (m:=G2.map e7) (l:=G1.map e7) (by simp[ -p2];simp[f,Cj,K,jq,I,-yH]) (by show(bif frzs (G2.map e7) then _ else _)=_;rw[Ja];rfl) rfl (by rw[L1,L1];lia);simp[kW,jx,KC,hx,y,fp,Y,Z,hb2,hb3,hb4,hb5,YI false (cE p.C F) (ia p (fnOf<|cE p.C F)<|fw W F) Rn Lv<|z+lft,JI (cE p.C F) (ia p (fnOf<|cE p.C F)<|fw W F) Rn Lv<|z+lft,hb8,J,no,t0,t1,wd,Ci,Cj,YE,vZ,ef,jq,V,I,hl1,K,f,k,s,zN,KY,j,eb,jb,Kv,Ja,hl3,ha1,-yH,-List.map_map];simp[f,k,s,J,YE,vZ,zN,KY,j,eb,ha2,jb]
structure Bk where
 S:List W2
 W:List W2
 R:List W2
 L:List W2
 x:Int
def ku(o:Bool)(b:Bk):D:=cb o b.S b.W b.R b.L b.x
inductive fy (B:Int):List bQ->List Bk->Prop where
 | nil:fy B [] []
 | cons {p:bQ}{b:Bk}{ps:List bQ}{bs:List Bk}(h:eH p B b.S b.W b.R b.L) (t:fy B ps bs):fy B (p::ps) (b::bs)
structure dA(n:Nat)(K:Int)(ws:List Int):Prop where
 len:ws.length=n
 ok:∀ v∈ws,0<=v/\v<=K
def xE(o)(b):fz (ku o b)=ku false b:=YI ..
def Cr(b):frz (ku false b)=true:=JI ..
def VZ(l:List Bk):frzs (l.map<|ku false)=true:=yn (λp=>Cr p) _
def Y5(l:List Bk):bV (l.map<|ku false)=l.map (ku false):=vD (λp=>xE _ p) _
def dA.set(h:dA n K ws)(b:K<=K')  (c:0<=v) (h1:v<=K'):dA n K' (ws.set j v):=by
 refine#v[by rw[List.length_set];exact h.len,λu a=>?_];rcases List.mem_or_eq_of_mem_set a with q | q
 ·have:=h.ok u q;lia
 ·lia
def OC{N}{f:List Nat->Int}{c}{n:Nat}(r:∀ w,0<=f w/\f w<n){a0 a1 a2 a3 a4 a5 a7 a9 a b d}(z:0<=c):∀{ms:List MV}{ws}{K}{o13 o14 o15},dA n K ws->(∀ m∈ms,m.2.1∈N/\0<=m.2.2/\m.2.2<=c) ->
  fA λws' o13' o14' o15'=>eQ (jY (gT 3<|gC (jc [] 13)<|gC (jc [] 14)<|gC (jc [] 15) gN) ko (ms.map eM) [a0,a1,a2,a3,a4,a5,↑(ws.map D.int),a7,some<|bY true N f,a9,a,b,d,o13,o14,o15]=some (.nx [a0,a1,a2,a3,a4,a5,↑(ws'.map D.int),a7,some<|bY true N f,a9,a,b,d,o13',o14',o15'])) (dA n (K+c*ms.length) ws'):=by
 intro ms
 induction ms with
 | nil=>
  intro ws K o13 o14 o15 h _;exact#v[ws,o13,o14,o15,rfl,by simpa using h]
 | cons m ms s=>
  intro ws K o13 o14 o15 h q;let[t,A,B]:=q m (by simp);have k:=r m.2.1;have u:(f m.2.1).toNat<ws.length:=by rw[h.len];lia
  have C:=h.ok _<|List.getElem_mem u;have l:dI (ws.map D.int).length (f m.2.1)=some (f m.2.1).toNat:=by
   have:=sR (n:=(ws.map D.int).length) (i:=(f m.2.1).toNat) (by rw[L1];lia);rw[Int.toNat_of_nonneg k.1] at this;exact this
  have g:(ws.map D.int)[(f m.2.1).toNat]?=some (.int ws[(f m.2.1).toNat]):=by simp
  have j:(ws.map D.int).set (f m.2.1).toNat (.int<|ws[(f m.2.1).toNat]+m.2.2)=(ws.set (f m.2.1).toNat (ws[(f m.2.1).toNat]+m.2.2)).map D.int:=by simp
  let[ws',o13',o14',o15',e,p]:=s (ws:=ws.set (f m.2.1).toNat (ws[(f m.2.1).toNat]+m.2.2)) (K:=K+c) (h.set ∅ ∅ ∅)<|λv p=>q v (by simp[p]);refine#v[ws',o13',o14',o15',?_,?_]
  ·have x:ko [a0,a1,a2,a3,a4,a5,↑(ws.map D.int),a7,some<|bY true N f,a9,a,b,d,some<|.str m.1,some<|.str m.2.1,some<|.int m.2.2]=some (.nx [a0,a1,a2,a3,a4,a5,↑((ws.set (f m.2.1).toNat (ws[(f m.2.1).toNat]+m.2.2)).map D.int),a7,some<|bY true N f,a9,a,b,d,some<|.str m.1,some<|.str m.2.1,some<|.int m.2.2]):=by
    rw[<- j];simp only[ko,u4,p2,Hy,Hz,L4,yk (o:=true) (f:=f) t,FD,VG,l,g];rfl
   rw[L5,fK ?_ x,e];rfl
  ·have y:K+c*((m::ms).length:Int)=K+c+c*ms.length:=by rw[M3];push_cast;rw[Int.mul_add];lia
   rw[y];exact p
def Yi(bs:List Bk)(ln:LN)(ws:List Int):D:=.tup [.lst false<|bs.map<|ku false,.lst false<|ln.map eR,.lst false<|ws.map D.int]
def OD{N}{f:List Nat->Int}{B K}{p:bQ}{X:W1}(h:bP X p)(hX:∀ w∈X,w∈N)(hn:p.nm∈N)(hN:N.length<=6){n:Nat}(hf:∀ w,0<=f w/\f w<n)(E:0<=B)(hB:B<=10 ^ 19)(hA:10 ^ 31<=K)(hK:K<=2 ^ 890)
  {bs:List Bk}{ln0:LN}{ws0:List Int}{e g:List Int}{s:Nat}{b:Bk}(hb:bs[s]?=some b) (F:eH p B b.S b.W b.R b.L) {q lo:Int}(hi:e[s]?=some q) (hi0:0<=q) (hi1:q<=10 ^ 31) (u:g[s]?=some lo) (G:0<=lo) (hs:s<n)
  {acc:List Bk}(hacc:acc.length<=10) {ln:LN}(hL:cu N ln) {ob:Bool}{ws:List Int}(H:dA n K ws) {log:List LG}(hlog:log.length<=2000) {a0 o11 o12 o13 o14 o15:Option D}:
  s_ λb' ln' ws' seg o11' o12' o13' o14' o15'=>eS (qR [a0,some<|Yi bs ln0 ws0,‹e.map D.int›,‹g.map D.int›,↑(acc.map<|ku false),some<|.lst ob<|ln.map eR,↑(ws.map D.int),↑(log.map e7),some<|bY true N f,some<|.int s,some<|jB false p,o11,o12,o13,o14,o15] =
    some (.nx [a0,some<|Yi bs ln0 ws0,‹e.map D.int›,‹g.map D.int›,↑((acc++[b']).map (ku false)),‹ln'.map eR›,↑(ws'.map D.int),↑((log++seg).map e7),some<|bY true N f,some<|.int s,some<|jB false p,o11',o12',o13',o14',o15'])) (eH p (B+10 ^ 12) b'.S b'.W b'.R b'.L) (cu N ln') (dA n (1024*K) ws') (seg.length<=310):=by
 have r:s<ws.length:=by rw[H.len];exact hs
 have hwv:=H.ok _<|List.getElem_mem r;let[j,k,l,m,o,ln',mv,seg,ep,I,x,J,mvl,y]:=wN (c:=q+ws[s]) h hX hn hN hL E hB ∅ ∅ F G;have M:dA n K (ws.set s 0):=H.set (Int.le_refl _) ∅ ∅;let[ws',o13',o14',o15',ew,t]:=OC hf (a4:=↑((acc++[(#v[j,k,l,m,o]:Bk)]).map (ku false))) ∅ M J;refine#v[#v[j,k,l,m,o],ln',ws',seg,some<|.int<|q+ws[s],some<|.tup [cb false j k l m o,.lst false<|ln'.map eR,.lst false<|mv.map eM,.lst false<|seg.map e7],o13',o14',o15',?_,I,x,#v[t.len,λv hv=>#v[(t.ok v hv).1,?_]],y]
 rotate_left
 ·have h1:=(t.ok v hv).2;have h2:(q+ws[s])*mv.length<=(q+ws[s])*300:=Int.mul_le_mul_of_nonneg_left ∅ ∅
  lia
 have O:jd (.lst false<|bs.map<|ku false) (.int s)=some (ku false b):=by
  have z:=(L9.mp hb).1;rw[fv ∅ (by rw[L1];lia),N9,List.getElem?_map,hb];rfl
 have P:jd (.lst false<|e.map D.int) (.int s)=some (.int q):=by
  have z:=(L9.mp hi).1;rw[fv ∅ (by rw[L1];lia),N9,List.getElem?_map,hi];rfl
 have Q:jd (.lst false<|g.map D.int) (.int s)=some (.int lo):=by
  have z:=(L9.mp u).1;rw[fv ∅ (by rw[L1];lia),N9,List.getElem?_map,u];rfl
 have T:jd (.lst true<|ws.map D.int) (.int s)=some (.int ws[s]):=by
  rw[fv ∅ (by rw[L1];lia),N9,List.getElem?_map,E1 r];rfl
 have U:jd (Yi bs ln0 ws0) (.int 0)=‹bs.map (ku false)›:=rfl;have A:dI (ws.map D.int).length s=some s:=sR (by rw[L1];exact r);have C:(ws.map D.int).set s (.int 0)=(ws.set s 0).map D.int:=by rw[List.map_set]
 have V:fz (ku false b)=ku false b:=xE _ _;have Y:frz (ku false b)=true:=Cr _;have Z:fz (cb false j k l m o)=cb false j k l m o:=YI ..;have hb4:frz (cb false j k l m o)=true:=JI ..;have ep':kW [jB false p,ku false b,.lst false<|ln.map eR,.int<|q+ws[s],.int lo]=some (.tup [cb false j k l m o,.lst true<|ln'.map eR,.lst false<|mv.map eM,.lst false<|seg.map e7]):=ep;have ea:(acc++[(#v[j,k,l,m,o]:Bk)]).map (ku false)=acc.map (ku false)++[cb false j k l m o]:=by rw[N6];rfl
 rw[ea] at ew ⊢;have hal:bW (acc.map<|ku false).length=true:=yI ∅;have hx:=sQ (i:=7) (p:=p2 jd (pV 12)<|pI 3) (ρ:=[a0,some<|Yi bs ln0 ws0,‹e.map D.int›,‹g.map D.int›,↑(acc.map (ku false)++[cb false j k l m o]),‹ln'.map eR›,↑(ws'.map D.int),↑(log.map e7),some<|bY true N f,some<|.int s,some<|jB false p,some<|.int<|q+ws[s],some<|.tup [cb false j k l m o,.lst false<|ln'.map eR,.lst false<|mv.map eM,.lst false<|seg.map e7],o13',o14',o15']) rfl (by show(bif frzs (seg.map e7) then _ else _)=_;rw[Ja];rfl) rfl (by rw[L1,L1];lia);have em:(log++seg).map e7=log.map e7++seg.map e7:=N6;rw[em];have v0:∀{a b c d},jd (.tup [a,b,c,d]) (.int 0)=some a:=rfl;have v1:∀{a b c d},jd (.tup [a,b,c,d]) (.int 1)=some b:=rfl;have v2:∀{a b c d},jd (.tup [a,b,c,d]) (.int 2)=some c:=rfl;generalize acc.map (ku false)=AC at *;apply sq (by simp[P,T];rfl);apply sq (by simp[A,-List.length_map];rw[C]);apply sq (by simp[U,O,Q,ep',h.fz false,h.frz,V,Y,YE,vZ,-List.map_set];rfl);apply sq (by simp[Z,hb4,v0,YE,vZ,zN,KY,Kv,Ja,hal,-List.map_set];rfl);apply sq (by simp[v1,vZ,-List.map_set];rfl);apply sq (by rw[qu];simp[v2,KY,zN,-List.map_set];exact ew);exact hx
def OE(n):(1:Int)<=1024 ^ n:=by
 induction n with
 | zero=>decide
 | succ n a=>rw[Int.pow_succ];lia
def OG{K:Int}(h:0<=K)(n):K<=K*1024 ^ n:=by
 have:=Int.mul_le_mul_of_nonneg_left (OE n) h
 lia
theorem uR{N}{f:List Nat->Int}{n:Nat}(U:N.length<=6)(V:∀ w,0<=f w/\f w<n){bs}{ws0 a c:List Int}(o:a.length=n)(r:c.length=n)(hi:∀ v∈a,0<=v/\v<=10 ^ 31)(i:∀ v∈c,0<=v){a0}{B}(j:0<=B)(W:B<=10 ^ 19):
  ∀{Q}{s}{acc}{ln}{ob}{ws}{log}{K}{o9 o10 o11 o12 o13 o14 o15},(∀ p∈Q,p.nm∈N/\∃ X,bP X p/\∀ w∈X,w∈N)->fy B Q (bs.drop s)->s+Q.length=n->n<=6->acc.length=s->cu N ln->dA n K ws->log.length<=400*s->10 ^ 31<=K->K*1024 ^ Q.length<=2 ^ 890 ->
  lJ λ(bs':List Bk) (ln':LN) (ob':Bool) (ws':List Int) (seg:List LG) (o9' o10' o11' o12' o13' o14' o15':Option D)=>eS (jY (gT 2<|gC (jc [] 9)<|gC (jc [] 10) gN) qR (vf s<|Q.map<|jB false) [a0,some<|Yi bs ln0 ws0,‹a.map D.int›,‹c.map D.int›,↑(acc.map<|ku false),some<|.lst ob<|ln.map eR,↑(ws.map D.int),↑(log.map e7),some<|bY true N f,o9,o10,o11,o12,o13,o14,o15] =
    some (.nx [a0,some<|Yi bs ln0 ws0,‹a.map D.int›,‹c.map D.int›,↑((acc++bs').map (ku false)),some<|.lst ob'<|ln'.map eR,↑(ws'.map D.int),↑((log++seg).map e7),some<|bY true N f,o9',o10',o11',o12',o13',o14',o15'])) (fy (B+10 ^ 12) Q bs') (cu N ln') (dA n (K*1024 ^ Q.length) ws')<|seg.length<=400*Q.length
 | [],s,acc,ln,ob,ws,log,K,o9,o10,o11,o12,o13,o14,o15,_,hb,_,_,_,hL,hw,_,_,_=>by
  refine#v[[],ln,ob,ws,[],o9,o10,o11,o12,o13,o14,o15,by simp[vf],.nil,hL,by simpa using hw,by simp]
 | p::Q,s,acc,ln,ob,ws,log,K,o9,o10,o11,o12,o13,o14,o15,hQ,hb,hs,hn3,hacc,hL,hw,hlog,hA,hK=>by
  let[t,X,Y,Z]:=hQ p (by simp);rw[M3] at hs hK;rw[Int.pow_succ] at hK;have u:K*(1024 ^ Q.length*1024)=1024*K*1024 ^ Q.length:=by rw[Int.mul_comm (1024 ^ Q.length) 1024,<- Int.mul_assoc,Int.mul_comm K 1024]
  have hK2:=OG (K:=1024*K) ∅ Q.length;generalize k:bs.drop s=bd at hb;cases hb with
  | @cons _ b _ x y d=>
   have z:bs[s]?=some b:=by
    have:=congrArg (·[0]?) k;simpa using this
   have g:bs.drop (s+1)=x:=by
    have:=congrArg (List.drop 1) k;simpa using this
   have h:s<a.length:=by lia
   have l:s<c.length:=by lia
   let[b',ln',ws',seg,o11',o12',o13',o14',o15',e,A,C,E,sl]:=OD Y Z t U V j W hA ∅ z y (E1 h) (hi _<|List.getElem_mem h).1 (hi _<|List.getElem_mem h).2 (E1 l) (i _<|List.getElem_mem l) ∅ (acc:=acc) ∅ hL hw (log:=log) ∅;let[bs',F,ob',G,m,p9,H,I,J,L,M,O,P,R,S,T,sg2]:=uR U V o r hi i (a0:=a0) j W (ln0:=ln0) (ws0:=ws0) (Q:=Q) (acc:=acc++[b']) (log:=log++seg) (λq hq=>hQ q<|by simp[hq]) (by rw[g];exact d) ∅ hn3 (by simp;lia) C E (by simp;lia) ∅ ∅;refine#v[b'::bs',F,ob',G,seg++m,p9,H,I,J,L,M,O,?_,.cons A R,S,?_,?_]
   ·rw[L5,vf,fK ?_ e,P];simp only[List.append_assoc,List.singleton_append];rfl
   ·rw[M3,Int.pow_succ,u];exact T
   ·rw[N5,M3];lia
def fX:Nat->List bQ->List W2
 | _,[]=>[]
 | s,p::Q=>(p.nm,(s:Int))::fX (s+1) Q
theorem uv:∀ Q s,(fX s Q).map (·.1)=Q.map (·.nm)
 | [],_=>rfl
 | p::Q,s=>by rw[fX,L5,L5,uv Q]
theorem Cs:∀ Q s,∀ q∈fX s Q,0<=q.2/\q.2<=(s:Int)+Q.length-1
 | [],_,q,h=>by cases h
 | p::Q,s,q,h=>by
  rw[M3];rcases M5.mp h with rfl | h
  ·lia
  ·have:=Cs Q (s+1) q h;lia
theorem Ct:∀ Q s,(fX s Q).length=Q.length
 | [],_=>rfl
 | p::Q,s=>by rw[fX,M3,Ct Q,M3]
theorem Cu:∀ Q s o o',jU (gT 2<|gC (jc [] 0)<|gC (jc [] 1) gN) qT (yH #[pF<|p2 jd (pV 1)<|pI 0,pF<|pV 0]) (vf s<|Q.map<|jB false) [o,o']=some ((fX s Q).map e2)
 | [],_,_,_=>rfl
 | p::Q,s,o,o'=>by
  have j:jd (jB false p) (.int 0)=some (.str p.nm):=rfl;have a:(yH #[pF<|p2 jd (pV 1)<|pI 0,pF<|pV 0]) [some<|.int s,some<|jB false p]=some (e2 (p.nm,s)):=by rfl
  rw[L5,vf,MC ?_ a,Cu Q (s+1) (some<|.int s)<|some<|jB false p];rfl;rfl
noncomputable abbrev Cv(Ps:List bQ):List (List Nat):=Ps.map (·.nm)
def kY(h:cD Ps)(o):bV (Ps.map<|jB o)=Ps.map (jB false):=by
 rw[kQ,U3];exact List.map_congr_left λx a=>by let[X,b,_]:=h.ok x a;exact b.fz o
def vP(h:cD Ps):frzs (Ps.map<|jB false)=true:=qQ λd hd=>by
 let[x,a,rfl]:=M7.mp hd;let[X,b,_]:=h.ok x a;exact b.frz
structure gF(Ps:List bQ)(B K:Int)(bs:List Bk)(ln:LN)(ws:List Int):Prop where
 b:fy B Ps bs
 l:cu (Cv Ps) ln
 w:dA Ps.length K ws
structure c9(n:Nat)(inc los:List Int):Prop where
 il:inc.length=n
 ll:los.length=n
 i:∀ v∈inc,0<=v/\v<=10 ^ 31
 l:∀ v∈los,0<=v
def OH{K:Int}(h:0<=K){n}(a:n<=6):K*1024 ^ n<=K*2 ^ 60:=by
 refine Int.mul_le_mul_of_nonneg_left ?_ h;have:n=0\/n=1\/n=2\/n=3\/n=4\/n=5\/n=6:=by lia
 rcases this with rfl | rfl | rfl | rfl | rfl | rfl | rfl<;>decide
def OI{Ps}(h:cD Ps){B K}{bs}{ws f g}(st:gF Ps B K bs ln ws)(k:c9 Ps.length f g)(m:0<=B)(I:B<=10 ^ 19)(J:10 ^ 31<=K)(Q:K*2 ^ 60<=2 ^ 890):
  lI λ(bs':List Bk) (ln':LN) (ob:Bool) (ws':List Int) (log:List LG)=>cX (Je [.lst false<|Ps.map<|jB false,Yi bs ln ws,.lst false<|f.map D.int,.lst false<|g.map D.int]=some (.tup [.tup [.lst true<|bs'.map<|ku false,.lst ob<|ln'.map eR,.lst true<|ws'.map D.int],.lst true<|log.map e7])) (gF Ps (B+10 ^ 12) (K*2 ^ 60) bs' ln' ws') (log.length<=400*Ps.length):=by
 have l1:=h.len1;have l2:=h.len2;have n:=OH (K:=K) ∅ l2;have j:=Cs Ps 0;have c:=uv Ps 0;have L:∀ w,0<=fnOf (fX 0 Ps) w/\fnOf (fX 0 Ps) w<Ps.length:=λw=>by
  have a:=Yv (λq r=>(j q r).1) w;have b:=xY (B:=Ps.length-1) ∅ (λq r=>by have:=(j q r).2;lia) w
  lia
 let[bs',ln',ob,ws',log,M,t,u,x,y,z,A,e,C,E,d,N]:=uR (by rw[L1];exact l2) L (ln0:=ln) (ws0:=ws) k.il k.ll k.i k.l (a0:=‹Ps.map (jB false)›) m I (s:=0) (acc:=[]) (ob:=true) (log:=[]) (o9:=none) (o10:=none) (o11:=none) (o12:=none) (o13:=none) (o14:=none) (o15:=none) (λp G=>#v[M7.mpr #v[p,G,rfl],h.ok p G]) st.b ∅ l2 rfl st.l st.w (by simp) J ∅;rw[X9,X9,List.map_nil,List.map_nil] at e;refine#v[bs',ln',ob,ws',log,?_,#v[C,E,#v[d.len,λv H=>#v[(d.ok v H).1,Int.le_trans (d.ok v H).2 n]]],N];have O:jd (Yi bs ln ws) (.int 1)=‹ln.map eR›:=rfl;have P:jd (Yi bs ln ws) (.int 2)=‹ws.map D.int›:=rfl;have mU:YO [.lst false<|ln.map eR]=↑(ln.map eR):=by
  show(bif frzs (ln.map eR) then _ else _)=_;rw[vZ];rfl
 have oP:YO [.lst false<|ws.map D.int]=↑(ws.map D.int):=by simp
 have hd:yZ [.lst true<|(fX 0 Ps).map e2]=some (bY true (Cv Ps)<|fnOf<|fX 0 Ps):=by
  have:=yo (o:=true) (by rw[c];exact h.nmn) (by rw[Ct];lia);rw[c] at this;exact this
 have F:bW (vf 0<|Ps.map<|jB false).length=true:=jb (by rw[JY,L1];lia);simp[Je,jx,KG,O,P,mU,Cu Ps 0 none none,hd,vP h,kY h false,F,jq,e,jb]
structure RD where
 bs:List Bk
 ln:LN
 ws:List Int
 log:List LG
def yC(r:RD):D:=.tup [Yi r.bs r.ln r.ws,.lst false<|r.log.map e7]
def VU(bs)(ln)(ws):frz (Yi bs ln ws)=true:=by simp[Yi,VZ,vZ]
def uE(bs)(ln)(ws):fz (Yi bs ln ws)=Yi bs ln ws:=by simp[Yi,Y5,YE]
def xV(l:List RD):frzs (l.map yC)=true:=yn (λp=>by simp[yC,VU,Ja]) _
def sY(l:List RD):bV (l.map yC)=l.map yC:=vD (λp=>by simp[yC,uE,Kv]) _
structure eI(Ps:List bQ)(r:RD):Prop where
 b:∃ B,fy B Ps r.bs
 l:r.log.length<=2400
theorem uL(h:cD Ps)  : ∀{ds:List Dy}{bs}{ln}{ws}{B K}{st}{acc}{o4 o5 o6},(∀ d∈ds,c9 Ps.length d.1 d.2)->gF Ps B K bs ln ws->fz st=Yi bs ln ws->0<=B->B+10 ^ 12*ds.length<=10 ^ 19->10 ^ 31<=K->K*(2 ^ 60) ^ ds.length<=2 ^ 890->acc.length+ds.length<=1000 ->
  lI λ(rs:List RD) (st':D) (o4' o5' o6':Option D)=>cX (jY (gT 2<|gC (jc [] 4)<|gC (jc [] 5) gN) wF (ds.map qw) [‹Ps.map (jB false)›,a1,some st,↑(acc.map yC),o4,o5,o6]=some (.nx [‹Ps.map (jB false)›,a1,some st',↑((acc++rs).map yC),o4',o5',o6'])) (rs.length=ds.length)<|∀ r∈rs,eI Ps r
 | [],bs,ln,ws,B,K,st,acc,o4,o5,o6,_,_,_,_,_,_,_,_=>#v[[],st,o4,o5,o6,by simp,rfl,by simp]
 | d::ds,bs,ln,ws,B,K,st,acc,o4,o5,o6,hd,t,k,l,u,v,s,w=>by
  rw[M3] at u s w;rw[Int.pow_succ] at s;have y:∀ n:Nat,(1:Int)<=(2 ^ 60) ^ n:=λn=>by
   induction n with
   | zero=>decide
   | succ n I=>rw[Int.pow_succ];lia
  have z:K*((2 ^ 60) ^ ds.length*2 ^ 60)=K*2 ^ 60*(2 ^ 60) ^ ds.length:=by rw[Int.mul_comm ((2 ^ 60) ^ ds.length)<|2 ^ 60,<- Int.mul_assoc]
  have A:K*2 ^ 60<=K*2 ^ 60*(2 ^ 60) ^ ds.length:=by
   have:=Int.mul_le_mul_of_nonneg_left (y ds.length) (show 0<=K*2 ^ 60 by lia)
   lia
  let[a,c,ob,f,log,e,g,C]:=OI h t (hd d<|by simp) l ∅ v ∅;let[rs,st',o4',o5',o6',i,m,j]:=uL h (a1:=a1) (ds:=ds) (acc:=acc++[#v[a,c,f,log]]) (o4:=‹d.1.map D.int›) (o5:=‹d.2.map D.int›) (o6:=some<|yC #v[a,c,f,log]) (λx E=>hd x<|by simp[E]) g (uE _ _ _) ∅ ∅ ∅ ∅ (by simp;lia);refine#v[#v[a,c,f,log]::rs,st',o4',o5',o6',?_,by rw[M3,M3,m],λr o=>?_]
  rotate_left
  ·rcases M5.mp o with rfl | o
   ·exact#v[#v[_,g.b],by have:=h.len2;lia]
   ·exact j r o
  have F:(acc++[(#v[a,c,f,log]:RD)]).map yC=acc.map yC++[yC #v[a,c,f,log]]:=by simp
  rw[F] at i;rw[L5,lz ?_,i];simp only[List.append_assoc,List.singleton_append];show(some _).bind _=_;have G:fz (.tup [.tup [.lst true<|a.map<|ku false,.lst ob<|c.map eR,.lst true<|f.map D.int],.lst true<|log.map e7])=yC #v[a,c,f,log]:=by simp[yC,Yi,Y5,YE,Kv]
  have p:frz (yC #v[a,c,f,log])=true:=by simp[yC,VU,Ja]
  have H:jd (yC #v[a,c,f,log]) (.int 0)=some (Yi a c f):=rfl;have q:bW (acc.map yC).length=true:=yI ∅;generalize acc.map yC=AC at *;simp[wF,k,vP h,kY h false,VU bs ln ws,uE bs ln ws,e,G,p,H,VU a c f,q]
def gG(p:bQ):Bk:=#v[lE p,Jb p,Jb p,lF p,0]
theorem sZ:∀{Q},(∀ p∈Q,∃ X,bP X p)->fy 0 Q (Q.map gG)
 | [],_=>.nil
 | p::Q,h=>by
  let[X,d]:=h p (by simp);exact .cons ((by
    refine#v[?_,λq a=>?_,?_,λq a=>?_,?_,?_,λq a=>?_]
    ·show(lE p).map (·.1)=_;unfold lE;rw[U3];rfl
    ·let[c,b,rfl]:=M7.mp a;have:=d.told c b
     lia
    ·show(Jb p).map (·.1)=_;unfold Jb;rw[U3];rfl
    ·let[c,b,rfl]:=M7.mp a;exact#v[Int.le_refl _,Int.le_refl _]
    ·show(Jb p).map (·.1)=_;unfold Jb;rw[U3];rfl
    ·show(lF p).map (·.1)=_;unfold lF;rw[U3];rfl
    ·let[c,b,rfl]:=M7.mp a;exact Int.le_refl _))<|sZ λq a=>h q (by simp[a])
def zs(Ps:List bQ):List Int:=Ps.map λ_=>0
def iJ(Ps:List bQ):D:=.tup [.lst true<|(Ps.map gG).map (ku true),.lst true [],.lst true<|(zs Ps).map D.int]
def Cw(Ps):fz (iJ Ps)=Yi (Ps.map gG) [] (zs Ps):=by
 have:bV ((Ps.map gG).map (ku true))=(Ps.map gG).map (ku false):=by
  rw[kQ,U3];exact List.map_congr_left λx _=>xE _ _
 simp[iJ,Yi,this,-List.map_map]
def OJ(Ps):vz (iJ Ps)=true:=by
 have a:yh ((Ps.map gG).map (ku true))=true:=by
  rw[yz,List.all_map,List.all_eq_true];intro x _;exact zy ..
 simp[iJ,a,-List.map_map]
def uD(h:cD Ps):Vk [.lst false<|Ps.map<|jB false]=some (iJ Ps):=by
 have l2:=h.len2;have l1:bW Ps.length=true:=jb ∅;have c1:jU (jc [] 0) qT (js vx #[pV 0]) (Ps.map<|jB false) [none]=some ((Ps.map gG).map (ku true)):=by
  rw[U3];refine jA rfl (λs=>∃ o,s=[o]) ?_ #v[none,rfl];rintro p b s ⟨o,rfl⟩;let[X,a,_]:=h.ok p b;refine#v[[some<|jB false p],rfl,?_,_,rfl];show _=some (cb true (lE p) (Jb p) (Jb p) (lF p) 0);simp[a.fz false,a.frz,Qg a]
 have c:jU (jc [] 0) qT (pI 0) (Ps.map<|jB false) [none]=some ((zs Ps).map D.int):=by
  unfold zs;rw[U3];exact jA rfl (λs=>∃ o,s=[o]) (by simp) #v[none,rfl]
 have d:bW (Ps.map<|jB false).length=true:=by rw[L1];exact l1
 unfold iJ;simp[Vk,jx,BF,vP h,d,jq,c1,c,jb,-List.length_map]
def Cy{c:Int}(a:1<=c)(m n)(h:m<=n):c ^ m<=c ^ n:=by
 induction n with
 | zero=>
  have:m=0:=by lia
  subst this;exact Int.le_refl _
 | succ n b=>
  by_cases q:m=n+1
  ·lia
  ·have e:=b ∅;have d:0<=c ^ n:=Int.pow_nonneg ∅;have f:=Int.mul_le_mul_of_nonneg_left a d
   lia
def OK{Ps}(h:cD Ps){ds:List Dy}(hd:∀ d∈ds,c9 Ps.length d.1 d.2)(f:ds.length<=6):∃(rs:List RD),cX (oI [.lst false<|Ps.map<|jB false,.lst false<|ds.map qw]=↑(rs.map yC)) (rs.length=ds.length) (∀ r∈rs,eI Ps r):=by
 have g:gF Ps 0 (10 ^ 31) (Ps.map gG) [] (zs Ps):=#v[sZ λp i=>by let[X,j,_]:=h.ok p i;exact#v[X,j],#v[by simp,by simp],#v[by simp[zs],λv k=>by let[p,_,rfl]:=M7.mp k;exact#v[Int.le_refl _,by decide]]];have l:(10:Int) ^ 31*(2 ^ 60) ^ ds.length<=2 ^ 890:=by
  have o:∀ m n:Nat,m<=n->((2:Int) ^ 60) ^ m<=(2 ^ 60) ^ n:=Cy (by decide);exact Int.le_trans (Int.mul_le_mul_of_nonneg_left (o ds.length 6 f)<|show 0<=10 ^ 31 by decide) (by
    have a:(10:Int) ^ 31<=2 ^ 200:=by decide
    have b:(2 ^ 60) ^ 6=2 ^ 360:=by rfl
    exact Int.le_trans (Int.mul_le_mul_of_nonneg_right a<|Int.pow_nonneg<|by decide)<|Cy (by decide) 560 890<|by decide)
 let[rs,q,s,t,u,e,c,w]:=uL h (a1:=‹ds.map qw›) (acc:=[]) (o4:=none) (o5:=none) (o6:=none) hd g (Cw Ps) (by decide) ∅ (by decide) l (by simp;lia);rw[X9,List.map_nil] at e;refine#v[rs,?_,c,w];have mV:=Vt ds;simp[oI,jx,BH,kY h false,mV,jk _ mV,OJ Ps,uD h,e,jb]
def dR(ks:List<|List KA)(l:List D)(k:List KA):Int:=match JA ks l k with
 | some (.int i)=>i
 | _=>0
structure dB(N:Nat)(ks:List<|List KA)(l:List D):Prop where
 n:ks.length=l.length
 m:ks.length<=N
 v:∀ k,(JA ks l k).getD (.int 0)=.int (dR ks l k)
def dB.put{n}{ks}{l}(h:dB n ks l)(a)(i):dB (n+1) (kj ks l a<|.int i).1 (kj ks l a<|.int i).2:=by
 refine#v[(Y8 h.n).1,N8 (Y8 h.n).2 (Nat.succ_le_succ h.m),λk=>?_];have:=h.v k;unfold dR at this ⊢;rw[uz h.n];by_cases e:k=a
 ·rw[if_pos e];rfl
 ·rw[if_neg e];exact this
def OL{a0 a2 a3}:∀{log:List LG}{n}{ks}{l}{o4 o5},dB n ks l->n+log.length<=100000->fA λks' l' o4' o5'=>eQ (dB (n+log.length) ks' l') (jY (jc [] 4) qc (log.map e7) [a0,some<|.dT true ks l,a2,a3,o4,o5]=some (.nx [a0,some<|.dT true ks' l',a2,a3,o4',o5'])):=by
 intro log
 induction log with
 | nil=>
  intro n ks l o4 o5 h _;exact#v[ks,l,o4,o5,h,rfl]
 | cons x log b=>
  intro n ks l o4 o5 h c;rw[M3] at c;have a:=h.v [.str x.2.2.kd,.str x.2.2.nm];generalize dR ks l [.str x.2.2.kd,.str x.2.2.nm]=g at a;let[ks',l',o4',o5',d,e]:=b (o4:=some<|e7 x) (o5:=some<|.kt [.str x.2.2.kd,.str x.2.2.nm]) (h.put [.str x.2.2.kd,.str x.2.2.nm]<|g+x.2.2.gt) ∅;refine#v[ks',l',o4',o5',by rw[M3,show n+(log.length+1)=n+1+log.length by lia];exact d,?_];have f:jd (e7 x) (.int 3)=some (.str x.2.2.kd):=rfl;have i:jd (e7 x) (.int 4)=some (.str x.2.2.nm):=rfl;have j:jd (e7 x) (.int 6)=some (.int x.2.2.gt):=rfl;have k:bW ks.length=true:=jb (by have:=h.m;lia);rw[L5,fK rfl ?_,e];simp[qc,f,i,j,a,k]
def ON:∀{rs:List RD}{n}{ks}{l}{o2 o3 o4 o5},(∀ r∈rs,eI Ps r)->dB n ks l->n+2400*rs.length<=100000->s9 λm ks' l' o2' o3' o4' o5'=>eQ (dB m ks' l') (jY (gT 2<|gC (jc [] 2)<|gC (jc [] 3) gN) qd (rs.map yC) [a0,some<|.dT true ks l,o2,o3,o4,o5]=some (.nx [a0,some<|.dT true ks' l',o2',o3',o4',o5'])):=by
 intro rs
 induction rs with
 | nil=>
  intro n ks l o2 o3 o4 o5 _ h _;exact#v[n,ks,l,o2,o3,o4,o5,h,rfl]
 | cons r rs b=>
  intro n ks l o2 o3 o4 o5 a h c;rw[M3] at c;have p:=(a r<|by simp).l;let[d,l1,f,g,i,j]:=OL (a0:=a0) (a2:=some<|Yi r.bs r.ln r.ws) (a3:=‹r.log.map e7›) (log:=r.log) (o4:=o4) (o5:=o5) h ∅;let[m,ks',l',o2',o3',o4',o5',k,e]:=b (o2:=some<|Yi r.bs r.ln r.ws) (o3:=‹r.log.map e7›) (o4:=f) (o5:=g) (λq o=>a q<|by simp[o]) i ∅;refine#v[m,ks',l',o2',o3',o4',o5',k,?_];rw[L5,fK rfl ?_,e];simp[qd,Ja r.log,Kv r.log,j]
def zq{Ps}{rs:List RD}(a:∀ r∈rs,eI Ps r)(g:rs.length<=10):dF λm ks l=>eQ (dB m ks l) (qh [.lst false<|rs.map yC]=some (.dT true ks l)):=by
 let[m,ks,l,b,c,d,f,h,e]:=ON (a0:=‹rs.map yC›) (n:=0) (ks:=[]) (l:=[]) (o2:=none) (o3:=none) (o4:=none) (o5:=none) a #v[rfl,N0 _,λ_=>rfl] ∅;refine#v[m,ks,l,h,?_];simp[qh,jx,VC,xV rs,sY rs,e]
def mW(ks:List KA)(l:List D)(k:KA):Int:=match qv ks l k with
 | some (.int i)=>i
 | _=>0
structure dj(N:Nat)(ks:List KA)(l:List D):Prop where
 n:ks.length=l.length
 m:ks.length<=N
 v:∀ k,(qv ks l k).getD (.int 0)=.int (mW ks l k)
theorem zD:∀{ks}{l},ks.length=l.length->a∈ks->qv ks (wj ks l a d) k=if k=a then some d else qv ks l k
 | [],_,_,h=>by cases h
 | _::_,[],h,_=>by simp at h
 | x::ks,y::l,b,h=>by
  rw[wj,qv,qv];by_cases e:x=k
  ·subst e;rw[if_pos rfl,if_pos rfl];by_cases e2:x=a
   ·rw[if_pos e2,if_pos e2]
   ·rw[if_neg e2,if_neg e2]
  ·rw[if_neg e,if_neg e];by_cases c:a∈ks
   ·exact zD ⇑b c
   ·have g:a=x:=by
     rcases M5.mp h with h | h
     ·exact h
     ·exact absurd h c
    subst g;have:∀{ks}{l},ks.length=l.length->¬ a∈ks->wj ks l a d=l:=by
     intro ks
     induction ks with
     | nil=>intro l b _;cases l with
      | nil=>rfl
      | cons _ _=>simp at b
     | cons x ks i=>intro l b f;cases l with
      | nil=>simp at b
      | cons y l=>
       rw[wj,if_neg<|λe=>f<|by rw[e];exact L7,i ⇑b (λh=>f<|L6 _ h)]
    rw[this ⇑b c,if_neg<|λz=>e z.symm]
theorem ze:∀{ks}{l},ks.length=l.length->¬ a∈ks->qv (ks++[a]) (l++[d]) k=if k=a then some d else qv ks l k
 | [],[],_,_=>by
  show(if a=k then some d else qv [] [] k)=_;by_cases e:a=k
  ·subst e;simp
  ·rw[if_neg e,if_neg<|λz=>e z.symm]
 | [],_::_,h,_=>by simp at h
 | _::_,[],h,_=>by simp at h
 | x::ks,y::l,b,h=>by
  rw[List.cons_append,List.cons_append,qv,qv,ze ⇑b (λz=>h<|L6 _ z)];by_cases e:x=k
  ·subst e;rw[if_pos rfl,if_pos rfl,if_neg<|λz=>h<|by rw[z];exact L7]
  ·rw[if_neg e,if_neg e]
def OQ(b:ks.length=l.length):qv (ki ks l a d).1 (ki ks l a d).2 k=if k=a then some d else qv ks l k:=by
 unfold ki;by_cases h:a∈ks
 ·rw[if_pos h];exact zD b h
 ·rw[if_neg h];exact ze b h
def Cz(b:ks.length=l.length):(ki ks l a d).1.length=(ki ks l a d).2.length/\(ki ks l a d).1.length<=ks.length+1:=by
 unfold ki;by_cases h:a∈ks
 ·rw[if_pos h];exact#v[by rw[Qr a d b];exact b,Nat.le_succ _]
 ·rw[if_neg h];exact#v[by simp[b],by simp]
def dj.put{n}{ks}{l}(h:dj n ks l)(a)(i):dj (n+1) (ki ks l a<|.int i).1 (ki ks l a<|.int i).2:=by
 refine#v[(Cz h.n).1,N8 (Cz h.n).2 (Nat.succ_le_succ h.m),λk=>?_];have:=h.v k;unfold mW at this ⊢;rw[OQ h.n];by_cases e:k=a
 ·rw[if_pos e];rfl
 ·rw[if_neg e];exact this
def OR{a0 a2 a3 a4}:∀{S:List W2}{n}{ks}{l}{o5 o6},dj n ks l->n+S.length<=100000->fA λks' l' o5' o6'=>eQ (dj (n+S.length) ks' l') (jY (gT 2<|gC (jc [] 5)<|gC (jc [] 6) gN) kh (S.map e2) [a0,some<|.dK true ks l,a2,a3,a4,o5,o6]=some (.nx [a0,some<|.dK true ks' l',a2,a3,a4,o5',o6'])):=by
 intro S
 induction S with
 | nil=>
  intro n ks l o5 o6 h _;exact#v[ks,l,o5,o6,h,rfl]
 | cons x S c=>
  intro n ks l o5 o6 h d;rw[M3] at d;have b:=h.v<|.str x.1;generalize mW ks l (.str x.1)=g at b;have a:xB [.int x.2,.int 1]=some (.int<|if 1<x.2 then 1 else x.2):=rfl;generalize(if 1<x.2 then 1 else x.2)=q at a;let[ks',l',o5',o6',f,e]:=c (o5:=some<|.str x.1) (o6:=some<|.int x.2) (h.put (.str x.1)<|g+q) ∅;refine#v[ks',l',o5',o6',by rw[M3,show n+(S.length+1)=n+1+S.length by lia];exact f,?_];have i:bW ks.length=true:=jb (by have:=h.m;lia);have j:KI (.dK true ks l) (.str x.1) (.int 0)=some (.int g):=by
   show some ((qv ks l<|.str x.1).getD (.int 0))=_;rw[b]
  rw[L5,fK rfl ?_,e];have k:vT (.str x.1)=some (.str x.1):=rfl;simp[kh,j,a,i,k]
theorem zQ:∀{Q}{bs}{n}{ks}{l}{o4 o5 o6},fy B Q bs->(∀ p∈Q,∃ X,bP X p)->dj n ks l->n+10*bs.length<=100000->oT λm ks' l' o4' o5' o6'=>cX (dj m ks' l') (m<=n+10*bs.length)<|jY (jc [] 4) kc (bs.map<|ku false) [a0,some<|.dK true ks l,a2,a3,o4,o5,o6]=some (.nx [a0,some<|.dK true ks' l',a2,a3,o4',o5',o6'])
 | _,[],n,ks,l,o4,o5,o6,_,_,h,_=>#v[n,ks,l,o4,o5,o6,h,by simp,rfl]
 | Q,b::bs,n,ks,l,o4,o5,o6,a,d,h,f=>by
  rw[M3] at f;cases a with
  | @cons p _ v _ a c=>
   let[X,g]:=d p (by simp);have w:b.R.length<=10:=by
    have:=congrArg List.length a.r1;rw[L1,L1] at this;have:=g.told2
    lia
   let[i,l1,j,k,o,r]:=OR (a0:=a0) (a2:=a2) (a3:=a3) (a4:=some<|ku false b) (S:=b.R) (o5:=o5) (o6:=o6) h ∅;let[m,ks',l',o4',o5',o6',s,x,e]:=zQ (o4:=some<|ku false b) (o5:=j) (o6:=k) c (λq t=>d q<|by simp[t]) o ∅;refine#v[m,ks',l',o4',o5',o6',s,by rw[M3];lia,?_];rw[L5,fK rfl ?_,e];have u:jd (ku false b) (.int 2)=‹b.R.map e2›:=rfl;simp[kc,u,ye b.R,JZ b.R,r]
def fy.len:∀{Q}{bs},fy B Q bs->bs.length=Q.length
 | _,_,.nil=>rfl
 | _,_,.cons _ t=>by rw[M3,M3,t.len]
def OS(a:cD Ps):∀{rs:List RD}{n}{ks}{l}{o2 o3 o4 o5 o6},(∀ r∈rs,eI Ps r)->dj n ks l->n+60*rs.length<=100000->mZ λm ks' l' o2' o3' o4' o5' o6'=>eQ (dj m ks' l') (jY (gT 2<|gC (jc [] 2)<|gC (jc [] 3) gN) vY (rs.map yC) [a0,some<|.dK true ks l,o2,o3,o4,o5,o6]=some (.nx [a0,some<|.dK true ks' l',o2',o3',o4',o5',o6'])):=by
 intro rs
 induction rs with
 | nil=>
  intro n ks l o2 o3 o4 o5 o6 _ h _;exact#v[n,ks,l,o2,o3,o4,o5,o6,h,rfl]
 | cons r rs f=>
  intro n ks l o2 o3 o4 o5 o6 c h g;rw[M3] at g;let[B,d]:=(c r<|by simp).b;have bl:=d.len;have l2:=a.len2;let[z,i,l1,j,k,o,s,A,t]:=zQ (a0:=a0) (a2:=some<|Yi r.bs r.ln r.ws) (a3:=‹r.log.map e7›) (o4:=o4) (o5:=o5) (o6:=o6) d (λp u=>by let[X,v,_]:=a.ok p u;exact#v[X,v]) h ∅;let[m,ks',l',o2',o3',o4',o5',o6',w,e]:=f (o2:=some<|Yi r.bs r.ln r.ws) (o3:=‹r.log.map e7›) (o4:=j) (o5:=k) (o6:=o) (λq x=>c q<|by simp[x]) s ∅;refine#v[m,ks',l',o2',o3',o4',o5',o6',w,?_];rw[L5,fK rfl ?_,e];have y:jd (Yi r.bs r.ln r.ws) (.int 0)=‹r.bs.map (ku false)›:=rfl;simp[vY,y,VZ r.bs,Y5 r.bs,t]
def OT{Ps}(a:cD Ps){rs:List RD}(b:∀ r∈rs,eI Ps r)(j:rs.length<=10):dF λm ks l=>eQ (dj m ks l) (vI [.lst false<|rs.map yC]=some (.dK true ks l)):=by
 let[m,ks,l,c,d,f,g,i,h,e]:=OS (a0:=‹rs.map yC›) a (n:=0) (ks:=[]) (l:=[]) (o2:=none) (o3:=none) (o4:=none) (o5:=none) (o6:=none) b #v[rfl,N0 _,λ_=>rfl] ∅;refine#v[m,ks,l,h,?_];simp[vI,jx,J7,xV rs,sY rs,e]
def OU{Ps}(a:cD Ps){rs:List RD}(h:∀ r∈rs,eI Ps r):dF λd B bs=>cX (fy B Ps bs) (vB [.lst false<|Ps.map<|jB false,.lst false<|rs.map yC]=some d) (jd (fz d) (.int 0)=‹bs.map (ku false)›):=by
 by_cases c:rs=[]
 ·subst c;refine#v[iJ Ps,0,Ps.map gG,sZ λp i=>by let[X,j,_]:=a.ok p i;exact#v[X,j],?_,by rw[Cw];rfl];simp[vB,jx,qK,vP a,kY a false,uD a]
 ·have o:=List.length_pos_iff.mpr c;let[B,g]:=(h (rs[rs.length-1]'∅)<|List.getElem_mem _).b;generalize k:rs[rs.length-1]'∅=r at g;refine#v[Yi r.bs r.ln r.ws,B,r.bs,g,?_,by rw[uE];rfl];have l:jd (.lst false<|rs.map yC) (.int<|-1)=some (yC r):=by
   show atI (rs.map yC) (-1)=_;have:dI (rs.map yC).length (-1)=some (rs.length-1):=by
    unfold dI;simp
    lia
   unfold atI;rw[this];show(rs.map yC)[rs.length-1]?=_;rw[List.getElem?_map,E1 ∅,k];rfl
  have m:jd (yC r) (.int 0)=some (Yi r.bs r.ln r.ws):=rfl;have e:(((rs.map yC).length:Nat):Int)=rs.length:=by rw[L1]
  have f:0<rs.length:=by lia
  have n:xK (.int 1)=some (.int<|-1):=rfl;simp[vB,jx,qK,e,f,c,n,l,m,VU r.bs r.ln r.ws]
structure fZ where
 p:List Nat
 c:List Nat
 a:Int
 b:Int
 d:Int
 e:Int
 f:Int
 g:Int
 h:Int
 ow:Int
 sz:Int
 ms:Int
def yp(r:fZ):D:=.tup [.str r.p,.str r.c,.int r.a,.int r.b,.int r.d,.int r.e,.int r.f,.int r.g,.int r.h,.int r.ow,.int r.sz,.int r.ms]
def OV(y:bP O p)  (m:dB n ks l)  (q:dj n2 ks2 l2)  (i:c∈p.C)  (z:A.length<=1000) :
  dF λr o11' o12'=>kM [a0,a1,a2,some<|.dT true ks l,some<|.dK true ks2 l2,↑(A.map yp),some<|jB false p,a7,some<|bY true p.C f,some<|bY true p.C g,some<|.str c,o11,o12] =
   some (.nx [a0,a1,a2,some<|.dT true ks l,some<|.dK true ks2 l2,↑((A++[r]).map yp),some<|jB false p,a7,some<|bY true p.C f,some<|bY true p.C g,some<|.str c,o11',o12']):=by
 have s:jd (jB false p) (.int 0)=some (.str p.nm):=rfl;have j:KI (.dK true ks2 l2) (.str c) (.int 0)=some (.int<|mW ks2 l2<|.str c):=by
  show some ((qv ks2 l2<|.str c).getD (.int 0))=_;rw[q.v]
 have B:jh vb (.tup [.str [101,97,116]])=some (.tup<|[[112,97,114,116],[112,97,121],[115,104,97,114,101],[114,101,112,97,121],[114,101,115,116],[103,117,97,114,100],[101,97,116]].map D.str):=rfl;have b:jU (jc [] 0) qT (pF<|YR (pV 1) (pV 0) (pV 2)<|pI 0) ([[112,97,114,116],[112,97,121],[115,104,97,114,101],[114,101,112,97,121],[114,101,115,116],[103,117,97,114,100],[101,97,116]].map D.str) [none,some<|.dT true ks l,some<|.str c]=some ([[112,97,114,116],[112,97,121],[115,104,97,114,101],[114,101,112,97,121],[114,101,115,116],[103,117,97,114,100],[101,97,116]].map λk=>D.int<|dR ks l [.str k,.str c]):=by
  refine jA rfl (λU=>∃ o,U=[o,some<|.dT true ks l,some<|.str c]) ?_ #v[none,rfl];rintro k E U ⟨o,rfl⟩;refine#v[[some<|.str k,some<|.dT true ks l,some<|.str c],rfl,?_,_,rfl];have t:vT (.str k)=some (.str k):=rfl;have u:vT (.str c)=some (.str c):=rfl;simp[t,u,m.v [.str k,.str c]]
 have a:jU (jc [] 0) qT (pF<|YR (pV 1) (pV 0) (pV 2)<|pI 0) [.str [112,97,114,116],.str [112,97,121],.str [115,104,97,114,101],.str [114,101,112,97,121],.str [114,101,115,116],.str [103,117,97,114,100],.str [101,97,116]] [none,some<|.dT true ks l,some<|.str c]=some [.int<|dR ks l [.str [112,97,114,116],.str c],.int<|dR ks l [.str [112,97,121],.str c],.int<|dR ks l [.str [115,104,97,114,101],.str c],.int<|dR ks l [.str [114,101,112,97,121],.str c],.int<|dR ks l [.str [114,101,115,116],.str c],.int<|dR ks l [.str [103,117,97,114,100],.str c],.int<|dR ks l [.str [101,97,116],.str c]]:=b;have d:jh vb (.tup [.str [101,97,116]])=some (.tup [.str [112,97,114,116],.str [112,97,121],.str [115,104,97,114,101],.str [114,101,112,97,121],.str [114,101,115,116],.str [103,117,97,114,100],.str [101,97,116]]):=rfl;generalize dR ks l [.str [112,97,114,116],.str c]=v0 at a;generalize dR ks l [.str [112,97,121],.str c]=v1 at a;generalize dR ks l [.str [115,104,97,114,101],.str c]=v2 at a;generalize dR ks l [.str [114,101,112,97,121],.str c]=v3 at a;generalize dR ks l [.str [114,101,115,116],.str c]=v4 at a;generalize dR ks l [.str [103,117,97,114,100],.str c]=v5 at a;generalize dR ks l [.str [101,97,116],.str c]=v6 at a;generalize mW ks2 l2 (.str c)=v7 at j;have w:Kb [.lst true [.int v0,.int v1,.int v2,.int v3,.int v4,.int v5,.int v6]]=some (.tup [.int v0,.int v1,.int v2,.int v3,.int v4,.int v5,.int v6]):=rfl;have e:jh (.tup [.str p.nm,.str c]) (.tup [.int v0,.int v1,.int v2,.int v3,.int v4,.int v5,.int v6])=some (.tup [.str p.nm,.str c,.int v0,.int v1,.int v2,.int v3,.int v4,.int v5,.int v6]):=rfl;have h:jh (.tup [.str p.nm,.str c,.int v0,.int v1,.int v2,.int v3,.int v4,.int v5,.int v6]) (.tup [.int<|g c,.int<|f c,.int v7])=some (.tup [.str p.nm,.str c,.int v0,.int v1,.int v2,.int v3,.int v4,.int v5,.int v6,.int<|g c,.int<|f c,.int v7]):=rfl;have x:bW (A.map yp).length=true:=yI ∅;refine#v[#v[p.nm,c,v0,v1,v2,v3,v4,v5,v6,g c,f c,v7],some<|.lst true [.int v0,.int v1,.int v2,.int v3,.int v4,.int v5,.int v6],some<|.tup [.int<|g c,.int<|f c,.int v7],?_];rw[N6];show _=some (cf.nx [_,_,_,_,_,↑(A.map yp++[.tup [.str p.nm,.str c,.int v0,.int v1,.int v2,.int v3,.int v4,.int v5,.int v6,.int<|g c,.int<|f c,.int v7]]),_,_,_,_,_,_,_]);generalize A.map yp=AA at *;apply sq (by simp[d,hit,jq,a,jb];rfl);apply sq (by simp[yk (o:=true) (f:=f) i,yk (o:=true) (f:=g) i,j,jb];rfl);simp[s,w,e,h,x,jb]
def OW(c:bP O p)  (d:dB n ks l)  (h:dj n2 ks2 l2)  : ∀{N:W1}{A}{o10 o11 o12},(∀ w∈N,w∈p.C)->A.length+N.length<=1000->
  fA λ(R:List fZ) (o10' o11' o12':Option D)=>eQ (R.length=N.length) (jY (jc [] 10) kM (N.map D.str) [a0,a1,a2,some<|.dT true ks l,some<|.dK true ks2 l2,↑(A.map yp),some<|jB false p,a7,some<|bY true p.C f,some<|bY true p.C g,o10,o11,o12] =
   some (.nx [a0,a1,a2,some<|.dT true ks l,some<|.dK true ks2 l2,↑((A++R).map yp),some<|jB false p,a7,some<|bY true p.C f,some<|bY true p.C g,o10',o11',o12'])):=by
 intro N
 induction N with
 | nil=>
  intro A o10 o11 o12 _ _;exact#v[[],o10,o11,o12,rfl,by rw[N1];rfl]
 | cons w N i=>
  intro A o10 o11 o12 b j;rw[M3] at j;let[r,k,m,e]:=OV c d h (b w<|by simp) (A:=A) ∅;let[R,o10',o11',o12',o,a]:=i (A:=A++[r]) (λz q=>b z<|by simp[q]) (by simp;lia);refine#v[r::R,o10',o11',o12',by rw[M3,o,M3],?_];rw[L5,fK rfl e,a,List.append_assoc,List.singleton_append]
def iK(Ps:List bQ):Nat:=(Ps.map λp=>p.told.length).sum
def OX(y:dB n ks l)  (z:dj n2 ks2 l2)  : ∀{Q}{bs}{A}{o6 o7 o8 o9 o10 o11 o12:Option D},fy B Q bs->(∀ p∈Q,∃ X,bP X p)->A.length+10*Q.length<=1000->
  mZ λ(R:List fZ) (o6' o7' o8' o9' o10' o11' o12':Option D)=>eQ (R.length=iK Q) (jY (gT 2<|gC (jc [] 6)<|gC (jc [] 7) gN) kP (JV (Q.map<|jB false)<|bs.map<|ku false) [a0,a1,a2,some<|.dT true ks l,some<|.dK true ks2 l2,↑(A.map yp),o6,o7,o8,o9,o10,o11,o12] =
   some (.nx [a0,a1,a2,some<|.dT true ks l,some<|.dK true ks2 l2,↑((A++R).map yp),o6',o7',o8',o9',o10',o11',o12'])):=by
 intro Q
 induction Q with
 | nil=>
  intro bs A o6 o7 o8 o9 o10 o11 o12 h _ _;cases h;exact#v[[],o6,o7,o8,o9,o10,o11,o12,rfl,by rw[N1];rfl]
 | cons p Q E=>
  intro bs A o6 o7 o8 o9 o10 o11 o12 h u F;cases h with
  | @cons _ b _ bs a t=>
   rw[M3] at F;let[X,d]:=u p (by simp);have T:=d.told2;have G:=congrArg List.length a.s1;have H:=congrArg List.length a.w1;rw[L1,L1] at G H;have i:yZ [.lst false<|b.S.map e2]=some (bY true p.C<|fnOf b.S):=by
    have:=yo (o:=false) (by rw[a.s1];exact d.toldn) ∅;rw[a.s1] at this;exact this
   have j:yZ [.lst false<|b.W.map e2]=some (bY true p.C<|fnOf b.W):=by
    have:=yo (o:=false) (by rw[a.w1];exact d.toldn) ∅;rw[a.w1] at this;exact this
   have k:jU (jc [] 0) qT (pF<|p2 jd (pV 0)<|pI 0) (p.told.map e3) [none]=some (p.C.map D.str):=by
    rw[U3];refine jA rfl (λY=>∃ o,Y=[o]) ?_ #v[none,rfl];rintro x U Y ⟨o,rfl⟩;refine#v[[some<|e3 x],rfl,?_,_,rfl];have:=qB (t:=x);simp[this]
   let[v,m,r,s,c,I]:=OW d y z (f:=fnOf b.S) (g:=fnOf b.W) (a0:=a0) (a1:=a1) (a2:=a2) (a7:=some<|ku false b) (A:=A) (o10:=o10) (o11:=o11) (o12:=o12) (λw J=>J) (by rw[L1];lia);rw[L1] at c;let[R,o6',o7',o8',o9',o10',o11',o12',K,e]:=E (A:=A++v) (o6:=some<|jB false p) (o7:=some<|ku false b) (o8:=some<|bY true p.C<|fnOf b.S) (o9:=some<|bY true p.C<|fnOf b.W) (o10:=m) (o11:=r) (o12:=s) t (λq L=>u q<|by simp[L]) (by rw[N5];lia);refine#v[v++R,o6',o7',o8',o9',o10',o11',o12',by rw[N5,c,K];simp[iK],?_];rw[L5,L5,JV,fK rfl ?_,e,List.append_assoc];have M:jd (jB false p) (.int 1)=‹p.told.map e3›:=rfl;have b0:jd (ku false b) (.int 0)=‹b.S.map e2›:=rfl;have N:jd (ku false b) (.int 1)=‹b.W.map e2›:=rfl;have O:=qk p.C;have ll:bW (p.told.map e3).length=true:=yI ∅;have P:=qf p.told;generalize p.told.map e3=TT,p.C.map D.str=NN at *;simp[kP,M,b0,N,i,j,ll,P,xz p.told,jq,k,yt p.C,O,I]
def CA{Ps}(a:cD Ps){ds:List Dy}(hd:∀ d∈ds,c9 Ps.length d.1 d.2)(o:ds.length<=6):∃ R:List fZ,R.length=iK Ps/\yr [.lst false<|Ps.map<|jB false,.lst false<|ds.map qw]=↑(R.map yp):=by
 let[b,q,r,c]:=OK a hd o;let[n,J,l,s,t]:=zq c ∅;let[K,u,l2,v,w]:=OT a c ∅;let[d,B,bs,j,x,y]:=OU a c;have z:=a.len2;have bl:=j.len;let[R,C,D,E,F,f,g,h,G,e]:=OX s v (a0:=‹Ps.map (jB false)›) (a1:=‹ds.map qw›) (a2:=‹b.map yC›) (A:=[]) (o6:=none) (o7:=none) (o8:=none) (o9:=none) (o10:=none) (o11:=none) (o12:=none) j (λp H=>by let[X,I,_]:=a.ok p H;exact#v[X,I]) (by simp;lia);refine#v[R,G,?_];rw[X9,List.map_nil] at e;have k:=kY a false;have m:=Vt ds;have i:fT 2 [.lst false<|Ps.map<|jB false,.lst false<|bs.map<|ku false]=some (JV (Ps.map<|jB false)<|bs.map<|ku false):=by rw[mQ rfl rfl<|by simp;lia,k,Y5]
 simp[yr,jx,Yy,vP a,k,m,jk _ m,q,xV b,sY b,t,w,x,y,VZ bs,i,e,jb]
def mX(r:fZ):Int:=[r.a,r.b,r.d,r.e,r.f,r.g].sum
def gd(q:fZ×fZ):D:=.tup [.str q.1.p,.str q.1.c,.int<|mX q.1,.int<|mX q.2,.int q.1.sz,.int q.2.sz]
def CB(R:List fZ):frzs (R.map yp)=true:=yn (λ_=>rfl) _
section
variable (r:fZ)
def OY:jd (yp r) (.int 0)=some (.str r.p):=rfl
def OZ:jd (yp r) (.int 1)=some (.str r.c):=rfl
def CD:jd (yp r) (.int 10)=some (.int r.sz):=rfl
def CF:rH (some 2) (some 8) (yp r)=some (.tup [.int r.a,.int r.b,.int r.d,.int r.e,.int r.f,.int r.g]):=rfl
def CG:mP [.tup [.int r.a,.int r.b,.int r.d,.int r.e,.int r.f,.int r.g]]=some (.int<|mX r):=rfl
def CH:frz (yp r)=true:=rfl
end
def O5(q):vW [yp q.1,yp q.2]=some (gd q):=by
 show _=some (D.tup [.str q.1.p,.str q.1.c,.int<|mX q.1,.int<|mX q.2,.int q.1.sz,.int q.2.sz]);simp[vW,jx,VN,OY q.1,OZ q.1,CD q.1,CD q.2,CF q.1,CF q.2,CG q.1,CG q.2,jb]
theorem CI:∀(R S:List fZ),JV (R.map yp) (S.map yp)=(R.zip S).map λq=>D.tup [yp q.1,yp q.2]
 | [],_=>by simp[JV]
 | _::_,[]=>by simp[JV]
 | r::R,s::S=>by rw[L5,L5,JV,CI R S,U9,L5]
def JH{PP a b e}{R S:List fZ}(f:frzs PP=true)(g:frzs a=true)(h:frzs b=true)(m:yG [.lst false PP,.lst false a,.lst false b]=↑e)(t:R.length<=100)(n:R.length<=S.length)(p:yr [.lst false PP,.lst false a]=↑(R.map yp))(e2:yr [.lst false PP,.lst false<|bV e]=↑(S.map yp)):vQ [.lst false PP,.lst false a,.lst false b]=↑((R.zip S).map gd):=by
 have c:jU (gT 2<|gC (jc [] 0)<|gC (jc [] 1) gN) qT (js vW #[pV 0,pV 1]) (JV (R.map yp)<|S.map yp) [none,none]=some ((R.zip S).map gd):=by
  rw[CI];refine jA rfl (λw=>∃ o i,w=[o,i]) ?_ #v[none,none,rfl];rintro q u w ⟨o,i,rfl⟩;refine#v[[some<|yp q.1,some<|yp q.2],rfl,?_,_,_,rfl];have j:=CH q.1;have k:=CH q.2;simp[j,k,uc _ j,uc _ k,O5 q]
 have r1:=CB R;have l:=jk _ r1;have s1:=CB S;have s2:=jk _ s1;have r:bW (JV (R.map yp)<|S.map yp).length=true:=jb (by rw[KK,L1,L1];lia);have d:fT 2 [.lst false<|R.map yp,.lst false<|S.map yp]=some (JV (R.map yp)<|S.map yp):=by rw[mQ rfl rfl<|by simp[n],l,s2]
 have s:yh (S.map yp)=true:=by rw[yz,List.all_map,List.all_eq_true];intro x _;rfl
 simp[vQ,jx,Kh,f,g,h,jk _ f,jk _ g,jk _ h,p,m,e2,r1,l,s1,s2,s,d,r,jq,c,jb]
def cV(w:Rw):List KA:=[.int w.1,.str w.2.1]
def dD(w:Rw):D:=.int w.2.2
def eN{w}{d u}:cV w=[.int d,.str u]↔w.1=d/\w.2.1=u:=by simp[cV]
def jy(w)(W d u):j8 (w::W) d u=(if w.1=d/\w.2.1=u then w.2.2 else 0)+j8 W d u:=by
 unfold j8;by_cases h:w.1=d/\w.2.1=u
 ·rw[if_pos h];simp[List.filter_cons,iF,h.1,h.2]
 ·rw[if_neg h];have:iF d u w=false:=by
   unfold iF;by_cases a:w.1=d
   ·simp[show ¬ w.2.1=u from λz=>h #v[a,z]]
   ·simp[a]
  simp[List.filter_cons,this]
def O6{T}{d u}(h:[.int d,.str u]∉T.map cV):j8 T d u=0:=by
 induction T with
 | nil=>rfl
 | cons w T a=>
  rw[L5,M5,not_or] at h;rw[jy,if_neg λz=>h.1 (eN.mpr z).symm,a h.2];rfl
def V8{T U}(h:T.Perm U)(d u):j8 T d u=j8 U d u:=by
 induction h with
 | nil=>rfl
 | cons w _ c=>rw[jy,jy,c]
 | swap w v l=>rw[jy,jy,jy,jy];lia
 | trans _ _ a b=>exact a.trans b
def O7{T}(nd:(T.map cV).Nodup)(d u):(JA (T.map cV) (T.map dD) [.int d,.str u]).getD (.int 0)=.int (j8 T d u):=by
 induction T with
 | nil=>rfl
 | cons w T a=>
  rw[L5,List.nodup_cons] at nd;rw[L5,L5,JA,jy];by_cases h:cV w=[.int d,.str u]
  ·rw[if_pos h,if_pos<|eN.mp h,O6<|h▸nd.1,Int.add_zero];rfl
  ·rw[if_neg h,if_neg<|λz=>h<|eN.mpr z,a nd.2,Int.zero_add]
theorem CJ(a)(x):∀ T:List Rw,xZ (T.map cV) (T.map dD) a (.int x)=(T.map λw=>if cV w=a then(w.1,w.2.1,x) else w).map dD/\T.map cV=(T.map λw=>if cV w=a then(w.1,w.2.1,x) else w).map cV
 | []=>#v[rfl,rfl]
 | w::T=>by
  let[b,c]:=CJ a x T;constructor
  ·rw[L5,L5,xZ,b,L5,L5];split<;>rfl
  ·rw[L5,L5,L5,<- c];split<;>rfl
def O8{T:List Rw}(nd:(T.map cV).Nodup)(d u)(x):∃ T':List Rw,(kj (T.map cV) (T.map dD) [.int d,.str u]<|.int x)=(T'.map cV,T'.map dD)/\(T'.map cV).Nodup:=by
 unfold kj;by_cases h:[.int d,.str u]∈T.map cV
 ·rw[if_pos h];let[i,c]:=CJ [.int d,.str u] x T;exact#v[_,Prod.ext c i,by rw[<- c];exact nd]
 ·rw[if_neg h];refine#v[T++[(d,u,x)],by simp[cV,dD],?_];rw[N6,X3];refine#v[nd,by simp,λa f b g e=>h ?_];rw[List.map_singleton,M9] at g;rw[e,g] at f;exact f
structure Tb(V T:List Rw):Prop where
 nd:(T.map cV).Nodup
 s:d6 V (T.map cV) (T.map dD)
def O9:∀{W V T}{o2 o3 o4},V.length+W.length<=1000->Tb V T->∃ T' o2' o3' o4',Tb (V++W) T'/\jY (gT 3<|gC (jc [] 2)<|gC (jc [] 3)<|gC (jc [] 4) gN) kn (W.map vE) [a0,some<|.dT true (T.map cV)<|T.map dD,o2,o3,o4]=some (.nx [a0,some<|.dT true (T'.map cV)<|T'.map dD,o2',o3',o4']):=by
 intro W
 induction W with
 | nil=>
  intro V T o2 o3 o4 _ h;exact#v[T,o2,o3,o4,by rw[N1];exact h,rfl]
 | cons w W c=>
  intro V T o2 o3 o4 d h;rw[M3] at d;have b:=h.s.add w;let[a,eT,f]:=O8 h.nd w.1 w.2.1<|j8 V w.1 w.2.1+w.2.2;rw[eT] at b;let[T',p2,p3,g,i,e]:=c (o2:=some<|.int w.1) (o3:=some<|.str w.2.1) (o4:=some<|.int w.2.2) (by simp;lia) #v[f,b];refine#v[T',p2,p3,g,by rw[show V++w::W=V++[w]++W by simp];exact i,?_];have j:(gT 3<|gC (jc [] 2)<|gC (jc [] 3)<|gC (jc [] 4) gN) (vE w) [a0,some<|.dT true (T.map cV)<|T.map dD,o2,o3,o4]=some [a0,some<|.dT true (T.map cV)<|T.map dD,some<|.int w.1,some<|.str w.2.1,some<|.int w.2.2]:=rfl;have k:bW (T.map cV).length=true:=jb (by have:=h.s.m;lia);have l:kn [a0,some<|.dT true (T.map cV)<|T.map dD,some<|.int w.1,some<|.str w.2.1,some<|.int w.2.2]=some (.nx [a0,some<|.dT true (a.map cV)<|a.map dD,some<|.int w.1,some<|.str w.2.1,some<|.int w.2.2]):=by
   have n:(a.map cV)=(kj (T.map cV) (T.map dD) [.int w.1,.str w.2.1]<|.int<|j8 V w.1 w.2.1+w.2.2).1:=by rw[eT]
   have e2:(a.map dD)=(kj (T.map cV) (T.map dD) [.int w.1,.str w.2.1]<|.int<|j8 V w.1 w.2.1+w.2.2).2:=by rw[eT]
   rw[n,e2];have o:=h.s.v w.1 w.2.1;generalize T.map cV=ks at *;simp[kn,o,k]
  rw[L5,jQ,j,L4,l,L4,JG,e]
theorem z6:∀ T:List Rw,lx (T.map cV) (T.map dD)=some (T.map λw=>(w.1,S w.2.1,w.2.2))
 | []=>rfl
 | w::T=>by
  show(lx (T.map cV)<|T.map dD).bind (λr=>some<|(w.1,S w.2.1,w.2.2)::r)=_;rw[z6 T];rfl
theorem Q0:∀ T:List Rw,Vh (λ_ _ _=>some true) (λa b n=>.tup [d5 a,d5 b,.int n]) (T.map cV) (T.map dD)=some (T.map vE)
 | []=>rfl
 | w::T=>by
  show(Vh _ _ (T.map cV)<|T.map dD).bind (λr=>some<|vE w::r)=_;rw[Q0 T];rfl
def CK{s}(lt)(f)(d:s)(T:List Rw):J6 lt (T.map f) d=((eD lt T.length).map λi=>T.getD i (0,[],0)).map f:=by
 rw[YU,L1,U3];refine List.map_congr_left λi hi=>?_;simp[List.getD_eq_getElem?_getD,List.mem_range.mp<|db.mem_iff.mp hi]
def uK(lt)(T:List Rw):((eD lt T.length).map λi=>T.getD i (0,[],0)).Perm T:=by
 refine(db.map _).trans ?_;have:(List.range T.length).map (λi=>T.getD i (0,[],0))=T:=by
  apply List.ext_getElem
  ·simp
  ·intro i b a;simp[List.getD_eq_getElem?_getD,E1 a]
 rw[this]
def O_{W}(n:W.length<=60):∃ U:List Rw,Ji [.lst false<|W.map vE]=↑(U.map vE)/\U.length<=W.length/\∀ d u,j8 U d u=j8 W d u:=by
 let[T,g,j,k,h,e]:=O9 (a0:=‹W.map vE›) (W:=W) (V:=[]) (T:=[]) (o2:=none) (o3:=none) (o4:=none) (by simp;lia) #v[List.nodup_nil,#v[rfl,N0 _,λd u=>rfl]];have l:T.length<=W.length:=by have:=h.s.m;simpa using this
 refine#v[(eD (VM<|T.map λw=>(w.1,S w.2.1,w.2.2)) T.length).map λi=>T.getD i (0,[],0),?_,by rw[(uK _ T).length_eq];exact l,λd u=>by
  rw[V8<|uK _ T];have a:=O7 h.nd d u;rw[h.s.v d u] at a;injection a with a;exact a.symm]
 have c:=qj W;have f:=Q0<|(eD (VM<|T.map λw=>(w.1,S w.2.1,w.2.2)) T.length).map λi=>T.getD i (0,[],0);rw[<- (CK (VM<|T.map λw=>(w.1,S w.2.1,w.2.2)) cV [] T),<- (CK (VM<|T.map λw=>(w.1,S w.2.1,w.2.2)) dD .non T)] at f;rw[List.map_nil,List.map_nil] at e;have b:T.length<64:=by lia
 simp[Ji,jx,Ky,c,jk _ c,e,c7,z6 T,b,f]
def Vd(T U)(d u):j8 (T++U) d u=j8 T d u+j8 U d u:=by
 induction T with
 | nil=>rw[X9,show j8 [] d u=0 from rfl,Int.zero_add]
 | cons w T a=>rw[List.cons_append,jy,jy,a];lia
theorem wS{B}{W U}:∀{Y}{d:Int},(∀ e,d<=e->e<d+Y.length->∀ p∈B,j8 U e p.nm=j8 W e p.nm)->xA B U d Y=xA B W d Y
 | [],_,_=>rfl
 | y::Y,d,h=>by
  rw[M3] at h;rw[xA,xA,wS λe g i p b=>h e ∅ ∅ p b];have a:=h d ∅ ∅;congr 2;clear h;generalize y.2=l
  induction B generalizing l with
  | nil=>rfl
  | cons p B c=>
   cases l with
   | nil=>rfl
   | cons v l=>
    rw[yY,yY,a p<|by simp,c<|λq f=>a q<|by simp[f]]
def ie(n:Int)(w:Rw)(M:List Rw):List Rw:=M.take (n%(M.length+1)).toNat++(w.1,w.2.1,n%(w.2.2+1))::M.drop (n%(M.length+1)).toNat++[(w.1,w.2.1,w.2.2-n%(w.2.2+1))]
def Pa(n)(w)(M)(d u):j8 (ie n w M) d u=j8 M d u+j8 [w] d u:=by
 unfold ie
 conv=>rhs;rw[<- List.take_append_drop (n%(M.length+1)).toNat M]
 rw[Vd,Vd,jy,Vd,jy,jy];split<;>lia
def Pb(n)(w)(M):(ie n w M).map vE=(M.map vE).take (n%(M.length+1)).toNat++vE (w.1,w.2.1,n%(w.2.2+1))::(M.map vE).drop (n%(M.length+1)).toNat++[vE (w.1,w.2.1,w.2.2-n%(w.2.2+1))]:=by
 unfold ie;simp[List.map_take,List.map_drop]
def CL(n)(w)(M):(ie n w M).length=M.length+2:=by
 have:=congrArg List.length<|List.take_append_drop (n%(M.length+1)).toNat M;unfold ie;simp at this ⊢
 lia
def Pc{n}{w}{M}(j:0<=w.2.2)(k:M.length<=100){o9}:vm [a0,a1,a2,some<|.int n,a4,↑(M.map vE),some<|.int w.1,some<|.str w.2.1,some<|.int w.2.2,o9]=some (.nx [a0,a1,a2,some<|.int n,a4,↑((ie n w M).map vE),some<|.int w.1,some<|.str w.2.1,some<|.int w.2.2,some<|.int<|n%(w.2.2+1)]):=by
 have l:=U0 n (show 0<((M.length:Int)+1) by lia);have a:=qj M;have c:bW (M.map vE).length=true:=jb (by rw[L1];lia);have e:ji (.int n) (.int<|w.2.2+1)=some (.int<|n%(w.2.2+1)):=jl ∅;have f:ji (.int n) (.int<|M.length+1)=some (.int<|n%(M.length+1)):=jl ∅;have g:=LU (i:=5) (pk:=p2 ji (pV 3)<|p2 jh (bZ Jq #[pV 5])<|pI 1) (p:=yH #[pF<|pV 6,pF<|pV 7,pF<|pV 9]) (ρ:=[a0,a1,a2,some<|.int n,a4,↑(M.map vE),some<|.int w.1,some<|.str w.2.1,some<|.int w.2.2,some<|.int<|n%(w.2.2+1)]) (d:=vE (w.1,w.2.1,n%(w.2.2+1))) rfl (by simp[a,f]) (by simp[jb];rfl) (U2 n<|show((M.length:Int)+1)≠0 by lia) (by rw[L1];lia) c a rfl;rw[vm,zJ];have h:ju (dP<|p2 ji (pV 3)<|p2 jh (pV 8)<|pI 1) (jc [] 9) [a0,a1,a2,some<|.int n,a4,↑(M.map vE),some<|.int w.1,some<|.str w.2.1,some<|.int w.2.2,o9]=some (.nx [a0,a1,a2,some<|.int n,a4,↑(M.map vE),some<|.int w.1,some<|.str w.2.1,some<|.int w.2.2,some<|.int<|n%(w.2.2+1)]):=by simp[e]
 rw[h,L4,z0,zJ,g,L4,z0,Pb];have b:bW ((M.map vE).take (n%(M.length+1)).toNat++vE (w.1,w.2.1,n%(w.2.2+1))::(M.map vE).drop (n%(M.length+1)).toNat).length=true:=jb (by simp;lia);generalize(M.map vE).take (n%(M.length+1)).toNat++vE (w.1,w.2.1,n%(w.2.2+1))::(M.map vE).drop (n%(M.length+1)).toNat=L at b ⊢;simp[b];rfl
theorem KB{n}:∀{W M}{o6 o7 o8 o9},(∀ w∈W,0<=w.2.2)->M.length+2*W.length<=100->∃ M' o6' o7' o8' o9',M'.length=M.length+2*W.length/\(∀ d u,j8 M' d u=j8 M d u+j8 W d u) /\
  jY (gT 3<|gC (jc [] 6)<|gC (jc [] 7)<|gC (jc [] 8) gN) vm (W.map vE) [a0,a1,a2,some<|.int n,a4,↑(M.map vE),o6,o7,o8,o9]=some (.nx [a0,a1,a2,some<|.int n,a4,↑(M'.map vE),o6',o7',o8',o9'])
 | [],M,o6,o7,o8,o9,_,_=>#v[M,o6,o7,o8,o9,rfl,λd u=>by rw[show j8 [] d u=0 from rfl,Int.add_zero],rfl]
 | w::W,M,o6,o7,o8,o9,a,b=>by
  rw[M3] at b;let[M',c,f,g,h,i,j,e]:=KB (W:=W) (M:=ie n w M) (λv k=>a v<|by simp[k]) (by rw[CL];lia);refine#v[M',c,f,g,h,by rw[i,CL,M3];lia,λd u=>by rw[j,Pa,jy w W,jy w [],show j8 [] d u=0 from rfl];lia,?_];have l:(gT 3<|gC (jc [] 6)<|gC (jc [] 7)<|gC (jc [] 8) gN) (vE w) [a0,a1,a2,some<|.int n,a4,↑(M.map vE),o6,o7,o8,o9]=some [a0,a1,a2,some<|.int n,a4,↑(M.map vE),some<|.int w.1,some<|.str w.2.1,some<|.int w.2.2,o9]:=rfl;rw[L5,jQ,l,L4,Pc (a w<|by simp) ∅,L4,JG,e]
def Pd{n}{W}{p}{B}{YY}{u}(f:∀ w∈W,0<=w.2.2)(A:W.length<=40)(a:frzs ((p::B).map (jB false))=true)(b:frzs YY=true):
  ∃ U:List Rw,kK [.lst false<|W.map vE,.lst false<|(p::B).map (jB false),.lst false YY,.int n,.str u]=↑(U.map vE)/\U.length<=100/\∀(d:Int) v,1<=d->d<1+YY.length->v≠u->j8 U d v=j8 W d v:=by
 let[g,i,j,k,l,m,o,e]:=KB (n:=n) (a0:=‹W.map vE›) (a1:=‹(p::B).map (jB false)›) (a2:=‹YY›) (a4:=some<|.str u) (M:=[(1,p.nm,0),(1,u,5),(YY.length+1,p.nm,7)]) (o6:=none) (o7:=none) (o8:=none) (o9:=none) (λw h=>f w<|List.mem_reverse.mp h) (by simp;lia);refine#v[g,?_,by rw[m];simp;lia,λd v q r s=>?_]
 ·have c:=qj W;have t:jd (.lst false<|(p::B).map (jB false)) (.int 0)=some (jB false p):=by rw[fv (by decide)<|by simp];rfl
  have x:jd (jB false p) (.int 0)=some (.str p.nm):=rfl;have y:([(1,p.nm,0),(1,u,5),(YY.length+1,p.nm,7)]:List Rw).map vE=[.tup [.int 1,.str p.nm,.int 0],.tup [.int 1,.str u,.int 5],.tup [.int<|YY.length+1,.str p.nm,.int 7]]:=rfl;rw[List.map_reverse,y] at e;generalize(p::B).map (jB false)=BB at *;simp[kK,jx,Yz,c,jk _ c,t,x,a,jk _ a,b,jk _ b,e,jb,ux,fP]
 ·rw[o,V8<|List.reverse_perm W,jy,jy,jy,show j8 [] d v=0 from rfl,if_neg<|show ¬ (1=d/\u=v) from λz=>s z.2.symm,if_neg<|show ¬ (YY.length+1=d/\p.nm=v) from λz=>by lia];split<;>lia
def Pe(h:∀ w∈W,0<=w.2.2)(d)(u):0<=j8 W d u:=by
 unfold j8
 induction W with
 | nil=>exact Int.le_refl _
 | cons w W a=>
  have i:=a λx b=>h x (by simp[b]);rw[List.filter_cons];split
  ·rw[L5,List.sum_cons];have:=h w (by simp);lia
  ·exact i
theorem zx(h:∀ w∈W,0<=w.2.2)(d):∀{B}{l},(∀ v∈l,0<=v)->∀ v∈yY W d B l,0<=v
 | [],_,_,v,a=>by simp[yY] at a
 | _::_,[],_,v,a=>by simp[yY] at a
 | p::B,x::l,b,v,a=>by
  rcases M5.mp a with rfl | a
  ·have:=Pe h d p.nm;have:=b x (by simp)
   lia
  ·exact zx h d (λy c=>b y<|by simp[c]) v a
theorem CM(h:∀ w∈W,0<=w.2.2):∀{Y} d,(∀ y∈Y,c9 B.length y.1 y.2)->∀ y∈xA B W d Y,c9 B.length y.1 y.2
 | [],_,_,y,a=>by cases a
 | x::Y,d,b,y,a=>by
  rcases M5.mp a with rfl | a
  ·have q:=b x (by simp);exact#v[q.il,by rw[Kk,q.ll,Nat.min_self],q.i,zx h d q.l]
  ·exact CM h (d+1) (λz c=>b z<|by simp[c]) y a
def Ph:(∀ p∈Ps,p.told.length<=10)->iK Ps<=10*Ps.length:=by
 induction Ps with
 | nil=>intro _;exact N0 _
 | cons p Ps c=>
  intro h;have a:=h p (by simp);have b:=c λq d=>h q (by simp[d]);unfold iK at b ⊢;rw[L5,List.sum_cons,M3]
  lia
def Pi(ns:List Int)(hl:ns.length<=63)(o:∀ x∈ns,Builtin.Int.intBits x<=2 ^ 20):ly [.lst false<|ns.map D.int]=some (.bl true):=by
 let[s0,u,B,N,O,P,Q,g]:=MS o;have d:=vP g;have T:=kY g false;have B6:=g.len2;let[Y,Z,K,i]:=MU o (by rw[L1];lia) d;rw[L1] at i;have f:=Vt Y;have j:∀ y∈Y,c9 B.length y.1 y.2:=λy hy=>by
  have q:=i y hy;exact#v[q.a,q.b,λv r=>by have:=q.a0 v r;lia,λv r=>(q.b0 v r).1]
 let[W,eW,W7,L]:=Na o (λp s=>by let[X,t,_]:=g.ok p s;exact t.nm) g.len1 ∅ d (by rw[L1];lia) f;have A:=qj W;let[s8,e8,_]:=qV ns o (k:=860) (by decide) (by decide);obtain⟨p,c,rfl⟩:∃ p c,B=p::c:=by
  cases B with
  | nil=>exact absurd g.len1 (by simp)
  | cons p c=>exact#v[p,c,rfl]
 let[U,eU,U1,hU]:=Pd (n:=s8) (u:=u) (YY:=Y.map qw) (λw C=>(L w C).2) ∅ d f;let[V,eV,V1,hV]:=O_ (W:=W) ∅;have E:=qj U;have F:=qj V;have dU:xA (p::c) U 1 Y=xA (p::c) W 1 Y:=wS λe h1 h2 q hq=>hU e q.nm h1 (by rw[L1];exact h2) λz=>P<|M7.mpr #v[q,hq,z];have dV:xA (p::c) V 1 Y=xA (p::c) W 1 Y:=wS λe _ _ q _=>hV e q.nm;have l:=QA ∅ d ∅ f (W:=U) U1 i;have m:=QA ∅ d ∅ f (W:=V) ∅ i;rw[dU] at l;rw[dV] at m;let[R,hR,G]:=CA g j K;let[S,hS,h]:=CA g (CM (λw C=>(L w C).2) 1 j) (by rw[ui];exact K);rw[<- Nf true true] at h;have hm:iK (p::c)<=60:=by
  have:=Ph (Ps:=p::c) λp s=>by let[X,t,_]:=g.ok p s;exact t.told2
  lia
 have ec:=JH d f A (QA ∅ d ∅ f (W:=W) ∅ i) ∅ ∅ G h;have H:=JH d f E l ∅ ∅ G h;have I:=JH d f F m ∅ ∅ G h;have lQ:(R.zip S).length=iK (p::c):=by rw[List.length_zip,hR,hS,Nat.min_self]
 have s1:yR [.lst false<|(R.zip S).map gd,.lst false<|(R.zip S).map gd]=some (.bl true):=wG 9 (D.lst false<|List.map gd<|R.zip S)<|MY (MZ (n:=2) ∅ λq _=>by simp[gd,dC]) (by decide);have M:frzs ((R.zip S).map gd)=true:=yn (λ_=>rfl) _;have J:vR (.int 10) (.int 12)=some (.int 1000000000000):=rfl;have md:ji (.int s0) (.int 1000000000000)=some (.int<|s0%1000000000000):=jl (by decide);have cP:yh ((R.zip S).map gd)=true:=by rw[yz,List.all_map,List.all_eq_true];intro x _;rfl
 generalize(p::c).map (jB false)=BB at *;generalize(R.zip S).map gd=QQ at *;generalize Y.map qw=YY,W.map vE=WW,U.map vE=UU,V.map vE=VV at *;simp[ly,jx,BI,Q,d,T,Z,f,jk _ f,eW,A,jk _ A,ec,N,J,md,O,eU,e8,E,jk _ E,H,M,jk _ M,s1,eV,F,jk _ F,I,cP]
end K55
set_option maxHeartbeats 0
namespace K55
open PySem L2 QD
def mY{K:W4}{a:Addr}{n:Nat}{s:Array (Option Value)}{b c d e f g:Tok}(h:K.lookup a=some #v[.type "tuple",none,.seq (List.toArray [.str "part" b,.str "pay" c,.str "share" d,.str "repay" e,.str "rest" f,.str "guard" g]) n,s])(cl:Nat->Addr)(Z:Zn)(H:Hp):bK #v[K,cl] Z H vb (.ref a) []:=Ih (xs:=["part","pay","share","repay","rest","guard"]) (ts:=[b,c,d,e,f,g]) (ws:=[[112,97,114,116],[112,97,121],[115,104,97,114,101],[114,101,112,97,121],[114,101,115,116],[103,117,97,114,100]]) (by decide +kernel) h rfl (by decide) cl Z H
def iL{l:PySem.W.OpenLaw}{w:World}{K:W4}{mg:W6}{fa a b:Addr}(hfa:mg "law" = some (.ref fa))(_:PySem.W.nsIn K mainGlobals "Fall" = some (some<|.ref a))(_:PySem.W.nsIn K mainGlobals "CLAIM_KINDS" = some (some<|.ref b))(T:Txt l.prog w K mg (λ_=>a) b):∃ fd:FuncData,(∀(s:Shared) (v:Value),BindsTo s fd #v[[v],[]] [("_law_script",v)])/\∀ base:Heap,K.In base->base.Ns mainGlobals mg->cB l.prog w K mg base dY 10 fa fd ["_law_script"] (λvs H Q E=>∀ C:Addr,dn #v[K,λ_=>C] ly 1 vs H Q E):=by
 let[f',fd',F',G']:=(My T).2.2.2.2.2.2.2.2.2;cases hfa.symm.trans F'.mgf;obtain⟨⟨oc,od,kV,doc,pm,an,cdv,ct,osl,rfl,_,_⟩,_⟩:=F'.fn;exact#v[_,λs v=>.of_eq rfl,λbase _ _=>(G' base).imp λvs H Q E h=>h a]
def walk{l:PySem.W.OpenLaw}{q:Program}{loose:List Str}{XP:(Str->Option Value)->Heap->Prop}{YP:World->Heap->Prop}{d:DefRec}{K:Params->PySem.W.Frag}(hn:l.most=some 63)(hdf:d.params.defaults=[])
  (hY:∀(w:World) (h:Heap),YP w h->(K w.params).In h)
  (F:∀(w:World) (mg:W6) (fa:Addr) (h:Heap),(K w.params).In h->h.Ns mainGlobals mg->mg d.name=some (.ref fa) ->
   ∃ fd:FuncData,(∀(s:Shared) (u:Value),BindsTo s fd #v[[u],[]] [("_law_script",u)])/\∀ base:Heap,(K w.params).In base->base.Ns mainGlobals mg->cB l.prog w (K w.params) mg base dY 10 fa fd ["_law_script"] (λvs H Q E=>∀ C:Addr,dn #v[K w.params,λ_=>C] ly 1 vs H Q E)):
  PySem.W.WalkO q loose XP YP l.row.toRowW d [] (λf vs=>PySem.call f vs):=
 L2.fO (n:=63) (k:=10) (x:="_law_script") (CX:=λ_=>dY) (sp:=λw=>(λvs H Q E=>∀ C:Addr,dn #v[K w.params,λ_=>C] ly 1 vs H Q E)) hn (by decide) hdf #v[rfl,by decide,by decide] hY F (λ_ H a ns hl hb _ hS=>λC=>HE (Pi ns hl hb) hS) λ_ _ _ _ _ z=>z
end K55
namespace PySem.W.Fast
def tw5297201896413045497:=0
def tw15089543022393277352:=0
def tw7817790085129564596:=0
def tw16053237136476037412:=0
def tw6396781550964879799:=0
def tw6440626666950436787:=0
def tw16385667336483951193:=0
def tw11224842203873649123:=0
def tw2033150885222865991:=0
def tw9459113005241129853:=0
def tw16080025770086884368:=0
def tw1595189635903316944:=0
def tw17398585919908277765:=0
def tw16211216593841503440:=0
def tw1887660666472571995:=0
def tw14112967924392352105:=0
def tw18198346046166980956:=0
def tw8419180215806122563:=0
def tw13603625670889671685:=0
def tw10244685458994853587:=0
def tw15378163370082611920:=0
def tw4486506248037562344:=0
def tw6735757667788518322:=0
def tw159192866927177580:=0
def tw15268709592503565230:=0
def tw16702940308063523703:=0
def tw15319024384383061456:=0
def tw1072135983782483070:=0
def tw14526495662976687262:=0
def tw18111246648249912923:=0
def tw9563698167782548428:=0
def tw12594756758635610002:=0
def tw9115315218567199697:=0
def tw17935472899880481241:=0
def tw12326612345154018615:=0
def tw7174600859486809362:=0
def tw8601230581081777553:=0
def tw12230617210970866801:=0
def tw13094257565268336136:=0
def tw18356696731910322703:=0
def tw4010030952090060030:=0
def tw2436672615465640132:=0
def tw474379904250121455:=0
def tw4011196722459391433:=0
def tw15786781114420552733:=0
def tw7924532129832994540:=0
def tw13347984688239643695:=0
def tw10519483499785623437:=0
def tw1400472433243634549:=0
def tw17404531613822211227:=0
def tw13534102724902515626:=0
def tw5429912393875797583:=0
def tw12409885538131190716:=0
def tw11453364452329681844:=0
def tw11171186296655169928:=0
def tw17326686477190060827:=0
def tw12106504991613794984:=0
def tw15004956440190093878:=0
def tw14435670477150255860:=0
def tw8613925056201872818:=0
def tw6665174640656542102:=0
def tw6883333220948219013:=0
def tw9256188387378749944:=0
def tw3604143759772970927:=0
def tw5179160042305694124:=0
def tw17895445176193132385:=0
def tw7890464049511766848:=0
def tw2354884619467247558:=0
def tw7949937606695168211:=0
def tw16680634234912152663:=0
def tw6318594920934476069:=0
def tw9092498627012133616:=0
def tw6546657791979726442:=0
def tw12392039001418379576:=0
def tw10125032415052460188:=0
def tw5661292127006029668:=0
def tw11225194256949496972:=0
def tw18409062393764717002:=0
def tw4129896225575834069:=0
def tw1669864572717411512:=0
def tw3441752186905004114:=0
def tw12083972093124669424:=0
def tw8645593786284376968:=0
def tw9112449382496481896:=0
def tw11794268939499065018:=0
def tw12894380670845627693:=0
def tw549627444020208782:=0
def tw2712094181293940962:=0
def tw11104353515574422725:=0
def tw10734470124934819309:=0
def tw12444675006493230021:=0
def tw1064681033079021285:=0
def tw8638833788900875972:=0
def tw2003474797969579375:=0
def tw10742346838437272801:=0
def tw12215223207691884420:=0
def tw8897875472980125098:=0
def tw16820090169799660480:=0
def tw17703430097455570783:=0
def tw408873385120596298:=0
def tw9132599690596603676:=0
def tw7996074137177915140:=0
def tw16821516455613792413:=0
def tw10913354529805342951:=0
def tw17047267366641481238:=0
def tw6398469589572722272:=0
def tw868205636125507578:=0
def tw12493658706191856649:=0
def tw14268366768364386466:=0
def tw10401647557083030636:=0
def tw9825157591357968593:=0
def tw5986215151664006884:=0
def tw2833081893931355093:=0
def tw11685699403181142393:=0
def tw1865363724118526409:=0
def tw6356665627606274142:=0
def tw4160911051807136310:=0
def tw5242209225969468549:=0
def tw8985146128889544163:=0
def tw18415841923611177116:=0
def tw2680026074061872917:=0
def tw4661557039168251690:=0
def tw10947852760370715459:=0
def tw440479346175396330:=0
def tw2364953197787217882:=0
def tw2284508762334642885:=0
def tw3221138010096231080:=0
def tw8437164455139208134:=0
def tw13617694101342115855:=0
def tw15204863472578802726:=0
def tw15903722924618166779:=0
def tw726825890184753743:=0
def tw4200469850536105140:=0
def tw1473297571794317634:=0
def tw5694787156670808350:=0
def tw11593508343015578340:=0
def tw16373720739062516629:=0
def tw6849518172150907814:=0
def tw7880361909640647395:=0
def tw2534686477932750281:=0
def tw6185114158117584449:=0
def tw13252398456861956733:=0
def tw5630308705360510494:=0
def tw2826715408226884570:=0
def tw3695080574734825138:=0
def tw1205306226351128422:=0
def tw18150055839146013043:=0
end PySem.W.Fast
set_option maxHeartbeats 0
open PySem PySem.W PyProof.Rows
set_option maxRecDepth 100000 in
set_option maxHeartbeats 0 in
theorem PySem.Challenge.cw_tranchefall_k55_losses_in_pieces_holds : PySem.Challenge.rw_tranchefall_k55_losses_in_pieces.Holds := by
 w_on;o_law;k_head;(case hw=>w_witness2)
 k_fill
 refine K55.walk (l:=PySem.Challenge.rw_tranchefall_k55_losses_in_pieces) rfl rfl (λw h Y=>PySem.W.kIn_of Y) ?F
 case F =>
  intro w mg fa h KX G hmg;refine' K55.iL hmg ?c ?d ?t
  (case c | d=>k_is)
  case t =>
   constructor
   all_goals first
    | ((first | refine⟨QD.Bq,QD.sC KX G (by k_is) (by k_is) (by k_is) (by k_is) ?_⟩ | refine⟨QD.Bq,QD.sD (by k_is) (by k_is) (by k_is) (by k_is) (by k_is) ?_⟩);intro _ _ _ _ _ _;(repeat refine QD.uS λ_=>?_);exact QD.u0 rfl)
    | exact K55.mY (by k_is) | exact PySem.W.mg_none_of KX G (by k_is) | exact PySem.W.mg_of KX G (by k_is) | exact⟨by k_is,by k_is,by k_is,by k_is⟩ | k_is | (show PySem.W.findIn _ _ _=_;k_is)
