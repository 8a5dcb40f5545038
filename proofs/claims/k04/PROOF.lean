import PyProof.Rows.All
import Wide.All
import OpenK.AllK
import Wide.FinOn
import Lean
import PyProof.EqAt
import PyProof.EqKinds
import PyProof.TupleCall
import PySem.Challenge.RW_tranchefall_k04_bad_rows
set_option Elab.async false
set_option linter.all false
set_option maxRecDepth 100000
section
open PySem PySem.Spec PyProof.Rows
abbrev L4:=@List.length_map
abbrev L5:=@wpAny_bind
abbrev L8:=@Option.bind_some
abbrev L9:=@List.map_cons
abbrev M0:=@List.mem_cons_of_mem
abbrev M3:=@List.mem_cons_self
abbrev M4:=@Heap.get?_push_of_some
abbrev M5:=@List.getElem?_eq_some_iff
abbrev M6:=@Bool.and_eq_true
abbrev M7:=@List.length_cons
abbrev M8:=@Bool.false_ne_true
abbrev M9:=@List.mem_cons
abbrev N0:=@List.mem_map
abbrev N1:=@wpAny_pure
abbrev N2:=@List.mem_singleton
abbrev N3:=@Nat.le_refl
abbrev N4:=@List.append_nil
abbrev N5:=@Heap.lt_size
abbrev N6:=@List.mem_append
abbrev N7:=@List.size_toArray
abbrev N8:=@List.length_append
abbrev N9:=@Nat.ne_of_lt
abbrev U0:=@Nat.le_trans
abbrev U1:=@Int.toNat_natCast
abbrev U2:=@Int.emod_lt_of_pos
abbrev U3:=@Int.emod_nonneg
abbrev U4:=@List.map_map
abbrev U5:=@beq_eq_false_iff_ne
abbrev U6:=@List.mem_append_right
abbrev U7:=@Nat.lt_of_lt_of_le
abbrev U8:=@Nat.zero_le
abbrev U9:=@wpAny_field
abbrev X0:=@List.zip_cons_cons
abbrev X1:=@List.nodup_append
abbrev X2:=@List.foldl_cons
abbrev X3:=@decide_eq_true
abbrev X4:=@decide_eq_false
abbrev X5:=@of_decide_eq_true
abbrev X6:=@Option.some.inj
abbrev X7:=@List.nil_append
abbrev X8:=@List.getElem?_eq_getElem
abbrev X9:=@Heap.get?_push_size
end
namespace QX
open PySem
noncomputable abbrev fms(l:List Env):List Addr:=l.filterMap (·.frame)
structure Kp(fs xs:List Addr)(h h':Heap):Prop where
 keep:∀ b o,h.get? b=some o->b∉fs->b∉xs->h'.get? b=some o
 slot:∀ b o,h.get? b=some o->b∈fs->∃ sl,h'.get? b=some { o with slots:=sl }
theorem Kp.trans{fs xs h1 h2 h3}(a:Kp fs xs h1 h2)(b:Kp fs xs h2 h3):Kp fs xs h1 h3 :=
 ⟨λc o e n m=>b.keep c o (a.keep c o e n m) n m,λc o e n=>let ⟨_,e1⟩:=a.slot c o e n;let ⟨s2,e2⟩:=b.slot c _ e1 n;⟨s2,e2⟩⟩
theorem Kp.mono{fs xs ys h1 h2}(a:Kp fs xs h1 h2)(k:∀ b∈xs,b∈ys):Kp fs ys h1 h2:=⟨λc o e n m=>a.keep c o e n λz=>m (k c z),a.slot⟩
theorem Kp.funs{fs xs h h' base}{l:List Env}(a:Kp fs xs h h')(d:∀ b∈fms l,b∈fs)(f:h.FunFrames base l):h'.FunFrames base l:=by
 induction l with
 | nil=>trivial
 | cons env r g =>
  obtain⟨i,⟨L,o,c,j,k,hd⟩,m⟩:=f;have n:L∈fms (env::r):=by unfold fms;rw[List.filterMap_cons,c];exact M3
  obtain⟨q,e⟩:=a.slot L o k (d L n);exact⟨i,⟨L,_,c,j,e,hd⟩,g (λb p=>d b (by unfold fms;rw[List.filterMap_cons,c];exact M0 _ p)) m⟩
def Fly(e:Addr)(cl:Value)(dx:Option Addr)(T:Addr)(fl:Value)(h:Heap):Prop :=
 ∃ oe vs oT ts,h.get? e=some oe/\oe.cls=cl/\oe.dict=dx/\oe.data=.fields vs/\vs[1]?=some (.ref T)/\T≠e/\h.get? T=some oT/\oT.data=.fields ts/\ts[3]?=some fl
theorem Qj(f:Array Value->Array Value)(o:Obj):(Obj.mapFields f o).dict=o.dict:=by
 obtain⟨c,d,a,b⟩:=o;cases a<;>rfl
section
variable {M:Model}{A:Around}{E:Value->Shared->Prop}{s:Shared}{base:Heap}{env:Env}{outer:List Env}{L e T:Addr}{cl:Value}{dx:Option Addr}{Q:Unit->Shared->Prop}
theorem Vp(d:s.heap.FunFrames base outer){b:Obj}{vs:Array Value}(f:s.heap.get? e=some b)(hd:b.data=.fields vs):e∉fms outer:=λg=>by
 obtain⟨_,o,c,a⟩:=d.mem g;rw[f] at c;cases c;exact a vs hd
theorem xv{i:Obj}{vs:Array Value}{f:Value}{c:Bool}(x:A.frames=some (env::outer))(C:s.heap.FunFrames base (env::outer))(F:env.frame=some L)
  (D:s.heap.get? e=some i) (hd:i.data=.fields vs) (j:1 < vs.size)
  (h:∀ h' T,Kp (fms (env::outer)) [e] s.heap h'->s.heap.objs.size<=T->Fly e i.cls i.dict T (rawInt L) h'->Q () { s with heap:=h' }) :
  wpAny M A (do let a <- frameOf env;let pl <- entryPlaceOf L c;let b <- EntryCells.newEntry f a .none (rawInt L) .none pl;setField (.ref e) 1 b) Q E s:=by
 have k:=Vp C D hd;refine L5 (wpAny_frameOf_fun x C F λg d=>?_);refine L5 (wpAny_entryPlaceOf λpl l=>?_);unfold EntryCells.newEntry newFields;refine L5 (wpAny_newObj_type ?_ (l.sizeOk5 _ _ _ _ _));have p:g.get? e=some i:=(d.2.1 e k).trans D;generalize r:({ cls:=.type "traceback",dict:=none,data:=.fields ([f,.ref L,.none,rawInt L,.none]++(if pl.isEmpty then List.replicate 6 Value.none else pl)).toArray }:Obj)=ob;have t:=M4 (h:=g) ob p;have y:ob.isFreed=false:=by rw[<- r];rfl
 have G:∃ w,ob.data=.fields w/\w[3]?=some (rawInt L):=by
  rw[<- r];exact⟨_,rfl,by first | (simp;done) | (rcases l with rfl | ⟨_,_,_,_,_,_,_,rfl⟩<;>simp)⟩
 refine wpAny_setField t hd j (h _ g.objs.size ?_ (Nat.le_of_eq d.1.symm) ?_)
 ·refine⟨λb o q n m=>?_,λb o q n=>?_⟩
  ·have ne:e≠b:=λz=>m (by rw[z];exact M3);rw[Heap.get?_update_other _ _ ne];exact M4 _ ((d.2.1 b n).trans q)
  ·obtain⟨H,I⟩:=d.2.2 b o q;have ne:e≠b:=λz=>k (by rw[z];exact n);exact⟨H,by rw[Heap.get?_update_other _ _ ne];exact M4 _ I⟩
 ·have u:g.objs.size≠e:=Nat.ne_of_gt (N5 p);have v:=Obj.data_mapFields hd (·.setIfInBounds 1 (Value.ref g.objs.size));have B:=Heap.get?_update_self (Obj.mapFields (·.setIfInBounds 1 (Value.ref g.objs.size))) t (Obj.isFreed_of_fields v);obtain⟨w,J,K⟩:=G;refine⟨_,_,ob,w,B,Obj.cls_mapFields _ _,Qj _ _,v,by simp[j],u,?_,J,K⟩;rw[Heap.get?_update_other _ _ (Ne.symm u)];exact X9 g y
theorem jan{a:Obj}{vs:Array Value}(b:A.frames=some (env::outer))(f:s.heap.FunFrames base (env::outer))(c:env.frame=some L)
  (d:s.heap.get? e=some a) (hd:a.data=.fields vs) (h1:vs[1]?=some .none)
  (h:∀ h' T,Kp (fms (env::outer)) [e] s.heap h'->s.heap.objs.size<=T->Fly e a.cls a.dict T (rawInt L) h'->Q () { s with heap:=h' }):wpAny M A (noteFrame (.ref e) env) Q E s:=by
 unfold noteFrame;simp only[c];refine L5 (U9 d hd h1 ?_);rw[if_neg (by decide)];exact xv b f c d hd (Array.getElem?_eq_some_iff.mp h1).1 h
theorem xj(i:A.frames=some (env::outer))(r:s.heap.FunFrames base (env::outer))(t:env.frame=some L)(y:Fly e cl dx T .none s.heap)
  (h:∀ h' T',Kp (fms (env::outer)) [e,T] s.heap h'->s.heap.objs.size<=T'->Fly e cl dx T' (rawInt L) h'->Q () { s with heap:=h' }):wpAny M A (noteFrame (.ref e) env) Q E s:=by
 obtain⟨D,F,G,H,u,B,j,hd,v,l,p,a,w⟩:=y;unfold noteFrame;simp only[t];refine L5 (U9 u hd v ?_);rw[if_pos (show(Value.ref T != Value.none)=true from by simp)];refine L5 (U9 p a w ?_);rw[if_neg (show ¬ ((Value.none==rawInt L)=true) from by simp[rawInt])];refine L5 (wpAny_setField p a (Array.getElem?_eq_some_iff.mp w).1 ?_);have c:∀ b,b≠T->(s.heap.update T (Obj.mapFields (·.setIfInBounds 3 Value.none))).get? b=s.heap.get? b:=λb g=>Heap.get?_update_other _ _ (Ne.symm g);have d:=Vp r p a;have x:Kp (fms (env::outer)) [e,T] s.heap (s.heap.update T (Obj.mapFields (·.setIfInBounds 3 Value.none))) :=
  ⟨λb o q _ m=>(c b λz=>m (by rw[z];simp)).trans q,λb o q n=>⟨o.slots,(c b λz=>d (by rw[<- z];exact n)).trans q⟩⟩
 refine xv (s:={ s with heap:=s.heap.update T (Obj.mapFields (·.setIfInBounds 3 Value.none)) }) i (x.funs (λ_ b=>b) r) t ((c e (Ne.symm l)).trans u) hd (Array.getElem?_eq_some_iff.mp v).1 λh' T' k C f=>?_;refine h h' T' (x.trans (k.mono λb g=>by simp at g;simp[g])) ?_ (by rw[<- B,<- j];exact f);rw[<- Heap.size_after_update s.heap T (Obj.mapFields (·.setIfInBounds 3 Value.none))];exact C
theorem jjX{p:Value}(r:Fly e cl dx T p s.heap)(t:s.heap.FunFrames base outer)
  (h:∀ h',Kp (fms outer) [T] s.heap h'->Fly e cl dx T .none h'->h'.objs.size=s.heap.objs.size->Q () { s with heap:=h' }):wpAny M A (setFlight (.ref e) none) Q E s:=by
 obtain⟨u,v,y,B,k,w,i,hd,l,d,j,c,x⟩:=r;have f:=Vp t j c;have g:=(Array.getElem?_eq_some_iff.mp x).1;refine wpAny_setFlight_none k hd l j c g (h _ ?_ ?_ (Heap.size_after_update ..))
 ·exact⟨λb o q _ m=>by rw[Heap.get?_update_other _ _ (λz=>m (by rw[<- z];simp))];exact q,λb o q n=>⟨o.slots,by rw[Heap.get?_update_other _ _ (λz=>f (by rw[z];exact n))];exact q⟩⟩
 ·have a:=Obj.data_mapFields c (·.setIfInBounds 3 Value.none);refine⟨u,v,_,_,by rw[Heap.get?_update_other _ _ d];exact k,w,i,hd,l,d,Heap.get?_update_self _ j (Obj.isFreed_of_fields a),a,by simp[g]⟩
theorem ul{a:Obj}{vs:Array Value}(c:A.frames=some (env::outer))(d:s.heap.FunFrames base (env::outer))(j:env.frame=some L)
  (l:s.heap.get? e=some a) (hd:a.data=.fields vs) (h1:vs[1]?=some .none)
  (h:∀ h' T,Kp (fms (env::outer)) [e] s.heap h'->s.heap.objs.size<=T->Fly e a.cls a.dict T .none h'->Q () { s with heap:=h' }):wpAny M A (leaving env (.ref e)) Q E s:=by
 unfold leaving;refine L5 (jan c d j l hd h1 λh' T k g f=>?_);refine jjX (base:=base) (outer:=env::outer) f (k.funs (λ_ b=>b) d) λp i r sz=>?_;refine h p T ⟨λb o q n m=>i.keep b o (k.keep b o q n m) n λz=>?_,λb o q n=>?_⟩ g r
 ·have:b=T:=by simpa using z
  subst this;exact absurd (N5 q) (Nat.not_lt.mpr g)
 ·obtain⟨w,t⟩:=k.slot b o q n;obtain⟨u,v⟩:=i.slot b _ t n;exact⟨u,v⟩
theorem jaq(a:A.frames=some (env::outer))(c:s.heap.FunFrames base (env::outer))(i:env.frame=some L)(j:Fly e cl dx T .none s.heap)
  (h:∀ h' T',Kp (fms (env::outer)) [e,T] s.heap h'->s.heap.objs.size<=T'->Fly e cl dx T' .none h'->Q () { s with heap:=h' }):wpAny M A (leaving env (.ref e)) Q E s:=by
 unfold leaving;refine L5 (xj a c i j λh' T' k d f=>?_);refine jjX (base:=base) (outer:=env::outer) f (k.funs (λ_ b=>b) c) λl g p sz=>?_;refine h l T' ⟨λb o q n m=>g.keep b o (k.keep b o q n m) n λz=>?_,λb o q n=>?_⟩ d p
 ·have:b=T':=by simpa using z
  subst this;exact absurd (N5 q) (Nat.not_lt.mpr d)
 ·obtain⟨v,r⟩:=k.slot b o q n;obtain⟨t,u⟩:=g.slot b _ r n;exact⟨t,u⟩
end
end QX
namespace QX
open PySem PySem.W
noncomputable def vtail:List Value:=[.type "ValueError",.type "Exception",.type "BaseException",.type "object"]
noncomputable def V8:List Value->Bool
 | .ref _::r=>V8 r
 | l=>l==vtail
theorem yK:∀{l:List Value},V8 l=true->∀ X:String,l.contains (.type X)=vtail.contains (.type X)
 | [],h,_=>absurd h (by decide)
 | .ref a::r,h,X=>by
  rw[List.contains_cons,yK (l:=r) h X];rfl
 | .none::r,h,_=>by rw[beq_iff_eq.mp (show(_==vtail)=true from h)]
 | .bool _::r,h,_=>by rw[beq_iff_eq.mp (show(_==vtail)=true from h)]
 | .int _ _::r,h,_=>by rw[beq_iff_eq.mp (show(_==vtail)=true from h)]
 | .float _ _::r,h,_=>by rw[beq_iff_eq.mp (show(_==vtail)=true from h)]
 | .str _ _::r,h,_=>by rw[beq_iff_eq.mp (show(_==vtail)=true from h)]
 | .bytes _ _::r,h,_=>by rw[beq_iff_eq.mp (show(_==vtail)=true from h)]
 | .type _::r,h,_=>by rw[beq_iff_eq.mp (show(_==vtail)=true from h)]
 | .builtin _::r,h,_=>by rw[beq_iff_eq.mp (show(_==vtail)=true from h)]
noncomputable def zX(K:Frag)(C:Addr):Bool:=match K.lookup C with
 | some ⟨.type T,_,.cls cd,sl⟩=>(match cd.mro,sl.toList with
  | .ref C'::bm,[_,_,_,_,some (.builtin n),_]=>T=="type"&&C'==C&&!cd.hasDel&&cd.hasDict&&n=="ValueError.__new__"&&V8 bm
  | _,_=>false)
 | _=>false
theorem KK{K:Frag}{h:Heap}{C:Addr}(X:K.In h)(q:zX K C=true):∃ nm qn N bs bm sn sub ab col dd k0 k1 k2 k3 k5,
  h.get? C=some (excClassObj nm qn C N bs bm true sn sub ab col dd k0 k1 k2 k3 k5 "ValueError.__new__")/\V8 bm=true:=by
 unfold zX at q;split at q
 ·rename_i T dd g d i;split at q
  ·rename_i m bm k0 k1 k2 k3 n k5 e f;simp only[M6,beq_iff_eq,Bool.not_eq_true'] at q;obtain⟨⟨⟨⟨⟨rfl,rfl⟩,a⟩,b⟩,rfl⟩,j⟩:=q;obtain⟨nm,bs,mro,ns,qn,hd,sn,sub,ab,col,k⟩:=g;dsimp only at e a b;subst e a b;have c:d = #[k0,k1,k2,k3,some (.builtin "ValueError.__new__"),k5]:=by
    obtain⟨l⟩:=d;simp only at f;rw[f]
   subst c;exact⟨nm,qn,ns,bs,bm,sn,sub,ab,col,dd,k0,k1,k2,k3,k5,X _ _ i,j⟩
  ·cases q
 ·cases q
section
variable {prog:Program}{w:World}{A:Around}{E:Value->Shared->Prop}{h:Heap}{g:Array GenState}{d:Drawn}{t:Nat}{os:OsState}
variable {nm q:Str}{C N:Addr}{bs bm:List Value}{hdct:Bool}{sn:List Str}{sub:List Value}{ab:Bool}{col:Option Bool}{dd:Option Addr}{k0 k1 k2 k3 k5:Option Value}
theorem jfU{M:Model}(T:V8 bm=true){rest:List Value}{Q:Unit->Shared->Prop}(a:h.get? C=some (excClassObj nm q C N bs bm hdct sn sub ab col dd k0 k1 k2 k3 k5 "ValueError.__new__"))
  (c:Q () ⟨h,g,d,t,os⟩):wpAny M A (checkBuiltinCall "ValueError.__new__" ⟨.ref C::rest,[]⟩) Q E ⟨h,g,d,t,os⟩:=by
 have e:(Value.ref C::bm).contains (.type "ValueError")=true:=by rw[List.contains_cons,yK T];rfl
 have F:=F.excBase_ValueError;have b:=F.noStar;simp only[checkBuiltinCall,F.newKind,F.newSplit,F.newRow]
 repeat (first | refine wpAny_loadPart_at a ?_ | (refine wpAny_isSubtype_exc a ?_;rw[e]) | refine wpAny_staticBase_exc a ?_ | refine wpAny_madeBy_exc a ?_ | simp only[bne_self_eq_false,Bool.false_eq_true,if_false] | wp_step)
 exact c
theorem jg4{R:Result->Shared->Prop}(T:V8 bm=true){rest:List Value}(a:h.get? C=some (excClassObj nm q C N bs bm hdct sn sub ab col dd k0 k1 k2 k3 k5 "ValueError.__new__"))
  (k:R (.ok (.ret (.ref (h.objs.size+1)))) ⟨(h.push { cls:=.type "tuple",data:=.seq rest.toArray }).push
   { cls:=.ref C,data:=.fields #[.ref h.objs.size,.none,.none,.none,.bool false,.none] },g,d,t,os⟩) (b:rest.length<=sizeLine) :
  codeAny (model prog w) A (.builtin "ValueError.__new__" ⟨.ref C::rest,[]⟩) R ⟨h,g,d,t,os⟩:=by
 have F:=F.excBase_ValueError;have c:=F.ends;have e:(Value.ref C::bm).contains (.type "ValueError")=true:=by rw[List.contains_cons,yK T];rfl
 have f:(Value.ref C::bm).contains (.type "AttributeError")=false:=by rw[List.contains_cons,yK T];rfl
 have i:(Value.ref C::bm).contains (.type "NameError")=false:=by rw[List.contains_cons,yK T];rfl
 refine codeAny_builtinAt F.entry ?_;unfold Builtin.«BaseException.__new__»;refine wpAt_bind ?_;show wpAt _ _ _ (stack >>= _) _ _ _;refine wpAt_bind (wpAt_stack λp j=>wpAt_of_wpAny ?_)
 wp_walk
 refine wpAt_of_wpAny ?_;rw[F.owner]
 repeat (first | with_reducible refine wpAny_madeHere_exc F.canon a ?_ | with_reducible refine wpAny_loadPart_at a ?_ | (with_reducible refine wpAny_isSubtype_exc a ?_;first | rw[e] | rw[f] | rw[i]) | wp_step)
 show R _ _;rw[Heap.size_push];exact k
theorem jga{K:Frag}{rest:List Value}{j:Addr}{Q:Fin->Shared->Prop}(X:K.In h)(T:V8 bm=true)
  (c:h.get? C=some (excClassObj nm q C N bs bm hdct sn sub ab col dd k0 k1 k2 k3 k5 "ValueError.__new__")) (hi:findIn K (.ref C) "__init__" = some (some (.ref j))) (s:isFn K (.ref j)=true)
  (u:∀ h' e,h.objs.size<=e->Heap.MadeExcOf h h' e (.ref C) rest ->
   wpAny (model prog w) A (call (.ref j) (.ref e::rest)) (λr s'=>r=.none/\Q (.done (.ret (.ref e))) s') E ⟨h',g,d,t,os⟩) (a:rest.length<=sizeLine) :
  wpAny (model prog w) A (Builtin.«type.__call__» ⟨.ref C::rest,[]⟩) Q E ⟨h,g,d,t,os⟩:=by
 repeat (first | with_reducible refine wpAny_loadPart_at c ?_ | with_reducible refine wpAny_madeBy_exc c ?_ | wp_step)
 refine codeAny_call_builtin_code (Code.quiet_builtin _ F.excBase_ValueError.quiet) (jfU T c ?_);refine jg4 T c ?_ a;show wpAny _ _ _ _ _ _;generalize p:({ cls:=.type "tuple",data:=.seq rest.toArray }:Obj)=o1;generalize k:({ cls:=.ref C,data:=.fields #[.ref h.objs.size,.none,.none,.none,.bool false,.none] }:Obj)=o2;have i:∀ b o,h.get? b=some o->((h.push o1).push o2).get? b=some o:=λb o z=>M4 _ (M4 _ z);have l:=i _ _ c;have f:((h.push o1).push o2).get? (h.objs.size+1)=some o2:=by subst p k;heap_get
 have m:o2.cls=.ref C:=by subst k;rfl
 have n:(Value.ref C::bm).contains (.ref C)=true:=by simp
 have v:=(looks_findIn (M:=model prog w) X hi).keeps i;have y:=(looks_typeIn (M:=model prog w) X (beq_iff_eq.mp s)).keeps i;unfold isInstance
 repeat (first | (with_reducible refine wpAny_loadPart_at f ?_;rw[m]) | (with_reducible refine wpAny_isSubtype_exc l ?_;rw[n]) | wp_step)
 show wpAny _ _ (typeLookup (.ref C) _) _ _ _;refine v.here ?_;refine wpAny_holding (L5 ?_);unfold bindSpecial;refine L5 (y.here ?_);rw[if_pos (by decide)];refine N1 (L5 (wpAny_mono (u _ (h.objs.size+1) (Nat.le_succ _) ⟨i,Heap.get?_none_of_le (Nat.le_succ _),h.objs.size,by rw[f,<- k],Heap.get?_none_of_le (N3 _),?_⟩) (λr s' B=>?_) λ_ _ x=>x))
 ·rw[<- p];exact M4 _ (Heap.get?_push_at rfl rfl)
 ·obtain⟨rfl,D⟩:=B
  wp_walk
  exact D
theorem jc8{K:Frag}{rest:List Value}{c:Addr}{Q:Value->Shared->Prop}(X:K.In h)(f:zX K C=true)(hi:findIn K (.ref C) "__init__" = some (some (.ref c)))(i:isFn K (.ref c)=true)
  (j:∀ h' e,h.objs.size<=e->Heap.MadeExcOf h h' e (.ref C) rest ->
   wpAny (model prog w) (A.under (.builtin "type.__call__" ⟨.ref C::rest,[]⟩)) (call (.ref c) (.ref e::rest)) (λr s'=>r=.none/\Q (.ref e) s') E ⟨h',g,d,t,os⟩) (a:rest.length<=sizeLine) :
  wpAny (model prog w) A (call (.ref C) rest) Q E ⟨h,g,d,t,os⟩:=by
 obtain⟨nm,n,N,bs,o,p,sub,q,k,dd,s,u,v,x,y,b,T⟩:=KK X f;have z:=tc_lookup;have B:=tc_bind (.ref C);have D:(⟨h,g,d,t,os⟩:Shared).TypeIs (.ref C) "type":=⟨_,b,rfl⟩;refine wpAny_call (codeAny_of_tree ?_);show wpAny _ _ (callAny (.ref C) _) _ _ _
 repeat (any_goals (first | assumption | with_reducible refine wpAny_loadPart_at b ?_ | wp_step))
 refine⟨rfl,?_⟩;refine codeAny_call_builtin_at (Code.quiet_builtin _ (by decide +kernel)) entry_typeCall (wpAny_check_type_call_sub b (jga X T b hi i (λh' e l m=>?_) a));exact j h' e l m
end
end QX
namespace QX
open PySem PySem.W Builtin Builtin.ObjectAttr
noncomputable def wH(C t:Addr):Obj:={ cls:=.ref C,data:=.fields #[.ref t,.none,.none,.none,.bool false,.none] }
section
variable {prog:Program}{w:World}{A:Around}{E:Value->Shared->Prop}{h:Heap}{g:Array GenState}{d:Drawn}{t:Nat}{os:OsState}
variable {nm q:Str}{C N e:Addr}{bs bm:List Value}{hdct:Bool}{sn:List Str}{sub:List Value}{ab:Bool}{col:Option Bool}{dd:Option Addr}{k0 k1 k2 k3 k5:Option Value}{newId:String}{K:Frag}
theorem jeo{M:Model}(T:V8 bm=true){j:Obj}{rest:List Value}{Q:Unit->Shared->Prop}
  (k:h.get? C=some (excClassObj nm q C N bs bm hdct sn sub ab col dd k0 k1 k2 k3 k5 newId)) (l:h.get? e=some j) (c:j.cls=.ref C) (m:Q () ⟨h,g,d,t,os⟩) :
  wpAny M A (checkBuiltinCall "ValueError.__init__" ⟨.ref e::rest,[]⟩) Q E ⟨h,g,d,t,os⟩:=by
 have F:=F.excBase_ValueError;have i:(Value.ref C::bm).contains (.type "ValueError")=true:=by rw[List.contains_cons,yK T];rfl
 have f:=F.noStar;simp only[checkBuiltinCall,F.initKind,F.initSplit,F.initRow]
 repeat (first | (with_reducible refine wpAny_loadPart_at l ?_;rw[c]) | with_reducible refine wpAny_loadPart_at k ?_ | (with_reducible refine wpAny_isSubtype_exc k ?_;rw[i]) | wp_step)
 refine wpAny_onRaise ?_;rw[show ∀(a b:String) (n:Nat),Bind.check ⟨.positional,"*","ValueError",.self,[⟨"args",.varPos,false⟩]⟩ a b n (List.map (λx=>x.fst) ({ pos:=Value.ref e::rest }:Args).kw)=pure () from
  λa b n=>check_star_args _ _ _ _ _ _]
 exact N1 m
theorem jku{u:Value}{c:Addr}{Q:Value->Shared->Prop}(X:K.In h)(f:zX K C=true)(a:h.get? e=some (wH C c))
  (i:∀ h' t1,(∀ b o,b≠e->h.get? b=some o->h'.get? b=some o)->h'.get? e=some (wH C t1)->Q .none ⟨h',g,d,t,os⟩) :
  wpAny (model prog w) A (call (.builtin "ValueError.__init__") [.ref e,u]) Q E ⟨h,g,d,t,os⟩:=by
 obtain⟨nm,m,N,bs,n,p,sub,q,j,dd,r,s,v,x,y,k,T⟩:=KK X f;have F:=F.excBase_ValueError;refine wpAny_call (codeAny_call_builtin F.init.plain F.initEntry (jeo T k a rfl ?_));unfold wH at a
 wp_walk
 refine i _ h.objs.size (λb o ne l=>?_) ?_
 ·rw[Heap.get?_update_other _ _ (Ne.symm ne)];exact M4 _ l
 ·rw[Heap.get?_update_self _ (M4 _ a) rfl];rfl
theorem jiW(self:Value):∀{l:List Value},V8 l=true->refuseLoop self "__setattr__" l=pure ()
 | [],h=>absurd h (by decide)
 | .ref a::r,h=>by rw[refuseLoop_ref];exact jiW self (l:=r) h
 | .none::r,h=>by rw[beq_iff_eq.mp (show(_==vtail)=true from h)];exact F.store_ValueError.passes self
 | .bool _::r,h=>by rw[beq_iff_eq.mp (show(_==vtail)=true from h)];exact F.store_ValueError.passes self
 | .int _ _::r,h=>by rw[beq_iff_eq.mp (show(_==vtail)=true from h)];exact F.store_ValueError.passes self
 | .float _ _::r,h=>by rw[beq_iff_eq.mp (show(_==vtail)=true from h)];exact F.store_ValueError.passes self
 | .str _ _::r,h=>by rw[beq_iff_eq.mp (show(_==vtail)=true from h)];exact F.store_ValueError.passes self
 | .bytes _ _::r,h=>by rw[beq_iff_eq.mp (show(_==vtail)=true from h)];exact F.store_ValueError.passes self
 | .type _::r,h=>by rw[beq_iff_eq.mp (show(_==vtail)=true from h)];exact F.store_ValueError.passes self
 | .builtin _::r,h=>by rw[beq_iff_eq.mp (show(_==vtail)=true from h)];exact F.store_ValueError.passes self
theorem jdd{x:Addr}{name:Str}{v:Value}{r:Addr}{tk:Tok}{R:Result->Shared->Prop}(X:K.In h)(W:zX K C=true)(Y:findIn K (.ref C) name=some none)(i:h.get? x=some (wH C r))
  (Z:∀ h' tk',h'.get? x=some { wH C r with dict:=some h.objs.size }->h'.Ns1 h.objs.size (λy=>if y=name then some v else none) ->
   (∀ b o,b≠x->h.get? b=some o->h'.get? b=some o)->R (.ok (.ret .none)) ⟨h',g,d,tk',os⟩) :
  codeAny (model prog w) A (.call (.builtin "object.__setattr__") ⟨[.ref x,.str name tk,v],[]⟩) R ⟨h,g,d,t,os⟩:=by
 have j:=F.store_object;obtain⟨nm,qn,N,bs,S,sn,sub,ab,col,dd,k0,k1,k2,k3,k5,U,T⟩:=KK X W;have u:Looks (model prog w) h (typeOf (.ref x)) (.ref C):=(Looks.ld i).andThen .now;have B:(Value.ref C::S).contains (.type "object")=true:=by rw[List.contains_cons,yK T];rfl
 have L1:Looks (model prog w) h (isSubtype (.ref C) (.type "object")) true:=λA Q E s k z=>wpAny_isSubtype_exc (k _ _ U) (by rw[B];exact z);have sub:Looks (model prog w) h (isInstance (.ref x) (.type "object")) true:=u.andThen L1;have hm:Looks (model prog w) h (mroOf (.ref C)) (.ref C::S):=λA Q E s k z=>wpAny_mroOf_exc (k _ _ U) z;refine codeAny_call_builtin j.slot.plain j.entry (@check_slot (model prog w) _ _ ⟨h,g,d,t,os⟩ "object.__setattr__" "object" "__setattr__" (.ref x) [.str name tk,v] [] _ j.kind j.split sub (j.args (.ref x) (.str name tk) v) ?_);rw[osa_eq,refuse_eq];refine L5 (L5 (u.at (L5 (hm.at ?_))));rw[refuseLoop_ref,jiW _ T];refine N1 (L5 (u.at (L5 ((looks_findIn X Y).at ?_))));refine L5 (N1 ?_);generalize l:wH C r=o at i;have D:o.dict=none:=by rw[<- l];rfl
 have G:o.cls=.ref C:=by rw[<- l];rfl
 have H:∀ c,o.data≠.cls c:=λc z=>by rw[<- l] at z;cases z
 repeat (first | (with_reducible refine wpAny_loadPart_at i ?_;rw[G]) | wp_step)
 rw[D,if_neg (by simp[typeHasDict])];split
 ·rename_i a;cases a
 split
 ·rename_i c a;exact absurd a (H c)
 have m:(h.push { cls:=.type "dict",data:=.dict #[] }).get? x=some o:=M4 _ i;have n:x≠h.objs.size:=N9 (N5 i);refine L5 (wpAny_alloc' ?_);refine L5 (wpAny_update' m ?_);refine N1 ?_;show wpAny _ _ (storeInDict h.objs.size (.str name tk) name v) _ _ _;generalize f:((h.push { cls:=.type "dict",data:=.dict #[] }).update x λo=>{ cls:=o.cls,dict:=some h.objs.size,data:=o.data,slots:=o.slots })=h2;have I:h2.get? h.objs.size=some { cls:=.type "dict",data:=.dict #[] }:=by rw[<- f];exact(Heap.get?_update_ne _ _ _ _ n.symm).trans (Heap.get?_push_at rfl rfl)
 have J:h2.Ns h.objs.size (λ_=>none):=⟨_,#[],_,I,rfl,λe he=>absurd he (by simp),λ_=>rfl⟩;have L:h2.get? x=some { wH C r with dict:=some h.objs.size }:=by rw[<- f,l];exact(Heap.get?_update_self _ m (by rw[<- l];rfl))
 unfold storeInDict newKeyGuard;refine L5 (N1 (L5 (wpAny_nsSet1 (Heap.Ns1.of_empty J) λh' p V=>?_)));obtain⟨oD,esD,epD,M,O,P⟩:=p.count (Within.cons name v Within.nil);refine L5 (wpAny_lookBehind M (by rw[O];exact pastItsLine_dict (U0 P (by rw[M7,List.length_nil,sizeLine_eq];omega))) ?_)
 wp_walk
 refine Z h' _ ((V.2 x n).trans L) p (λb o hb q=>?_);rw[V.2 b (N9 (N5 q)),<- f];exact(Heap.get?_update_ne _ _ _ _ hb).trans (M4 _ q)
theorem jlP{x:Addr}{name:Str}{v:Value}{e:Addr}{Q:Unit->Shared->Prop}(X:K.In h)(i:zX K C=true)(j:findIn K (.ref C) "__setattr__" = some (some (.builtin "object.__setattr__")))(k:findIn K (.ref C) name=some none)(f:h.get? x=some (wH C e))
  (l:∀ h' tk',h'.get? x=some { wH C e with dict:=some h.objs.size }->h'.Ns1 h.objs.size (λy=>if y=name then some v else none) ->
   (∀ b o,b≠x->h.get? b=some o->h'.get? b=some o)->Q () ⟨h',g,d,tk',os⟩):wpAny (model prog w) A (setAttr (.ref x) name v) Q E ⟨h,g,d,t,os⟩:=by
 have I:InstAt h x (wH C e) C none:=⟨f,rfl,rfl,True.intro⟩;exact set_plain (s:=⟨h,g,d,t,os⟩) X I j (jdd X i k f λh' tk' a b c=>l h' tk' a b c)
end
section
variable {prog:Program}{w:World}{A:Around}{E:Value->Shared->Prop}{h:Heap}{g:Array GenState}{d:Drawn}{t:Nat}{os:OsState}
variable {C x:Addr}{ox od:Obj}{K:Frag}{name:Str}
theorem jlT(X:K.In h)(a:zX K C=true)(T:String){M:Model}:Looks M h (isSubtype (.ref C) (.type T)) (vtail.contains (.type T)):=by
 obtain⟨nm,e,N,bs,f,g,sub,i,b,dd,j,l,m,n,o,c,d⟩:=KK X a;exact λA Q E s k z=>wpAny_isSubtype_exc (k _ _ c) (by rw[List.contains_cons,yK d];exact z)
theorem jeV{M:Model}{a:Value}{Q:Unit->Shared->Prop}(X:K.In h)(b:zX K C=true)(I:InstAt h x ox C (some od))(c:Q () ⟨h,g,d,t,os⟩) :
  wpAny M A (checkBuiltinCall "BaseException.__getattribute__" ⟨[.ref x,a],[]⟩) Q E ⟨h,g,d,t,os⟩ :=
 @check_slot M _ _ ⟨h,g,d,t,os⟩ "BaseException.__getattribute__" "BaseException" "__getattribute__" (.ref x) [a] [] _ (by decide +kernel) (by decide +kernel) (I.type.andThen (jlT X b "BaseException")) (F.args_bexc_ga (.ref x) a) c
theorem jal{v:Value}{tk:Tok}{Q:Fin->Shared->Prop}(X:K.In h)(I:InstAt h x ox C (some od))(a:findObj K C (some od) name=some (.value v))(e:Q (.done (.ret v)) ⟨h,g,d,t,os⟩) :
  wpAny (model prog w) A (Builtin.«object.__getattribute__» ⟨[.ref x,.str name tk],[]⟩) Q E ⟨h,g,d,t,os⟩:=by
 have b:=I.type (M:=model prog w);have c:=looks_find (M:=model prog w) X I a
 repeat (any_goals (first | assumption | with_reducible refine b.at ?_ | with_reducible refine c.at ?_ | wp_step))
theorem jfz{v:Value}{tk:Tok}{b a:Bool}{Q:Value->Shared->Prop}(X:K.In h)(i:zX K C=true)(I:InstAt h x ox C (some od))(h1:findIn K (.ref C) "__getattribute__" = some (some (.builtin "BaseException.__getattribute__")))
  (h2:findIn K (.ref C) "__getattr__" = some none) (j:findObj K C (some od) name=some (.value v)) (k:handedIn v=true) (q:Q v ⟨h,g,d,t,os⟩) :
  wpAny (model prog w) A (getAttrBy (.ref x) (.str name tk) b a) Q E ⟨h,g,d,t,os⟩:=by
 have f:=F.attrBase_ValueError;have r:=f.ga.bind (.ref x);have l:(a&&onTheHeap (Value.builtin "BaseException.__getattribute__"))=false:=by cases a<;>rfl
 have c:(Value.builtin "BaseException.__getattribute__"==Value.builtin "object.__getattribute__")=false:=by decide +kernel
 have m:(onTheHeap (Value.ref C)&&Value.builtin "BaseException.__getattribute__"==Value.builtin "object.__getattribute__")=false:=by rw[c];rfl
 have n:=I.type (M:=model prog w);have o:=looks_findIn (M:=model prog w) X h1;have p:=looks_findIn (M:=model prog w) X h2;have e:=handedOut_of k
 repeat (any_goals (first | assumption | with_reducible refine n.at ?_ | with_reducible refine o.at ?_ | with_reducible refine p.at ?_ | wp_step))
 refine codeAny_call_builtin f.ga.plain F.entry_bexc_ga (jeV X i I (jal X I j ?_))
 repeat (any_goals (first | assumption | rw[e] | wp_step))
theorem jlU{v:Value}{a:Bool}{Q:Value->Shared->Prop}(X:K.In h)(b:zX K C=true)(I:InstAt h x ox C (some od))(h1:findIn K (.ref C) "__getattribute__" = some (some (.builtin "BaseException.__getattribute__")))
  (h2:findIn K (.ref C) "__getattr__" = some none) (c:findObj K C (some od) name=some (.value v)) (e:handedIn v=true) (f:Q v ⟨h,g,d,t+1,os⟩) :
  wpAny (model prog w) A (getAttr (.ref x) name a) Q E ⟨h,g,d,t,os⟩:=by
 unfold getAttr
 repeat (any_goals (first | assumption | with_reducible apply jfz X b I h1 h2 c e | wp_step))
end
noncomputable def jcP(K:Frag):Value->Bool
 | .ref D=>(clsIn K D).isSome&&typeIn K (.ref D)==some (.type "type")
 | .type T=>pureOf (typeOf (.type T))==some (.type "type")
 | _=>false
structure XC(K:Frag)(C:Addr):Prop where
 cls:zX K C=true
 ga:findIn K (.ref C) "__getattribute__" = some (some (.builtin "BaseException.__getattribute__"))
 gn:findIn K (.ref C) "__getattr__" = some none
 sa:findIn K (.ref C) "__setattr__" = some (some (.builtin "object.__setattr__"))
 kc:findIn K (.ref C) "__class__" = some (some (.builtin "object.__class__"))
 mo:mroIn K C (.type "object")=some true
 ty:jcP K (.ref C)=true
section
variable {prog:Program}{w:World}{A:Around}{E:Value->Shared->Prop}{h:Heap}{g:Array GenState}{d:Drawn}{t:Nat}{os:OsState}
variable {C x:Addr}{ox od:Obj}{K:Frag}{name:Str}
theorem jaY{tk:Tok}{Q:Fin->Shared->Prop}(X:K.In h)(c:XC K C)(I:InstAt h x ox C (some od))(j:Q (.done (.ret (.ref C))) ⟨h,g,d,t,os⟩) :
  wpAny (model prog w) A (Builtin.«object.__getattribute__» ⟨[.ref x,.str "__class__" tk],[]⟩) Q E ⟨h,g,d,t,os⟩:=by
 have a:findObj K C (some od) "__class__" = some (.bind (.builtin "getset_descriptor.__get__") (.builtin "object.__class__")):=findObj_data (by
  obtain⟨nm,k,N,bs,l,m,sub,n,b,dd,o,p,r,u,v,y,z⟩:=KK X c.cls;have q:=c.cls;unfold clsIn;unfold zX at q;split at q
  ·rename_i e;rw[e];rfl
  ·cases q) c.kc rfl rfl
 have f:=I.type (M:=model prog w);have i:=looks_find (M:=model prog w) X I a
 repeat (any_goals (first | assumption | with_reducible refine f.at ?_ | with_reducible refine i.at ?_ | wp_step))
 refine class_get (s:=⟨h,g,d,t,os⟩) X I c.mo ?_
 repeat (any_goals (first | assumption | wp_step))
end
section
variable {prog:Program}{w:World}{A:Around}{E:Value->Shared->Prop}{h:Heap}{g:Array GenState}{d:Drawn}{t:Nat}{os:OsState}
variable {C x:Addr}{ox od:Obj}{K:Frag}{name:Str}
theorem jgG{tk:Tok}{b a:Bool}{Q:Value->Shared->Prop}(X:K.In h)(c:XC K C)(I:InstAt h x ox C (some od))(n:Q (.ref C) ⟨h,g,d,t,os⟩) :
  wpAny (model prog w) A (getAttrBy (.ref x) (.str "__class__" tk) b a) Q E ⟨h,g,d,t,os⟩:=by
 have f:=F.attrBase_ValueError;have o:=f.ga.bind (.ref x);have i:(a&&onTheHeap (Value.builtin "BaseException.__getattribute__"))=false:=by cases a<;>rfl
 have e:(Value.builtin "BaseException.__getattribute__"==Value.builtin "object.__getattribute__")=false:=by decide +kernel
 have j:(onTheHeap (Value.ref C)&&Value.builtin "BaseException.__getattribute__"==Value.builtin "object.__getattribute__")=false:=by rw[e];rfl
 have k:=I.type (M:=model prog w);have l:=looks_findIn (M:=model prog w) X c.ga;have m:=looks_findIn (M:=model prog w) X c.gn
 repeat (any_goals (first | assumption | with_reducible refine k.at ?_ | with_reducible refine l.at ?_ | with_reducible refine m.at ?_ | wp_step))
 refine codeAny_call_builtin f.ga.plain F.entry_bexc_ga (jeV X c.cls I (jaY X c I ?_))
 repeat (any_goals (first | assumption | wp_step))
theorem jlW{Q:Option Value->Shared->Prop}(X:K.In h)(c:XC K C)(I:InstAt h x ox C (some od))(a:Q (some (.ref C)) ⟨h,g,d,t+1,os⟩) :
  wpAny (model prog w) A (getAttr? (.ref x) "__class__") Q E ⟨h,g,d,t,os⟩:=by
 unfold getAttr? getAttrBy?
 refine L5 (wpAny_mkText (L5 (wpAny_attempt ?_)));refine jgG X c I ?_;exact N1 a
theorem jak{c:Value}(e:jcP K c=true)(X:K.In h)(M:Model):Looks M h (typeOf c) (.type "type")/\Looks M h (isType c) true:=by
 unfold jcP at e;cases c with
 | ref D =>
  rw[M6] at e;refine⟨looks_typeIn X (beq_iff_eq.mp e.2),?_⟩;have a:=e.1;unfold clsIn at a;split at a
  ·rename_i g i b d f;intro j l m n k q;unfold isType loadHead;exact L5 (wpAny_loadPart (k _ _ (X _ _ f)) (N1 q))
  ·cases a
 | type T=>exact⟨Looks.of_pure (of_pureOf (beq_iff_eq.mp e)),Looks.of_pure rfl⟩
 | _=>cases e
theorem jaz{c:Value}{b:Bool}{l:Int}{tk:Tok}{Q:Fin->Shared->Prop}(X:K.In h)(k:XC K C)(I:InstAt h x ox C (some od))(e:jcP K c=true)(o:subIn K (.ref C) c=some b)
  (f:∀ tk',Q (.done (.ret (.bool b))) ⟨h,g,d,tk',os⟩):wpAny (model prog w) A (Builtin.«isinstance.nested» ⟨[.ref x,c,.int l tk],[]⟩) Q E ⟨h,g,d,t,os⟩:=by
 obtain⟨m,n⟩:=jak e X (model prog w);have p:=I.type (M:=model prog w);have r:=looks_subIn (M:=model prog w) X o;have u:Looks (model prog w) h (isInstance (.ref x) c) b:=p.andThen r;have i:=(jak k.ty X (model prog w)).2;unfold Builtin.«isinstance.nested»;refine L5 (p.at ?_);by_cases q:(Value.ref C==c)=true
 ·have v:=beq_iff_eq.mp q;subst v;obtain rfl:b=true:=by
   have s:mroIn K C (.ref C)=some b:=o;unfold mroIn at s;obtain⟨D,a,z⟩:=Option.bind_eq_some_iff.mp s;split at z
   ·cases z
   ·cases z;have q:=k.cls;unfold zX at q;unfold clsIn at a;split at a
    ·rename_i y;cases a;split at q
     ·rename_i j;rw[y] at j;cases j;split at q
      ·rename_i B _;simp only[M6,beq_iff_eq] at q;rw[B,q.1.1.1.1.2];simp
      ·cases q
     ·cases q
    ·cases a
  rw[if_pos q];exact L5 (wpAny_rule (L5 (N1 (N1 (f _)))))
 ·rw[if_neg q];refine L5 (m.at ?_);rw[if_pos (by decide)]
  k_delta "plainIsInstance"
  refine L5 (L5 (n.at ?_));simp only[Bool.not_true,Bool.false_eq_true,if_false];refine L5 (u.at ?_);cases b with
  | true =>
   simp only[if_true];exact N1 (N1 (f _))
  | false =>
   simp only[Bool.false_eq_true,if_false];refine L5 (jlW X k I ?_);refine L5 (i.at ?_);simp only[Bool.not_true,Bool.false_eq_true,if_false];refine L5 (wpAny_rule ?_);refine r.at ?_
   first
    | exact N1 (f _)
    | exact N1 (N1 (f _))
    | exact L5 (N1 (N1 (f _)))
theorem xis{c:Value}{b:Bool}{s:Shared}{Q:Value->Shared->Prop}(X:K.In s.heap)(k:XC K C)(I:InstAt s.heap x ox C (some od))(e:jcP K c=true)(d:subIn K (.ref C) c=some b)
  (f:∀ tk',Q (.bool b) { s with toks:=tk' }):wpAny (model prog w) A (call (.builtin "isinstance") [.ref x,c]) Q E s :=
 call_isinstance (S:=λ_ R s=>(K.In s.heap/\InstAt s.heap x ox C (some od))/\∀ tk',R (.ok (.ret (.bool b))) { s with toks:=tk' })
  (λ_ _ _ _ _ a=>isinstance_outer (jaz a.1.1 k a.1.2 e d a.2) (by intro q;cases q)) ⟨⟨X,I⟩,f⟩
theorem jju{D:Addr}{c:Obj}{Q:Bool->Shared->Prop}(X:K.In h)(k:XC K C)(i:XC K D)(j:h.get? x=some c)(a:c.cls=.ref C)(l:subIn K (.ref C) (.ref D)=some true)
  (m:Q true ⟨h,g,d,t,os⟩):wpAny (model prog w) A (excMatches (.ref x) (.ref D)) Q E ⟨h,g,d,t,os⟩:=by
 obtain⟨nm,q,N,bs,n,r,sub,s,o,dd,u,v,y,z,B,e,T⟩:=KK X i.cls;have b:(Value.ref D::n).contains (.type "BaseException")=true:=by rw[List.contains_cons,yK T];rfl
 have f:=tc_notTuple;have p:=looks_subIn (M:=model prog w) X l;unfold excMatches
 repeat (first | (with_reducible refine wpAny_loadPart_at j ?_;rw[a]) | with_reducible refine wpAny_loadPart_at e ?_ | with_reducible refine p.at ?_ | (with_reducible refine wpAny_isSubtype_exc e ?_;rw[b]) | wp_step)
 exact m
end
end QX
namespace L2
open PySem PySem.Spec PyProof.Rows
noncomputable abbrev Key:=Sum Int Str
noncomputable def jar:Key->Value->Bool
 | .inl k,v=>Value.isInt k v
 | .inr x,v=>Value.isStrOf x v
noncomputable def jlN(w:World):Key->Int
 | .inl k=>hashInt k
 | .inr x=>hashStr w x
theorem yt:∀{k:Key}{v:Value},jar k v=true->(∃ i t,k=Sum.inl i/\v=Value.int i t) \/ (∃ x t,k=Sum.inr x/\v=Value.str x t)
 | .inl i,v,h=>by
  obtain⟨t,e⟩:=Value.isInt_shape (k:=i) (v:=v) h;exact .inl ⟨i,t,rfl,e⟩
 | .inr x,v,h=>by
  obtain⟨t,e⟩:=Value.isStrOf_shape (x:=x) (v:=v) h;exact .inr ⟨x,t,rfl,e⟩
theorem jcI(i:Int)(t:Tok):jar (.inl i) (.int i t)=true:=by simp[jar,Value.isInt]
theorem jbR(x:Str)(t:Tok):jar (.inr x) (.str x t)=true:=by simp[jar,Value.isStrOf]
theorem jiw(a b:Int):decide ((Sum.inl a:Key)=Sum.inl b)=(a==b):=by
 by_cases e:a=b
 ·subst e;simp
 ·have h:¬ (Sum.inl a:Key)=Sum.inl b:=λq=>e (Sum.inl.inj q);rw[X4 h];exact(U5.mpr e).symm
theorem jjp(a b:Str):decide ((Sum.inr a:Key)=Sum.inr b)=decide (a=b):=by
 by_cases e:a=b
 ·subst e;simp
 ·have h:¬ (Sum.inr a:Key)=Sum.inr b:=λq=>e (Sum.inr.inj q);rw[X4 h,X4 e]
theorem jjC(a:Int)(b:Str):decide ((Sum.inl a:Key)=Sum.inr b)=false:=X4 (λq=>nomatch q)
theorem jiy(a:Str)(b:Int):decide ((Sum.inr a:Key)=Sum.inl b)=false:=X4 (λq=>nomatch q)
noncomputable def yd(prog:Program)(w:World):PySem.KeyKind prog w Key where
 is:=jar
 hash:=jlN w
 inj:=λv a b ha hb=>by
  rcases yt ha with⟨i,t,rfl,rfl⟩ | ⟨x,t,rfl,rfl⟩
  ·rcases yt hb with⟨j,u,rfl,e⟩ | ⟨y,u,rfl,e⟩
   ·injection e with e1 _;rw[e1]
   ·exact nomatch e
  ·rcases yt hb with⟨j,u,rfl,e⟩ | ⟨y,u,rfl,e⟩
   ·exact nomatch e
   ·injection e with e1 _;rw[e1]
 byValue:=λk v h=>by
  rcases yt h with⟨i,t,rfl,rfl⟩ | ⟨x,t,rfl,rfl⟩<;>rfl
 pyHash:=λhv h=>by
  rcases yt hv with⟨i,t,rfl,rfl⟩ | ⟨x,t,rfl,rfl⟩
  ·exact wpAny_pyHash_int h
  ·exact wpAny_pyHash_str h
 eqBool:=λhu hv h=>by
  rcases yt hu with⟨i,t,rfl,rfl⟩ | ⟨x,t,rfl,rfl⟩
  ·rcases yt hv with⟨j,u,rfl,rfl⟩ | ⟨y,u,rfl,rfl⟩
   ·rw[jiw] at h;exact wpAny_eqBool_int h
   ·rw[jjC] at h;exact SeqAt.EqAt.int_str i t y u _ _ _ _ h
  ·rcases yt hv with⟨j,u,rfl,rfl⟩ | ⟨y,u,rfl,rfl⟩
   ·rw[jiy] at h;exact SeqAt.EqAt.str_int x t j u _ _ _ _ h
   ·rw[jjp] at h;exact wpAny_eqBool_str h
 «strs»:=λk x t v h=>by
  rcases yt h with⟨i,u,rfl,e⟩ | ⟨y,u,rfl,e⟩
  ·exact nomatch e
  ·injection e with e1 _;subst e1;cases v<;>rfl
theorem wQ(prog:Program)(w:World)(i:Int)(t:Tok):(yd prog w).is (.inl i) (.int i t)=true:=jcI i t
theorem YI(prog:Program)(w:World)(x:Str)(t:Tok):(yd prog w).is (.inr x) (.str x t)=true:=jbR x t
inductive V where
 | non | bl (b:Bool) | int (i:Int) | str (x:Str) | byt (b:Array UInt8) | flt (b:UInt64) | ref (a:Addr) | ty (n:String)
 deriving DecidableEq
def RelV:V->Value->Prop
 | .non,u=>u=Value.none
 | .bl b,u=>u=Value.bool b
 | .int i,u=>∃ t,u=Value.int i t
 | .str x,u=>∃ t,u=Value.str x t
 | .byt b,u=>∃ t,u=Value.bytes b t
 | .flt b,u=>∃ t,u=Value.float b t
 | .ref a,u=>u=Value.ref a
 | .ty n,u=>u=Value.type n
abbrev Vals:List V->List Value->Prop:=Paired RelV
theorem Vals.length{xs:List V}{us:List Value}(r:Vals xs us):xs.length=us.length:=Paired.length r
theorem Vals.get:∀{xs:List V}{us:List Value}{i:Nat}{x:V},Vals xs us->xs[i]?=some x->∃ u,us[i]?=some u/\RelV x u
 | _,_,_,_,.nil,e=>by simp at e
 | _,_,0,_,.cons r _,e=>by simp at e;subst e;exact⟨_,rfl,r⟩
 | _,_,i+1,x,.cons _ t,e=>by
  obtain⟨u,a,b⟩:=Vals.get (i:=i) (x:=x) t (by simpa using e);exact⟨u,by simpa using a,b⟩
theorem Vals.set{x:V}{u:Value}(r:RelV x u):∀{xs:List V}{us:List Value}(i:Nat),Vals xs us->Vals (xs.set i x) (us.set i u)
 | _,_,_,.nil=>.nil
 | _,_,0,.cons _ t=>.cons r t
 | _,_,i+1,.cons q t=>.cons q (Vals.set r i t)
theorem Vals.append:∀{xs ys:List V}{us ws:List Value},Vals xs us->Vals ys ws->Vals (xs++ys) (us++ws)
 | _,_,_,_,.nil,s=>s
 | _,_,_,_,.cons r t,s=>.cons r (Vals.append t s)
theorem Vals.take:∀{xs:List V}{us:List Value}(n:Nat),Vals xs us->Vals (xs.take n) (us.take n)
 | _,_,0,_=>.nil
 | _,_,_+1,.nil=>.nil
 | _,_,n+1,.cons r t=>.cons r (Vals.take n t)
theorem Vals.drop:∀{xs:List V}{us:List Value}(n:Nat),Vals xs us->Vals (xs.drop n) (us.drop n)
 | _,_,0,r=>r
 | _,_,_+1,.nil=>.nil
 | _,_,n+1,.cons _ t=>Vals.drop n t
def RelO:Option V->Option Value->Prop
 | some v,some u=>RelV v u
 | none,none=>True
 | _,_=>False
def KV{κ:Type}:List (κ×V)->List (κ×Value)->Prop:=Paired λ(p:κ×V) (q:κ×Value)=>p.1=q.1/\RelV p.2 q.2
noncomputable def kV:Key->V
 | .inl i=>.int i
 | .inr x=>.str x
inductive HO where
  | lst (xs:List V)
  | tup (xs:List V)
  | dK (kvs:List (Key×V)) | dT (kvs:List (List Key×V))
  | set (S:Int->Bool) (n:Nat)
  | ins (C dx:Addr) (fs:List (Str×V))
  | own (x:Addr)
  | xd (fs:List (Str×V))
  | met (f x:Addr)
  | rng (lo hi:Int)
  | frz (o:Obj) (u:HO)
  | tbl (ps:Array Value)
  | ext (φ:Heap->Prop)
noncomputable abbrev Hp:=Addr->Option HO
noncomputable def upd(H:Hp)(a:Addr)(o:HO):Hp:=λb=>if b=a then some o else H b
theorem jA{H:Hp}{a:Addr}{o:HO}:upd H a o a=some o:=by unfold upd;rw[if_pos rfl]
theorem jo{H:Hp}{a b:Addr}{o:HO}(h:b≠a):upd H a o b=H b:=by unfold upd;rw[if_neg h]
theorem jgn{H:Hp}{a:Addr}{o u:HO}:upd (upd H a o) a u=upd H a u:=by
 funext b;unfold upd;split<;>rfl
theorem k6{H:Hp}{a b:Addr}{o:HO}(h:H a=some o)(h':H b=none):a≠b:=by
 intro e;subst e;rw[h] at h';cases h'
def IsTupN(h:Heap)(a:Addr)(its:Array Value):Prop:=IsTup h a its/\∃ o,h.get? a=some o/\o.dict=none
theorem IsTupN.new(h:Heap)(its:Array Value):IsTupN (h.push { cls:=.type "tuple",data:=.seq its }) h.objs.size its:=⟨IsTup.new h its,_,X9 _ rfl,rfl⟩
theorem IsTupN.lt{h:Heap}{a:Addr}{its:Array Value}(x:IsTupN h a its):a < h.objs.size:=x.1.lt
section
variable (P:Program)(w:World)
def ObjOk(H:Hp)(h:Heap)(a:Addr):HO->Prop
 | .lst xs=>xs.length<=sizeLine/\∃(its:List Value) (n:Nat),Vals xs its/\h.get? a=some { cls:=.type "list",data:=.seq its.toArray n }
 | .tup xs=>xs.length<=sizeLine/\∃ its:List Value,Vals xs its/\IsTupN h a its.toArray
 | .dK kvs=>kvs.length<=sizeLine/\(a==sysModules)=false/\∃ vs,KV kvs vs/\h.DictOf (yd P w) a vs
 | .dT kvs=>kvs.length<=sizeLine/\(a==sysModules)=false/\∃ xs:List (List Key×Addr×Value),
   Paired (λ(p:List Key×V) (q:List Key×Addr×Value)=>p.1=q.1/\H q.2.1=some (.tup (p.1.map kV))/\RelV p.2 q.2.2) kvs xs /\
   ∃ o es ep,h.get? a=some o/\o.ExactDict/\o.data=.dict es ep/\es.toList=xs.map (entryOfKey (tupleKind (yd P w)))/\(xs.map (·.1)).Nodup
 | .set S n=>h.SetOf (intKind P w) a S n
 | .ins C dx fs=>H dx=some (.own a)/\fs.length<=1000/\dx≠a/\h.get? a=some (PySem.W.instObj C dx) /\
   ∃ mA,h.Ns1 dx mA/\(∀ f,RelO (fs.lookup f) (mA f))/\PySem.Within mA (fs.map (·.1))
 | .own _=>∃ o,h.get? a=some o
 | .xd fs=>∃ mA,h.Ns1 a mA/\∀ f,RelO (fs.lookup f) (mA f)
 | .rng lo hi=>∃ t u v,h.get? a=some { cls:=.type "range",data:=.fields #[.int lo t,.int hi u,.int 1 v] }
 | .frz o u=>h.get? a=some o/\ObjOk H h a u
 | .tbl ps=>h.get? a=some { cls:=.none,data:=.fields ps }
 | .met f x=>h.get? a=some (PySem.W.methodObj (.ref f) (.ref x))
 | .ext φ=>φ h/\(∃ o,h.get? a=some o)/\∀ h1 h2:Heap,φ h1->(∀ o,h1.get? a=some o->h2.get? a=some o)->φ h2
def HOk(H:Hp)(h:Heap):Prop:=∀ a o,H a=some o->ObjOk P w H h a o
end
section
variable {P:Program}{w:World}{H H':Hp}{h h':Heap}{a:Addr}{o:HO}
theorem ObjOk.lt(x:ObjOk P w H h a o):a < h.objs.size:=by
 cases o with
 | lst c=>obtain⟨_,_,_,_,e⟩:=x;exact N5 e
 | tup c=>obtain⟨_,_,_,p⟩:=x;exact p.lt
 | dK b=>obtain⟨_,_,_,_,o,_,_,e,_⟩:=x;exact N5 e
 | dT b=>obtain⟨_,_,_,_,o,_,_,e,_⟩:=x;exact N5 e
 | set S n=>obtain⟨o,_,_,_,e,_⟩:=x;exact N5 e
 | ins C dx fs=>obtain⟨_,_,_,e,_⟩:=x;exact N5 e
 | own y=>obtain⟨_,e⟩:=x;exact N5 e
 | xd fs=>obtain⟨_,⟨_,_,_,e,_⟩,_⟩:=x;exact N5 e
 | rng d g=>obtain⟨_,_,_,e⟩:=x;exact N5 e
 | frz i u=>obtain⟨e,_⟩:=x;exact N5 e
 | tbl j=>exact N5 (show h.get? a=some _ from x)
 | met f y=>exact N5 (show h.get? a=some _ from x)
 | ext φ=>obtain⟨_,⟨_,e⟩,_⟩:=x;exact N5 e
theorem Paired.mapP{α β:Type}{F G:α->β->Prop}:∀{l₁:List α}{l₂:List β},Paired F l₁ l₂->(∀ a b,F a b->G a b)->Paired G l₁ l₂
 | _,_,.nil,_=>.nil
 | _,_,.cons r t,f=>.cons (f _ _ r) (Paired.mapP t f)
theorem ObjOk.stay(x:ObjOk P w H h a o)(k:∀ b u,(b=a \/ H b=some (.own a))->h.get? b=some u->h'.get? b=some u)
  (E:∀ b,H b=some (.own a)->H' b=some (.own a)) (F:∀ b xs,H b=some (.tup xs)->H' b=some (.tup xs)):ObjOk P w H' h' a o:=by
 induction o with
 | lst xs=>obtain⟨z,l,n,r,e⟩:=x;exact⟨z,l,n,r,k _ _ (.inl rfl) e⟩
 | tup xs=>obtain⟨z,l,r,⟨g,e,c⟩,m,s,G⟩:=x;exact⟨z,l,r,⟨g,k _ _ (.inl rfl) e,c⟩,m,k _ _ (.inl rfl) s,G⟩
 | dK A=>obtain⟨z,y,I,r,g,i,j,e,c⟩:=x;exact⟨z,y,I,r,g,i,j,k _ _ (.inl rfl) e,c⟩
 | dT A =>
  obtain⟨z,y,xs,r,g,i,j,e,c⟩:=x;exact⟨z,y,xs,Paired.mapP r λp q z=>⟨z.1,F _ _ z.2.1,z.2.2⟩,g,i,j,k _ _ (.inl rfl) e,c⟩
 | set S n=>obtain⟨g,i,j,t,e,c⟩:=x;exact⟨g,i,j,t,k _ _ (.inl rfl) e,c⟩
 | ins C dx fs =>
  obtain⟨d,z,ne,e,B,⟨od,i,j,s,c⟩,r⟩:=x;exact⟨E _ d,z,ne,k _ _ (.inl rfl) e,B,⟨od,i,j,k _ _ (.inr d) s,c⟩,r⟩
 | own y=>obtain⟨g,e⟩:=x;exact⟨g,k _ _ (.inl rfl) e⟩
 | xd fs=>obtain⟨B,⟨od,i,j,e,c⟩,r⟩:=x;exact⟨B,⟨od,i,j,k _ _ (.inl rfl) e,c⟩,r⟩
 | rng K L=>obtain⟨t,u,v,e⟩:=x;exact⟨t,u,v,k _ _ (.inl rfl) e⟩
 | frz g u J=>obtain⟨e,q⟩:=x;exact⟨k _ _ (.inl rfl) e,J q⟩
 | tbl D =>
  have e:h.get? a=some { cls:=.none,data:=.fields D }:=x;show h'.get? a=some { cls:=.none,data:=.fields D };exact k a _ (.inl rfl) e
 | met f y =>
  have e:h.get? a=some (PySem.W.methodObj (.ref f) (.ref y)):=x;show h'.get? a=some (PySem.W.methodObj (.ref f) (.ref y));exact k a _ (.inl rfl) e
 | ext φ=>obtain⟨p,⟨o,e⟩,st⟩:=x;exact⟨st _ _ p λo q=>k _ _ (.inl rfl) q,⟨o,k _ _ (.inl rfl) e⟩,st⟩
theorem HOk.lt(x:HOk P w H h)(e:H a=some o):a < h.objs.size:=(x a o e).lt
theorem HOk.fresh(x:HOk P w H h)(e:h.objs.size<=a):H a=none:=by
 cases q:H a with
 | none=>rfl
 | some u=>exact absurd (U7 (x.lt q) e) (Nat.lt_irrefl _)
theorem HOk.kept(x:HOk P w H h)(k:∀ b u,h.get? b=some u->h'.get? b=some u):HOk P w H h':=λa o e =>
 (x a o e).stay (λb u _ q=>k b u q) (λ_ q=>q) λ_ _ q=>q
theorem HOk.laid(x:HOk P w H h)(k:∀ b u,h.get? b=some u->h'.get? b=some u)(hp:h.objs.size<=a)(new:ObjOk P w (upd H a o) h' a o):HOk P w (upd H a o) h':=λb u e=>by
 have d:=x.fresh hp;by_cases f:b=a
 ·subst f;rw[jA] at e;cases e;exact new
 ·rw[jo f] at e;exact(x b u e).stay (λc v _ q=>k c v q) (λc q=>by rw[jo (k6 q d)];exact q) λc g q=>by rw[jo (k6 q d)];exact q
end
def Rd(H:Hp)(a:Addr)(u:HO):Prop:=H a=some u \/ ∃ o,H a=some (.frz o u)
theorem Rd.ok{P:Program}{w:World}{H:Hp}{h:Heap}{a:Addr}{u:HO}(r:Rd H a u)(x:HOk P w H h):ObjOk P w H h a u:=by
 rcases r with r | ⟨o,r⟩
 ·exact x a u r
 ·obtain⟨_,q⟩:=x a _ r;exact q
def Mut:Option HO->Prop
 | some (.lst _)=>True
 | some (.dK _)=>True
 | some (.dT _)=>True
 | some (.set _ _)=>True
 | some (.ins _ _ _)=>True
 | some (.ext _)=>True
 | _=>False
section
variable {P:Program}{w:World}{H:Hp}{h h':Heap}{x e:Addr}{o':HO}
theorem HOk.write(ok:HOk P w H h)(g:Mut (H x))(n:e=x \/ H e=some (.own x))(k:∀ b u,b≠e->h.get? b=some u->h'.get? b=some u)(m:∃ u,h'.get? e=some u)
  (new:ObjOk P w (upd H x o') h' x o'):HOk P w (upd H x o') h':=λb u q=>by
 have d:∀ c y,H c=some (.own y)->c≠x:=λc y r z=>by subst z;rw[r] at g;exact g
 have f:∀ c i,H c=some (.tup i)->c≠x:=λc i r z=>by subst z;rw[r] at g;exact g
 by_cases j:b=x
 ·subst j;rw[jA] at q;cases q;exact new
 ·rw[jo j] at q;by_cases a:b=e
  ·have o:H b=some (.own x):=by
    rcases n with z | z
    ·exact absurd (a.trans z) j
    ·rw[a];exact z
   rw[q] at o;cases o;obtain⟨v,p⟩:=m;exact⟨v,by rw[a];exact p⟩
  ·refine(ok b u q).stay (λc v l r=>k c v ?_ r) (λc r=>by rw[jo (d c b r)];exact r) λc i r=>by rw[jo (f c i r)];exact r
   rcases l with rfl | l
   ·exact a
   ·rintro rfl;rcases n with z | z
    ·exact d c b l z
    ·rw[l] at z;cases z;exact j rfl
end
structure Un(fs ex:List Addr)(H H':Hp)(h h':Heap):Prop where
 keep:∀ b o,h.get? b=some o->H b=none->b∉fs->b∉ex->h'.get? b=some o
 slot:∀ b o,h.get? b=some o->H b=none->b∈fs->b∉ex->∃ sl,h'.get? b=some { o with slots:=sl }
 free:∀ b o,h.get? b=some o->H b=none->b∉ex->H' b=none
 there:∀ b o,h.get? b=some o->b∉ex->∃ o',h'.get? b=some o'
 tups:∀ b xs,H b=some (.tup xs)->H' b=some (.tup xs)
 frzs:∀ b o u,H b=some (.frz o u)->H' b=some (.frz o u)
 tbls:∀ b ps,H b=some (.tbl ps)->∃ more,H' b=some (.tbl (ps++more))
section
variable {fs fs' ex ex':List Addr}{H H1 H2:Hp}{h h1 h2 h':Heap}{a x e:Addr}{o:HO}
theorem Un.any(u:Un fs ex H H1 h h1){b:Addr}{a:Obj}(q:h.get? b=some a)(n:H b=none)(c:b∉ex):∃ sl,h1.get? b=some { a with slots:=sl }:=by
 by_cases d:b∈fs
 ·exact u.slot b a q n d c
 ·exact⟨a.slots,u.keep b a q n d c⟩
theorem Un.kept(k:∀ b u,h.get? b=some u->h'.get? b=some u):Un fs ex H H h h' :=
 ⟨λb a q _ _ _=>k b a q,λb a q _ _ _=>⟨a.slots,k b a q⟩,λ_ _ _ n _=>n,λb a q _=>⟨a,k b a q⟩,λ_ _ q=>q,λ_ _ _ q=>q,λ_ c q=>⟨#[],by rw[q];simp⟩⟩
theorem Un.refl:Un fs ex H H h h:=Un.kept λ_ _ q=>q
theorem Un.laid(k:∀ b u,h.get? b=some u->h'.get? b=some u)(hp:h.objs.size<=a)(c:H a=none):Un fs ex H (upd H a o) h h' where
 keep:=λb u q _ _ _=>k b u q
 slot:=λb u q _ _ _=>⟨u.slots,k b u q⟩
 free:=λb u q n _=>by rw[jo (N9 (U7 (N5 q) hp))];exact n
 there:=λb u q _=>⟨u,k b u q⟩
 tups:=λb d q=>by rw[jo (k6 q c)];exact q
 frzs:=λb u d q=>by rw[jo (k6 q c)];exact q
 tbls:=λb e q=>⟨#[],by rw[jo (k6 q c),q];simp⟩
theorem Un.write(c:Mut (H x))(j:e=x \/ H e=some (.own x))(k:∀ b u,b≠e->h.get? b=some u->h'.get? b=some u)(d:∃ u,h'.get? e=some u):Un fs ex H (upd H x o) h h':=by
 have g:∀ b,H b=none->b≠x:=λb n z=>by subst z;rw[n] at c;exact c
 have i:∀ b,H b=none->b≠e:=λb n z=>by
  subst z;rcases j with r | r
  ·exact g b n r
  ·rw[n] at r;cases r
 have f:∀ b u,H b=some u->¬ Mut (some u)->b≠x:=λb u q nm z=>by subst z;rw[q] at c;exact nm c
 refine⟨λb u q n _ _=>k b u (i b n) q,λb u q n _ _=>⟨u.slots,k b u (i b n) q⟩,λb u q n _=>by rw[jo (g b n)];exact n,λb u q _=>?_,
  λb l q=>by rw[jo (f b _ q λz=>z)];exact q,λb u l q=>by rw[jo (f b _ q λz=>z)];exact q,λb m q=>⟨#[],by rw[jo (f b _ q λz=>z),q];simp⟩⟩
 by_cases a:b=e
 ·subst a;exact d
 ·exact⟨u,k b u a q⟩
end
noncomputable def trk(h:Heap)(H:Hp):List Addr:=(List.range h.objs.size).filter λa=>(H a).isSome
noncomputable def jdS(h:Heap)(H:Hp):Heap:=PySem.W.hideAll h (trk h H)
theorem jbi(h:Heap)(H:Hp):(jdS h H).objs.size=h.objs.size:=PySem.W.hideAll_size _ _
theorem jcY{h:Heap}{H:Hp}{b:Addr}{o:Obj}(e:h.get? b=some o)(n:H b=none):(jdS h H).get? b=some o :=
 PySem.W.hideAll_get _ e λa=>by
  have q:(H b).isSome=true:=(List.mem_filter.mp a).2;rw[n] at q;simp at q
theorem jf8{h:Heap}{H:Hp}{b:Addr}{o:Obj}(e:(jdS h H).get? b=some o):h.get? b=some o/\H b=none:=by
 have a:h.get? b=some o:=PySem.W.of_hideAll (trk h H) e;refine⟨a,?_⟩;cases q:H b with
 | none=>rfl
 | some x =>
  have c:b∈trk h H:=List.mem_filter.mpr ⟨List.mem_range.mpr (N5 a),by simp[q]⟩;have z:(jdS h H).get? b=none:=PySem.W.hideAll_none (trk h H) c;rw[z] at e;cases e
noncomputable def jft(g h:Heap)(L:Addr):List (Addr×Obj):=(List.range h.objs.size).filterMap λa=>if a=L \/ (g.get? a).isSome=true then none else(h.get? a).map λo=>(a,o)
noncomputable def rest(g h:Heap)(L d:Addr):List (Addr×Obj):=(jft g h L).filter λp=>decide (p.1≠d)
structure Mod(K:PySem.W.Frag)(mg:Str->Option Value)(base:Heap):Prop where
 kin:K.In base
 glob:base.Ns mainGlobals mg
 blt:∃ mb,base.Ns builtinsNs mb/\∀ x:Str,x≠"__name__"->mb x=bootBuiltins x
 nolimit:base.NoLimit
structure Cx where
 prog:Program
 w:World
 K:PySem.W.Frag
 mg:Str->Option Value
 base:Heap
 A:Around
 N:List Str
 s₀:Shared
 H₀:Hp
 env:Env
 outer:List Env
 stack:List Env
 ex:List Addr
 fn:Str->Bool
 calm:Bool
 pn:List (Addr×Obj)
 xe:Value->Shared->Prop
noncomputable def frs(l:List Env):List Addr:=l.filterMap (·.frame)
noncomputable abbrev Cx.fs(X:Cx):List Addr:=frs X.outer
def Vis(sc:Scope)(x:Str):Prop:=sc.names.lookup x=some .local \/ sc.names.lookup x=some .cell \/ sc.names.lookup x=some .free
def Loc(sc:Scope)(x:Str):Prop:=sc.names.lookup x=some .local \/ sc.names.lookup x=some .cell
def jlQ(env:Env)(h:Heap)(m:Str->Option Value)(x:Str)(u:Value):Prop :=
 (env.kindOf x=some .local/\m x=some u) \/ ((env.kindOf x=some .cell \/ env.kindOf x=some .free)/\∃ c,env.cells.lookup x=some c/\h.IsCell c (some u))
structure Cx.Ok(X:Cx):Prop where
 mod:Mod X.K X.mg X.base
 kind:X.env.scope.kind=.function
 glob:X.env.globals=mainGlobals
 blt:X.env.builtins=builtinsNs
 above:X.s₀.heap.objs.size<=X.env.locals
 inj:∀ x y c,X.env.cells.lookup x=some c->X.env.cells.lookup y=some c->x=y
 has:∀ x,(X.env.kindOf x=some .cell \/ X.env.kindOf x=some .free)->∃ c,X.env.cells.lookup x=some c
 cab:∀ x c,X.fn x=true->X.env.cells.lookup x=some c->X.s₀.heap.objs.size<=c
 hd:X.calm=true->X.A.handled=none
 frames:X.A.frames=some X.stack
 stk:X.stack=X.outer \/ (X.stack=X.env::X.outer/\X.env.frame=some X.env.locals)
 exf:∀ b∈X.ex,b≠X.env.locals/\∀ x c,X.env.cells.lookup x=some c->c≠b
 bs:∀ b o,X.base.get? b=some o->X.s₀.heap.get? b=some o/\X.H₀ b=none
 bsz:X.base.objs.size<=X.s₀.heap.objs.size
 noex:∀ b o,X.base.get? b=some o->b∉X.ex
 exfs:∀ b∈X.ex,b∉X.fs
 funs:X.s₀.heap.FunFrames X.base X.outer
 frf:∀ b∈X.fs,X.H₀ b=none
structure Inv(X:Cx)(pins:List (Addr×Obj))(σ:List (Option V))(H:Hp)(s:Shared):Prop where
 ok:X.Ok
 os:s.os=X.s₀.os
 bare:AllBare s.gens
 base:Un X.fs X.ex X.H₀ H X.s₀.heap s.heap
 loc:∃ m,s.heap.Ns X.env.locals m/\∀(i:Nat) (x:Str) (v:V),X.N[i]?=some x->σ[i]?=some (some v)->Vis X.env.scope x->∃ u,RelV v u/\jlQ X.env s.heap m x u
 cell:∀ x c,X.env.cells.lookup x=some c->∃ v,s.heap.IsCell c v
 free:H X.env.locals=none
 freeC:∀ x c,X.env.cells.lookup x=some c->H c=none
 pin:∀ p∈X.pn++pins,s.heap.get? p.1=some p.2/\H p.1=none/\p.1≠X.env.locals/\p.1∉X.fs/\∀ v,p.2.data≠.cell v
 hok:HOk X.prog X.w H s.heap
 len:σ.length=X.N.length
section
variable {X:Cx}{pins:List (Addr×Obj)}{σ:List (Option V)}{H H':Hp}{s:Shared}{h':Heap}
theorem Cx.Ok.nofr(ok:X.Ok){b:Addr}{o:Obj}(e:X.base.get? b=some o):b∉X.fs:=λa=>by
 have:=(ok.funs.mem a).1;rw[e] at this;cases this
theorem Inv.bs(I:Inv X pins σ H s):∀ b o,X.base.get? b=some o->s.heap.get? b=some o/\H b=none:=λb o e =>
 ⟨I.base.keep b o (I.ok.bs b o e).1 (I.ok.bs b o e).2 (I.ok.nofr e) (I.ok.noex b o e),I.base.free b o (I.ok.bs b o e).1 (I.ok.bs b o e).2 (I.ok.noex b o e)⟩
theorem Inv.bk(I:Inv X pins σ H s):∀ b o,X.base.get? b=some o->s.heap.get? b=some o:=λb o e=>(I.bs b o e).1
theorem Inv.mod(I:Inv X pins σ H s):Mod X.K X.mg X.base:=I.ok.mod
theorem Inv.kIn(I:Inv X pins σ H s):X.K.In s.heap:=I.ok.mod.kin.keeps I.bk
theorem Inv.fr(I:Inv X pins σ H s):∃ m,Fr X.base X.env.locals s.heap m :=
 let ⟨m,hn,_⟩:=I.loc
 ⟨m,hn,I.bk,U0 I.ok.bsz I.ok.above⟩
theorem Inv.lt(I:Inv X pins σ H s):X.env.locals < s.heap.objs.size:=let ⟨_,hn,_⟩:=I.loc;hn.lt
theorem Inv.sz(I:Inv X pins σ H s):X.s₀.heap.objs.size<=s.heap.objs.size:=U0 I.ok.above (Nat.le_of_lt I.lt)
theorem Inv.nofs(I:Inv X pins σ H s){a:Addr}(h:s.heap.objs.size<=a):a∉X.fs:=λb=>by
 obtain⟨_,o,c,_⟩:=I.ok.funs.mem b;exact absurd (U7 (N5 c) (U0 I.sz h)) (Nat.lt_irrefl _)
theorem Inv.cne(I:Inv X pins σ H s):∀ x c,X.env.cells.lookup x=some c->c≠X.env.locals:=λx c e z=>by
 obtain⟨v,o,d,hd⟩:=I.cell x c e;obtain⟨m,⟨f,g,h,a,b,_⟩,_⟩:=I.loc;rw[z,a] at d;cases d;rw[b] at hd;cases hd
theorem Inv.funs(I:Inv X pins σ H s):s.heap.FunFrames X.base X.outer:=by
 have all:∀(l:List Env),(∀ b∈frs l,b∈X.fs)->X.s₀.heap.FunFrames X.base l->s.heap.FunFrames X.base l:=by
  intro l
  induction l with
  | nil=>intro _ _;trivial
  | cons env r g =>
   intro f h;obtain⟨i,⟨L,o,a,j,k,hd⟩,m⟩:=h;have c:L∈X.fs:=f L (by unfold frs;rw[List.filterMap_cons,a];exact M3);obtain⟨n,e⟩:=I.base.slot L o k (I.ok.frf L c) c λz=>I.ok.exfs L z c;exact⟨i,⟨L,_,a,j,e,hd⟩,g (λb d=>f b (by unfold frs;rw[List.filterMap_cons,a];exact M0 _ d)) m⟩
 exact all X.outer (λ_ d=>d) I.ok.funs
theorem Inv.stack(I:Inv X pins σ H s):s.heap.FunFrames X.base X.stack:=by
 rcases I.ok.stk with e | ⟨e,a⟩
 ·rw[e];exact I.funs
 ·rw[e];obtain⟨m,b,_⟩:=I.loc;refine .cons (by rw[I.ok.kind];decide) a b ?_ I.funs;exact Heap.get?_none_of_le (U0 I.ok.bsz I.ok.above)
theorem Inv.stkSub(I:Inv X pins σ H s):∀ b∈frs X.stack,b∈X.env.locals::X.fs:=λb a=>by
 rcases I.ok.stk with e | ⟨e,c⟩
 ·rw[e] at a;exact M0 _ a
 ·rw[e] at a;unfold frs at a;rw[List.filterMap_cons,c] at a;exact a
theorem Inv.stkFree(I:Inv X pins σ H s):∀ b∈frs X.stack,H b=none:=λb a=>by
 rcases M9.mp (I.stkSub b a) with e | a
 ·rw[e];exact I.free
 ·obtain⟨_,o,c,_⟩:=I.ok.funs.mem a;exact I.base.free b o c (I.ok.frf b a) λz=>I.ok.exfs b z a
theorem Inv.step{g':Array GenState}{t':Nat}{d':Drawn}{ch:List Addr}(I:Inv X pins σ H s)
  (f:∀ b∈ch,(b∈X.ex \/ X.s₀.heap.objs.size<=b)/\b≠X.env.locals/\(∀ x c,X.env.cells.lookup x=some c->c≠b)/\∀ p∈X.pn++pins,p.1≠b)
  (keep:∀ b o,b≠X.env.locals->b∉X.fs->b∉ch->s.heap.get? b=some o->H b=none->h'.get? b=some o)
  (slot:∀ b o,b≠X.env.locals->b∈X.fs->b∉ch->s.heap.get? b=some o->H b=none->∃ sl,h'.get? b=some { o with slots:=sl }) (free:∀ b o,b∉ch->s.heap.get? b=some o->H b=none->H' b=none)
  (there:∀ b o,b∉ch->s.heap.get? b=some o->∃ o',h'.get? b=some o')
  (tups:∀ b xs,H b=some (.tup xs)->H' b=some (.tup xs)) (frzs:∀ b o u,H b=some (.frz o u)->H' b=some (.frz o u)) (tbls:∀ b ps,H b=some (.tbl ps)->∃ more,H' b=some (.tbl (ps++more)))
  (ns:∀ m,s.heap.Ns X.env.locals m->h'.Ns X.env.locals m) (hok:HOk X.prog X.w H' h') (J:AllBare g') :
  Inv X pins σ H' { s with heap:=h',gens:=g',drawn:=d',toks:=t' }:=by
 have B:∀ b o,X.s₀.heap.get? b=some o->b≠X.env.locals:=λb o e=>N9 (U7 (N5 e) I.ok.above);have j:∀ b o,X.s₀.heap.get? b=some o->b∉X.ex->b∉ch:=λb o e a y=>by
  rcases(f b y).1 with z | z
  ·exact a z
  ·exact absurd (U7 (N5 e) z) (Nat.lt_irrefl _)
 have g:∀ x c,X.env.cells.lookup x=some c->∀ v,s.heap.IsCell c v->h'.IsCell c v:=λx c e v ⟨o,A,hd⟩=>by
  have h:c∉ch:=λz=>(f c z).2.2.1 x c e rfl;by_cases E:c∈X.fs
  ·obtain⟨sl,q⟩:=slot c o (I.cne x c e) E h A (I.freeC x c e);exact⟨_,q,hd⟩
  ·exact⟨o,keep c o (I.cne x c e) E h A (I.freeC x c e),hd⟩
 refine⟨I.ok,I.os,J,⟨λb o e n y a=>?_,λb o e n y a=>?_,λb o e n a=>?_,λb o e a=>?_,λb xs e=>tups b xs (I.base.tups b xs e),λb o xs e=>frzs b o xs (I.base.frzs b o xs e),λb ps e=>?_⟩,?_,λx c e=>?_,?_,λx c e=>?_,λp F=>?_,hok,I.len⟩
 ·exact keep b o (B b o e) y (j b o e a) (I.base.keep b o e n y a) (I.base.free b o e n a)
 ·obtain⟨sl,t⟩:=I.base.slot b o e n y a;obtain⟨D,C⟩:=slot b _ (B b o e) y (j b o e a) t (I.base.free b o e n a);exact⟨D,C⟩
 ·obtain⟨o',t⟩:=I.base.there b o e a;exact free b o' (j b o e a) t (I.base.free b o e n a)
 ·obtain⟨o',t⟩:=I.base.there b o e a;exact there b o' (j b o e a) t
 ·obtain⟨K,t⟩:=I.base.tbls b ps e;obtain⟨L,C⟩:=tbls b _ t;exact⟨K++L,by rw[C,Array.append_assoc]⟩
 ·obtain⟨m,M,N⟩:=I.loc;refine⟨m,ns m M,λi x v t C O=>?_⟩;obtain⟨u,r,l⟩:=N i x v t C O;refine⟨u,r,?_⟩;rcases l with l | ⟨k,c,e,z⟩
  ·exact .inl l
  ·exact .inr ⟨k,c,e,g x c e _ z⟩
 ·obtain⟨v,z⟩:=I.cell x c e;exact⟨v,g x c e v z⟩
 ·obtain⟨m,⟨o,_,_,A,_⟩,_⟩:=I.loc;exact free _ o (λz=>(f _ z).2.1 rfl) A I.free
 ·obtain⟨v,o,A,hd⟩:=I.cell x c e;exact free c o (λz=>(f c z).2.2.1 x c e rfl) A (I.freeC x c e)
 ·obtain⟨e,n,ne,G,d⟩:=I.pin p F;have h:p.1∉ch:=λz=>(f p.1 z).2.2.2 p F rfl;exact⟨keep p.1 p.2 ne G h e n,free p.1 p.2 h e n,ne,G,d⟩
theorem Inv.un{t':Nat}(I:Inv X pins σ H s)(u:Un X.fs [] H H' s.heap h')(hok:HOk X.prog X.w H' h'):Inv X pins σ H' { s with heap:=h',toks:=t' }:=by
 obtain⟨m,⟨o,k,l,g,r⟩,_⟩:=id I.loc;obtain⟨p,h⟩:=u.any g I.free (by simp);exact I.step (g':=s.gens) (d':=s.drawn) (ch:=[]) (λ_ z=>nomatch z) (λb o _ c _ e n=>u.keep b o e n c (by simp)) (λb o _ c _ e n=>u.slot b o e n c (by simp)) (λb o _ e n=>u.free b o e n (by simp)) (λb o _ e=>u.there b o e (by simp)) u.tups u.frzs u.tbls (λq i=>by
  obtain⟨t,d,f,a,j⟩:=i;rw[g] at a;cases a;exact⟨_,d,f,h,j⟩) hok I.bare
theorem Inv.call{g':Array GenState}{t':Nat}{d':Drawn}{ch:List Addr}(I:Inv X pins σ H s)(u:Un (frs X.stack) ch H H' s.heap h')(hok:HOk X.prog X.w H' h')(k:AllBare g')
  (d:∀ b∈ch,(b∈X.ex \/ X.s₀.heap.objs.size<=b)/\b≠X.env.locals/\(∀ x c,X.env.cells.lookup x=some c->c≠b)/\∀ p∈X.pn++pins,p.1≠b) :
  Inv X pins σ H' { s with heap:=h',gens:=g',drawn:=d',toks:=t' }:=by
 obtain⟨m,⟨o,v,y,j,r⟩,_⟩:=id I.loc;obtain⟨A,g⟩:=u.any j I.free λz=>(d _ z).2.1 rfl;exact I.step (ch:=ch) d (λb o g l a e n=>u.keep b o e n (λz=>(M9.mp (I.stkSub b z)).elim g l) a) (λb o _ _ a e n=>u.any e n a) (λb o a e n=>u.free b o e n a) (λb o a e=>u.there b o e a) u.tups u.frzs u.tbls (λB q=>by
  obtain⟨C,h,i,f,t⟩:=q;rw[j] at f;cases f;exact⟨_,h,i,g,t⟩) hok k
theorem Inv.turned{t':Nat}{a:Addr}(I:Inv X pins σ H s)(k:∀ b o,b≠a->s.heap.get? b=some o->h'.get? b=some o)(h:H a=none)(g:a≠X.env.locals)
  (h1:a∈X.ex \/ X.s₀.heap.objs.size<=a) (h2:∀ x c,X.env.cells.lookup x=some c->c≠a) (i:∀ p∈X.pn++pins,p.1≠a):Inv X pins σ H { s with heap:=h',toks:=t' }:=by
 have f:∀ b u,H b=some u->b≠a:=λb u e z=>by rw[z,h] at e;cases e
 refine I.step (g':=s.gens) (d':=s.drawn) (ch:=[a]) (λb j=>?_) (λb o _ _ d e _=>k b o (λz=>d (by simp[z])) e) (λb o _ _ d e _=>⟨o.slots,k b o (λz=>d (by simp[z])) e⟩) (λ_ _ _ _ n=>n)
  (λb o d e=>⟨o,k b o (λz=>d (by simp[z])) e⟩) (λ_ _ e=>e) (λ_ _ _ e=>e) (λb A e=>⟨#[],by rw[e];simp⟩) (λm l=>?_) (λb u e=>?_) I.bare
 ·have e:b=a:=by simpa using j
  subst e;exact⟨h1,g,h2,i⟩
 ·obtain⟨o,t,w,y,r⟩:=l;exact⟨o,t,w,k _ o (Ne.symm g) y,r⟩
 ·refine(I.hok b u e).stay (λc v d q=>k c v ?_ q) (λ_ q=>q) λ_ _ q=>q;rcases d with z | z
  ·rw[z];exact f b u e
  ·exact f c _ z
theorem Inv.tok(I:Inv X pins σ H s)(t:Nat):Inv X pins σ H { s with toks:=t }:=I.un (h':=s.heap) (t':=t) Un.refl I.hok
theorem Inv.kept{t':Nat}(I:Inv X pins σ H s)(k:∀ b u,s.heap.get? b=some u->h'.get? b=some u):Inv X pins σ H { s with heap:=h',toks:=t' }:=I.un (Un.kept k) (I.hok.kept k)
theorem Inv.laid{a:Addr}{o:HO}{t':Nat}(I:Inv X pins σ H s)(k:∀ b u,s.heap.get? b=some u->h'.get? b=some u)(hp:s.heap.objs.size<=a)(new:ObjOk X.prog X.w (upd H a o) h' a o) :
  Inv X pins σ (upd H a o) { s with heap:=h',toks:=t' }:=I.un (Un.laid k hp (I.hok.fresh hp)) (I.hok.laid k hp new)
theorem Inv.write{x e:Addr}{o:HO}{t':Nat}(I:Inv X pins σ H s)(c:Mut (H x))(d:e=x \/ H e=some (.own x))(k:∀ b u,b≠e->s.heap.get? b=some u->h'.get? b=some u)(a:∃ u,h'.get? e=some u)
  (new:ObjOk X.prog X.w (upd H x o) h' x o):Inv X pins σ (upd H x o) { s with heap:=h',toks:=t' }:=I.un (Un.write c d k a) (I.hok.write c d k a new)
theorem Inv.pins_of{a:List (Addr×Obj)}(I:Inv X pins σ H s)(h:∀ p∈a,s.heap.get? p.1=some p.2/\H p.1=none/\p.1≠X.env.locals/\p.1∉X.fs/\∀ v,p.2.data≠.cell v):Inv X a σ H s :=
 ⟨I.ok,I.os,I.bare,I.base,I.loc,I.cell,I.free,I.freeC,λp b=>(N6.mp b).elim (λz=>I.pin p (List.mem_append_left _ z)) (h p),I.hok,I.len⟩
theorem zc{N:List Str}(c:N.Nodup){i j:Nat}{x:Str}(a:N[i]?=some x)(b:N[j]?=some x):i=j:=by
 obtain⟨f,d⟩:=M5.mp a;obtain⟨g,e⟩:=M5.mp b;exact(List.getElem_inj c).mp (d.trans e.symm)
theorem jb5{M:Model}{A:Around}{E:Value->Shared->Prop}{i:Nat}{x:Str}{v:V}{u:Value}{Q:Unit->Shared->Prop}(I:Inv X pins σ H s)(hN:X.N.Nodup)(hi:X.N[i]?=some x)(B:Loc X.env.scope x)(r:RelV v u)
  (h:∀ s',Inv X pins (σ.set i (some v)) H s'->(∃ a,Heap.SameBut a s.heap s'.heap/\(a=X.env.locals \/ X.env.cells.lookup x=some a))->Q () s') (hf:X.fn x=true \/ X.env.scope.names.lookup x=some .local:=by first | exact .inl rfl | exact .inr rfl | assumption):wpAny M A (storeName X.env x u) Q E s:=by
 obtain⟨m,Z,hl⟩:=id I.loc;have O:(X.env.scope.kind==.class||(X.env.scope.kind==.module&&X.env.locals != X.env.globals))=false:=by rw[I.ok.kind];rfl
 have P:i < σ.length:=by rw[I.len];exact(M5.mp hi).1
 have cne:=I.cne;have g:∀{a:Addr}{L:Heap},(∃ o,s.heap.get? a=some o/\H a=none)->Heap.SameBut a s.heap L->HOk X.prog X.w H L:=λ{a L} ha f b ob e=>by
  obtain⟨_,_,C⟩:=ha;refine(I.hok b ob e).stay (λc W t q=>(f.2 c ?_).trans q) (λ_ q=>q) λ_ _ q=>q;rintro rfl;rcases t with rfl | t
  ·rw[C] at e;cases e
  ·rw[C] at t;cases t
 rcases B with F | F
 ·refine wpAny_storeName_local F Z (λL hn' f=>?_) O;obtain⟨oL,_,_,hoL,_⟩:=id Z;refine h _ ⟨I.ok,I.os,I.bare,⟨λb o e n G B=>?_,λb o e n G B=>?_,I.base.free,λb o e B=>?_,I.base.tups,I.base.frzs,I.base.tbls⟩,⟨_,hn',λj y v' l D e3=>?_⟩,λy c e=>?_,I.free,I.freeC,λp hp=>?_,g ⟨oL,hoL,I.free⟩ f,by simpa using I.len⟩ ⟨_,f,.inl rfl⟩
  ·exact(f.2 b (N9 (U7 (N5 e) I.ok.above))).trans (I.base.keep b o e n G B)
  ·obtain⟨sl,l⟩:=I.base.slot b o e n G B;exact⟨sl,(f.2 b (N9 (U7 (N5 e) I.ok.above))).trans l⟩
  ·obtain⟨o',l⟩:=I.base.there b o e B;exact⟨o',(f.2 b (N9 (U7 (N5 e) I.ok.above))).trans l⟩
  ·by_cases J:j=i
   ·subst J;rw[hi] at l;cases l;rw[List.getElem?_set_self P] at D;cases D;exact⟨u,r,.inl ⟨F,by simp⟩⟩
   ·rw[List.getElem?_set_ne (Ne.symm J)] at D;obtain⟨u',r',q⟩:=hl j y v' l D e3;refine⟨u',r',?_⟩;rcases q with⟨k,e⟩ | ⟨k,c,e,z⟩
    ·refine .inl ⟨k,?_⟩;have:y≠x:=λe=>J (zc hN l (e▸hi));simp[this,e]
    ·exact .inr ⟨k,c,e,z.sameBut f (cne y c e)⟩
  ·obtain⟨W,z⟩:=I.cell y c e;exact⟨W,z.sameBut f (cne y c e)⟩
  ·obtain⟨e,n,ne,nf,d⟩:=I.pin p hp;exact⟨(f.2 p.1 ne).trans e,n,ne,nf,d⟩
 ·have K:X.fn x=true:=by
   rcases hf with z | z
   ·exact z
   ·rw[z] at F;cases F
  obtain⟨c,t⟩:=I.ok.has x (.inl F);obtain⟨W,z⟩:=I.cell x c t;refine wpAny_storeName_cell I.ok.kind F t z (λL R f=>?_);obtain⟨oc,S,T⟩:=id z;refine h { s with heap:=L } ⟨I.ok,I.os,I.bare,⟨λb o e n G B=>?_,λb o e n G B=>?_,I.base.free,λb o e B=>?_,I.base.tups,I.base.frzs,I.base.tbls⟩,⟨m,Z.sameBut f (Ne.symm (cne x c t)),λj y v' l D e3=>?_⟩,λy Y e=>?_,I.free,I.freeC,λp hp=>?_,g ⟨oc,S,I.freeC x c t⟩ f,by simpa using I.len⟩ ⟨c,f,.inr t⟩
  ·exact(f.2 b (N9 (U7 (N5 e) (I.ok.cab x c K t)))).trans (I.base.keep b o e n G B)
  ·obtain⟨sl,l⟩:=I.base.slot b o e n G B;exact⟨sl,(f.2 b (N9 (U7 (N5 e) (I.ok.cab x c K t)))).trans l⟩
  ·obtain⟨o',l⟩:=I.base.there b o e B;exact⟨o',(f.2 b (N9 (U7 (N5 e) (I.ok.cab x c K t)))).trans l⟩
  ·by_cases J:j=i
   ·subst J;rw[hi] at l;cases l;rw[List.getElem?_set_self P] at D;cases D;exact⟨u,r,.inr ⟨.inl F,c,t,R⟩⟩
   ·rw[List.getElem?_set_ne (Ne.symm J)] at D;obtain⟨u',r',q⟩:=hl j y v' l D e3;refine⟨u',r',?_⟩;rcases q with q | ⟨k,Y,e,z'⟩
    ·exact .inl q
    ·refine .inr ⟨k,Y,e,z'.sameBut f ?_⟩;rintro rfl;exact J (zc hN l (I.ok.inj _ _ _ e t▸hi))
  ·by_cases U:Y=c
   ·subst U;exact⟨_,R⟩
   ·obtain⟨w2,z2⟩:=I.cell y Y e;exact⟨w2,z2.sameBut f U⟩
  ·obtain⟨e,n,ne,nf,d⟩:=I.pin p hp;refine⟨(f.2 p.1 ?_).trans e,n,ne,nf,d⟩;intro q;rw[q,S] at e;have q':oc=p.2:=X6 e;exact d W (by rw[<- q'];exact T)
theorem Vn{M:Model}{A:Around}{E:Value->Shared->Prop}{i:Nat}{x:Str}{v:V}{u:Value}{Q:Unit->Shared->Prop}(I:Inv X pins σ H s)(a:X.N.Nodup)(hi:X.N[i]?=some x)(b:Loc X.env.scope x)(r:RelV v u)
  (h:∀ s',Inv X pins (σ.set i (some v)) H s'->Q () s') (c:X.fn x=true \/ X.env.scope.names.lookup x=some .local:=by first | exact .inl rfl | exact .inr rfl | assumption):wpAny M A (storeName X.env x u) Q E s :=
 jb5 I a hi b r (λs' d _=>h s' d) c
theorem Inv.call'{s':Shared}{ch:List Addr}(I:Inv X pins σ H s)(h:s'.os=s.os)(u:Un (frs X.stack) ch H H' s.heap s'.heap)(hok:HOk X.prog X.w H' s'.heap)(i:AllBare s'.gens)
  (a:∀ b∈ch,(b∈X.ex \/ X.s₀.heap.objs.size<=b)/\b≠X.env.locals/\(∀ x c,X.env.cells.lookup x=some c->c≠b)/\∀ p∈X.pn++pins,p.1≠b):Inv X pins σ H' s':=by
 obtain⟨k,d,f,g,j⟩:=s';have e:j=s.os:=h;subst e;exact I.call (g':=d) (t':=g) (d':=f) u hok i a
end
noncomputable abbrev XK:=Value->Option Addr->Hp->Prop
noncomputable abbrev St:=List (Option V)
noncomputable abbrev VK:=V->Hp->Prop
noncomputable abbrev TE:=St->Hp->VK->Prop
noncomputable abbrev TT:=St->Hp->(Bool->Hp->Prop)->Prop
noncomputable abbrev TA:=St->Hp->(List V->Hp->Prop)->Prop
structure Ends where
 nx:St->Hp->Prop
 rt:VK
 bk:St->Hp->Prop:=λ_ _=>False
 ct:St->Hp->Prop:=λ_ _=>False
noncomputable abbrev TS:=Ends->St->Hp->Prop
def EP(X:Cx)(pins:List (Addr×Obj))(σ:St)(Q:VK)(u:Value)(s':Shared):Prop:=∃ v H',Inv X pins σ H' s'/\RelV v u/\Q v H'
def TP(X:Cx)(pins:List (Addr×Obj))(σ:St)(Q:Bool->Hp->Prop)(b:Bool)(s':Shared):Prop:=∃ H',Inv X pins σ H' s'/\Q b H'
def AP(X:Cx)(pins:List (Addr×Obj))(σ:St)(Q:List V->Hp->Prop)(us:List Value)(s':Shared):Prop:=∃ vs H',Inv X pins σ H' s'/\Vals vs us/\Q vs H'
def SP(X:Cx)(pins:List (Addr×Obj))(D:Ends)(f:Flow)(s':Shared):Prop :=
 match f with
 | .next=>∃ σ' H',Inv X pins σ' H' s'/\D.nx σ' H'
 | .brk=>∃ σ' H',Inv X pins σ' H' s'/\D.bk σ' H'
 | .cont=>∃ σ' H',Inv X pins σ' H' s'/\D.ct σ' H'
 | .ret u=>∃ v σ' H',Inv X pins σ' H' s'/\RelV v u/\D.rt v H'
def PE(X:Cx)(e:Expr)(t:TE):Prop :=
 ∀(pins:List (Addr×Obj)) (s:Shared) (σ:St) (H:Hp) (Q:VK),Inv X pins σ H s->t σ H Q->wpAny (model X.prog X.w) X.A (eval e X.env) (EP X pins σ Q) X.xe s
def PT(X:Cx)(e:Expr)(t:TT):Prop :=
 ∀(pins:List (Addr×Obj)) (s:Shared) (σ:St) (H:Hp) (Q:Bool->Hp->Prop),Inv X pins σ H s->t σ H Q->wpAny (model X.prog X.w) X.A (isTrue e X.env (eval e X.env)) (TP X pins σ Q) X.xe s
def PW(X:Cx)(e:Expr)(t:TT):Prop :=
 ∀(whole:Sem Value) (pins:List (Addr×Obj)) (s:Shared) (σ:St) (H:Hp) (Q:Bool->Hp->Prop),Inv X pins σ H s->t σ H Q->wpAny (model X.prog X.w) X.A (isTrue e X.env whole) (TP X pins σ Q) X.xe s
theorem PW.pt{X:Cx}{e:Expr}{t:TT}(h:PW X e t):PT X e t:=h _
def PA(X:Cx)(es:List Expr)(t:TA):Prop :=
 ∀(pos:Pos) (pins:List (Addr×Obj)) (s:Shared) (σ:St) (H:Hp) (Q:List V->Hp->Prop),Inv X pins σ H s->t σ H Q->wpAny (model X.prog X.w) X.A (spliced (backTo pos (starEach es X.env))) (AP X pins σ Q) X.xe s
def PS(X:Cx)(st:Stmt)(t:TS):Prop :=
 ∀(pins:List (Addr×Obj)) (s:Shared) (σ:St) (H:Hp) (D:Ends),Inv X pins σ H s->t D σ H->wpAny (model X.prog X.w) X.A (exec st X.env) (SP X pins D) X.xe s
def PSs(X:Cx)(st:List Stmt)(t:TS):Prop :=
 ∀(pins:List (Addr×Obj)) (s:Shared) (σ:St) (H:Hp) (D:Ends),Inv X pins σ H s->t D σ H->wpAny (model X.prog X.w) X.A (execs st X.env) (SP X pins D) X.xe s
theorem thn{α:Type}{t:Sem α}{Q b:α->Shared->Prop}{M:Model}{A:Around}{E:Value->Shared->Prop}{s:Shared}(h:wpAny M A t Q E s)(c:∀ a s,Q a s->b a s):wpAny M A t b E s:=wpAny_mono h c λ_ _ x=>x
section
variable {X:Cx}
noncomputable def V7(i:Nat):TE:=λσ H Q=>∃ v,σ[i]?=some (some v)/\Q v H
noncomputable def tC(v:V):TE:=λ_ H Q=>Q v H
theorem wb{i:Nat}{x:Str}{pos:Pos}(j:X.N[i]?=some x)(k:Vis X.env.scope x)(hd:(x==("__debug__" : Str))=false:=by decide)(f:(x==("__classdict__" : Str))=false:=by decide):PE X (.Name x pos) (V7 i):=by
 intro d s σ H Q I h;obtain⟨v,e,h⟩:=h;obtain⟨m,n,o⟩:=I.loc;obtain⟨u,r,l⟩:=o i x v j e k;have fin:EP X d σ Q u s:=⟨v,H,I,r,h⟩;rcases l with⟨b,p⟩ | ⟨b,c,g,a⟩
 ·exact wpAny_Name (wpAny_loadName_local I.ok.kind b n p fin) hd
 ·rcases b with b | b
  ·exact wpAny_Name (wpAny_loadName_cell I.ok.kind b g a fin) hd
  ·exact wpAny_Name (wpAny_loadName_free I.ok.kind b g a fin f) hd
theorem jhO{i j pos}:PE X (.Constant (.int i) j pos) (tC (.int i)):=λ_ _ _ H _ I h=>wpAny_Constant_int ⟨.int i,H,I.tok _,⟨_,rfl⟩,h⟩
theorem jkg{b j pos}:PE X (.Constant (.bool b) j pos) (tC (.bl b)):=λ_ _ _ H _ I h=>Constant_bool ⟨.bl b,H,I,rfl,h⟩
theorem jii{j pos}:PE X (.Constant .none j pos) (tC .non):=λ_ _ _ H _ I h=>Constant_none ⟨.non,H,I,rfl,h⟩
theorem jiq{x j pos}:PE X (.Constant (.str x) j pos) (tC (.str x)):=λ_ _ _ H _ I h=>Calls.Constant_str ⟨.str x,H,I.tok _,⟨_,rfl⟩,h⟩
def Gl(X:Cx)(x:Str):Prop:=X.env.kindOf x=some .globalImplicit
theorem qr{E:Value->Shared->Prop}{pins:List (Addr×Obj)}{s:Shared}{σ:St}{H:Hp}{x:Str}{u:Value}{pos:Pos}{Q:Value->Shared->Prop}(I:Inv X pins σ H s)(a:Gl X x)(b:X.mg x=some u)(h:Q u s)
  (hd:(x==("__debug__" : Str))=false:=by decide):wpAny (model X.prog X.w) X.A (eval (.Name x pos) X.env) Q E s :=
 Calls.Name_function_global I.ok.kind a (Calls.loadGlobal_global (by rw[I.ok.glob];exact I.mod.glob.keeps I.bk) b h) hd
theorem VY{E:Value->Shared->Prop}{pins:List (Addr×Obj)}{s:Shared}{σ:St}{H:Hp}{x:Str}{u:Value}{pos:Pos}{Q:Value->Shared->Prop}(I:Inv X pins σ H s)(a:Gl X x)(b:X.mg x=none)(c:bootBuiltins x=some u)(h:Q u s)
  (d:x≠"__name__":=by decide) (hd:(x==("__debug__" : Str))=false:=by decide):wpAny (model X.prog X.w) X.A (eval (.Name x pos) X.env) Q E s:=by
 obtain⟨g,e,f⟩:=I.mod.blt;exact Calls.Name_function_global I.ok.kind a (Calls.loadGlobal_builtin (by rw[I.ok.glob];exact I.mod.glob.keeps I.bk) b (by rw[I.ok.blt];exact e.keeps I.bk) ((f x d).trans c) h) hd
theorem ze{x:Str}{v:V}{u:Value}{pos:Pos}(a:Gl X x)(b:X.mg x=some u)(r:RelV v u)(hd:(x==("__debug__" : Str))=false:=by decide):PE X (.Name x pos) (tC v) :=
 λ_ _ _ H _ I h=>qr I a b ⟨v,H,I,r,h⟩ hd
theorem jb4{x:Str}{v:V}{u:Value}{pos:Pos}(a:Gl X x)(b:X.mg x=none)(c:bootBuiltins x=some u)(r:RelV v u)(d:x≠"__name__":=by decide)(hd:(x==("__debug__" : Str))=false:=by decide):PE X (.Name x pos) (tC v) :=
 λ_ _ _ H _ I h=>VY I a b c ⟨v,H,I,r,h⟩ d hd
variable {a b:Expr}{ta tb:TE}{pos:Pos}
def PC(X:Cx)(op:CmpOp)(a b:Expr)(t:TE):Prop :=
 ∀(pins:List (Addr×Obj)) (s:Shared) (σ:St) (H:Hp) (Q:VK),Inv X pins σ H s->t σ H Q ->
  wpAny (model X.prog X.w) X.A (eval a X.env) (λv s₁=>wpAny (model X.prog X.w) X.A (eval b X.env) (λu s₂=>wpAny (model X.prog X.w) X.A (compareOp op v u) (EP X pins σ Q) X.xe s₂) X.xe s₁) X.xe s
theorem jc2(b:Expr){a:CmpOp}(h:a≠.In)(h2:a≠.NotIn):behindInMarks a b=false:=by
 have c:(a==CmpOp.In)=false:=by cases a<;>first | rfl | exact absurd rfl h
 have d:(a==CmpOp.NotIn)=false:=by cases a<;>first | rfl | exact absurd rfl h2
 cases b<;>simp[behindInMarks,c,d]
noncomputable def tB(t:TE):TT:=λσ H Q=>t σ H λx H1=>∃ c,x=.bl c/\Q c H1
theorem je9{f:CmpOp}{t:TE}(h:PC X f a b t)(h1:behindInMarks f b=false:=by first | exact jc2 _ (by decide) (by decide) | rfl):PT X (.Compare a [f] [b] pos) (tB t):=by
 intro e s σ H Q I g;refine wpAny_isTrue_Compare1 (thn (h e s σ H _ I g) λv n h1=>thn h1 λu o i=>thn i λc p ⟨x,j,k,l,m⟩=>?_) h1;obtain⟨d,rfl,q⟩:=m;cases l;exact wpAny_truthy_bool ⟨j,k,q⟩
theorem jjq{e:Expr}{t:TE}(h:PE X e t)(b:∀ whole,isTrue e X.env whole=(do let v <- whole;standAt e.pos;holding [v] (truthy v)):=by intro _;rfl):PT X e (tB t):=by
 intro a s σ H Q I c;refine isTrue_plain (thn (h a s σ H _ I c) λv k ⟨x,f,g,i,j⟩=>?_) (b _);obtain⟨d,rfl,q⟩:=j;cases i;exact wpAny_truthy_bool ⟨f,g,q⟩
variable {tA tB':TT}{rest:List Expr}
noncomputable def jk1(t u:TT):TT:=λσ H Q=>t σ H λc H1=>if c=true then u σ H1 Q else Q false H1
noncomputable def tOr(t u:TT):TT:=λσ H Q=>t σ H λc H1=>if c=true then Q true H1 else u σ H1 Q
noncomputable def jli(t:TT):TT:=λσ H Q=>t σ H λc H1=>Q (!c) H1
theorem jgf(d:PT X a tA):PW X (.BoolOp .And [a] pos) tA:=by
 intro f b s σ H Q I h;refine isTrue_and (thn (d b s σ H Q I h) λc g e=>?_);cases c with
 | true=>exact isTrue_and_nil e
 | false=>exact e
theorem ji6(d:PT X a tA):PW X (.BoolOp .Or [a] pos) tA:=by
 intro f b s σ H Q I h;refine isTrue_or (thn (d b s σ H Q I h) λc g e=>?_);cases c with
 | false=>exact isTrue_or_nil e
 | true=>exact e
theorem jh7(i:PT X a tA)(j:PW X (.BoolOp .And (b::rest) pos) tB'):PW X (.BoolOp .And (a::b::rest) pos) (jk1 tA tB'):=by
 intro k d s σ H Q I h;refine isTrue_and (thn (i d s σ H _ I h) λc l ⟨e,f,g⟩=>?_);cases c with
 | true=>exact j k d l σ e Q f g
 | false=>exact⟨e,f,g⟩
theorem jkB(i:PT X a tA)(j:PW X (.BoolOp .Or (b::rest) pos) tB'):PW X (.BoolOp .Or (a::b::rest) pos) (tOr tA tB'):=by
 intro k d s σ H Q I h;refine isTrue_or (thn (i d s σ H _ I h) λc l ⟨e,f,g⟩=>?_);cases c with
 | true=>exact⟨e,f,g⟩
 | false=>exact j k d l σ e Q f g
theorem jhW(d:PT X a tA):PT X (.UnaryOp .Not a pos) (jli tA):=by
 intro b s σ H Q I h;exact isTrue_not (d b s σ H (λc e=>Q (!c) e) I h)
noncomputable def jhj(ta tb:TE):TE:=λσ H Q=>ta σ H λx H1=>∃ c,x=.bl c/\if c=true then tb σ H1 Q else Q (.bl false) H1
noncomputable def jf9(ta:TE):TE:=λσ H Q=>ta σ H λx H1=>∃ c,x=.bl c/\Q (.bl (!c)) H1
theorem jjH{op}{t:TE}(h:PE X a t):PE X (.BoolOp op [a] pos) t:=λb s σ H Q I c=>BoolOp_one (h b s σ H Q I c)
theorem jjw(i:PE X a ta)(j:PE X (.BoolOp .And (b::rest) pos) tb):PE X (.BoolOp .And (a::b::rest) pos) (jhj ta tb):=by
 intro d s σ H Q I h;refine BoolOp_and (thn (i d s σ H _ I h) λv k ⟨x,f,g,l,e⟩=>?_);obtain⟨c,rfl,e⟩:=e;cases l;refine wpAny_truthy_bool ?_;cases c with
 | true=>exact j d k σ f Q g e
 | false=>exact⟨.bl false,f,g,rfl,e⟩
theorem jiF(e:PE X a ta):PE X (.UnaryOp .Not a pos) (jf9 ta):=by
 intro b s σ H Q I h;refine UnaryOp_ (thn (e b s σ H _ I h) λv j ⟨x,f,g,i,d⟩=>?_);obtain⟨c,rfl,d⟩:=d;cases i;exact not_of (wpAny_truthy_bool ⟨.bl (!c),f,g,rfl,d⟩)
noncomputable def tIf(t:TT)(ta tb:TE):TE:=λσ H Q=>t σ H λc H1=>if c=true then ta σ H1 Q else tb σ H1 Q
theorem jda{c:Expr}(k:PT X c tA)(l:PE X a ta)(m:PE X b tb):PE X (.IfExp c a b pos) (tIf tA ta tb):=by
 intro e s σ H Q I h;refine wpAny_IfExp (thn (k e s σ H _ I h) λd f ⟨g,i,j⟩=>?_);cases d with
 | true=>exact l e f σ g Q i j
 | false=>exact m e f σ g Q i j
end
def SqL(K:PySem.W.Frag)(H:Hp)(a:Addr)(xs:List V):Prop :=
 Rd H a (.lst xs) \/
  ∃(o:Obj) (its:Array Value) (n:Nat),K.lookup a=some o/\o.cls=.type "list"/\o.dict=none/\o.data=.seq its n/\its.size<=sizeLine/\Vals xs its.toList
def SqT(K:PySem.W.Frag)(H:Hp)(a:Addr)(xs:List V):Prop :=
 Rd H a (.tup xs) \/
  ∃(o:Obj) (its:Array Value) (n:Nat),K.lookup a=some o/\o.cls=.type "tuple"/\o.data=.seq its n/\its.size<=sizeLine/\Vals xs its.toList
noncomputable def jlR:Value->Option V
 | .none=>some .non
 | .bool b=>some (.bl b)
 | .int i _=>some (.int i)
 | .str x _=>some (.str x)
 | .bytes b _=>some (.byt b)
 | .float b _=>some (.flt b)
 | .ref a=>some (.ref a)
 | .type n=>some (.ty n)
 | _=>none
theorem RelV.abs{x:V}{u:Value}(r:RelV x u):jlR u=some x:=by
 cases x with
 | non=>cases r;rfl
 | bl _=>cases r;rfl
 | int _=>obtain⟨t,rfl⟩:=r;rfl
 | str _=>obtain⟨t,rfl⟩:=r;rfl
 | byt _=>obtain⟨t,rfl⟩:=r;rfl
 | flt _=>obtain⟨t,rfl⟩:=r;rfl
 | ref _=>cases r;rfl
 | ty _=>cases r;rfl
theorem RelV.inj{x y:V}{u:Value}(r:RelV x u)(q:RelV y u):x=y:=X6 (r.abs.symm.trans q.abs)
theorem Vals.inj:∀{xs ys:List V}{us:List Value},Vals xs us->Vals ys us->xs=ys
 | _,_,_,.nil,.nil=>rfl
 | _,_,_,.cons r t,.cons a b=>by rw[r.inj a,Vals.inj t b]
section
variable {X:Cx}{pins:List (Addr×Obj)}{σ:St}{H:Hp}{s:Shared}{a:Addr}{xs ys:List V}
theorem SqL.of{K:PySem.W.Frag}(h:H a=some (.lst xs)):SqL K H a xs:=.inl (.inl h)
theorem Inv.list(I:Inv X pins σ H s)(h:SqL X.K H a xs):∃ its:List Value,Vals xs its/\PlainL s.heap a its.toArray/\xs.length<=sizeLine:=by
 rcases h with h | ⟨o,its,n,b,c,hd,d,f,r⟩
 ·obtain⟨z,its,n,r,e⟩:=h.ok I.hok;exact⟨its,r,⟨_,n,e,rfl,rfl,rfl⟩,z⟩
 ·refine⟨its.toList,r,⟨o,n,I.kIn a o b,c,hd,by simpa using d⟩,?_⟩;have e:=r.length;simp only[Array.length_toList] at e;omega
theorem Inv.tuple(I:Inv X pins σ H s)(h:SqT X.K H a xs):∃ its:List Value,Vals xs its/\IsTup s.heap a its.toArray/\xs.length<=sizeLine:=by
 rcases h with h | ⟨o,its,n,b,c,d,f,r⟩
 ·obtain⟨z,its,r,p⟩:=h.ok I.hok;exact⟨its,r,p.1,z⟩
 ·refine⟨its.toList,r,⟨o,I.kIn a o b,c,n,by simpa using d⟩,?_⟩;have e:=r.length;simp only[Array.length_toList] at e;omega
theorem Inv.list_inj(I:Inv X pins σ H s)(h:SqL X.K H a xs)(h':SqL X.K H a ys):xs=ys:=by
 obtain⟨c,r,⟨o,n,e,_,_,d⟩,_⟩:=I.list h;obtain⟨b,i,⟨j,k,f,_,_,g⟩,_⟩:=I.list h';rw[e] at f;cases f;rw[d] at g;injection g with d1 _;have:c=b:=by simpa using congrArg Array.toList d1
 subst this;exact r.inj i
theorem Inv.tuple_inj(I:Inv X pins σ H s)(h:SqT X.K H a xs)(h':SqT X.K H a ys):xs=ys:=by
 obtain⟨c,r,⟨o,e,_,n,d⟩,_⟩:=I.tuple h;obtain⟨b,i,⟨j,f,_,k,g⟩,_⟩:=I.tuple h';rw[e] at f;cases f;rw[d] at g;injection g with d1 _;have:c=b:=by simpa using congrArg Array.toList d1
 subst this;exact r.inj i
end
noncomputable abbrev Cx.wish(X:Cx)(E:Value->Shared->Prop):Cx:={ X with xe:=E }
noncomputable abbrev Cx.nox(X:Cx):Cx:=X.wish λ_ _=>False
theorem Cx.Ok.wish{X:Cx}(ok:X.Ok)(E:Value->Shared->Prop):(X.wish E).Ok :=
 ⟨ok.mod,ok.kind,ok.glob,ok.blt,ok.above,ok.inj,ok.has,ok.cab,ok.hd,ok.frames,ok.stk,ok.exf,ok.bs,ok.bsz,ok.noex,ok.exfs,ok.funs,ok.frf⟩
theorem Cx.Ok.unwish{X:Cx}{E:Value->Shared->Prop}(ok:(X.wish E).Ok):X.Ok :=
 ⟨ok.mod,ok.kind,ok.glob,ok.blt,ok.above,ok.inj,ok.has,ok.cab,ok.hd,ok.frames,ok.stk,ok.exf,ok.bs,ok.bsz,ok.noex,ok.exfs,ok.funs,ok.frf⟩
section
variable {X:Cx}{pins:List (Addr×Obj)}{σ:St}{H:Hp}{s:Shared}{E:Value->Shared->Prop}
theorem Inv.wish(I:Inv X pins σ H s)(E:Value->Shared->Prop):Inv (X.wish E) pins σ H s:=⟨I.ok.wish E,I.os,I.bare,I.base,I.loc,I.cell,I.free,I.freeC,I.pin,I.hok,I.len⟩
theorem Inv.unwish(I:Inv (X.wish E) pins σ H s):Inv X pins σ H s:=⟨I.ok.unwish,I.os,I.bare,I.base,I.loc,I.cell,I.free,I.freeC,I.pin,I.hok,I.len⟩
theorem SP.unwish{D:Ends}{f:Flow}{s':Shared}(h:SP (X.wish E) pins D f s'):SP X pins D f s':=by
 cases f with
 | next=>obtain⟨a,b,I,q⟩:=h;exact⟨a,b,I.unwish,q⟩
 | brk=>obtain⟨a,b,I,q⟩:=h;exact⟨a,b,I.unwish,q⟩
 | cont=>obtain⟨a,b,I,q⟩:=h;exact⟨a,b,I.unwish,q⟩
 | ret u=>obtain⟨v,a,b,I,r,q⟩:=h;exact⟨v,a,b,I.unwish,r,q⟩
theorem PSs.nox{st:List Stmt}{t:TS}(h:PSs X.nox st t):PSs X st t:=λa s σ H D I b =>
 wpAny_mono (h a s σ H D (I.wish _) b) (λ_ _ q=>q.unwish) λ_ _ z=>False.elim z
end
section
variable {X:Cx}{st:Stmt}{rest:List Stmt}{t u:TS}{e:Expr}{te:TE}{pos:Pos}
noncomputable def jfj:TS:=λD σ H=>D.nx σ H
noncomputable def jhw(t u:TS):TS:=λD σ H=>t { D with nx:=u D } σ H
theorem jfL:PSs X [] jfj:=λ_ _ σ H _ I h=>wpAny_execs_nil ⟨σ,H,I,h⟩
theorem zN(h1:PS X st t)(h2:PSs X rest u):PSs X (st::rest) (jhw t u):=by
 intro a s σ H D I h;refine wpAny_execs_cons (thn (h1 a s σ H { D with nx:=u D } I h) λf b q=>?_);cases f with
 | next =>
  obtain⟨c,d,e,q⟩:=q;exact h2 a b c d D e q
 | ret v=>exact q
 | brk=>exact q
 | cont=>exact q
theorem zk(h1:PS X st t):PSs X [st] t:=by
 intro a s σ H D I h;refine wpAny_execs_cons (thn (h1 a s σ H D I h) λf b q=>?_);cases f with
 | next=>exact wpAny_execs_nil q
 | ret v=>exact q
 | brk=>exact q
 | cont=>exact q
theorem Inv.quiet{pins:List (Addr×Obj)}{σ:St}{H:Hp}{s:Shared}(I:Inv X pins σ H s):interactive X.env=false:=by simp[interactive,I.ok.kind]
noncomputable def zq(te:TE):TS:=λD σ H=>te σ H λ_ H1=>D.nx σ H1
theorem zj(b:PE X e te)(c:swapsWith e none pos.line X.env=pure false:=by rfl):PS X (.Expr e pos) (zq te):=by
 intro a s σ H D I h;exact wpAny_Expr_any (thn (b a s σ H _ I h) λv i ⟨x,d,f,j,g⟩=>⟨σ,d,f,g⟩) I.quiet c
noncomputable def jjr(te:TE):TS:=λD σ H=>te σ H D.rt
theorem jeA(b:PE X e te):PS X (.Return (some e) pos) (jjr te):=by
 intro a s σ H D I h;exact wpAny_Return_some (thn (b a s σ H _ I h) λv i ⟨x,c,d,f,g⟩=>⟨x,σ,c,d,f,g⟩)
noncomputable def jiL(c:TT)(t u:TS):TS:=λD σ H=>c σ H λb H1=>if b=true then t D σ H1 else u D σ H1
theorem jhH{c:Expr}{a b:List Stmt}{tc:TT}(k:PT X c tc)(l:PSs X a t)(m:PSs X b u):PS X (.If c a b pos) (jiL tc t u):=by
 intro e s σ H D I h;refine wpAny_If (thn (k e s σ H _ I h) λd f ⟨g,i,j⟩=>?_);cases d with
 | true=>exact l e f σ g D i j
 | false=>exact m e f σ g D i j
noncomputable def jbY:TS:=λ_ _ _=>False
theorem jdV:PS X st jbY:=λ_ _ _ _ _ _ h=>h.elim
end
noncomputable abbrev TG:=V->St->Hp->(St->Hp->Prop)->Prop
noncomputable abbrev TGs:=List V->St->Hp->(St->Hp->Prop)->Prop
def PG(X:Cx)(target:Expr)(t:TG):Prop :=
 ∀(pins:List (Addr×Obj)) (s:Shared) (σ:St) (H:Hp) (v:V) (u:Value) (Q:St->Hp->Prop),Inv X pins σ H s->RelV v u->t v σ H Q ->
  wpAny (model X.prog X.w) X.A (assign target X.env u) (λ_ s'=>∃ σ' H',Inv X pins σ' H' s'/\Q σ' H') X.xe s
def PGs(X:Cx)(ts:List Expr)(t:TGs):Prop :=
 ∀(pins:List (Addr×Obj)) (s:Shared) (σ:St) (H:Hp) (vs:List V) (us:List Value) (Q:St->Hp->Prop),Inv X pins σ H s->Vals vs us->t vs σ H Q ->
  wpAny (model X.prog X.w) X.A (assignInOrder ((assignEach ts X.env).map (·.2)) us) (λ_ s'=>∃ σ' H',Inv X pins σ' H' s'/\Q σ' H') X.xe s
noncomputable abbrev jkN:=V->V->V->Hp->(Hp->Prop)->Prop
def jly(X:Cx)(t:jkN):Prop :=
 ∀(pins:List (Addr×Obj)) (s:Shared) (σ:St) (H:Hp) (o i v:V) (ov iv u:Value) (Q:Hp->Prop),Inv X pins σ H s->RelV o ov->RelV i iv->RelV v u->t o i v H Q ->
  wpAny (model X.prog X.w) X.A (setItem ov iv u) (λ_ s'=>∃ H',Inv X pins σ H' s'/\Q H') X.xe s
section
variable {X:Cx}{pos:Pos}
noncomputable def zS(i:Nat):TG:=λv σ H Q=>Q (σ.set i (some v)) H
theorem jfT{i:Nat}{x:Str}(b:X.N.Nodup)(hi:X.N[i]?=some x)(c:Loc X.env.scope x)(d:X.fn x=true \/ X.env.scope.names.lookup x=some .local:=by first | exact .inl rfl | exact .inr rfl | assumption):PG X (.Name x pos) (zS i):=by
 intro a s σ H v u Q I r h;exact wpAny_assign_Name (Vn I b hi c r (λf e=>⟨_,H,e,h⟩) d)
noncomputable def jkM:TGs:=λvs σ H Q=>vs=[]/\Q σ H
noncomputable def jgA(t:TG)(u:TGs):TGs:=λvs σ H Q=>∃ v r,vs=v::r/\t v σ H λσ' H'=>u r σ' H' Q
theorem jg6:PGs X [] jkM:=by
 intro a s σ H b c Q I r h;obtain⟨e,h⟩:=h;subst e;cases r;exact assignInOrder_nil ⟨σ,H,I,h⟩
theorem jel{e:Expr}{es:List Expr}{t:TG}{u:TGs}(h1:PG X e t)(h2:PGs X es u)
  (b:(assignEach (e::es) X.env).map (·.2)=assign e X.env::(assignEach es X.env).map (·.2):=by rfl):PGs X (e::es) (jgA t u):=by
 intro a s σ H l m Q I r h;obtain⟨v,n,c,h⟩:=h;subst c;cases r with
 | cons r d =>
  rw[b];refine assignInOrder_cons (thn (h1 a s σ H _ _ _ I r h) λ_ f ⟨g,i,j,k⟩=>?_);exact h2 a f g i _ _ Q j d k
noncomputable def jk8(K:PySem.W.Frag)(n:Nat)(t:TGs):TG:=λv σ H Q=>∃ a xs,v=.ref a/\SqT K H a xs/\xs.length=n/\t xs σ H Q
theorem jiY{es:List Expr}{k:Nat}{t:TGs}{n:Nat}(i:X.calm=true)(h:PGs X es t)
  (j:(assignEach es X.env).length=n:=by rfl) (d:(assignEach es X.env).findIdx? (·.1)=none:=by rfl):PG X (.Tuple es k pos) (jk8 X.K n t):=by
 intro c s σ H v u Q I r f;obtain⟨a,l,m,p,q,f⟩:=f;subst m;cases r;obtain⟨w,g,x,B⟩:=I.tuple p;refine assign_Tuple_tuple (I.ok.hd i) x (by simp[j,<- q,g.length]) d λy z=>?_;have A:Inv X c σ H { s with heap:=y }:=I.kept (t':=s.toks) λb o e=>z b o (N9 (N5 e)) e;exact h c _ σ H l _ Q A (by simpa using g) f
noncomputable def jkT(to ti:TE)(t:jkN):TG:=λv σ H Q=>to σ H λo H1=>ti σ H1 λi H2=>t o i v H2 λH3=>Q σ H3
theorem jhK{o i:Expr}{to b:TE}{t:jkN}(c:PE X o to)(hi:PE X i b)(d:jly X t)
  (e:∀ v,assign (.Subscript o i pos) X.env v=(do
   let ov <- holding [v] (eval o X.env)
   let iv <- holding [v,ov] (eval i X.env)
   standAt pos
   holding [v,ov,iv] (setItem ov iv v)
   release [v,ov,iv] []):=by intro _;rfl):PG X (.Subscript o i pos) (jkT to b t):=by
 intro a s σ H v u Q I r h;rw[e];refine L5 (wpAny_holding (thn (c a s σ H _ I h) λov f ⟨x,g,j,k,l⟩=>?_));refine L5 (wpAny_holding (thn (hi a f σ g _ j l) λiv m ⟨y,n,p,q,w⟩=>?_));refine L5 (wpAny_standAt (L5 (wpAny_holding (thn (d a m σ n x y v ov iv u _ p k q r w) λ_ C ⟨z,A,B⟩=>?_))));exact wpAny_release ⟨σ,z,A,B⟩
noncomputable def jgF(te:TE)(g:TG):TS:=λD σ H=>te σ H λx H1=>g x σ H1 D.nx
theorem jjj{tg e:Expr}{te:TE}{g:TG}(b:PE X e te)(c:PG X tg g)(d:swapsWithSole [tg] e pos.line X.env=pure false:=by rfl)(f:swappedStores [tg] e X.env=pure none:=by rfl)
  (h1:(assignEach [tg] X.env).map (·.2)=[assign tg X.env]:=by rfl):PS X (.Assign [tg] e pos) (jgF te g):=by
 intro a s σ H D I h;refine wpAny_Assign_stores (thn (b a s σ H _ I h) λv i ⟨x,j,k,l,m⟩=>?_) d f;rw[h1];exact thn (c a i σ j x v _ k l m) λ_ n q=>q
theorem jer{i:Nat}{x:Str}{e:Expr}{te:TE}{pos':Pos}(b:X.N.Nodup)(hi:X.N[i]?=some x)(c:Loc X.env.scope x)(d:PE X e te)(f:swapsWith e (some (.Name x pos')) pos.line X.env=pure false:=by rfl)(g:X.fn x=true \/ X.env.scope.names.lookup x=some .local:=by first | exact .inl rfl | exact .inr rfl | assumption) :
  PS X (.Assign [.Name x pos'] e pos) (jgF te (zS i)):=by
 intro a s σ H D I h;refine wpAny_Assign_Name (thn (d a s σ H _ I h) λv o ⟨y,j,k,l,m⟩=>?_) f;exact Vn k b hi c l (λp n=>⟨_,j,n,m⟩) g
end
structure It where
 go:Nat->Hp->Prop
 yld:Nat->Hp->V->Hp->Prop
 stop:Nat->Hp->Prop
def jaw(X:Cx)(pins:List (Addr×Obj))(H:Hp)(b:Addr):Prop :=
 H b=none/\b≠X.env.locals/\b∉X.fs/\(b∈X.ex \/ X.s₀.heap.objs.size<=b)/\(∀ x c,X.env.cells.lookup x=some c->c≠b)/\∀ p∈X.pn++pins,p.1≠b
theorem Inv.fpOk{X:Cx}{pins:List (Addr×Obj)}{σ:St}{H H':Hp}{s:Shared}{b:Addr}(I:Inv X pins σ H s)(a:s.heap.objs.size<=b)(d:H' b=none):jaw X pins H' b:=by
 refine⟨d,Nat.ne_of_gt (U7 I.lt a),I.nofs a,.inr (U0 I.sz a),λx c e z=>?_,λp f z=>?_⟩
 ·obtain⟨v,q⟩:=I.cell x c e;exact absurd (U7 q.lt (by rw[z];exact a)) (Nat.lt_irrefl _)
 ·exact absurd (U7 (N5 (I.pin p f).1) (by rw[z];exact a)) (Nat.lt_irrefl _)
structure Turn(P:Program)(w:World)(K:PySem.W.Frag)(tg:Expr)(J:It)(fp:List Addr)(it:Addr)(tn:Nat->Heap->Prop):Prop where
 mem:it∈fp
 obj:∀ i h,tn i h->∀ b∈fp,∃ o,h.get? b=some o/\∀ v,o.data≠.cell v
 keep:∀ i h h',tn i h->(∀ b∈fp,∀ o,h.get? b=some o->h'.get? b=some o)->tn i h'
 item:∀(X:Cx),X.prog=P->X.w=w->X.K=K->X.calm=true->∀(i:Nat) (pins:List (Addr×Obj)) (s:Shared) (σ:St) (H:Hp) (E:Value->Shared->Prop),Inv X pins σ H s->(∀ b∈fp,jaw X pins H b)->tn i s.heap->J.go i H ->
  wpAny (model P w) X.A (pyNext (.ref it)) (λr s1=>∃ u,r=some u /\
   wpAny (model P w) X.A (letOwnedTupleGo tg (.ref it) u) (λ_ s2=>∃ x H',Inv X pins σ H' s2/\RelV x u/\J.yld i H x H'/\tn (i+1) s2.heap/\∀ b∈fp,H' b=none) E s1) E s
 done:∀(X:Cx),X.prog=P->X.w=w->X.K=K->X.calm=true->∀(i:Nat) (pins:List (Addr×Obj)) (s:Shared) (σ:St) (H:Hp) (E:Value->Shared->Prop),Inv X pins σ H s->(∀ b∈fp,jaw X pins H b)->tn i s.heap->J.stop i H ->
  wpAny (model P w) X.A (pyNext (.ref it)) (λr s1=>r=none/\Inv X pins σ H s1) E s
 self:∀(A:Around) (i:Nat) (s:Shared) (Q:Value->Shared->Prop) (E:Value->Shared->Prop),tn i s.heap->Q (.ref it) s->wpAny (model P w) A (pyIter (.ref it)) Q E s
noncomputable abbrev TI:=St->Hp->(It->Hp->Prop)->Prop
def PIE(X:Cx)(pins:List (Addr×Obj))(σ:St)(tg:Expr)(R:It->Hp->Prop)(itv:Value)(s2:Shared):Prop :=
 ∃(it:Addr) (fp:List Addr) (tn:Nat->Heap->Prop) (J:It) (H':Hp),itv=.ref it/\Inv X pins σ H' s2/\Turn X.prog X.w X.K tg J fp it tn/\tn 0 s2.heap/\(∀ b∈fp,jaw X pins H' b)/\R J H'
def PI(X:Cx)(tg iter:Expr)(wi:TI):Prop :=
 ∀(pins:List (Addr×Obj)) (s:Shared) (σ:St) (H:Hp) (R:It->Hp->Prop),Inv X pins σ H s->wi σ H R ->
  wpAny (model X.prog X.w) X.A (eval iter X.env) (λv s1=>wpAny (model X.prog X.w) X.A (pyIter v) (PIE X pins σ tg R) X.xe s1) X.xe s
theorem jcs{M:Model}{A:Around}{E:Value->Shared->Prop}{s:Shared}{tg:Expr}{b:Addr}{u:Value}{o:Obj}{n:String}{vs:Array Value}{Q:Unit->Shared->Prop}(c:s.heap.get? b=some o)(d:o.cls=.type n)(hd:o.data=.fields vs)
  (e:["enumerate","zip","dict_itemiterator","dict_reverseitemiterator","odict_iterator","itertools.zip_longest","itertools.pairwise"].contains n=false) (a:Q () s):wpAny M A (letOwnedTupleGo tg (.ref b) u) Q E s:=by
 unfold letOwnedTupleGo;cases tg<;>first
  | exact N1 a
  | (cases u<;>first
    | exact N1 a
    | (refine L5 (wpAny_load c ?_)
       rw[d,hd];show wpAny M A (if(["enumerate","zip","dict_itemiterator","dict_reverseitemiterator","odict_iterator","itertools.zip_longest","itertools.pairwise"].contains n&&vs[0]?==some (rawInt _))=true then _ else _) Q E s;rw[if_neg (by intro h;rw[e,Bool.false_and] at h;cases h)];exact N1 a))
noncomputable def Itl(K:PySem.W.Frag)(a:Addr):It :=
 ⟨λi H=>∃ xs x,SqL K H a xs/\xs[i]?=some x,λi H x H'=>H'=H/\∀ xs,SqL K H a xs->xs[i]?=some x,λi H=>∃ xs,SqL K H a xs/\xs.length<=i⟩
noncomputable def Itt(K:PySem.W.Frag)(a:Addr):It :=
 ⟨λi H=>∃ xs x,SqT K H a xs/\xs[i]?=some x,λi H x H'=>H'=H/\∀ xs,SqT K H a xs->xs[i]?=some x,λi H=>∃ xs,SqT K H a xs/\xs.length<=i⟩
noncomputable def Itr(lo:Int)(n:Nat):It:=⟨λi _=>i < n,λi H x H'=>H'=H/\x=.int (lo+i),λi _=>n<=i⟩
theorem jbK{P:Program}{w:World}{K:PySem.W.Frag}{tg:Expr}(a g:Addr):Turn P w K tg (Itl K a) [g] g (λi h=>h.IsListIter g a i) where
 mem:=by simp
 obj:=λi h st b j=>by
  have e:b=g:=by simpa using j
  subst e;obtain⟨o,e,c,d⟩:=st;exact⟨o,e,λv z=>by rw[d] at z;cases z⟩
 keep:=λi h m st k=>st.at λo e=>k g (by simp) o e
 item:=by
  intro X r t y N i f s σ H E I n st A;subst r t y;obtain⟨O,x,q,B⟩:=A;obtain⟨C,D,p,Q⟩:=I.list q;obtain⟨u,R,S⟩:=D.get B;obtain⟨F,G,T,J,L,M⟩:=n g (by simp);refine wpAny_pyNext_list_item st p.isList (x:=u) (by simpa using R) λm l U=>?_;have V:Inv X f σ H { s with heap:=m }:=I.turned (t':=s.toks) (λb o j e=>(U.2 b j).trans e) F G J L M;obtain⟨o,e,c,d⟩:=id l;exact⟨u,rfl,jcs (s:={ s with heap:=m }) e c d (by decide) ⟨x,H,V,S,⟨rfl,λys Y=>by rw[I.list_inj Y q];exact B⟩,l,λb j=>(n b j).1⟩⟩
 done:=by
  intro X r t y N i f s σ H E I n st A;subst r t y;obtain⟨O,q,B⟩:=A;obtain⟨C,D,p,Q⟩:=I.list q;obtain⟨F,G,T,J,L,M⟩:=n g (by simp);have hl:=D.length;exact wpAny_pyNext_list_end (I.ok.hd N) st p.isList (by simp;omega) λm Z=>⟨rfl,I.turned (t':=s.toks) (λb o j e=>Z b o j e) F G J L M⟩
 self:=λ_ _ _ _ _ st h=>wpAny_pyIter_listiter st h
theorem jaI{P:Program}{w:World}{K:PySem.W.Frag}{tg:Expr}(a g:Addr):Turn P w K tg (Itt K a) [g] g (λi h=>h.IsTupleIter g a i) where
 mem:=by simp
 obj:=λi h st b j=>by
  have e:b=g:=by simpa using j
  subst e;obtain⟨o,e,c,d⟩:=st;exact⟨o,e,λv z=>by rw[d] at z;cases z⟩
 keep:=λi h n st k=>st.at λo e=>k g (by simp) o e
 item:=by
  intro X t y A N i f s σ H E I q st B;subst t y A;obtain⟨O,x,r,C⟩:=B;obtain⟨l,D,p,Q⟩:=I.tuple r;obtain⟨u,R,S⟩:=D.get C;obtain⟨F,G,T,J,L,M⟩:=q g (by simp);refine wpAny_pyNext_tuple_item st (show s.heap.IsTuple a l.toArray from p) (x:=u) (by simpa using R) λn m U=>?_;have V:Inv X f σ H { s with heap:=n }:=I.turned (t':=s.toks) (λb o j e=>(U.2 b j).trans e) F G J L M;obtain⟨o,e,c,d⟩:=id m;exact⟨u,rfl,jcs (s:={ s with heap:=n }) e c d (by decide) ⟨x,H,V,S,⟨rfl,λys Y=>by rw[I.tuple_inj Y r];exact C⟩,m,λb j=>(q b j).1⟩⟩
 done:=by
  intro X t y A N i f s σ H E I q st B;subst t y A;obtain⟨O,r,C⟩:=B;obtain⟨l,D,p,Q⟩:=I.tuple r;obtain⟨F,G,T,J,L,M⟩:=q g (by simp);have hl:=D.length;exact wpAny_pyNext_tuple_end (I.ok.hd N) st (show s.heap.IsTuple a l.toArray from p) (by simp;omega) λn Z=>⟨rfl,I.turned (t':=s.toks) (λb o j e=>Z b o j e) F G J L M⟩
 self:=λ_ _ _ _ _ st h=>wpAny_pyIter_tupleiter st h
theorem jaV{P:Program}{w:World}{K:PySem.W.Frag}{tg:Expr}(a:Addr)(lo:Int)(n:Nat):Turn P w K tg (Itr lo n) [a] a (λi h=>IsRangeIter h a (lo+(i:Nat)*1) ((n:Int) - (i:Nat)) 1) where
 mem:=by simp
 obj:=λi h st b d=>by
  have e:b=a:=by simpa using d
  subst e;exact⟨_,st,λv z=>by
   have D:Data.fields _=Data.cell v:=z;cases D⟩
 keep:=λi h g st k=>k a (by simp) _ st
 item:=by
  intro X l m p q i c s σ H E I j st r;subst l m p;obtain⟨u,x,F,y,A,B⟩:=j a (by simp);have W:=Walks.range (prog:=X.prog) (w:=X.w) (I.ok.hd q) a lo 1 n;refine W.item i s _ _ r st λv g C G f J=>?_;obtain⟨t,rfl⟩:=G;have L:Inv X c σ H { s with heap:=g,toks:=C }:=I.turned (λb o d e=>J b o (by simpa using d) e) u x y A B;refine⟨_,rfl,jcs (s:={ s with heap:=g,toks:=C }) (n:="range_iterator") f rfl rfl (by decide) ⟨.int (lo+i),H,L,⟨t,?_⟩,⟨rfl,rfl⟩,f,λb d=>(j b d).1⟩⟩;rw[Int.mul_one]
 done:=by
  intro X l m p q i c s σ H E I j st r;subst l m p;obtain⟨u,x,F,y,A,B⟩:=j a (by simp);exact wpAny_pyNext_range_end (I.ok.hd q) st (by have:n<=i:=r;omega) λg M=>⟨rfl,I.turned (t':=s.toks) (λb o d e=>M b o d e) u x y A B⟩
 self:=λ_ _ _ _ _ st h=>wpAny_pyIter_rangeiter st h
section
variable {X:Cx}{tg:Expr}
theorem jdv{pins:List (Addr×Obj)}{σ:St}{H:Hp}{s:Shared}{R:It->Hp->Prop}{E:Value->Shared->Prop}{lo hi:Int}{t u v:Tok}{tk:Nat}(I:Inv X pins σ H s)(h1:-(2 ^ 62)<=lo)(h2:lo < 2 ^ 62)(c:-(2 ^ 62)<=hi)(d:hi < 2 ^ 62)
  (q:R (Itr lo (hi - lo).toNat) H):wpAny (model X.prog X.w) X.A (pyIter (.ref s.heap.objs.size)) (PIE X pins σ tg R) E { s with heap:=s.heap.push { cls:=.type "range",data:=.fields #[.int lo t,.int hi u,.int 1 v] },toks:=tk }:=by
 refine wpAny_pyIter_range (IsRange.new ..) (small_one h1 h2 c d) ?_;have a:Inv X pins σ H { s with heap:=s.heap.push { cls:=.type "range",data:=.fields #[.int lo t,.int hi u,.int 1 v] },toks:=tk }:=I.kept λb o e=>M4 _ e;refine⟨(s.heap.push { cls:=.type "range",data:=.fields #[.int lo t,.int hi u,.int 1 v] }).objs.size,[(s.heap.push { cls:=.type "range",data:=.fields #[.int lo t,.int hi u,.int 1 v] }).objs.size],_,_,H,rfl,
  a.kept (t':=tk) λb o e=>M4 _ e,jaV _ lo (hi - lo).toNat,?_,λb f=>?_,q⟩
 ·have g:lo+((0:Nat):Int)*1=lo:=by simp
  have h:(((hi - lo).toNat:Nat):Int) - ((0:Nat):Int)=Builtin.Range.rangeSize lo hi 1:=by rw[rangeSize_one];split<;>omega
  show IsRangeIter _ _ (lo+((0:Nat):Int)*1) ((((hi - lo).toNat:Nat):Int) - ((0:Nat):Int)) 1;rw[g,h];exact X9 _ rfl
 ·have e:b=(s.heap.push { cls:=.type "range",data:=.fields #[.int lo t,.int hi u,.int 1 v] }).objs.size:=by simpa using f
  subst e;exact a.fpOk (N3 _) (a.hok.fresh (N3 _))
noncomputable def jfq(ta:TA):TI:=λσ H R=>ta σ H λvs H1=>∃ j:Int,vs=[.int j]/\-(2 ^ 62)<=j/\j < 2 ^ 62/\R (Itr 0 j.toNat) H1
theorem jcp{a:Expr}{ta:TA}{p pos:Pos}(d:Gl X "range")(f:X.mg "range" = none)(g:PA X [a] ta)(i:starEach [a] X.env=[(false,eval a X.env)]:=by rfl):PI X tg (.Call (.Name "range" p) [a] [] pos) (jfq ta):=by
 intro b s σ H R I h;refine Call_ (VY I d f boot_range (PyProof.Rows.callWith_type1 (thn (g pos b s σ H _ I h) λo u ⟨v,w,k,l,c⟩=>?_) i rfl));obtain⟨j,e,c,m,q⟩:=c;subst e;cases l with
 | cons r n =>
  cases n;obtain⟨t,rfl⟩:=r;exact call_range_1 (jdv k (by omega) (by omega) c m (by simpa using q))
noncomputable def jjb(wi:TI)(g:TG)(tb:TS):TS:=λD σ H=>wi σ H λJ H1=>∃ W:Nat->Nat->St->Hp->Prop,(∃ m,W 0 m σ H1)/\∀ i m σ H,W i m σ H ->
 (J.stop i H/\D.nx σ H) \/ (J.go i H/\∃ N:St->Hp->Prop,(∀ σ' H',N σ' H'->∃ m',m' < m/\W (i+1) m' σ' H')/\∀ x H',J.yld i H x H'->g x σ H' λσ2 H2=>tb { D with nx:=N,ct:=N,bk:=D.nx } σ2 H2)
noncomputable def QY(fp:List Addr)(h:Heap):List (Addr×Obj):=fp.filterMap λb=>(h.get? b).map λo=>(b,o)
theorem JU{a:List Addr}{h:Heap}{b:Addr}{o:Obj}(c:b∈a)(e:h.get? b=some o):(b,o)∈QY a h:=List.mem_filterMap.mpr ⟨b,c,by rw[e];rfl⟩
theorem jcQ{a:List Addr}{h:Heap}{p:Addr×Obj}(hp:p∈QY a h):p.1∈a/\h.get? p.1=some p.2:=by
 obtain⟨b,c,e⟩:=List.mem_filterMap.mp hp;cases q:h.get? b with
 | none=>rw[q] at e;cases e
 | some o =>
  rw[q] at e;have d:(b,o)=p:=X6 e;subst d;exact⟨c,q⟩
theorem Inv.pinned{pins:List (Addr×Obj)}{σ:St}{H:Hp}{s:Shared}{a:List Addr}(I:Inv X pins σ H s)(g:∀ b∈a,jaw X pins H b)(h:∀ b∈a,∃ o,s.heap.get? b=some o/\∀ v,o.data≠.cell v):Inv X (pins++QY a s.heap) σ H s :=
 I.pins_of λp i=>(N6.mp i).elim (λz=>I.pin p (U6 _ z)) λz=>by
  obtain⟨c,e⟩:=jcQ z;obtain⟨j,k,l,_⟩:=g p.1 c;obtain⟨o,f,d⟩:=h p.1 c;rw[e] at f;cases f;exact⟨e,j,k,l,d⟩
theorem Inv.unpinned{pins pl:List (Addr×Obj)}{σ:St}{H:Hp}{s:Shared}(I:Inv X (pins++pl) σ H s):Inv X pins σ H s:=I.pins_of λp a=>I.pin p (U6 _ (List.mem_append_left _ a))
theorem jeC{iter:Expr}{body:List Stmt}{wi:TI}{g:TG}{tb:TS}{pos:Pos}(hp:PassesOwn (model X.prog X.w) X.A X.env X.xe)(U:X.calm=true)(hi:PI X tg iter wi)(hg:PG X tg g)(c:PSs X body tb)
  (hs:∀ x,foldedSetIterable iter X.env x=pure x:=by intro _;rfl):PS X (.For tg iter body [] pos) (jjb wi g tb):=by
 intro a s σ H D I h;refine wpAny_For (thn (hi a s σ H _ I h) λv s1 h1=>thn h1 λitv s2 h2=>?_) hs;obtain⟨it,B,V,J,H2,e,I2,T,O,Y,W,⟨m0,w0⟩,C⟩:=h2;subst e
 -- what stays true of the iterator's objects through the loop
 have j:∀{t:Hp},(∀ b∈B,t b=none)->∀ b∈B,jaw X a t b:=λhn b c=>⟨hn b c,(Y b c).2⟩;refine codeAny_forLoop_any (λn Z=>∃ i E t,Inv X a E t Z/\V i Z.heap/\(∀ b∈B,t b=none)/\W i n E t) ?_ m0 ⟨0,σ,H2,I2,O,λb c=>(Y b c).1,w0⟩;rintro n s3 ⟨i,F,M,I3,G,K,w3⟩;rcases C i n F M w3 with⟨stop,qn⟩ | ⟨go,N,hN,step⟩
 ·refine wpAny_passesOwn hp (thn (T.done X rfl rfl rfl U i a s3 F M X.xe I3 (j K) G stop) λr s4 ⟨P,I4⟩=>?_);subst P;exact wpAny_execs_nil ⟨F,M,I4,qn⟩
 ·refine wpAny_passesOwn hp (thn (T.item X rfl rfl rfl U i a s3 F M X.xe I3 (j K) G go) λr s4 ⟨u,P,h4⟩=>?_);subst P;refine wpAny_passesOwn hp (thn h4 λ_ s5 ⟨x,H5,I5,r5,y5,z,Q⟩=>?_);have R:=I5.pinned (j Q) (T.obj _ _ z);refine wpAny_passesOwn hp (thn (hg _ s5 F H5 x u _ R r5 (step x H5 y5)) λ_ s6 ⟨σ6,H6,I6,q6⟩=>?_);refine wpAny_passesOwn hp (thn (c _ s6 σ6 H6 _ I6 q6) λf S y=>?_);have k:∀{l:St}{p:Hp},Inv X (a++QY B s5.heap) l p S->N l p->∃ m,m < n/\∃ i E t,Inv X a E t S/\V i S.heap/\(∀ b∈B,t b=none)/\W i m E t:=λ{l p} q L=>by
   obtain⟨m',hm,w7⟩:=hN l p L;refine⟨m',hm,i+1,l,p,q.unpinned,T.keep _ _ _ z λb c o e=>(q.pin (b,o) (U6 _ (U6 _ (JU c e)))).1,λb c=>?_,w7⟩;obtain⟨o,e,d⟩:=T.obj _ _ z b c;exact(q.pin (b,o) (U6 _ (U6 _ (JU c e)))).2.1
  cases f with
  | next=>obtain⟨l,p,q,L⟩:=y;exact k q L
  | cont=>obtain⟨l,p,q,L⟩:=y;exact k q L
  | brk=>obtain⟨l,p,q,y⟩:=y;exact⟨l,p,q.unpinned,y⟩
  | ret v=>obtain⟨x7,l,p,q,r7,y⟩:=y;exact⟨x7,l,p,q.unpinned,r7,y⟩
end
noncomputable abbrev R2:=V->V->Hp->VK->Prop
def OpR(X:Cx)(f:Value->Value->Sem Value)(r:R2):Prop :=
 ∀(pins:List (Addr×Obj)) (s:Shared) (σ:St) (H:Hp) (x y:V) (v u:Value) (Q:VK),Inv X pins σ H s->RelV x v->RelV y u->r x y H Q ->
  wpAny (model X.prog X.w) X.A (f v u) (EP X pins σ Q) X.xe s
def UnR(X:Cx)(f:Value->Sem Value)(r:V->Hp->VK->Prop):Prop :=
 ∀(pins:List (Addr×Obj)) (s:Shared) (σ:St) (H:Hp) (x:V) (v:Value) (Q:VK),Inv X pins σ H s->RelV x v->r x H Q ->
  wpAny (model X.prog X.w) X.A (f v) (EP X pins σ Q) X.xe s
def CallR(X:Cx)(f:Value)(r:List V->Hp->VK->Prop):Prop :=
 ∀(pins:List (Addr×Obj)) (s:Shared) (σ:St) (H:Hp) (xs:List V) (us:List Value) (Q:VK),Inv X pins σ H s->Vals xs us->r xs H Q ->
  wpAny (model X.prog X.w) X.A (call f us) (EP X pins σ Q) X.xe s
noncomputable def tOp(r:R2)(ta tb:TE):TE:=λσ H Q=>ta σ H λx H1=>tb σ H1 λy H2=>r x y H2 Q
noncomputable def tUn(r:V->Hp->VK->Prop)(ta:TE):TE:=λσ H Q=>ta σ H λx H1=>r x H1 Q
noncomputable def rI(C:Int->Int->Prop)(g:Int->Int->V):R2:=λx y H Q=>∃ i j,x=.int i/\y=.int j/\C i j/\Q (g i j) H
noncomputable def rI0(g:Int->Int->V):R2:=λx y H Q=>∃ i j,x=.int i/\y=.int j/\Q (g i j) H
def rU(g:Int->V):V->Hp->VK->Prop:=λx H Q=>∃ i,x=.int i/\Q (g i) H
section
variable {X:Cx}{a b c:Expr}{ta tb tc:TE}{pos:Pos}
theorem jk4(c:PE X a ta)(d:PE X b tb){pins:List (Addr×Obj)}{s:Shared}{σ:St}{H:Hp}{R:V->V->Hp->Prop}(I:Inv X pins σ H s)
  (h:ta σ H λx H1=>tb σ H1 λy H2=>R x y H2) {Q:Value->Shared->Prop}{f:Value->Value->Sem Value}
  (e:∀ v u s2 x y H2,Inv X pins σ H2 s2->RelV x v->RelV y u->R x y H2->wpAny (model X.prog X.w) X.A (f v u) Q X.xe s2) :
  wpAny (model X.prog X.w) X.A (eval a X.env) (λv s₁=>wpAny (model X.prog X.w) X.A (eval b X.env) (λu s₂=>wpAny (model X.prog X.w) X.A (f v u) Q X.xe s₂) X.xe s₁) X.xe s:=by
 refine thn (c pins s σ H _ I h) λv g ⟨x,H1,i,j,k⟩=>?_;refine thn (d pins g σ H1 _ i k) λu s2 ⟨y,H2,l,m,n⟩=>?_;exact e v u s2 x y H2 l j m n
theorem xI{d:Operator}{r:R2}(e:OpR X (binaryOp d) r)(f:PE X a ta)(g:PE X b tb):PE X (.BinOp a d b pos) (tOp r ta tb):=by
 intro c s σ H Q I h;exact wpAny_BinOp (jk4 f g I h λv u i x y j k l m q=>e c i σ j x y v u Q k l m q)
theorem jke{c:UnaryOp}{r:V->Hp->VK->Prop}(d:UnR X (unaryOp c) r)(e:PE X a ta):PE X (.UnaryOp c a pos) (tUn r ta):=by
 intro b s σ H Q I h;exact UnaryOp_ (thn (e b s σ H _ I h) λv f ⟨x,g,i,j,k⟩=>d b f σ g x v Q i j k)
theorem opI{f:Value->Value->Sem Value}{C:Int->Int->Prop}{g:Int->Int->Int}
  (a:∀(i j:Int) (t u:Tok) (s:Shared) (Q:Value->Shared->Prop) (E:Value->Shared->Prop),C i j->Q (.int (g i j) s.toks) { s with toks:=s.toks+1 }->wpAny (model X.prog X.w) X.A (f (.int i t) (.int j u)) Q E s) :
  OpR X f (rI C λi j=>.int (g i j)):=by
 intro b s σ H x y v u Q I c d h;obtain⟨i,j,rfl,rfl,e,q⟩:=h;obtain⟨t,rfl⟩:=c;obtain⟨k,rfl⟩:=d;exact a i j t k s _ _ e ⟨.int (g i j),H,I.tok _,⟨_,rfl⟩,q⟩
theorem jlA{f:Value->Value->Sem Value}{g:Int->Int->Int}
  (a:∀(i j:Int) (t u:Tok) (s:Shared) (Q:Value->Shared->Prop) (E:Value->Shared->Prop),Q (.int (g i j) s.toks) { s with toks:=s.toks+1 }->wpAny (model X.prog X.w) X.A (f (.int i t) (.int j u)) Q E s) :
  OpR X f (rI0 λi j=>.int (g i j)):=by
 intro b s σ H x y v u Q I c d h;obtain⟨i,j,rfl,rfl,q⟩:=h;obtain⟨t,rfl⟩:=c;obtain⟨e,rfl⟩:=d;exact a i j t e s _ _ ⟨.int (g i j),H,I.tok _,⟨_,rfl⟩,q⟩
theorem jjZ{f:Value->Value->Sem Value}{g:Int->Int->Bool}
  (a:∀(i j:Int) (t u:Tok) (s:Shared) (Q:Value->Shared->Prop) (E:Value->Shared->Prop),Q (.bool (g i j)) s->wpAny (model X.prog X.w) X.A (f (.int i t) (.int j u)) Q E s) :
  OpR X f (rI0 λi j=>.bl (g i j)):=by
 intro b s σ H x y v u Q I c d h;obtain⟨i,j,rfl,rfl,q⟩:=h;obtain⟨t,rfl⟩:=c;obtain⟨e,rfl⟩:=d;exact a i j t e s _ _ ⟨.bl (g i j),H,I,rfl,q⟩
def jkb(i j:Int):Prop:=0<=j/\j<=1000000/\i.natAbs < 2 ^ 64
theorem jid:OpR X (binaryOp .Add) (rI0 λi j=>.int (i+j)):=jlA λ_ _ _ _ _ _ _ q=>add_int q
theorem jh9:OpR X (binaryOp .Sub) (rI0 λi j=>.int (i - j)):=jlA λ_ _ _ _ _ _ _ q=>sub_int q
theorem jip:OpR X (binaryOp .Mod) (rI (λ_ j=>0 < j) λi j=>.int (i % j)):=opI λi j _ _ _ _ _ a q=>by
 have b:(0:Int) < j:=a;exact mod_int' (by omega) (by rw[Int.fmod_eq_emod_of_nonneg i (by omega)];exact q)
theorem jia:OpR X (binaryOp .Pow) (rI jkb λi j=>.int (i ^ j.toNat)):=opI λ_ _ _ _ _ _ _ a q=>pow_int_small a.1 a.2.1 a.2.2 q
theorem unI{f:Value->Sem Value}{g:Int->Int}
  (a:∀(i:Int) (t:Tok) (s:Shared) (Q:Value->Shared->Prop) (E:Value->Shared->Prop),Q (.int (g i) s.toks) { s with toks:=s.toks+1 }->wpAny (model X.prog X.w) X.A (f (.int i t)) Q E s) :
  UnR X f (rU λi=>.int (g i)):=by
 intro b s σ H x v Q I c h;obtain⟨i,rfl,q⟩:=h;obtain⟨t,rfl⟩:=c;exact a i t s _ _ ⟨.int (g i),H,I.tok _,⟨_,rfl⟩,q⟩
theorem jhP:UnR X (unaryOp .USub) (rU λi=>.int (-i)):=unI λ_ _ _ _ _ q=>neg_int q
end
noncomputable def jk6:V->V->Bool
 | .non,.non=>true | .non,.int _=>true | .int _,.non=>true | .non,.bl _=>true | .bl _,.non=>true | .non,.str _=>true | .str _,.non=>true
 | .int _,.int _=>true | .bl _,.bl _=>true | .str _,.str _=>true | .byt _,.byt _=>true
 | .int _,.str _=>true | .str _,.int _=>true | .bl _,.str _=>true | .str _,.bl _=>true
 | _,_=>false
noncomputable def rEq:R2:=λx y H Q=>jk6 x y=true/\Q (.bl (decide (x=y))) H
noncomputable def rNe:R2:=λx y H Q=>jk6 x y=true/\Q (.bl (!decide (x=y))) H
theorem uj{i j:Int}:decide (V.int i=V.int j)=(i==j):=by
 rw[Bool.eq_iff_iff];simp
theorem jbz{i j:Bool}:decide (V.bl i=V.bl j)=(i==j):=by
 rw[Bool.eq_iff_iff];simp
theorem jbH{i j:Str}:decide (V.str i=V.str j)=(i==j):=by
 rw[Bool.eq_iff_iff];simp
theorem jch{i j:Array UInt8}:decide (V.byt i=V.byt j)=(i.toList==j.toList):=by
 rw[Bool.eq_iff_iff];cases i;cases j;simp
section
variable {X:Cx}{a b c:Expr}{ta tb tc:TE}{pos:Pos}
theorem jW{pins:List (Addr×Obj)}{σ:St}{H:Hp}{s:Shared}{Q:VK}{k a:Bool}(I:Inv X pins σ H s)(q:Q (.bl k) H)(e:k=a):EP X pins σ Q (.bool a) s:=by
 subst e;exact⟨.bl k,H,I,rfl,q⟩
theorem jkE:OpR X (compareOp .Eq) rEq:=by
 intro e s σ H x y v u Q I d a h;obtain⟨c,q⟩:=h;cases x with
 | non =>
  cases d;cases y with
  | non=>cases a;exact PySem.EqNone.eq_none_none (jW I q (by simp))
  | bl j=>cases a;exact PySem.EqNone.eq_none_bool (jW I q (by simp))
  | int j=>obtain⟨b,rfl⟩:=a;exact PySem.EqNone.eq_none_int (jW I q (by simp))
  | str j=>obtain⟨b,rfl⟩:=a;exact PySem.EqNone.eq_none_str (jW I q (by simp))
  | _=>exact absurd (show false=true from c) M8
 | bl i =>
  cases d;cases y with
  | non=>cases a;exact PySem.EqNone.eq_bool_none (jW I q (by simp))
  | bl j=>cases a;exact eq_bool (jW I q jbz)
  | str j=>obtain⟨b,rfl⟩:=a;exact PySem.EqMixed.eq_bool_str (jW I q (by simp))
  | _=>exact absurd (show false=true from c) M8
 | int i =>
  obtain⟨t,rfl⟩:=d;cases y with
  | non=>cases a;exact PySem.EqNone.eq_int_none (jW I q (by simp))
  | int j=>obtain⟨b,rfl⟩:=a;exact eq_int (jW I q uj)
  | str j=>obtain⟨b,rfl⟩:=a;exact PySem.EqMixed.eq_int_str (jW I q (by simp))
  | _=>exact absurd (show false=true from c) M8
 | str i =>
  obtain⟨t,rfl⟩:=d;cases y with
  | non=>cases a;exact PySem.EqNone.eq_str_none (jW I q (by simp))
  | bl j=>cases a;exact PySem.EqMixed.eq_str_bool (jW I q (by simp))
  | int j=>obtain⟨b,rfl⟩:=a;exact PySem.EqMixed.eq_str_int (jW I q (by simp))
  | str j=>obtain⟨b,rfl⟩:=a;exact eq_str (jW I q jbH)
  | _=>exact absurd (show false=true from c) M8
 | byt i =>
  obtain⟨t,rfl⟩:=d;cases y with
  | byt j=>obtain⟨b,rfl⟩:=a;exact PySem.W.eq_bytes (jW I q jch)
  | _=>exact absurd (show false=true from c) M8
 | _=>cases y<;>exact absurd (show false=true from c) M8
theorem jks:OpR X (compareOp .NotEq) rNe:=by
 intro e s σ H x y v u Q I d a h;obtain⟨c,q⟩:=h;cases x with
 | non =>
  cases d;cases y with
  | non=>cases a;exact PySem.EqNone.ne_none_none (jW I q (by simp))
  | bl j=>cases a;exact PySem.EqNone.ne_none_bool (jW I q (by simp))
  | int j=>obtain⟨b,rfl⟩:=a;exact PySem.EqNone.ne_none_int (jW I q (by simp))
  | str j=>obtain⟨b,rfl⟩:=a;exact PySem.EqNone.ne_none_str (jW I q (by simp))
  | _=>exact absurd (show false=true from c) M8
 | bl i =>
  cases d;cases y with
  | non=>cases a;exact PySem.EqNone.ne_bool_none (jW I q (by simp))
  | bl j=>cases a;exact ne_bool (jW I q (congrArg not jbz))
  | str j=>obtain⟨b,rfl⟩:=a;exact PySem.EqMixed.ne_bool_str (jW I q (by simp))
  | _=>exact absurd (show false=true from c) M8
 | int i =>
  obtain⟨t,rfl⟩:=d;cases y with
  | non=>cases a;exact PySem.EqNone.ne_int_none (jW I q (by simp))
  | int j=>obtain⟨b,rfl⟩:=a;exact ne_int (jW I q (congrArg not uj))
  | str j=>obtain⟨b,rfl⟩:=a;exact PySem.EqMixed.ne_int_str (jW I q (by simp))
  | _=>exact absurd (show false=true from c) M8
 | str i =>
  obtain⟨t,rfl⟩:=d;cases y with
  | non=>cases a;exact PySem.EqNone.ne_str_none (jW I q (by simp))
  | bl j=>cases a;exact PySem.EqMixed.ne_str_bool (jW I q (by simp))
  | int j=>obtain⟨b,rfl⟩:=a;exact PySem.EqMixed.ne_str_int (jW I q (by simp))
  | str j=>obtain⟨b,rfl⟩:=a;exact ne_str (jW I q (congrArg not jbH))
  | _=>exact absurd (show false=true from c) M8
 | byt i =>
  obtain⟨t,rfl⟩:=d;cases y with
  | byt j=>obtain⟨b,rfl⟩:=a;exact PySem.W.ne_bytes (jW I q (congrArg not jch))
  | _=>exact absurd (show false=true from c) M8
 | _=>cases y<;>exact absurd (show false=true from c) M8
theorem jkG:OpR X (compareOp .Lt) (rI0 λi j=>.bl (decide (i < j))):=jjZ λ_ _ _ _ _ _ _ q=>lt_int q
theorem jkv:OpR X (compareOp .LtE) (rI0 λi j=>.bl (decide (i<=j))):=jjZ λ_ _ _ _ _ _ _ q=>le_int q
theorem jkf:OpR X (compareOp .Gt) (rI0 λi j=>.bl (decide (j < i))):=jjZ λ_ _ _ _ _ _ _ q=>gt_int q
theorem jlm:OpR X (compareOp .GtE) (rI0 λi j=>.bl (decide (j<=i))):=jjZ λ_ _ _ _ _ _ _ q=>ge_int q
theorem jb8:OpR X (compareOp .In) (λx y H Q=>∃ i j,x=.str i/\y=.str j/\Q (.bl (!(Builtin.Str.occurrences j i 0 j.length 1).isEmpty)) H):=by
 intro a s σ H x y v u Q I b c h;obtain⟨i,j,rfl,rfl,q⟩:=h;obtain⟨t,rfl⟩:=b;obtain⟨d,rfl⟩:=c;exact in_str (jW I q rfl)
theorem jil:OpR X (compareOp .Is) (λx y H Q=>y=.non/\Q (.bl (decide (x=.non))) H):=by
 intro a s σ H x y v u Q I b c h;obtain⟨rfl,q⟩:=h;cases c;refine is_none_gen (jW I q ?_);cases x<;>first
  | (cases b;rfl)
  | (obtain⟨t,rfl⟩:=b;rfl)
theorem xU:OpR X (compareOp .NotIn) (λx y H Q=>∃ i j,x=.str i/\y=.str j/\Q (.bl (!(!(Builtin.Str.occurrences j i 0 j.length 1).isEmpty))) H):=by
 intro a s σ H x y v u Q I b c h;obtain⟨i,j,rfl,rfl,q⟩:=h;obtain⟨t,rfl⟩:=b;obtain⟨d,rfl⟩:=c;exact notIn_str (jW I q rfl)
theorem K1(b:Expr){a:CmpOp}(h:a≠.In:=by decide)(h2:a≠.NotIn:=by decide):behindInMarks a b=false:=by
 have c:(a==CmpOp.In)=false:=by cases a<;>first | rfl | exact absurd rfl h
 have d:(a==CmpOp.NotIn)=false:=by cases a<;>first | rfl | exact absurd rfl h2
 cases b<;>simp[behindInMarks,c,d]
theorem jgW{d:CmpOp}{r:R2}(e:OpR X (compareOp d) r)(f:PE X a ta)(g:PE X b tb)(i:behindInMarks d b=false):PE X (.Compare a [d] [b] pos) (tOp r ta tb):=by
 intro c s σ H Q I h;exact wpAny_Compare1 (jk4 f g I h λv u j x y k l m n q=>e c j σ k x y v u Q l m n q) i
noncomputable def jbV(t:TE):TT:=λσ H Q=>t σ H λx H'=>∃ k,x=.bl k/\Q k H'
theorem jfO{f:CmpOp}{r:R2}(g:OpR X (compareOp f) r)(i:PE X a ta)(j:PE X b tb)(l:behindInMarks f b=false):PT X (.Compare a [f] [b] pos) (jbV (tOp r ta tb)):=by
 intro d s σ H Q I h;refine wpAny_isTrue_Compare1 (thn (i d s σ H _ I h) λv m ⟨x,n,o,p,q⟩=>thn (j d m σ n _ o q) λu t ⟨y,w,A,B,C⟩ =>
  thn (g d t σ w x y v u _ A p B C) λc J ⟨z,D,E,F,k,e,G⟩=>?_) l
 subst e;cases F;exact wpAny_truthy_bool ⟨D,E,G⟩
noncomputable def jbh(r r':R2)(ta tb tc:TE):TE:=λσ H Q=>ta σ H λx H1=>tb σ H1 λy H2=>r x y H2 λz H3=>∃ k,z=.bl k /\
 (if k=true then tc σ H3 λw' H4=>r' y w' H4 Q else Q (.bl false) H3)
theorem jdI{i g:CmpOp}{r l:R2}(q:OpR X (compareOp i) r)(j:OpR X (compareOp g) l)(t:PE X a ta)(w:PE X b tb)(A:PE X c tc)
  (B:lastMarks [i,g] [b,c]=false:=by with_unfolding_all rfl):PT X (.Compare a [i,g] [b,c] pos) (jbV (jbh r l ta tb tc)):=by
 intro f s σ H Q I h;refine isTrue_chain (thn (t f s σ H _ I h) λv C ⟨x,D,E,F,G⟩=>test_link (thn (w f C σ D _ E G) λu J ⟨y,K,L,m,M⟩ =>
  thn (q f J σ K x y v u _ L F m M) λd N ⟨z,n,o,O,k,e,p⟩=>?_)) B
 subst e;cases O;refine wpAny_truthy_bool ?_;cases k with
 | false =>
  obtain⟨k',P,R⟩:=p;cases P;exact ite_ff ⟨n,o,R⟩
 | true =>
  refine ite_tt (test_last (thn (A f N σ n _ o p) λS T ⟨U,V,W,Y,Z⟩=>thn (j f T σ V y U u S _ W m Y Z) λd' s5 ⟨z2,H5,I5,r5,k2,e2,q5⟩=>?_));subst e2;cases r5;exact wpAny_truthy_bool ⟨H5,I5,q5⟩
theorem wj:(sizeLine:Nat) < 2 ^ 63:=by rw[sizeLine_eq];decide
theorem jaJ:OpR X (binaryOp .Add) (λx y H Q=>∃ i j,x=.str i/\y=.str j/\i.length+j.length<=sizeLine/\Q (.str (i++j)) H):=by
 intro a s σ H x y v u Q I b c h;obtain⟨i,j,rfl,rfl,d,q⟩:=h;obtain⟨t,rfl⟩:=b;obtain⟨e,rfl⟩:=c;exact add_str (λe f=>⟨.str (i++j),H,I.tok _,⟨_,rfl⟩,q⟩) d
theorem jgy{x:V}{us:List Value}(r:Vals [x] us):∃ u,us=[u]/\RelV x u:=by
 cases r with
 | cons a b=>cases b;exact⟨_,rfl,a⟩
theorem jla{x y:V}{us:List Value}(r:Vals [x,y] us):∃ u w',us=[u,w']/\RelV x u/\RelV y w':=by
 cases r with
 | cons a b =>
  cases b with
  | cons c d=>cases d;exact⟨_,_,rfl,a,c⟩
theorem ja5(c:X.calm=true):CallR X (.builtin "max") (λxs H Q=>∃ i j,xs=[.int i,.int j]/\Q (.int (if j > i then j else i)) H):=by
 intro b s σ H xs d Q I r h;obtain⟨i,j,rfl,q⟩:=h;obtain⟨u,e,rfl,⟨t,rfl⟩,⟨f,rfl⟩⟩:=jla r;refine max_two_ints (I.ok.hd c) λg l k=>⟨_,H,I.kept k,?_,q⟩;by_cases a:j > i
 ·rw[if_pos a,if_pos a];exact⟨_,rfl⟩
 ·rw[if_neg a,if_neg a];exact⟨_,rfl⟩
theorem x6:CallR X (.type "str") (λxs H Q=>∃ i,xs=[.int i]/\i.natAbs.log2 < 1920/\Q (.str (toString i)) H):=by
 intro a s σ H xs c Q I r h;obtain⟨i,rfl,b,q⟩:=h;obtain⟨u,rfl,t,rfl⟩:=jgy r;exact PySem.P.str_of_int b ⟨.str _,H,I.tok _,⟨_,rfl⟩,q⟩
def jk0(K:PySem.W.Frag)(x:V)(H:Hp)(n:Nat):Prop :=
 match x with
 | .str y=>y.length<=sizeLine/\n=y.length
 | .byt y=>y.size<=sizeLine/\n=y.size
 | .ref p=>(∃ xs,SqL K H p xs/\n=xs.length) \/ ∃ xs,SqT K H p xs/\n=xs.length
 | _=>False
theorem jdQ:CallR X (.builtin "len") (λxs H Q=>∃ x n,xs=[x]/\jk0 X.K x H n/\Q (.int n) H):=by
 intro i s σ H xs l Q I r h;obtain⟨x,n,rfl,e,q⟩:=h;obtain⟨u,rfl,c⟩:=jgy r;have m:=wj;have o:sizeLine=16777216:=sizeLine_eq;cases x with
 | str y =>
  obtain⟨t,rfl⟩:=c;obtain⟨j,b⟩:y.length<=sizeLine/\n=y.length:=e;subst b;exact len_str (by omega) ⟨.int _,H,I.tok _,⟨_,rfl⟩,q⟩
 | byt y =>
  obtain⟨t,rfl⟩:=c;obtain⟨j,b⟩:y.size<=sizeLine/\n=y.size:=e;subst b;exact PySem.W.len_bytes (by omega) ⟨.int _,H,I.tok _,⟨_,rfl⟩,q⟩
 | ref p =>
  cases c;have b:(∃ xs,SqL X.K H p xs/\n=xs.length) \/ ∃ xs,SqT X.K H p xs/\n=xs.length:=e;rcases b with⟨xs,d,b⟩ | ⟨xs,d,b⟩
  ·subst b;obtain⟨f,g,pl,k⟩:=I.list d;have a:=g.length;exact Calls.call_len_list pl.isList (by simp only[N7];omega) ⟨.int xs.length,H,I.tok _,⟨_,by simp only[N7];rw[a]⟩,q⟩
  ·subst b;obtain⟨f,g,pl,k⟩:=I.tuple d;have a:=g.length;exact len_tuple pl (by simp only[N7];omega) ⟨.int xs.length,H,I.tok _,⟨_,by simp only[N7];rw[a]⟩,q⟩
 | _=>exact(show False from e).elim
end
structure ObjM(h:Heap)(x dx C:Addr)(mA:Str->Option Value):Prop where
 obj:h.get? x=some (PySem.W.instObj C dx)
 ns:h.Ns1 dx mA
 ne:dx≠x
theorem jcv{h:Heap}{dx:Addr}{c:Str->Option Value}(n:h.Ns1 dx c):∃ od,h.get? dx=some od/\∀ name,PySem.W.lookIn name od=some (c name):=by
 obtain⟨o,d,l,f,hd,g,_,i⟩:=n;refine⟨o,f,λname=>?_⟩;have e:=i name;unfold nsFind findBy at e;rw[<- Array.find?_toList] at e;unfold PySem.W.lookIn;rw[hd];dsimp only;split
 ·rename_i y q;rw[q] at e;exact congrArg some e
 ·rename_i q;rw[q] at e;have a:d.toList.any (·.refKey)=false:=by
   rw[List.any_eq_false];intro y j;obtain⟨z,t,b⟩:=g y (Array.mem_toList_iff.mp j);simp[DictEntry.refKey,b]
  have k:¬ d.toList.any (·.refKey)=true:=by rw[a];exact M8
  rw[if_neg k];exact congrArg some e
theorem RelO.some_of{v:V}{o:Option Value}(r:RelO (some v) o):∃ u,o=some u/\RelV v u:=by
 cases o with
 | none=>exact(show False from r).elim
 | some u=>exact⟨u,rfl,r⟩
theorem jbx{v:V}{u:Value}(r:RelV v u):PySem.W.handedIn u=true:=by
 cases v with
 | non=>cases(show u=Value.none from r);rfl
 | bl b=>cases(show u=Value.bool b from r);rfl
 | int i=>obtain⟨t,e⟩:=(show ∃ t,u=Value.int i t from r);cases e;rfl
 | str x=>obtain⟨t,e⟩:=(show ∃ t,u=Value.str x t from r);cases e;rfl
 | byt b=>obtain⟨t,e⟩:=(show ∃ t,u=Value.bytes b t from r);cases e;rfl
 | flt b=>obtain⟨t,e⟩:=(show ∃ t,u=Value.float b t from r);cases e;rfl
 | ref a=>cases(show u=Value.ref a from r);rfl
 | ty n=>cases(show u=Value.type n from r);rfl
structure Cls(K:PySem.W.Frag)(C:Addr):Prop where
 pg:PySem.W.plainGet K C Str.empty=true
 hd:PySem.W.hasDictIn K C=true
 po:PySem.W.plainOver K C=true
 sa:PySem.W.findIn K (.ref C) "__setattr__" = some (some (.builtin "object.__setattr__"))
def QC(K:PySem.W.Frag)(C:Addr)(f:Str):Prop:=PySem.W.findIn K (.ref C) f=some none
structure Con(K:PySem.W.Frag)(C:Addr)(f:Str)(v:V)(u:Value):Prop where
 at_:PySem.W.findIn K (.ref C) f=some (some u)
 rel:RelV v u
 get:PySem.W.specialIn K u "__get__" = some none
 cp:PySem.W.copiedNames.contains f=false
structure Meth(K:PySem.W.Frag)(C:Addr)(m:Str)(f:Addr):Prop where
 at_:PySem.W.findIn K (.ref C) m=some (some (.ref f))
 fn:PySem.W.isFn K (.ref f)=true
 kp:PySem.W.keepIn K (.ref f)=true
section
variable {X:Cx}{pins:List (Addr×Obj)}{σ:St}{H:Hp}{s:Shared}{a C dx:Addr}{fs:List (Str×V)}{f:Str}{v:V}{A:Around}{E:Value->Shared->Prop}
theorem jfg{prog:Program}{w:World}{env:Env}{e:Expr}{f:Str}{pos:Pos}{s:Shared}{Q:Value->Shared->Prop}(a:attributeBase e f env (eval e env)=eval e env)
  (h:wpAny (model prog w) A (eval e env) (λo s₁=>wpAny (model prog w) A (getAttr o f true) Q E s₁) E s):wpAny (model prog w) A (eval (.Attribute e f pos) env) Q E s :=
 Attribute_any_ h (by rw[arm_eval_Attribute,a])
end
section
variable {X:Cx}{pins:List (Addr×Obj)}{σ:St}{H:Hp}{s:Shared}{A:Around}{E:Value->Shared->Prop}{Q:Value->Shared->Prop}{c:Value}{b:Bool}
inductive TyOf (K:PySem.W.Frag) (H:Hp):V->Value->Prop where
 | non:TyOf K H .non (.type "NoneType")
 | bl (x:Bool):TyOf K H (.bl x) (.type "bool")
 | int (i:Int):TyOf K H (.int i) (.type "int")
 | str (x:Str):TyOf K H (.str x) (.type "str")
 | flt (x:UInt64):TyOf K H (.flt x) (.type "float")
 | lst {a:Addr}{xs:List V}(e:H a=some (.lst xs)):TyOf K H (.ref a) (.type "list")
 | frz {a:Addr}{o:Obj}{xs:List V}(e:H a=some (.frz o (.lst xs))):TyOf K H (.ref a) (.type "list")
 | tup {a:Addr}{xs:List V}(e:H a=some (.tup xs)):TyOf K H (.ref a) (.type "tuple")
 | dK {a:Addr}{kvs:List (Key×V)}(e:H a=some (.dK kvs)):TyOf K H (.ref a) (.type "dict")
 | dT {a:Addr}{kvs:List (List Key×V)}(e:H a=some (.dT kvs)):TyOf K H (.ref a) (.type "dict")
 | ins {a C dx:Addr}{fs:List (Str×V)}(e:H a=some (.ins C dx fs)) (cl:Cls K C) (ha:PySem.W.findIn K (.ref C) "__class__" = some (some (.builtin "object.__class__")))
   (hn:PySem.W.specialIn K (.builtin "object.__class__") "__get__" = some (some (.builtin "getset_descriptor.__get__"))) (htk:PySem.W.takesIn K (.builtin "object.__class__")=some true)
   (hm:PySem.W.mroIn K C (.type "object")=some true):TyOf K H (.ref a) (.ref C)
end
structure Room(k:Nat)(A:Around):Prop where
 hd:A.handled=none
 dp:A.depth+3*k+5 < recursionLimit
 un:A.units+16*k+200 < cLine
theorem Room.mono{j k:Nat}{A:Around}(r:Room k A)(h:j<=k):Room j A:=⟨r.hd,by have:=r.dp;omega,by have:=r.un;omega⟩
theorem Room.deeper{k:Nat}{A:Around}(r:Room (k+1) A)(env:Env):Room k (A.deeper env) :=
 ⟨r.hd,by have:=r.dp;show A.depth+1+3*k+5 < _;omega,by have:=r.un;show A.units+3+16*k+200 < _;omega⟩
theorem jaL{A:Around}{C:Addr}{us:List Value}{kw:List (Str×Value)}:(A.under (.builtin "type.__call__" ⟨.ref C::us,kw⟩)).depth=A.depth+1:=by
 first | rfl | simp[Around.under,Code.weight,Code.isCreation,Code.isGuard,Code.isCaller,Code.frames,Code.isFrame,guardIds]
theorem jaP{A:Around}{C:Addr}{us:List Value}{kw:List (Str×Value)}:(A.under (.builtin "type.__call__" ⟨.ref C::us,kw⟩)).units=A.units+1:=by
 first | rfl | simp[Around.under,Code.cUnits,Code.frames,Code.isFrame]
theorem Room.make{k:Nat}{A:Around}(r:Room (k+1) A)(C:Addr)(us:List Value)(kw:List (Str×Value)):Room k (A.under (.builtin "type.__call__" ⟨.ref C::us,kw⟩)) :=
 ⟨r.hd,by have:=r.dp;rw[jaL];omega,by have:=r.un;rw[jaP];omega⟩
theorem Room.depth{k:Nat}{A:Around}(r:Room k A):A.depth < recursionLimit:=by have:=r.dp;omega
theorem Room.units{k:Nat}{A:Around}(r:Room k A):A.units+64 < cLine:=by have:=r.un;omega
noncomputable def K9:TA:=λ_ H Q=>Q [] H
noncomputable def vd(ta:TE)(tr:TA):TA:=λσ H Q=>ta σ H λx H1=>tr σ H1 λxs H2=>Q (x::xs) H2
section
variable {X:Cx}{e:Expr}{es:List Expr}{te:TE}{t:TA}{pos:Pos}
theorem Yc:PA X [] K9:=λ_ _ _ _ H Q I h=>Calls.spliced_nil ⟨[],H,I,.nil,h⟩
theorem yS(b:PE X e te)(c:PA X es t)(d:starEach (e::es) X.env=(false,eval e X.env)::starEach es X.env:=by rfl):PA X (e::es) (vd te t):=by
 intro pos a s σ H Q I h;rw[d];show wpAny _ _ (spliced ((false,eval e X.env)::backTo pos (starEach es X.env))) _ _ s;refine Calls.spliced_cons (thn (b a s σ H _ I h) λu f ⟨x,g,i,j,k⟩=>?_);exact thn (c pos a f σ g _ i k) λq r ⟨l,m,n,o,p⟩=>⟨x::l,m,n,.cons j o,p⟩
noncomputable def jkS(t:TA):TE:=λσ H Q=>t σ H λxs H1=>xs.length<=sizeLine/\∀ p,H1 p=none->Q (.ref p) (upd H1 p (.tup xs))
noncomputable def jkZ(t:TA):TE:=λσ H Q=>t σ H λxs H1=>xs.length<=sizeLine/\∀ p,H1 p=none->Q (.ref p) (upd H1 p (.lst xs))
theorem jhG{x1}(h:PA X es t):PE X (.Tuple es x1 pos) (jkS t):=by
 intro a s σ H Q I g;refine wpAny_Tuple_spliced (thn (h pos a s σ H _ I g) λi c ⟨j,d,f,r,z,q⟩=>⟨by rw[<- r.length];exact z,?_⟩);have k:d c.heap.objs.size=none:=f.hok.fresh (N3 _);refine⟨.ref c.heap.objs.size,upd d c.heap.objs.size (.tup j),f.laid (t':=c.toks) (λb u e=>M4 _ e) (N3 _) ?_,rfl,q _ k⟩;exact⟨z,i,r,⟨_,X9 _ rfl,rfl,_,rfl⟩,_,X9 _ rfl,rfl⟩
theorem jiP(h:PA X es t):PE X (.List es pos) (jkZ t):=by
 intro a s σ H Q I g;refine wpAny_List_spliced (thn (h pos a s σ H _ I g) λi c ⟨j,d,f,r,z,q⟩=>⟨by rw[<- r.length];exact z,?_⟩);have k:d c.heap.objs.size=none:=f.hok.fresh (N3 _);refine⟨.ref c.heap.objs.size,upd d c.heap.objs.size (.lst j),f.laid (t':=c.toks) (λb u e=>M4 _ e) (N3 _) ?_,rfl,q _ k⟩;exact⟨z,i,0,r,X9 _ rfl⟩
end
noncomputable abbrev Sp:=List V->Hp->VK->XK->Prop
noncomputable abbrev CXT:=List Env->Hp->Shared->XK->Value->Shared->Prop
structure Env0(P:Program)(w:World)(K:PySem.W.Frag)(mg:Str->Option Value)(base:Heap)(A:Around)(outer:List Env)(s:Shared)(H:Hp):Prop where
 frames:A.frames=some outer
 mod:Mod K mg base
 bs:∀ b o,base.get? b=some o->s.heap.get? b=some o/\H b=none
 bsz:base.objs.size<=s.heap.objs.size
 funs:s.heap.FunFrames base outer
 frf:∀ b∈frs outer,H b=none
 hok:HOk P w H s.heap
 bare:AllBare s.gens
def CE(outer:List Env)(P:Program)(w:World)(H:Hp)(s:Shared)(Q:VK)(u:Value)(s':Shared):Prop :=
 ∃ v H',s'.os=s.os/\AllBare s'.gens/\Un (frs outer) [] H H' s.heap s'.heap/\HOk P w H' s'.heap/\RelV v u/\Q v H'
def CR(CX:CXT)(outer:List Env)(P:Program)(w:World)(H:Hp)(s:Shared)(Q:VK)(E:XK)(r:Result)(s':Shared):Prop :=
 match r with
 | .ok (.ret u)=>CE outer P w H s Q u s'
 | .ok _=>False
 | .error e=>CX outer H s E e s'
structure FnOk(P:Program)(w:World)(K:PySem.W.Frag)(mg:Str->Option Value)(base:Heap)(CX:CXT)(k:Nat)(f:Addr)(fd:FuncData)(ps:List Str)(sp:Sp):Prop where
 len:∀ vs H Q E,sp vs H Q E->vs.length=ps.length
 run:∀(A:Around) (outer:List Env) (s:Shared) (H:Hp) (args:Args) (us:List Value) (vs:List V) (Q:VK) (E:XK),Room k A->Env0 P w K mg base A outer s H->BindsTo s fd args (ps.zip us)->Vals vs us->sp vs H Q E ->
  codeAny (model P w) A (.call (.ref f) args) (CR CX outer P w H s Q E) s
theorem FnOk.imp{P:Program}{w:World}{K:PySem.W.Frag}{mg:Str->Option Value}{base:Heap}{CX:CXT}{k:Nat}{f:Addr}{fd:FuncData}{ps:List Str}{sp sp':Sp}(F:FnOk P w K mg base CX k f fd ps sp)
  (h:∀ vs H Q E,sp' vs H Q E->sp vs H Q E):FnOk P w K mg base CX k f fd ps sp' :=
 ⟨λvs H Q E q=>F.len vs H Q E (h _ _ _ _ q),λA outer s H args a vs Q E b c d e g=>F.run A outer s H args a vs Q E b c d e (h _ _ _ _ g)⟩
theorem Env0.make{P:Program}{w:World}{K:PySem.W.Frag}{mg:Str->Option Value}{base:Heap}{A:Around}{outer:List Env}{s:Shared}{H:Hp}(e:Env0 P w K mg base A outer s H)(C:Addr)(us:List Value)(kw:List (Str×Value)) :
  Env0 P w K mg base (A.under (.builtin "type.__call__" ⟨.ref C::us,kw⟩)) outer s H:=⟨by first | exact e.frames | (simpa [Around.under,Code.envs,Code.isFrame,pushEnvs] using e.frames),e.mod,e.bs,e.bsz,e.funs,e.frf,e.hok,e.bare⟩
section
variable {X:Cx}{pins:List (Addr×Obj)}{σ:St}{H:Hp}{s s':Shared}
theorem Inv.env0(I:Inv X pins σ H s):Env0 X.prog X.w X.K X.mg X.base X.A X.stack s H :=
 ⟨I.ok.frames,I.ok.mod,I.bs,U0 I.ok.bsz I.sz,I.stack,I.stkFree,I.hok,I.bare⟩
theorem Inv.after{Q:VK}{u:Value}(I:Inv X pins σ H s)(h:CE X.stack X.prog X.w H s Q u s'):EP X pins σ Q u s':=by
 obtain⟨v,c,os,bare,un,hok,r,q⟩:=h;obtain⟨e,g,d,t,a⟩:=s';obtain rfl:a=s.os:=os;exact⟨v,c,I.call (h':=e) (g':=g) (d':=d) (t':=t) (ch:=[]) un hok bare (λb z=>absurd z (by simp)),r,q⟩
end
noncomputable def Qf(sp:Sp)(dvs:List V)(E:XK)(t:TA):TE:=λσ H Q=>t σ H λvs H1=>sp (vs++dvs) H1 Q E
def Binds(K:PySem.W.Frag)(fd:FuncData)(ps:List Str)(ds:List Value):Prop :=
 ∀(s:Shared) (us:List Value),K.In s.heap->(us++ds).length=ps.length->BindsTo s fd ⟨us,[]⟩ (ps.zip (us++ds))
theorem Binds.all{K:PySem.W.Frag}{fd:FuncData}{ps:List Str}(h:∀ us:List Value,us.length=ps.length->bindArgs fd ⟨us,[]⟩=pure (ps.zip us)):Binds K fd ps []:=λs us _ a=>by
 rw[N4] at a ⊢;exact .of_eq (h us a)
def xl(CX:CXT)(X:Cx)(E:XK):Prop:=∀(pins:List (Addr×Obj)) (σ:St) (H:Hp) (s:Shared) (e:Value) (s':Shared),Inv X pins σ H s->CX X.stack H s E e s'->X.xe e s'
section
variable {X:Cx}{CX:CXT}{k:Nat}{f C:Addr}{fd:FuncData}{ps:List Str}{sp:Sp}{dvs:List V}{ds:List Value}{E:XK}{x m:Str}{p pos apos:Pos}{e o:Expr}{es:List Expr}{ta:TE}{t:TA}
theorem jet{pins:List (Addr×Obj)}{σ:St}{H:Hp}{s:Shared}{Q:VK}{us:List Value}{vs:List V}(F:FnOk X.prog X.w X.K X.mg X.base CX k f fd ps sp)(c:Room k X.A)(d:Binds X.K fd ps ds)(hd:Vals dvs ds)(g:xl CX X E)
  (I:Inv X pins σ H s) (r:Vals vs us) (h:sp (vs++dvs) H Q E):wpAny (model X.prog X.w) X.A (call (.ref f) us) (EP X pins σ Q) X.xe s:=by
 have b:Vals (vs++dvs) (us++ds):=r.append hd;have i:(us++ds).length=ps.length:=by rw[<- b.length];exact F.len _ _ _ _ h
 refine wpAny_call (codeAny_mono (F.run X.A X.stack s H ⟨us,[]⟩ (us++ds) (vs++dvs) Q E c I.env0 (d s us I.kIn i) b h) λr j a=>?_);cases r with
 | error e=>exact g pins σ H s e j I a
 | ok l =>
  cases l with
  | ret u=>exact I.after a
  | next=>exact False.elim a
  | brk=>exact False.elim a
  | cont=>exact False.elim a
theorem jbu(F:FnOk X.prog X.w X.K X.mg X.base CX k f fd ps sp)(g:Room k X.A)(i:Gl X x)(j:X.mg x=some (.ref f))(l:PySem.W.keepIn X.K (.ref f)=true)(m:Binds X.K fd ps ds)(hd:Vals dvs ds)(n:xl CX X E)
  (o:PA X (e::es) t) (b:(x==("__debug__" : Str))=false:=by decide) (u:starEach (e::es) X.env=(false,eval e X.env)::starEach es X.env:=by rfl) (c:(backTo pos (starEach es X.env)).any (·.1)=false:=by rfl) :
  PE X (.Call (.Name x p) (e::es) [] pos) (Qf sp dvs E t):=by
 intro a s σ H Q I h;refine wpAny_Call_Name_kw (qr I i j ?_ b);refine PySem.W.callWith_K (h₀:=X.base) I.ok.mod.kin l (thn (o pos a s σ H _ I h) λv y ⟨z,B,d,r,q⟩=>⟨d.kIn,?_⟩) u c;exact jet F g m hd n d r q
theorem jd5(F:FnOk X.prog X.w X.K X.mg X.base CX k f fd ps sp)(c:Room k X.A)(d:Gl X x)(e:X.mg x=some (.ref f))(g:PySem.W.keepIn X.K (.ref f)=true)(i:Binds X.K fd ps ds)(hd:Vals dvs ds)(j:xl CX X E)
  (a:(x==("__debug__" : Str))=false:=by decide):PE X (.Call (.Name x p) [] [] pos) (Qf sp dvs E K9):=by
 intro b s σ H Q I h;refine wpAny_Call_Name_kw (qr I d e ?_ a);exact PySem.W.callWith_K0 I.kIn g (jet (us:=[]) F c i hd j I .nil h)
structure Mk(K:PySem.W.Frag)(C f:Addr):Prop where
 makes:PySem.W.makesIn K C=true
 init:PySem.W.findIn K (.ref C) "__init__" = some (some (.ref f))
 fn:PySem.W.isFn K (.ref f)=true
 kp:PySem.W.keepIn K (.ref C)=true
end
def PK(X:Cx)(kws:List Keyword)(t:TA):Prop :=
 ∀(pos:Pos) (pins:List (Addr×Obj)) (s:Shared) (σ:St) (H:Hp) (Q:List V->Hp->Prop),Inv X pins σ H s->t σ H Q->wpAny (model X.prog X.w) X.A (evalAll ((backToKw pos (keywordEach kws X.env)).map (·.2))) (AP X pins σ Q) X.xe s
section
variable {X:Cx}{CX:CXT}{k:Nat}{f C:Addr}{fd:FuncData}{ps ks:List Str}{sp:Sp}{E:XK}{x m:Str}{p pos apos kpos:Pos}{e o:Expr}{es:List Expr}{kws:List Keyword}{te ta:TE}{t tk:TA}{nm:Option Str}
structure KBinds(K:PySem.W.Frag)(fd:FuncData)(ps ks:List Str)(g:List Value->List Value->List Value)(gV:List V->List V->List V):Prop where
 to:∀(s:Shared) (us ws:List Value),K.In s.heap->(g us ws).length=ps.length->BindsTo s fd ⟨us,ks.zip ws⟩ (ps.zip (g us ws))
 rel:∀{vs:List V}{us:List Value}{zs:List V}{ws:List Value},Vals vs us->Vals zs ws->Vals (gV vs zs) (g us ws)
variable {g:List Value->List Value->List Value}{gV:List V->List V->List V}
end
structure FnScope(N P:List Str)(sc:Scope):Prop where
 kind:sc.kind=.function
 co:sc.isCoroutine=false
 gen:sc.isGenerator=false
 nd:N.Nodup
 pre:N.take P.length=P
 par:∀ x∈P,sc.names.lookup x=some .local \/ sc.names.lookup x=some .cell
 nofree:∀ y∈sc.names,y.2≠.free
theorem xT{kindOf:Str->Option NameKind}{x:Str}:∀{binds:List (Str×Value)}{m:Str->Option Value},(∀ v,(x,v)∉binds)->bindL kindOf binds m x=m x
 | [],_,_=>rfl
 | (n,v)::r,m,h=>by
  unfold bindL;rw[xT λw a=>h w (M0 _ a)];split
  ·have:x≠n:=by rintro rfl;exact h v M3
   simp[this]
  ·rfl
theorem xE{kindOf:Str->Option NameKind}{x:Str}:∀{binds:List (Str×Value)}{m:Str->Option Value},(∀ v,(x,v)∉binds)->bindC kindOf binds m x=m x
 | [],_,_=>rfl
 | (n,v)::r,m,h=>by
  unfold bindC;rw[xE λw a=>h w (M0 _ a)];split
  ·rfl
  ·have:x≠n:=by rintro rfl;exact h v M3
   simp[this]
theorem x8{kindOf:Str->Option NameKind}{x:Str}{v:Value}:∀{P:List Str}{vs:List Value}{i:Nat}{m:Str->Option Value},P.Nodup->P[i]?=some x->vs[i]?=some v->kindOf x=some .local ->
  bindL kindOf (P.zip vs) m x=some v
 | [],_,_,_,_,h,_,_=>by simp at h
 | _::_,[],_,_,_,_,h,_=>by simp at h
 | p::P,w::vs,0,m,nd,a,b,c=>by
  simp at a b;subst a;subst b;show bindL kindOf ((p,w)::P.zip vs) m p=_;unfold bindL;rw[xT λv d=>(List.nodup_cons.mp nd).1 (List.of_mem_zip d).1,if_pos c];simp
 | p::P,w::vs,i+1,m,nd,a,b,c=>by
  show bindL kindOf ((p,w)::P.zip vs) m x=_;unfold bindL;exact x8 (i:=i) (List.nodup_cons.mp nd).2 (by simpa using a) (by simpa using b) c
theorem wu{kindOf:Str->Option NameKind}{x:Str}{v:Value}:∀{P:List Str}{vs:List Value}{i:Nat}{m:Str->Option Value},P.Nodup->P[i]?=some x->vs[i]?=some v->kindOf x≠some .local ->
  bindC kindOf (P.zip vs) m x=some v
 | [],_,_,_,_,h,_,_=>by simp at h
 | _::_,[],_,_,_,_,h,_=>by simp at h
 | p::P,w::vs,0,m,nd,a,b,c=>by
  simp at a b;subst a;subst b;show bindC kindOf ((p,w)::P.zip vs) m p=_;unfold bindC;rw[xE λv d=>(List.nodup_cons.mp nd).1 (List.of_mem_zip d).1,if_neg c];simp
 | p::P,w::vs,i+1,m,nd,a,b,c=>by
  show bindC kindOf ((p,w)::P.zip vs) m x=_;unfold bindC;exact wu (i:=i) (List.nodup_cons.mp nd).2 (by simpa using a) (by simpa using b) c
noncomputable def start(N:List Str)(vs:List V):St:=vs.map some++List.replicate (N.length - vs.length) none
noncomputable def uT(CX:CXT)(P:Program)(w:World)(K:PySem.W.Frag)(mg:Str->Option Value)(base:Heap)(N:List Str)(qual:Str)(scope:Scope)(f:Addr)(cd:Value)(A:Around)(outer:List Env)(s:Shared)(H:Hp)(E:XK):Cx where
 prog:=P
 w:=w
 K:=K
 mg:=mg
 base:=base
 A:=A.deeper (envOfC qual scope s.heap.objs.size f cd)
 N:=N
 s₀:=s
 H₀:=H
 env:=envOfC qual scope s.heap.objs.size f cd
 outer:=outer
 stack:=envOfC qual scope s.heap.objs.size f cd::outer
 ex:=[]
 calm:=true
 fn:=λ_=>true
 pn:=[]
 xe:=λe s'=>wpAny (model P w) (A.deeper (envOfC qual scope s.heap.objs.size f cd)) (leaving (envOfC qual scope s.heap.objs.size f cd) e) (λ_ s''=>CX outer H s E e s'') (λe' s''=>CX outer H s E e' s'') s'
theorem uV{a:Scope}{n:Nat}{x:Str}(h:a.names.lookup x=some .cell):∃ c,(cellsFrom n a.names []).lookup x=some c:=by
 have q:=PySem.W.cellsFrom_some a.names n [] (.inl h);exact Option.isSome_iff_exists.mp q
theorem jcL{CX:CXT}{P:Program}{w:World}{K:PySem.W.Frag}{mg:Str->Option Value}{base:Heap}{N ps:List Str}{qual:Str}{scope:Scope}{f:Addr}{cd:Value}{A:Around}{outer:List Env}{s s1:Shared}{H:Hp}{E:XK}{us:List Value}{vs:List V}
  (S:FnScope N ps scope) (hd:A.handled=none) (g:Env0 P w K mg base A outer s H) (J:vs.length=ps.length) (r:Vals vs us)
  (x:InCallC s s.heap.objs.size (bindL (envOfC qual scope s.heap.objs.size f cd).kindOf (ps.zip us) λ_=>none) (cellsFrom (s.heap.objs.size+1) scope.names []) (bindC (envOfC qual scope s.heap.objs.size f cd).kindOf (ps.zip us) λ_=>none) s1) :
  Inv (uT CX P w K mg base N qual scope f cd A outer s H E) [] (start N vs) H s1:=by
 have F:ps.length<=N.length:=by have:=congrArg List.length S.pre;rw[List.length_take] at this;omega
 obtain⟨t,L,rfl,C⟩:=x.done;have j:∀ b:Addr,b∉(uT CX P w K mg base N qual scope f cd A outer s H E).ex:=λb z=>absurd (show b∈([]:List Addr) from z) (by simp);refine⟨⟨g.mod,S.kind,rfl,rfl,N3 _,λy z c t d=>?_,λy l=>?_,λy c _ h=>?_,λ_=>hd,Around.frames_deeper g.frames,.inr ⟨rfl,rfl⟩,λb z=>absurd z (j b),g.bs,g.bsz,λb _ _=>j b,λb z=>absurd z (j b),g.funs,g.frf⟩,
  rfl,g.bare,Un.kept C,⟨_,x.toInCall.ns,λi y v t d M=>?_⟩,λy c h=>⟨_,x.cell y c h⟩,g.hok.fresh (N3 _),λy c h=>?_,λp m=>absurd (show p∈([]:List (Addr×Obj)) from m) (by simp),g.hok.kept C,?_⟩
 ·exact name_of_addr x.apart (PySem.mem_of_lookup t) (PySem.mem_of_lookup d)
 ·have l:scope.names.lookup y=some .cell \/ scope.names.lookup y=some .free:=l;rcases l with l | l
  ·exact uV l
  ·exact absurd rfl (S.nofree _ (PySem.mem_of_lookup l))
 ·exact Nat.le_of_lt (x.above y c (PySem.mem_of_lookup h))
 ·have B:i < vs.length:=by
   unfold start at d;by_cases B:i < vs.length
   ·exact B
   ·rw[List.getElem?_append_right (by simpa using B)] at d;rw[List.getElem?_replicate] at d;split at d<;>cases d
  have G:vs[i]?=some v:=by
   unfold start at d;rw[List.getElem?_append_left (by simpa using B),List.getElem?_map] at d;cases e:vs[i]? with
   | none=>rw[e] at d;cases d
   | some a=>rw[e] at d;cases d;rfl
  obtain⟨u,D,I⟩:=r.get G;have m:ps[i]?=some y:=by
   rw[<- S.pre,List.getElem?_take_of_lt (by omega)];exact t
  have o:ps.Nodup:=by rw[<- S.pre];exact S.nd.sublist (List.take_sublist _ _)
  refine⟨u,I,?_⟩;rcases S.par y (List.mem_of_getElem? m) with k | k
  ·exact .inl ⟨k,x8 o m D k⟩
  ·obtain⟨c,e⟩:=uV (n:=s.heap.objs.size+1) k;refine .inr ⟨.inl k,c,e,?_⟩;have q:=x.cell y c e;rw[wu o m D (by show scope.names.lookup y≠_;rw[k];decide)] at q;exact q
 ·exact g.hok.fresh (Nat.le_of_lt (x.above y c (PySem.mem_of_lookup h)))
 ·unfold start;show _=N.length;rw[N8,L4,List.length_replicate];omega
theorem jjJ{CX:CXT}{P:Program}{w:World}{K:PySem.W.Frag}{mg:Str->Option Value}{base:Heap}{k:Nat}{f:Addr}{name qual:Str}{params:Arguments}{body:List Stmt}{scope:Scope}{D kV h pm a ct oc:Value}{an od:Option Addr}
  {m:Array (Option Value)}{N ps:List Str}{sp:Sp}(L:K.lookup f=some ⟨oc,od,.func (PySem.W.fnOf name qual params body scope D kV h pm an a ct),m⟩) (p:PySem.W.codeIn K a qual=true) (S:FnScope N ps scope)
  (len:∀ vs H Q E,sp vs H Q E->vs.length=ps.length)
  (c:∀(A:Around) (outer:List Env) (s:Shared) (H:Hp) (vs:List V) (Q:VK) (E:XK),Room k (A.deeper (envOfC qual scope s.heap.objs.size f a))->sp vs H Q E ->
   ∃ t,PSs (uT CX P w K mg base N qual scope f a A outer s H E) body t/\t { nx:=λ_ H'=>Q .non H',rt:=Q } (start N vs) H) :
  FnOk P w K mg base CX (k+1) f (PySem.W.fnOf name qual params body scope D kV h pm an a ct) ps sp:=by
 refine⟨len,λA outer s H args M vs Q E z i O r j=>?_⟩;have R:=len _ _ _ _ j;have F:K.In s.heap:=i.mod.kin.keeps λb o e=>(i.bs b o e).1;have lim:s.heap.NoLimit:=i.mod.nolimit.keeps λb o e=>(i.bs b o e).1;have d:∀ y∈ps.zip M,scope.names.lookup y.1=some .local \/ (scope.names.lookup y.1=some .cell/\((cellsFrom (s.heap.objs.size+1) scope.names []).lookup y.1).isSome=true):=λ⟨n,v⟩ T=>by
  rcases S.par n (List.of_mem_zip T).1 with q | q
  ·exact .inl q
  ·exact .inr ⟨q,PySem.W.cellsFrom_some _ _ _ (.inl q)⟩
 refine codeAny_call_function z.depth (F _ _ L) rfl S.co S.gen rfl (PySem.W.codeRec_of F p) (O _ _ _ _ ?_);refine wpAny_newFunctionEnv_cells S.kind d λenv U G x=>?_;subst U;refine⟨lim.keeps x.toInCall.keep,codeAny_func ?_⟩;obtain⟨t,X,Y⟩:=c A outer s H vs Q E (z.deeper _) j;have I:Inv (uT CX P w K mg base N qual scope f a A outer s H E) [] (start N vs) H G:=jcL S z.hd i R r x;refine wpAny_mono (X [] G (start N vs) H _ I Y) (λZ B g=>?_) λe B g=>g;have fin:∀{l:St}{H':Hp}{v:V}{u:Value},Inv (uT CX P w K mg base N qual scope f a A outer s H E) [] l H' B->RelV v u->Q v H'->CE outer P w H s Q u B :=
  λ{l H' v u} J C q=>⟨v,H',J.os,J.bare,J.base,J.hok,C,q⟩
 cases Z with
 | ret u =>
  obtain⟨v,l,H',J,C,q⟩:=g;exact fin J C q
 | next =>
  obtain⟨l,H',J,q⟩:=g;exact fin (v:=V.non) (u:=Value.none) J rfl q
 | brk =>
  obtain⟨_,_,_,q⟩:=g;exact False.elim q
 | cont =>
  obtain⟨_,_,_,q⟩:=g;exact False.elim q
section
variable {X:Cx}{x:Str}{p pos:Pos}{e:Expr}{es:List Expr}{t:TA}{id T:String}{r:List V->Hp->VK->Prop}
noncomputable def tCB(r:List V->Hp->VK->Prop)(t:TA):TE:=λσ H Q=>t σ H λvs H1=>r vs H1 Q
theorem Ki(d:CallR X (.builtin id) r)(f:Gl X x)(g:X.mg x=none)(i:bootBuiltins x=some (.builtin id))(j:PA X (e::es) t)(k:x≠"__name__":=by decide)(b:(x==("__debug__" : Str))=false:=by decide)
  (l:starEach (e::es) X.env=(false,eval e X.env)::starEach es X.env:=by rfl) (c:(backTo pos (starEach es X.env)).any (·.1)=false:=by rfl):PE X (.Call (.Name x p) (e::es) [] pos) (tCB r t):=by
 intro a s σ H Q I h;refine wpAny_Call_Name_kw (VY I f g i ?_ k b);exact PyProof.Rows.callWith_builtin1 (thn (j pos a s σ H _ I h) λm n ⟨o,q,u,v,w⟩=>d a n σ q o m Q u v w) l c
theorem jcB(d:CallR X (.type T) r)(f:Gl X x)(g:X.mg x=none)(i:bootBuiltins x=some (.type T))(j:PA X (e::es) t)(k:x≠"__name__":=by decide)(b:(x==("__debug__" : Str))=false:=by decide)
  (l:starEach (e::es) X.env=(false,eval e X.env)::starEach es X.env:=by rfl) (c:(backTo pos (starEach es X.env)).any (·.1)=false:=by rfl):PE X (.Call (.Name x p) (e::es) [] pos) (tCB r t):=by
 intro a s σ H Q I h;refine wpAny_Call_Name_kw (VY I f g i ?_ k b);exact PyProof.Rows.callWith_type1 (thn (j pos a s σ H _ I h) λm n ⟨o,q,u,v,w⟩=>d a n σ q o m Q u v w) l c
end
end L2
namespace HT
open PySem PyProof.Rows
section
open PySem.SeqAt
open PySem.AutoSeq1 (wpAny_loadPart')
open PySem.MeetsSeq PySem.MeetsSeq2 PySem.MeetsSeq3
end
section
variable {prog:Program}{w:World}{A:Around}{E:Value->Shared->Prop}{s:Shared}
theorem cat_tup{t b:Addr}{vs ws:List Value}{Q:Value->Shared->Prop}(r:IsTup s.heap t vs.toArray)(u:IsTup s.heap b ws.toArray)(l:vs≠[])
  (h1:ws=[]->Q (.ref t) s) (h2:ws≠[]->Q (.ref s.heap.objs.size) { s with heap:=s.heap.push { cls:=.type "tuple",data:=.seq (vs++ws).toArray } })
  (j:vs.length+ws.length<=sizeLine):wpAny (model prog w) A (binaryOp .Add (.ref t) (.ref b)) Q E s:=by
 obtain⟨⟨cls,dd,data,m⟩,h,o,n,hd⟩:=id r;obtain⟨⟨p,c,k,d⟩,a,f,q,g⟩:=id u;simp only at o hd f g;subst o hd f g;have e:vs.toArray++ws.toArray=(vs++ws).toArray:=by simp
 by_cases i:ws=[]
 ·exact concat_meets ⟨_,h,rfl⟩ ⟨_,a,rfl⟩ noFill_tuple_add seq_tuple_add PySem.F.slot_tuple_add PySem.F.entry_tuple_add (PySem.F.args_tuple_add_2 _ _)
   (tuple_addW1 t b vs.toArray ws.toArray n q dd c m d (by simpa using l) (by simp[i])) ⟨h,a,h1 i⟩
 ·refine concat_meets ⟨_,h,rfl⟩ ⟨_,a,rfl⟩ noFill_tuple_add seq_tuple_add PySem.F.slot_tuple_add PySem.F.entry_tuple_add (PySem.F.args_tuple_add_2 _ _)
   (tuple_addW2 t b vs.toArray ws.toArray n q dd c m d (by simpa using l) (by simpa using i) (by rw[N7,N7];exact j)) ⟨h,a,?_⟩
  rw[e];exact h2 i
noncomputable def sIx(n d:Nat):Option Int->Nat
 | none=>d
 | some v=>if v < 0 then(v+(n:Int)).toNat else min v.toNat n
theorem sIx_none(n d:Nat):sIx n d none=d:=rfl
theorem sIx_nat(n d k:Nat):sIx n d (some (k:Int))=min k n:=by
 show(if(k:Int) < 0 then((k:Int)+(n:Int)).toNat else min (k:Int).toNat n)=min k n;rw[if_neg (by omega),U1]
theorem sIx_le(n d:Nat)(hd:d<=n)(o:Option Int):sIx n d o<=n:=by
 cases o with
 | none=>exact hd
 | some v =>
  show(if v < 0 then(v+(n:Int)).toNat else min v.toNat n)<=n;by_cases a:v < 0
  ·rw[if_pos a];omega
  ·rw[if_neg a];exact Nat.min_le_right _ _
theorem jci(v:Int)(n d:Nat):(if v < 0 then max (v+(n:Int)) 0 else min v (n:Int))=((sIx n d (some v):Nat):Int):=by
 show(if v < 0 then max (v+(n:Int)) 0 else min v (n:Int))=(((if v < 0 then(v+(n:Int)).toNat else min v.toNat n):Nat):Int);by_cases a:v < 0
 ·simp only[if_pos a];omega
 ·simp only[if_neg a];omega
theorem jaQ(lo hi:Option Int)(n:Nat):Builtin.Slice.sliceAdjust lo hi 1 (n:Int)=(((sIx n 0 lo:Nat):Int),((sIx n n hi:Nat):Int)):=by
 have a:¬ ((1:Int) < 0):=by omega
 unfold Builtin.Slice.sliceAdjust;simp only[a,if_false];refine Prod.ext ?_ ?_
 ·cases lo with
  | none=>rfl
  | some v=>exact jci v n 0
 ·cases hi with
  | none=>rfl
  | some v=>exact jci v n n
theorem jaX(i j:Nat):Builtin.Slice.slicePlaces (i:Int) (j:Int) 1=j - i:=by
 unfold Builtin.Slice.slicePlaces;have a:(1:Int) > 0:=by omega
 simp only[a,if_true,Int.ediv_one];split<;>omega
theorem QU{v:Value}{o:Option Int}{Q:Option Int->Shared->Prop}(p:IsPart v o)(h:Q o s):wpAny (model prog w) A (Builtin.Slice.slicePartIndex v) Q E s:=by
 cases p with
 | none=>exact slicePart_none h
 | int i t=>exact slicePart_int h
theorem Kb{sl:Addr}{c d:Value}{lo hi:Option Int}{n:Nat}{Q:Int×Int×Nat->Shared->Prop}(e:s.heap.IsSliceOf sl c d .none)(pl:IsPart c lo)(f:IsPart d hi)
  (h:Q (((sIx n 0 lo:Nat):Int),1,sIx n n hi - sIx n 0 lo) s):wpAny (model prog w) A (Builtin.Slice.sliceApplied (.ref sl) (pure (n:Int))) Q E s:=by
 obtain⟨os,a,g,b⟩:=id e;unfold Builtin.Slice.sliceApplied Builtin.Slice.sliceFields;refine L5 (L5 (U9 a b (x:=c) rfl (L5 (U9 a b (x:=d) rfl (L5 (U9 a b (x:=.none) rfl (N1 ?_)))))));refine L5 (slicePart_none ?_);show wpAny _ _ (if((1:Int)==0)=true then _ else _) _ _ s;rw[if_neg (by decide)];refine L5 (QU pl (L5 (QU f (L5 (N1 ?_)))));show wpAny _ _ (match Builtin.Slice.sliceAdjust lo hi 1 (n:Int) with | (lo,hi)=>pure (lo,(1:Int),Builtin.Slice.slicePlaces lo hi 1)) _ _ s;rw[jaQ lo hi n];show wpAny _ _ (pure (((sIx n 0 lo:Nat):Int),(1:Int),Builtin.Slice.slicePlaces ((sIx n 0 lo:Nat):Int) ((sIx n n hi:Nat):Int) 1)) _ _ s;rw[jaX];exact N1 h
theorem jc9(xs:Array Value)(i k:Nat):((List.range k).filterMap λ(m:Nat)=>xs[((i:Int)+(m:Int)*1).toNat]?).toArray=((xs.toList.drop i).take k).toArray:=by
 have e:(λ(m:Nat)=>xs[((i:Int)+(m:Int)*1).toNat]?)=λm=>xs[i+m]?:=by
  funext m
  have:((i:Int)+(m:Int)*1).toNat=i+m:=by omega
  rw[this]
 rw[e];have:=pick_run xs i k;rw[List.filterMap_map] at this;have a:((λx=>xs[x]?) ∘ λx=>i+x)=λm=>xs[i+m]?:=rfl;rw[a] at this;rw[this]
theorem getItem_tuple_cut{t sl:Addr}{a:Array Value}{i j:Value}{lo hi:Option Int}{Q:Value->Shared->Prop}(c:IsTup s.heap t a)(k:s.heap.IsSliceOf sl i j .none)(pl:IsPart i lo)(l:IsPart j hi)
  (n:¬ (sIx a.size 0 lo=0/\sIx a.size a.size hi=a.size))
  (h:Q (.ref s.heap.objs.size) { s with heap:=s.heap.push { cls:=.type "tuple",data:=.seq ((a.toList.drop (sIx a.size 0 lo)).take (sIx a.size a.size hi - sIx a.size 0 lo)).toArray } })
  (o:a.size<=sizeLine):wpAny (model prog w) A (getItem (.ref t) (.ref sl)) Q E s:=by
 have b:sizeOk (.seq ((a.toList.drop (sIx a.size 0 lo)).take (sIx a.size a.size hi - sIx a.size 0 lo)).toArray):=by
  show((a.toList.drop (sIx a.size 0 lo)).take (sIx a.size a.size hi - sIx a.size 0 lo)).toArray.size<=sizeLine;rw[N7,List.length_take,List.length_drop,Array.length_toList];omega
 have r:sIx a.size a.size hi<=a.size:=sIx_le _ _ (N3 _) hi;obtain⟨os,d,e,p⟩:=id k;have f:s.TypeIs (.ref sl) "slice":=⟨os,d,e⟩;unfold getItem
 try with_reducible refine wpAny_holding ?_
 first | refine L5 (N1 ?_) | skip
 refine L5 (wpAny_sequenceKey c.typeIs (by decide) ?_);refine L5 (wpAny_callSpecial?_slot (name:=Str.ofString "__getitem__") c.typeIs PyProof.Rows.slot_tuple_getitem
  (wpAny_call_entry PyProof.Rows.slot_tuple_getitem c.typeIs entry_tuple_getitem ?_ (args_tuple_getitem _ _)))
 show wpAny _ _ (Builtin.Tuple.tupleItemsOf (.ref t) >>= _) _ _ s;refine L5 (tupleItemsOf_ c ?_);refine L5 (wpAny_typeOf f ?_);rw[if_pos (by decide)];refine L5 (Kb k pl l ?_);have g:¬ ((((sIx a.size 0 lo:Nat):Int)==0&&(1:Int)==1&&(sIx a.size a.size hi - sIx a.size 0 lo)==a.size)=true):=by
  intro q;rw[M6,M6] at q;have u:((sIx a.size 0 lo:Nat):Int)=0:=eq_of_beq q.1.1;have v:sIx a.size a.size hi - sIx a.size 0 lo=a.size:=eq_of_beq q.2;exact n ⟨by omega,by omega⟩
 show wpAny _ _ (if(((sIx a.size 0 lo:Nat):Int)==0&&(1:Int)==1&&(sIx a.size a.size hi - sIx a.size 0 lo)==a.size)=true then _ else _) _ _ s;rw[if_neg g,jc9]
 first
  | exact L5 (m:=Builtin.Tuple.tupleExact _) (wpAny_newObj_type (N1 ⟨_,rfl,N1 h⟩) b)
  | exact L5 (m:=Builtin.Tuple.tupleExact _) (wpAny_newObj_type (L5 (N1 (N1 ⟨_,rfl,N1 h⟩))) b)
  | exact L5 (L5 (m:=Builtin.Tuple.tupleExact _) (wpAny_newObj_type (N1 (N1 ⟨_,rfl,N1 h⟩)) b))
  | exact L5 (L5 (m:=Builtin.Tuple.tupleExact _) (wpAny_newObj_type (N1 ⟨_,rfl,N1 h⟩) b))
end
end HT
namespace L2
open PySem PySem.Spec PyProof.Rows
noncomputable abbrev TO:=St->Hp->(Option Int->Hp->Prop)->Prop
def PO(X:Cx)(e:Option Expr)(t:TO):Prop :=
 ∀(pins:List (Addr×Obj)) (s:Shared) (σ:St) (H:Hp) (Q:Option Int->Hp->Prop),Inv X pins σ H s->t σ H Q ->
  wpAny (model X.prog X.w) X.A (evalPart e X.env) (λu s'=>∃ o H',Inv X pins σ H' s'/\IsPart u o/\Q o H') X.xe s
noncomputable def wJ:TO:=λ_ H Q=>Q none H
noncomputable def jgL(t:TE):TO:=λσ H Q=>t σ H λx H1=>∃ i,x=.int i/\Q (some i) H1
section
variable {X:Cx}{e:Expr}{te:TE}{lo hi:Option Expr}{tl th:TO}{pos p2:Pos}
theorem jfr:PO X none wJ:=by
 intro a s σ H Q I h;rw[evalPart_none];exact N1 ⟨none,H,I,.none,h⟩
theorem jfM(h:PE X e te):PO X (some e) (jgL te):=by
 intro a s σ H Q I b;rw[evalPart_some];refine thn (h a s σ H _ I b) λu j ⟨x,c,d,f,g⟩=>?_;obtain⟨i,rfl,q⟩:=g;obtain⟨t,rfl⟩:=f;exact⟨some i,c,d,.int i t,q⟩
def SlR(X:Cx)(r:V->Option Int->Option Int->Hp->VK->Prop):Prop :=
 ∀(pins:List (Addr×Obj)) (s:Shared) (σ:St) (H:Hp) (x:V) (v vl vu:Value) (lo hi:Option Int) (sl:Addr) (Q:VK),Inv X pins σ H s->RelV x v->s.heap.IsSliceOf sl vl vu .none->IsPart vl lo->IsPart vu hi->r x lo hi H Q ->
  ∃ T id,typeLookup (.type T) "__getitem__" = pure (some (.builtin id))/\s.TypeIs v T/\wpAny (model X.prog X.w) X.A (getItem v (.ref sl)) (EP X pins σ Q) X.xe s
theorem SlR.or{r b:V->Option Int->Option Int->Hp->VK->Prop}(h:SlR X r)(h':SlR X b):SlR X (λx lo hi H Q=>r x lo hi H Q \/ b x lo hi H Q):=by
 intro a s σ H x v c d lo hi e Q I f g pl i q;rcases q with q | q
 ·exact h a s σ H x v c d lo hi e Q I f g pl i q
 ·exact h' a s σ H x v c d lo hi e Q I f g pl i q
noncomputable def tSl(r:V->Option Int->Option Int->Hp->VK->Prop)(te:TE)(tl th:TO):TE:=λσ H Q=>te σ H λx H1=>tl σ H1 λl H2=>th σ H2 λu H3=>r x l u H3 Q
theorem jek{r:V->Option Int->Option Int->Hp->VK->Prop}(i:SlR X r)(j:PE X e te)(k:PO X lo tl)(m:PO X hi th):PE X (.Subscript e (.Slice lo hi none p2) pos) (tSl r te tl th):=by
 intro a s σ H Q I h;refine Subscript_ (thn (j a s σ H _ I h) λv n ⟨x,o,p,t,y⟩=>?_);refine wpAny_Slice (thn (k a n σ o _ p y) λd z ⟨l,B,C,pl,D⟩=>thn (m a z σ B _ C D) λf c ⟨u,g,E,F,G⟩=>?_);rw[evalPart_none];refine N1 ?_;have J:Inv X a σ g { c with heap:=c.heap.push { cls:=.type "slice",data:=.fields #[d,f,.none] } }:=E.kept (t':=c.toks) λb N q=>M4 _ q;obtain⟨T,id,K,L,M⟩:=i a { c with heap:=c.heap.push { cls:=.type "slice",data:=.fields #[d,f,.none] } } σ g x v d f l u c.heap.objs.size Q J t (Heap.IsSliceOf.new ..) pl F G;show wpAny (model X.prog X.w) X.A (subscriptTail e (.Slice lo hi none p2) v (.ref c.heap.objs.size)) (EP X a σ Q) X.xe { c with heap:=c.heap.push { cls:=.type "slice",data:=.fields #[d,f,.none] } };exact tail_any (ops:=[.ref c.heap.objs.size,v]) L K M (by with_unfolding_all rfl)
noncomputable def jeF(xs:List V)(lo hi:Option Int):List V:=(xs.drop (HT.sIx xs.length 0 lo)).take (HT.sIx xs.length xs.length hi - HT.sIx xs.length 0 lo)
theorem Kz(xs:List V)(lo hi:Option Int):(jeF xs lo hi).length<=xs.length:=by
 unfold jeF;rw[List.length_take,List.length_drop];omega
def jlq(K:PySem.W.Frag):V->Option Int->Option Int->Hp->VK->Prop:=λx lo hi H Q=>∃ a xs,x=.ref a/\SqT K H a xs /\
 ¬ (HT.sIx xs.length 0 lo=0/\HT.sIx xs.length xs.length hi=xs.length)/\∀ p,H p=none->Q (.ref p) (upd H p (.tup (jeF xs lo hi)))
theorem jig:SlR X (jlq X.K):=by
 intro i s σ H x v u w e f y Q I l m pl n h;obtain⟨a,d,rfl,p,t,q⟩:=h;cases l;obtain⟨g,r,j,k⟩:=I.tuple p;have c:g.toArray.size=d.length:=by rw[N7];exact r.length.symm
 refine⟨"tuple",_,PyProof.Rows.slot_tuple_getitem.lookup,j.typeIs,?_⟩;refine HT.getItem_tuple_cut j m pl n (by rw[c];exact t) ?_ (by rw[c];exact k);rw[c];refine⟨.ref s.heap.objs.size,_,I.laid (t':=s.toks) (o:=.tup (jeF d e f)) (λb z q=>M4 _ q) (N3 _) ?_,rfl,q _ (I.hok.fresh (N3 _))⟩;exact⟨U0 (Kz d e f) k,_,(r.drop (HT.sIx d.length 0 e)).take (HT.sIx d.length d.length f - HT.sIx d.length 0 e),IsTupN.new _ _⟩
noncomputable def jhC(K:PySem.W.Frag):R2:=λx y H Q=>∃ a b xs ys,x=.ref a/\y=.ref b/\SqT K H a xs/\SqT K H b ys/\xs≠[]/\xs.length+ys.length<=sizeLine /\
 (ys=[]->Q (.ref a) H)/\(ys≠[]->∀ p,H p=none->Q (.ref p) (upd H p (.tup (xs++ys))))
theorem Vals.nil_iff{xs:List V}{us:List Value}(r:Vals xs us):us=[]↔xs=[]:=by
 cases r with
 | nil=>simp
 | cons _ _=>simp
theorem jfu:OpR X (binaryOp .Add) (jhC X.K):=by
 intro e s σ H x y v u Q I i j h;obtain⟨a,b,k,l,rfl,rfl,m,n,p,f,r,t⟩:=h;cases i;cases j;obtain⟨A,d,p1,_⟩:=I.tuple m;obtain⟨g,c,p2,_⟩:=I.tuple n;refine HT.cat_tup p1 p2 (λz=>p (d.nil_iff.mp z)) (λz=>⟨.ref a,H,I,rfl,r (c.nil_iff.mp z)⟩) (λz=>?_) (by rw[<- d.length,<- c.length];exact f);refine⟨.ref s.heap.objs.size,_,I.laid (t':=s.toks) (o:=.tup (k++l)) (λb B q=>M4 _ q) (N3 _) ?_,rfl,t (λw=>z (c.nil_iff.mpr w)) _ (I.hok.fresh (N3 _))⟩;exact⟨by rw[N8];exact f,_,d.append c,IsTupN.new _ _⟩
end
noncomputable def ixN(n:Nat)(i:Int):Option Nat:=if 0<=i then(if i < n then some i.toNat else none) else if -(n:Int)<=i then some (i+n).toNat else none
noncomputable def atI{α:Type}(xs:List α)(i:Int):Option α:=(ixN xs.length i).bind λj=>xs[j]?
theorem uh{n:Nat}{i:Int}{j:Nat}(h:ixN n i=some j):seqIndex? i n=some j/\j < n/\-(n:Int)<=i/\i < n:=by
 unfold ixN at h;by_cases b:0<=i
 ·rw[if_pos b] at h;by_cases a:i < n
  ·rw[if_pos a] at h;have e:i.toNat=j:=X6 h;exact⟨by rw[seqIndex_of b a,e],by omega,by omega,a⟩
  ·rw[if_neg a] at h;cases h
 ·rw[if_neg b] at h;by_cases a:-(n:Int)<=i
  ·rw[if_pos a] at h;have e:(i+n).toNat=j:=X6 h;exact⟨by rw[seqIndex_neg (by omega) a,e],by omega,a,by omega⟩
  ·rw[if_neg a] at h;cases h
theorem wP{α:Type}{xs:List α}{i:Int}{v:α}(h:atI xs i=some v):∃ j,seqIndex? i xs.length=some j/\xs[j]?=some v/\j < xs.length/\-(xs.length:Int)<=i/\i < xs.length:=by
 unfold atI at h;cases e:ixN xs.length i with
 | none=>rw[e] at h;cases h
 | some j =>
  rw[e] at h;obtain⟨a,b,c,d⟩:=uh e;exact⟨j,a,h,b,c,d⟩
def wR(b:Expr):Prop:=∀ o i,subscripted b false o i=operate [o,i] (getItem o i)
def IxR(X:Cx)(r:R2):Prop :=
 ∀(value slice:Expr) (pins:List (Addr×Obj)) (s:Shared) (σ:St) (H:Hp) (x y:V) (v u:Value) (Q:VK),Inv X pins σ H s->RelV x v->RelV y u->r x y H Q ->
  subscripted slice false v u=operate [v,u] (getItem v u)->wpAny (model X.prog X.w) X.A (subscriptTail value slice v u) (EP X pins σ Q) X.xe s
def MtR(X:Cx)(id:String)(r:V->List V->Hp->VK->Prop):Prop :=
 ∀(pins:List (Addr×Obj)) (s:Shared) (σ:St) (H:Hp) (x:V) (xs:List V) (v:Value) (us:List Value) (Q:VK),Inv X pins σ H s->RelV x v->Vals xs us->r x xs H Q ->
  wpAny (model X.prog X.w) X.A (call (.builtin id) (v::us)) (EP X pins σ Q) X.xe s
section
variable {X:Cx}{a b:Expr}{ta tb:TE}{pos:Pos}
theorem IxR.or{r b:R2}(h:IxR X r)(h':IxR X b):IxR X (λx y H Q=>r x y H Q \/ b x y H Q):=by
 intro value slice a s σ H x y v u Q I c d q e;rcases q with q | q
 ·exact h value slice a s σ H x y v u Q I c d q e
 ·exact h' value slice a s σ H x y v u Q I c d q e
theorem jkW{r:R2}(d:IxR X r)(e:PE X a ta)(f:PE X b tb)(g:wR b):PE X (.Subscript a b pos) (tOp r ta tb):=by
 intro c s σ H Q I h;exact Subscript_ (jk4 e f I h λv u i x y j k l m q=>d a b c i σ j x y v u Q k l m q (g _ _))
noncomputable def jlu(K:PySem.W.Frag):R2:=λx y H Q=>∃ p xs i v,x=.ref p/\y=.int i/\SqL K H p xs/\atI xs i=some v/\Q v H
noncomputable def jlp(K:PySem.W.Frag):R2:=λx y H Q=>∃ p xs i v,x=.ref p/\y=.int i/\SqT K H p xs/\atI xs i=some v/\Q v H
noncomputable def jlC:R2:=λx y H Q=>∃ z i c,x=.str z/\y=.int i/\z.length<=sizeLine/\atI z.cps.toList i=some c/\Q (.str ⟨#[c]⟩) H
theorem ix_list:IxR X (jlu X.K):=by
 intro value slice a s σ H x y v u Q I l m h f;obtain⟨p,F,i,z,rfl,rfl,n,o,q⟩:=h;cases l;obtain⟨t,rfl⟩:=m;obtain⟨c,r,pl,G⟩:=I.list n;obtain⟨j,b,A,J,B,C⟩:=wP o;obtain⟨w,g,d⟩:=r.get A;have D:=r.length;have L:=wj;have fin:EP X a σ Q w s:=⟨z,H,I,d,q⟩;by_cases k:0<=i
 ·have e:i.toNat=j:=by
   rw[seqIndex_of k C] at b;exact X6 b
  exact item_listR pl.isList k (by omega) (by rw[e];simpa using g) fin f
 ·have e:(i+(c.toArray.size:Int)).toNat=j:=by
   rw[seqIndex_neg (by omega) B] at b;rw[N7,<- D];exact X6 b
  exact subscriptTail_builtinR (x:=w) pl.isList.typeIs slot_list_getitem.lookup
   (wpAny_getItem_list_neg (Q:=λr E=>r=w/\EP X a σ Q r E) pl.isList (by omega) (by rw[N7]<;>omega) (by omega) (by rw[e];simpa using g) ⟨rfl,fin⟩) f
theorem ix_tup:IxR X (jlp X.K):=by
 intro value slice a s σ H x y v u Q I c d h e;obtain⟨p,B,i,z,rfl,rfl,f,g,q⟩:=h;cases c;obtain⟨t,rfl⟩:=d;obtain⟨k,r,pl,C⟩:=I.tuple f;obtain⟨j,l,m,D,E,F⟩:=wP g;obtain⟨w,n,b⟩:=r.get m;have o:=r.length;have G:=wj;have fin:EP X a σ Q w s:=⟨z,H,I,b,q⟩;exact subscriptTail_builtinR (x:=w) pl.typeIs slot_tuple_getitem.lookup
  (getItem_tuple (j:=j) (Q:=λr A=>r=w/\EP X a σ Q r A) pl (by omega) (by omega) (by rw[N7,<- o];exact l) (by simpa using n) ⟨rfl,fin⟩) e
theorem jjk:IxR X jlC:=by
 intro value slice a s σ H x y v u Q I d e h f;obtain⟨z,i,c,rfl,rfl,r,g,q⟩:=h;obtain⟨t,rfl⟩:=d;obtain⟨w,rfl⟩:=e;obtain⟨j,b,k,A,l,m⟩:=wP g;have n:z.cps.toList.length=z.length:=by simp[Str.length]
 rw[n] at b l m;have B:=wj;exact tail_any (typeIs_str s z t) slot_str_getitem.lookup (getItem_str (c:=c) (by
  have o:decide (i < -(2 ^ 63:Int))=false:=X4 (by omega);have p:decide (i ≥ 2 ^ 63)=false:=X4 (by omega);rw[o,p,Bool.or_false]) (by rw[b];simpa using k) ⟨.str ⟨#[c]⟩,H,I.tok _,⟨_,rfl⟩,q⟩) f
noncomputable def rIx(K:PySem.W.Frag):R2:=λx y H Q=>jlu K x y H Q \/ jlp K x y H Q \/ jlC x y H Q
theorem jiR:IxR X (rIx X.K):=ix_list.or (ix_tup.or jjk)
theorem jao(its:List Value)(n j:Nat)(u:Value):Obj.mapSeq (·.setIfInBounds j u) { cls:=.type "list",data:=.seq its.toArray n }={ cls:=.type "list",data:=.seq (its.set j u).toArray n }:=by
 simp[Obj.mapSeq]
theorem Inv.lst{pins:List (Addr×Obj)}{σ:St}{H:Hp}{s:Shared}{p:Addr}{xs:List V}(I:Inv X pins σ H s)(h:H p=some (.lst xs)) :
  ∃(its:List Value) (n:Nat),Vals xs its/\s.heap.get? p=some { cls:=.type "list",data:=.seq its.toArray n }/\xs.length<=sizeLine:=by
 obtain⟨z,its,n,r,e⟩:=I.hok p _ h;exact⟨its,n,r,e,z⟩
theorem Inv.lstUpd{pins:List (Addr×Obj)}{σ:St}{H:Hp}{s:Shared}{p:Addr}{xs ys:List V}{its its':List Value}{n a:Nat}{f:Obj->Obj}(I:Inv X pins σ H s)(h:H p=some (.lst xs))
  (d:s.heap.get? p=some { cls:=.type "list",data:=.seq its.toArray n }) (c:f { cls:=.type "list",data:=.seq its.toArray n }={ cls:=.type "list",data:=.seq its'.toArray a }) (r:Vals ys its') (g:ys.length<=sizeLine) (t:Nat) :
  Inv X pins σ (upd H p (.lst ys)) { s with heap:=s.heap.update p f,toks:=t }:=by
 have e:(s.heap.update p f).get? p=some { cls:=.type "list",data:=.seq its'.toArray a }:=by
  rw[Heap.get?_update_self f d (by rw[c]<;>rfl),c]
 refine I.write (x:=p) (e:=p) (by rw[h];trivial) (.inl rfl) (λb u i q=>(Heap.get?_update_other _ _ (Ne.symm i)).trans q) ⟨_,e⟩ ?_;exact⟨g,its',a,r,e⟩
def jfe:V->V->V->Hp->(Hp->Prop)->Prop:=λo i v H Q=>∃ p xs k j,o=.ref p/\i=.int k/\H p=some (.lst xs)/\ixN xs.length k=some j/\Q (upd H p (.lst (xs.set j v)))
theorem jde:jly X jfe:=by
 intro a s σ H o i v E F u Q I y z A h;obtain⟨p,B,k,j,rfl,rfl,g,C,q⟩:=h;cases y;obtain⟨t,rfl⟩:=z;obtain⟨b,n,r,d,D⟩:=I.lst g;obtain⟨c,G,l,m⟩:=uh C;have e:=r.length;have J:=wj;have w:Inv X a σ (upd H p (.lst (B.set j v))) { s with heap:=s.heap.update p (Obj.mapSeq (·.setIfInBounds j u)) } :=
  I.lstUpd g d (jao b n j u) (r.set A j) (by rw[List.length_set];exact D) s.toks
 by_cases x:0<=k
 ·have f:k.toNat=j:=by
   rw[seqIndex_of x m] at c;exact X6 c
  exact PySem.W.ki_setAt d x (by omega) (by rw[N7,<- e];exact m) (by rw[f];exact⟨_,w,q⟩)
 ·have f:(k+(b.toArray.size:Int)).toNat=j:=by
   rw[seqIndex_neg (by omega) l] at c;rw[N7,<- e];exact X6 c
  exact PySem.W.ki_setBack d (by omega) (by rw[N7,<- e];exact l) (by omega) (by rw[f];exact⟨_,w,q⟩)
theorem xW(lo hi:Option Int)(n:Nat):(sliceBounds lo hi none n).1=((HT.sIx n 0 lo:Nat):Int)/\(sliceBounds lo hi none n).2.1=((HT.sIx n n hi:Nat):Int)/\(sliceBounds lo hi none n).2.2=1:=by
 refine⟨?_,?_,rfl⟩
 ·cases lo with
  | none=>simp[sliceBounds,HT.sIx]
  | some i =>
   simp only[sliceBounds,HT.sIx,Option.getD_none,show(1:Int) > 0 by decide,if_true];by_cases h:i < 0
   ·simp only[h,if_true]<;>omega
   ·simp only[h,if_false]<;>omega
 ·cases hi with
  | none=>simp[sliceBounds,HT.sIx]
  | some i =>
   simp only[sliceBounds,HT.sIx,Option.getD_none,show(1:Int) > 0 by decide,if_true];by_cases h:i < 0
   ·simp only[h,if_true]<;>omega
   ·simp only[h,if_false]<;>omega
theorem zG(its:List Value)(lo hi:Option Int):slicePick its.toArray lo hi none=((its.drop (HT.sIx its.length 0 lo)).take (HT.sIx its.length its.length hi - HT.sIx its.length 0 lo)).toArray:=by
 obtain⟨a,b,c⟩:=xW lo hi its.toArray.size;unfold slicePick;rw[a,b,c];simp only[sliceRange_one,pick_run,N7]<;>rfl
def jlE(K:PySem.W.Frag):V->Option Int->Option Int->Hp->VK->Prop:=λx lo hi H Q=>∃ a xs,x=.ref a/\SqL K H a xs/\∀ p,H p=none->Q (.ref p) (upd H p (.lst (jeF xs lo hi)))
theorem jgp:SlR X (jlE X.K):=by
 intro g s σ H x v t u e f w Q I j k pl l h;obtain⟨a,c,rfl,m,q⟩:=h;cases j;obtain⟨n,r,i,p⟩:=I.list m;have d:=r.length;refine⟨"list",_,slot_list_getitem.lookup,i.isList.typeIs,?_⟩;refine wpAny_getItem_list_slice i.isList k pl l .none (by simp) ?_ (by rw[N7]<;>omega);rw[zG,<- d];refine⟨.ref s.heap.objs.size,_,I.laid (t':=s.toks) (o:=.lst (jeF c e f)) (λb y q=>M4 _ q) (N3 _) ?_,rfl,q _ (I.hok.fresh (N3 _))⟩;exact⟨U0 (Kz c e f) p,_,0,(r.drop (HT.sIx c.length 0 e)).take (HT.sIx c.length c.length f - HT.sIx c.length 0 e),X9 _ rfl⟩
noncomputable def Ku:V->Bool
 | .non=>true
 | .bl _=>true
 | .int _=>true
 | .str _=>true
 | _=>false
noncomputable def eqV:V->V->Bool
 | .non,.non=>true
 | .bl a,.bl b=>a==b
 | .bl a,.int b=>(if a then 1 else 0)==b
 | .int a,.bl b=>a==(if b then 1 else 0)
 | .int a,.int b=>a==b
 | .str a,.str b=>a==b
 | _,_=>false
theorem jiN{A:Around}{s:Shared}{y x:V}{u v:Value}(e:RelV y u)(c:RelV x v)(g:Ku y=true)(f:Ku x=true):SeqAt.EqAt A s u v (eqV y x):=by
 cases y with
 | non =>
  cases e;cases x with
  | non=>cases c;exact SeqAt.EqAt.same _
  | bl b=>cases c;exact SeqAt.EqAt.none_bool b
  | int b=>obtain⟨t,rfl⟩:=c;exact SeqAt.EqAt.none_int b t
  | str b=>obtain⟨t,rfl⟩:=c;exact SeqAt.EqAt.none_str b t
  | _=>exact absurd (show false=true from f) M8
 | bl a =>
  cases e;cases x with
  | non=>cases c;exact SeqAt.EqAt.bool_none a
  | bl b=>cases c;exact SeqAt.EqAt.bool_bool a b
  | int b=>obtain⟨t,rfl⟩:=c;exact SeqAt.EqAt.bool_int a b t
  | str b=>obtain⟨t,rfl⟩:=c;exact SeqAt.EqAt.bool_str a b t
  | _=>exact absurd (show false=true from f) M8
 | int a =>
  obtain⟨d,rfl⟩:=e;cases x with
  | non=>cases c;exact SeqAt.EqAt.int_none a d
  | bl b=>cases c;exact SeqAt.EqAt.int_bool a d b
  | int b=>obtain⟨t,rfl⟩:=c;exact SeqAt.EqAt.int_int a d b t
  | str b=>obtain⟨t,rfl⟩:=c;exact SeqAt.EqAt.int_str a d b t
  | _=>exact absurd (show false=true from f) M8
 | str a =>
  obtain⟨d,rfl⟩:=e;cases x with
  | non=>cases c;exact SeqAt.EqAt.str_none a d
  | bl b=>cases c;exact SeqAt.EqAt.str_bool a d b
  | int b=>obtain⟨t,rfl⟩:=c;exact SeqAt.EqAt.str_int a d b t
  | str b=>obtain⟨t,rfl⟩:=c;exact SeqAt.EqAt.str_str a d b t
  | _=>exact absurd (show false=true from f) M8
 | _=>exact absurd (show false=true from g) M8
noncomputable def eqU(x:V)(u:Value):Bool:=match u with
 | .none=>eqV .non x
 | .bool b=>eqV (.bl b) x
 | .int i _=>eqV (.int i) x
 | .str z _=>eqV (.str z) x
 | _=>false
theorem jeS{x y:V}{u:Value}(r:RelV y u)(f:Ku y=true):eqU x u=eqV y x:=by
 cases y with
 | non=>cases r;rfl
 | bl b=>cases r;rfl
 | int i=>obtain⟨t,rfl⟩:=r;rfl
 | str z=>obtain⟨t,rfl⟩:=r;rfl
 | _=>exact absurd (show false=true from f) M8
theorem Kt{x:V}:∀{xs:List V}{us:List Value},Vals xs us->xs.all Ku=true->us.any (eqU x)=xs.any λy=>eqV y x
 | _,_,.nil,_=>rfl
 | y::xs,u::us,.cons r t,f=>by
  rw[List.all_cons,M6] at f;rw[List.any_cons,List.any_cons,jeS r f.1,Kt t f.2]
theorem Y8{A:Around}{s:Shared}{x:V}{v:Value}(b:RelV x v)(c:Ku x=true):∀{xs:List V}{us:List Value},Vals xs us->xs.all Ku=true->∀ u∈us,SeqAt.EqAt A s u v (eqU x u)
 | _,_,.nil,_=>λu a=>by cases a
 | y::xs,u::us,.cons r t,f=>λd a=>by
  rw[List.all_cons,M6] at f;rcases M9.mp a with rfl | a
  ·rw[jeS r f.1];exact jiN r b f.1 c
  ·exact Y8 b c t f.2 d a
noncomputable def inV(x:V)(xs:List V):Bool:=xs.any λy=>eqV y x
noncomputable def rIn(K:PySem.W.Frag)(neg:Bool):R2:=λx y H Q=>∃ p xs,y=.ref p/\(SqL K H p xs \/ SqT K H p xs)/\Ku x=true/\xs.all Ku=true/\Q (.bl (if neg then !inV x xs else inV x xs)) H
theorem jbC:OpR X (compareOp .In) (rIn X.K false):=by
 intro d s σ H x y v u Q I e g h;obtain⟨p,j,rfl,b,f,fs,q⟩:=h;cases g;rcases b with b | b
 ·obtain⟨a,r,pl,i⟩:=I.list b;refine SeqAt.in_listAt (eqU x) pl.isList (λw c=>Y8 e f r fs w (by simpa using c)) ⟨.bl _,H,I,rfl,?_⟩;rw[show a.toArray.any (eqU x)=a.any (eqU x) by simp,Kt r fs];exact q
 ·obtain⟨a,r,pl,i⟩:=I.tuple b;refine SeqAt.in_tupleAt (eqU x) pl (λw c=>Y8 e f r fs w (by simpa using c)) ⟨.bl _,H,I,rfl,?_⟩;rw[show a.toArray.any (eqU x)=a.any (eqU x) by simp,Kt r fs];exact q
theorem xq:OpR X (compareOp .NotIn) (rIn X.K true):=by
 intro d s σ H x y v u Q I e g h;obtain⟨p,j,rfl,b,f,fs,q⟩:=h;cases g;rcases b with b | b
 ·obtain⟨a,r,pl,i⟩:=I.list b;refine SeqAt.notIn_listAt (eqU x) pl.isList (λw c=>Y8 e f r fs w (by simpa using c)) ⟨.bl _,H,I,rfl,?_⟩;rw[show a.toArray.any (eqU x)=a.any (eqU x) by simp,Kt r fs];exact q
 ·obtain⟨a,r,pl,i⟩:=I.tuple b;refine SeqAt.notIn_tupleAt (eqU x) pl (λw c=>Y8 e f r fs w (by simpa using c)) ⟨.bl _,H,I,rfl,?_⟩;rw[show a.toArray.any (eqU x)=a.any (eqU x) by simp,Kt r fs];exact q
theorem CallR.or{f:Value}{r b:List V->Hp->VK->Prop}(h:CallR X f r)(h':CallR X f b):CallR X f (λxs H Q=>r xs H Q \/ b xs H Q):=by
 intro a s σ H xs c Q I d q;rcases q with q | q
 ·exact h a s σ H xs c Q I d q
 ·exact h' a s σ H xs c Q I d q
theorem V5:CallR X (.type "list") (λxs H Q=>∃ p ys,xs=[.ref p]/\(SqL X.K H p ys \/ SqT X.K H p ys)/\∀ l,H l=none->Q (.ref l) (upd H l (.lst ys))):=by
 intro g s σ H xs y Q I r h;obtain⟨p,ys,rfl,i,q⟩:=h;obtain⟨u,rfl,x⟩:=jgy r;cases x;have fin:∀(a:List Value),Vals ys a->ys.length<=sizeLine->∀(c:Heap) (d:Nat),(∀ b v,s.heap.get? b=some v->c.get? b=some v) ->
   c.get? s.heap.objs.size=some { cls:=.type "list",dict:=none,data:=.seq a.toArray d,slots:=#[] }->EP X g σ Q (.ref s.heap.objs.size) { s with heap:=c }:=λa f j c d kp e =>
  ⟨.ref s.heap.objs.size,_,I.laid (t':=s.toks) kp (N3 _) (show ObjOk X.prog X.w _ c _ (.lst ys) from⟨j,a,d,f,e⟩),rfl,q _ (I.hok.fresh (N3 _))⟩
 rcases i with i | i
 ·obtain⟨a,f,pl,j⟩:=I.list i;have k:=f.length;obtain⟨o,m,t,n,hd⟩:=pl.isList;exact call_list_seq p (.inl rfl) m t hd (λc d kp e=>fin a f j c d kp e) (by simp only[N7]<;>omega)
 ·obtain⟨a,f,pl,j⟩:=I.tuple i;have k:=f.length;obtain⟨o,m,t,n,hd⟩:=pl;exact call_list_seq p (.inr rfl) m t hd (λc d kp e=>fin a f j c d kp e) (by simp only[N7]<;>omega)
def tyV(K:PySem.W.Frag)(T:String)(x:V)(H:Hp):Prop:=match x with
 | .str _=>T = "str"
 | .int _=>T = "int"
 | .ref p=>(T = "list"/\∃ xs,SqL K H p xs) \/ (T = "tuple"/\∃ o,K.lookup p=some o/\o.cls=.type "tuple"/\o.dict=none) \/
   (T = "dict"/\((∃ kvs,H p=some (.dK kvs)) \/ ∃ kvs,H p=some (.dT kvs))) \/ (T = "set"/\∃ S n,H p=some (.set S n))
 | _=>False
theorem jez{pins:List (Addr×Obj)}{σ:St}{H:Hp}{s:Shared}{T:String}{x:V}{v:Value}(I:Inv X pins σ H s)(r:RelV x v)(ty:tyV X.K T x H) :
  s.TypeIs v T/\∀ a,v=.ref a->∃ ob,s.heap.get? a=some ob/\ob.dict=none:=by
 cases x with
 | str z =>
  obtain⟨t,rfl⟩:=r;cases(show T = "str" from ty);exact⟨typeIs_str s z t,λ_ e=>nomatch e⟩
 | int i =>
  obtain⟨t,rfl⟩:=r;cases(show T = "int" from ty);exact⟨typeIs_int s i t,λ_ e=>nomatch e⟩
 | ref p =>
  cases r;rcases ty with⟨rfl,k,g⟩ | ⟨rfl,o,b,h,hd⟩ | ⟨rfl,b⟩ | ⟨rfl,S,n,b⟩
  ·obtain⟨j,_,pl,_⟩:=I.list g;refine⟨pl.isList.typeIs,λa e=>?_⟩;cases e;obtain⟨o,n,e,c,hd,_⟩:=pl;exact⟨o,e,hd⟩
  ·refine⟨⟨o,I.kIn p o b,h⟩,λa e=>?_⟩;cases e;exact⟨o,I.kIn _ o b,hd⟩
  ·have z:∃ o,s.heap.get? p=some o/\o.ExactDict:=by
    rcases b with⟨d,b⟩ | ⟨d,b⟩
    ·obtain⟨_,_,_,_,o,_,_,e,ex,_⟩:=I.hok p _ b;exact⟨o,e,ex⟩
    ·obtain⟨_,_,_,_,o,_,_,e,ex,_⟩:=I.hok p _ b;exact⟨o,e,ex⟩
   obtain⟨o,e,ex⟩:=z;refine⟨⟨o,e,ex.1⟩,λa f=>?_⟩;cases f;exact⟨o,e,ex.2.1⟩
  ·obtain⟨o,_,_,_,e,ex,_⟩:=I.hok p _ b;refine⟨⟨o,e,ex.1⟩,λa f=>?_⟩;cases f;exact⟨o,e,ex.2.1⟩
 | _=>exact False.elim ty
noncomputable def jkY(K:PySem.W.Frag)(T:String)(r:V->List V->Hp->VK->Prop)(to:TE):TE:=λσ H Q=>to σ H λx H1=>tyV K T x H1/\r x [] H1 Q
noncomputable def tBM(K:PySem.W.Frag)(T:String)(r:V->List V->Hp->VK->Prop)(to:TE)(t:TA):TE:=λσ H Q=>to σ H λx H1=>tyV K T x H1/\t σ H1 λxs H2=>r x xs H2 Q
variable {o e:Expr}{es:List Expr}{to:TE}{t:TA}{name:Str}{apos cpos:Pos}{T id:String}{r:V->List V->Hp->VK->Prop}
theorem jh0(pa:PlainAttrs T)(slot:Slot T name id)(d:typeOf (.builtin id)=pure (.type "method_descriptor"))(g:MtR X id r)(i:PE X o to)
  (b:attributeBase o name X.env (eval o X.env)=eval o X.env:=by rfl) (c:(apos.endLine==cpos.line)=true:=by rfl):PE X (.Call (.Attribute o name apos) [] [] cpos) (jkY X.K T r to):=by
 intro a s σ H Q I h;refine wpAny_Call_method0_late b c (thn (i a s σ H _ I h) λv j ⟨x,k,e,f,ty,l⟩=>?_);obtain⟨m,n⟩:=jez e f ty;exact⟨T,id,pa,slot,d,m,n,Calls.callWith_builtin rfl (PySem.evalArgs_none (g a j σ k x [] v [] Q e f .nil l))⟩
theorem jcr(pa:PlainAttrs T)(slot:Slot T name id)(g:typeOf (.builtin id)=pure (.type "method_descriptor"))(l:MtR X id r)(m:PE X o to)(n:PA X (e::es) t)
  (c:attributeBase o name X.env (eval o X.env)=eval o X.env:=by rfl)
  (f:((backTo cpos (starEach (e::es) X.env)).all (λx=>!x.1)&&(backToKw cpos (keywordEach [] X.env)).all (λx=>x.1.isSome)
   && decide ((e::es).length+([]:List Keyword).length+(if([]:List Keyword).isEmpty then 0 else 1) < 30))=true:=by rfl)
  (d:(apos.endLine==cpos.line)=true:=by rfl) (p:starEach (e::es) X.env=(false,eval e X.env)::starEach es X.env:=by rfl) (b:(backTo cpos (starEach es X.env)).any (·.1)=false:=by rfl) :
  PE X (.Call (.Attribute o name apos) (e::es) [] cpos) (tBM X.K T r to t):=by
 intro a s σ H Q I h;refine wpAny_Call_method_late c f d rfl (thn (m a s σ H _ I h) λv q ⟨x,u,i,j,ty,w⟩=>?_);obtain⟨y,z⟩:=jez i j ty;refine⟨T,id,pa,slot,g,y,z,?_⟩;have k:=n cpos a q σ u _ i w;rw[p] at k ⊢;refine Calls.callWith_builtin (by show(false||(backTo cpos (starEach es X.env)).any (·.1))=false;rw[b]<;>rfl) (Calls.evalArgs_plain ?_);exact thn k λA B ⟨C,D,E,F,G⟩=>l a B σ D x C v A Q E j F G
end
def MtM(X:Cx)(id:String)(r:V->List V->Hp->VK->Prop):Prop :=
 ∀(pins:List (Addr×Obj)) (s:Shared) (σ:St) (H:Hp) (x:V) (xs:List V) (v:Value) (us:List Value) (Q:VK),Inv X pins σ H s->RelV x v->Vals xs us->r x xs H Q ->
  wpAny (model X.prog X.w) X.A (call (.builtin id) (v::us)) (EP X pins σ Q) X.xe s
theorem Vals.one:∀{x:V}{us:List Value},Vals [x] us->∃ u,us=[u]/\RelV x u
 | _,_,.cons r .nil=>⟨_,rfl,r⟩
theorem Vals.two:∀{x y:V}{us:List Value},Vals [x,y] us->∃ u v,us=[u,v]/\RelV x u/\RelV y v
 | _,_,_,.cons r (.cons q .nil)=>⟨_,_,rfl,r,q⟩
theorem Vals.zero:∀{us:List Value},Vals [] us->us=[]
 | _,.nil=>rfl
theorem Vals.eraseIdx:∀{xs:List V}{us:List Value}(i:Nat),Vals xs us->Vals (xs.eraseIdx i) (us.eraseIdx i)
 | _,_,_,.nil=>.nil
 | _,_,0,.cons _ t=>t
 | _,_,i+1,.cons r t=>.cons r (Vals.eraseIdx i t)
theorem Vals.rep{xs:List V}{us:List Value}(h:Vals xs us):∀ k:Nat,Vals (List.replicate k xs).flatten (List.replicate k us).flatten
 | 0=>.nil
 | k+1=>by
  rw[List.replicate_succ,List.replicate_succ,List.flatten_cons,List.flatten_cons];exact Vals.append h (Vals.rep h k)
theorem xJ{α:Type}:∀(l:List α) (i:Nat),(l.eraseIdx i).length<=l.length
 | [],_=>N3 _
 | _::_,0=>Nat.le_succ _
 | _::r,i+1=>Nat.succ_le_succ (xJ r i)
theorem we(its:List Value):∀(k:Nat) (acc:List Value),
  List.foldl (λx1 x2=>x1++x2) acc.toArray (List.replicate k its.toArray)=(acc++(List.replicate k its).flatten).toArray
 | 0,acc=>by simp
 | k+1,acc=>by
  have e:acc.toArray++its.toArray=(acc++its).toArray:=by simp
  have a:(acc++its)++(List.replicate k its).flatten=acc++(List.replicate (k+1) its).flatten:=by
   rw[List.replicate_succ,List.flatten_cons,List.append_assoc]
  rw[<- a,<- we its k (acc++its),<- e,List.replicate_succ,X2]
section
variable {X:Cx}{pins:List (Addr×Obj)}{σ:St}{H:Hp}{s:Shared}{l b:Addr}{xs ys zs:List V}
theorem Inv.lset{its its':List Value}{n:Nat}{f:Array Value->Array Value}{t':Nat}(I:Inv X pins σ H s)(a:H l=some (.lst xs))
  (e:s.heap.get? l=some { cls:=.type "list",data:=.seq its.toArray n }) (b:f its.toArray=its'.toArray) (c:Vals ys its') (d:ys.length<=sizeLine) :
  Inv X pins σ (upd H l (.lst ys)) { s with heap:=s.heap.update l (Obj.mapSeq f),toks:=t' }:=by
 have q:=PySem.IsL.update e f;rw[b] at q;refine I.write (x:=l) (e:=l) (by rw[a];exact trivial) (.inl rfl) (λb' u g h=>(Heap.get?_update_other s.heap (Obj.mapSeq f) (Ne.symm g)).trans h) ⟨_,q⟩ ?_;exact⟨d,its',_,c,q⟩
theorem Inv.lnew{its:List Value}{t':Nat}(I:Inv X pins σ H s)(a:Vals ys its)(b:ys.length<=sizeLine) :
  Inv X pins σ (upd H s.heap.objs.size (.lst ys)) { s with heap:=s.heap.push { cls:=.type "list",data:=.seq its.toArray },toks:=t' } :=
 I.laid (λ_ _ q=>M4 _ q) (N3 _) ⟨b,its,0,a,X9 _ rfl⟩
theorem Inv.fresh(I:Inv X pins σ H s):H s.heap.objs.size=none:=I.hok.fresh (N3 _)
theorem Inv.lstM(I:Inv X pins σ H s)(a:H l=some (.lst xs)):xs.length<=sizeLine/\∃(its:List Value) (n:Nat),Vals xs its/\xs.length=its.length/\s.heap.get? l=some { cls:=.type "list",data:=.seq its.toArray n }:=by
 obtain⟨z,its,n,r,e⟩:=I.hok l _ a;exact⟨z,its,n,r,r.length,e⟩
theorem jdt{n:Nat}(h:n<=sizeLine):Builtin.List.listTooLong n=false:=by
 unfold Builtin.List.listTooLong;exact X4 (by omega)
end
section
variable {X:Cx}
def wN:V->List V->Hp->VK->Prop:=λx vs H Q=>∃ l xs y,x=.ref l/\vs=[y]/\H l=some (.lst xs)/\xs.length < sizeLine/\Q .non (upd H l (.lst (xs++[y])))
theorem wz:MtM X "list.append" wN:=by
 intro b s σ H x i v j Q I d f h;obtain⟨l,k,y,rfl,rfl,c,m,q⟩:=h;cases d;obtain⟨u,rfl,g⟩:=f.one;obtain⟨z,a,n,r,o,e⟩:=I.lstM c;refine call_meets F.slot_list_append ⟨_,e,rfl⟩ F.entry_list_append (F.args_list_append_2 _ _) (PySem.list_append l a.toArray n u (by rw[N7];omega)) ⟨e,?_⟩;refine⟨.non,_,I.lset (its':=a++[u]) c e (by simp) (r.append (.cons g .nil)) ?_,rfl,q⟩;rw[N8,List.length_singleton];omega
def jbN:V->List V->Hp->VK->Prop:=λx vs H Q=>∃ l xs i k y,x=.ref l/\vs=[.int i]/\H l=some (.lst xs)/\-(2 ^ 63)<=i/\i < 2 ^ 63/\seqIndex? i xs.length=some k/\xs[k]?=some y/\Q y (upd H l (.lst (xs.eraseIdx k)))
theorem jdq:MtM X "list.pop" jbN:=by
 intro c s σ H x E v G Q I f g h;obtain⟨l,j,i,k,y,rfl,rfl,d,m,o,p,A,q⟩:=h;cases f;obtain⟨u,rfl,B⟩:=g.one;obtain⟨t,rfl⟩:=B;obtain⟨z,a,n,r,C,e⟩:=I.lstM d;obtain⟨w,D,b⟩:=r.get A;refine call_meets F.slot_list_pop ⟨_,e,rfl⟩ F.entry_list_pop (F.args_list_pop_2 _ _)
  (MeetsSeq.list_pop_at l a.toArray n i t k w (fitsIndex_both m o) (by rw[N7,<- C];exact p) (by rw[<- Array.getElem?_toList];exact D) (by rw[N7];omega)) ⟨e,?_⟩
 refine⟨y,_,I.lset (its':=a.eraseIdx k) d e ?_ (r.eraseIdx k) ?_,b,q⟩
 ·show a.toArray.eraseIdxIfInBounds k=(a.eraseIdx k).toArray;rw[List.eraseIdxIfInBounds_toArray]
 ·have:=xJ j k;omega
noncomputable def jlc:R2:=λx y H Q=>∃ l k xs,x=.ref l/\y=.int k/\H l=some (.lst xs)/\-(2 ^ 63)<=k/\k < 2 ^ 63/\xs.length*k.toNat<=sizeLine /\
 ∀ p,H p=none->Q (.ref p) (upd H p (.lst (List.replicate k.toNat xs).flatten))
theorem jhn{α:Type}(xs:List α)(k:Nat):(List.replicate k xs).flatten.length=k*xs.length:=by
 induction k with
 | zero=>simp
 | succ k a=>rw[List.replicate_succ,List.flatten_cons,N8,a,Nat.succ_mul,Nat.add_comm]
theorem jih:OpR X (binaryOp .Mult) jlc:=by
 intro o s σ H x y v u Q I w A h;obtain⟨l,k,K,rfl,rfl,B,C,D,p,q⟩:=h;cases w;obtain⟨t,rfl⟩:=A;obtain⟨z,b,n,r,E,e⟩:=I.lstM B;have d:b.toArray.size*k.toNat<=sizeLine:=by rw[N7,<- E];exact p
 have f:¬ b.toArray.size*k.toNat > (2 ^ 63 - 1) / 8:=by
  have:(sizeLine:Nat)<=(2 ^ 63 - 1) / 8:=by decide
  omega
 have g:¬ (!Builtin.List.listFitsIndex k)=true:=by
  rw[fitsIndex_both C D];exact M8
 have c:¬ Builtin.List.listTooLong (b.toArray.size*k.toNat)=true:=by
  rw[jdt d];exact M8
 have i:List.foldl (λx1 j=>x1++j) #[] (List.replicate (if b.toArray.isEmpty=true then 0 else k.toNat) b.toArray)=(List.replicate k.toNat b).flatten.toArray:=by
  have G:∀ m:Nat,List.foldl (λx1 j=>x1++j) #[] (List.replicate m b.toArray)=(List.replicate m b).flatten.toArray:=λm=>by
   have:=we b m [];rw[X7] at this;exact this
  rw[G];cases b with
  | nil=>simp
  | cons a L=>rw[if_neg (by simp)]
 refine wpAny_binaryOp_repeat_ref (T:="list") (U:="int") (by decide) ⟨_,e,rfl⟩ (λJ=>typeIs_int J k t) noFill_list_mul F.fills_int_mul F.slot_int_rmul repeat_list F.slot_int_index.lookup
  (call_meets F.slot_int_rmul (typeIs_int s k t) F.entry_int_rmul (F.args_int_rmul_2 _ _) (int___rmul___int_list k t l b.toArray n)
   ⟨e,rfl,⟨_,e,rfl⟩,call_meets F.slot_list_mul ⟨_,e,rfl⟩ F.entry_list_mul (F.args_list_mul_2 _ _) (AutoListH.list___mul___list_int_3 l b.toArray n k t g f c) ⟨e,?_⟩⟩)
 rw[i];exact⟨.ref _,_,I.lnew (t':=s.toks) (r.rep k.toNat) (by rw[jhn,Nat.mul_comm];exact p),rfl,q _ I.fresh⟩
end
end L2
namespace Att
open PySem PySem.W PySem.Calls PyProof.Rows
theorem Kx{P:Params}{h:Heap}:∀(ns:List Int) (vs:List Value),WellAll P h vs (ns.map WData.int)->IntsAre vs ns:=by
 intro ns
 induction ns with
 | nil =>
  intro vs w;rw[List.map_nil] at w;cases w;exact .nil
 | cons n ns c =>
  intro vs w;rw[L9] at w;cases w with
  | cons a b =>
   cases a;exact .cons _ _ (c _ b)
theorem script_of{l:OpenLaw}{n:Nat}(o:l.most=some n){P:Params}{h:Heap}{args:List WData}{b:List Value}
  (c:l.row.toRowW.claim.pre args=true) (j:WellAll P h b args) :
  ∃ a vs ns,b=[Value.ref a]/\args=[WData.list (ns.map WData.int)]/\h.get? a=some { cls:=.type "list",data:=.seq vs.toArray }/\IntsAre vs ns/\ns.length<=n:=by
 have k:WShape.hasAll [] args [.list .int]=true:=(pre_splitW c).1;have m:l.pre.holds [] { args:=args }=true:=(pre_splitW c).2;obtain⟨d,r,rfl,p,s⟩:=hasAllW_cons k;obtain rfl:=hasAllW_nil s;obtain⟨y,rfl,t⟩:=hasW_list p;obtain⟨ns,rfl⟩:=items_int t;have e:ns.length<=n:=by
  unfold OpenLaw.pre at m;have g:(WTm.not (.lt (.lit (.int (n:Int))) (.len (.arg 0)))).holds [] { args:=[.list (ns.map .int)] }=true:=by
   have g:=(holds_andW m).1;rw[o] at g;exact g
  have i:=condW_of g (w_not (w_lt w_lit (w_len_list (w_arg rfl))));rw[L4] at i;refine Nat.le_of_not_lt λq=>?_;have u:(n:Int) < ((ns.length:Nat):Int):=by omega
  first
   | (rw[X3 u] at i;exact absurd i (by decide))
   | (simp at i;omega)
 cases j with
 | cons v w =>
  cases w;cases v with
  | list x f=>exact⟨_,_,ns,rfl,rfl,x,Kx ns _ f,e⟩
theorem post_true(l:OpenLaw)(args:List WData):l.row.toRowW.claim.post args (.bool true) args=true :=
 postW_of (r:=l.row.toRowW) (X:=(true==true))
  (show WShape.has [] (.bool true) .bool=true by first | rfl | decide | simp[WShape.has,WShape.arms,WShape.armsAll])
  (show(WTm.eq .res (.lit (.bool true))).value [] { args:=args,res:=some (.bool true),after:=args }=some (.bool (true==true)) from w_eq_bool (w_res rfl) w_lit) rfl
end Att
namespace L2
open PySem PySem.Spec PyProof.Rows
theorem xf:∀{vs:List Value}{ns:List Int},IntsAre vs ns->Vals (ns.map V.int) vs
 | _,_,.nil=>.nil
 | _,_,.cons n t h=>.cons ⟨t,rfl⟩ (xf h)
def jj8(H:Hp):Prop:=∀ b,H b=none \/ ∃ o xs,H b=some (.frz o (.lst xs))
theorem jdn{P:Program}{w:World}{K:PySem.W.Frag}{mg I:Str->Option Value}{CX:CXT}{k:Nat}{fa a:Addr}{fd:FuncData}{x:Str}{sp:Sp}{c:Shared}{vs:List Value}{ns:List Int}
  (Q:K.In c.heap) (p:c.heap.Ns mainGlobals mg) (g:c.heap.Ns builtinsNs I) (J:∀ x:Str,x≠"__name__"->I x=bootBuiltins x) (t:c.heap.NoLimit) (Y:c.gens = #[])
  (G:c.heap.get? a=some { cls:=.type "list",data:=.seq vs.toArray }) (hi:IntsAre vs ns) (R:ns.length<=sizeLine) (Z:Room k callerA)
  (F:∀ base:Heap,K.In base->base.Ns mainGlobals mg->FnOk P w K mg base CX k fa fd [x] sp) (l:∀(s:Shared) (u:Value),BindsTo s fd ⟨[u],[]⟩ [(x,u)])
  (L:∀ H:Hp,jj8 H->SqL K H a (ns.map V.int)->sp [.ref a] H (λv _=>v=.bl true) λ_ _ _=>False)
  (M:∀ H e s',CX [] H c (λ_ _ _=>False) e s'->False) :
  codeAny (model P w) callerA (.call (.ref fa) ⟨[.ref a],[]⟩) (λr s'=>r=.ok (.ret (.bool true))/\OldK c.heap s'.heap/\s'.os=c.os/\AllBare s'.gens) c:=by
 have S:=xf hi;have y:=hi.length
 -- from an abstract heap in which nothing but the script may be tracked
 have j:∀ H:Hp,jj8 H->SqL K H a (ns.map V.int)->HOk P w H c.heap->(∀ b,H b≠none->b=a)->(H a≠none->K.lookup a=none) ->
   codeAny (model P w) callerA (.call (.ref fa) ⟨[.ref a],[]⟩) (λr s'=>r=.ok (.ret (.bool true))/\OldK c.heap s'.heap/\s'.os=c.os/\AllBare s'.gens) c:=by
  intro H T hS hok U hK;have f:∀{b:Addr}{o:Obj},c.heap.get? b=some o->H b=none->(jdS c.heap H).get? b=some o:=λe n=>jcY e n;have N:∀{b:Addr}{o:Obj}{A:Array DictEntry}{B:Nat},c.heap.get? b=some o->o.data=.dict A B->H b=none:=λ{b o A B} e d=>by
   cases q:H b with
   | none=>rfl
   | some u =>
    have O:b=a:=U b (by rw[q];simp);subst O;rw[G] at e;cases e;have d':Data.seq vs.toArray _=Data.dict A B:=d;cases d'
  have i:∀{b:Addr}{m:Str->Option Value},c.heap.Ns b m->(jdS c.heap H).Ns b m:=λ{b m} ⟨o,A,B,e,d,r⟩=>⟨o,A,B,f e (N e d),d,r⟩;have C:K.In (jdS c.heap H):=λb o e=>f (Q b o e) (by
   cases q:H b with
   | none=>rfl
   | some u =>
    have O:b=a:=U b (by rw[q];simp);subst O;rw[hK (by rw[q];simp)] at e;cases e)
  have hM:Mod K mg (jdS c.heap H):=⟨C,i p,⟨I,i g,J⟩,let ⟨mc,h1,h2⟩:=t;⟨mc,i h1,h2⟩⟩;have e0:Env0 P w K mg (jdS c.heap H) callerA [] c H:=⟨rfl,hM,λb o e=>jf8 e,Nat.le_of_eq (jbi _ _),trivial,λb g=>absurd (show b∈([]:List Addr) from g) (by simp),hok,.of_eq Y⟩;refine codeAny_mono ((F _ C (i p)).run callerA [] c H ⟨[.ref a],[]⟩ [.ref a] [.ref a] _ _ Z e0 (l c (.ref a)) (.cons rfl .nil) (L H T hS)) λr s' h=>?_;cases r with
  | error e=>exact(M H e s' h).elim
  | ok fl =>
   cases fl with
   | next=>exact False.elim h
   | brk=>exact False.elim h
   | cont=>exact False.elim h
   | ret u =>
    obtain⟨v,H',os,bare,un,D,r',q⟩:=h;have q':v=.bl true:=q;subst q';obtain rfl:u=Value.bool true:=r';refine⟨rfl,OldK.of_keep λb o e=>?_,os,bare⟩;cases q:H b with
    | none=>exact un.keep b o e q (by intro z;exact absurd (show b∈([]:List Addr) from z) (by simp)) (by simp)
    | some u =>
     rcases T b with z | ⟨ob,xs,z⟩
     ·rw[q] at z;cases z
     ·have z2:=un.frzs b ob _ z;obtain⟨X,_⟩:=hok b _ z;obtain⟨e2,_⟩:=D b _ z2;rw[e] at X;cases X;exact e2
 cases hk:K.lookup a with
 | some o =>
  -- the script is one of the module's own objects
  have e:=Q a o hk;rw[G] at e;cases e;refine j (λ_=>none) (λ_=>.inl rfl) (.inr ⟨_,vs.toArray,_,hk,rfl,rfl,rfl,by rw[N7,y];exact R,by simpa using S⟩) (λb u z=>by have E:(none:Option HO)=some u:=z;cases E) (λb z=>absurd rfl z) λz=>absurd rfl z
 | none =>
  refine j (λb=>if b=a then some (.frz { cls:=.type "list",data:=.seq vs.toArray } (.lst (ns.map V.int))) else none) (λb=>?_) (.inl (.inr ⟨{ cls:=.type "list",data:=.seq vs.toArray },if_pos rfl⟩)) (λb u z=>?_) (λb z=>?_) λ_=>hk
  ·by_cases g:b=a
   ·exact .inr ⟨_,_,if_pos g⟩
   ·exact .inl (if_neg g)
  ·by_cases g:b=a
   ·have E:=(if_pos g).symm.trans z;cases E;subst g;exact⟨G,by rw[L4];exact R,vs,_,S,G⟩
   ·have E:=(if_neg g).symm.trans z;cases E
  ·by_cases g:b=a
   ·exact g
   ·exact absurd (if_neg g) z
noncomputable def jfv(s:Stmt)(j:Nat):Stmt:=match s with
 | .ClassDef _ _ _ body _ _ _ _ _ _ _=>body.getD j (.Pass ⟨0,0,0,0⟩)
 | _=>.Pass ⟨0,0,0,0⟩
noncomputable def ql(s:Stmt):Arguments:=match s with
 | .FunctionDef _ a _ _ _ _ _ _ _ _=>a
 | _=>{ posonlyargs:=[],args:=[],vararg:=none,kwonlyargs:=[],kw_defaults:=[],kwarg:=none,defaults:=[] }
noncomputable def y9(s:Stmt):List Stmt:=match s with
 | .FunctionDef _ _ b _ _ _ _ _ _ _=>b
 | _=>[]
noncomputable def jj(s:Stmt):Scope:=match s with
 | .FunctionDef _ _ _ _ _ _ sc _ _ _=>sc
 | _=>{ kind:=.function,names:=[],isGenerator:=false,isCoroutine:=false }
noncomputable abbrev CX0:CXT:=λ_ _ _ _ _ _=>False
noncomputable abbrev E0:XK:=λ_ _ _=>False
theorem jjo{X:Cx}:xl CX0 X E0:=λ_ _ _ _ _ _ _ h=>h.elim
structure Fun(K:PySem.W.Frag)(x qual:Str)(st:Stmt)(f:Addr)(fd:FuncData):Prop where
 ex:∃(oc:Value) (od:Option Addr) (kV doc pm:Value) (an:Option Addr) (cdv ct:Value) (osl:Array (Option Value)),
  fd=PySem.W.fnOf x qual (ql st) (y9 st) (jj st) .none kV doc pm an cdv ct/\K.lookup f=some ⟨oc,od,.func fd,osl⟩/\PySem.W.codeIn K cdv qual=true
 kp:PySem.W.keepIn K (.ref f)=true
section
variable {P:Program}{w:World}{K:PySem.W.Frag}{mg:Str->Option Value}{base:Heap}
theorem Fun.ok{x qual:Str}{st:Stmt}{f:Addr}{fd:FuncData}{N ps:List Str}{k:Nat}{sp:Sp}(F:Fun K x qual st f fd)(S:FnScope N ps (jj st))(len:∀ vs H Q E,sp vs H Q E->vs.length=ps.length)
  (a:∀(cdv:Value) (A:Around) (outer:List Env) (s:Shared) (H:Hp) (vs:List V) (Q:VK) (E:XK),Room k (A.deeper (envOfC qual (jj st) s.heap.objs.size f cdv))->sp vs H Q E ->
   ∃ t,PSs (uT CX0 P w K mg base N qual (jj st) f cdv A outer s H E).nox (y9 st) t/\t { nx:=λ_ H'=>Q .non H',rt:=Q } (start N vs) H):FnOk P w K mg base CX0 (k+1) f fd ps sp:=by
 obtain⟨j,od,kV,d,l,m,cdv,ct,e,rfl,g,b⟩:=F.ex;refine jjJ g b S len λA outer s H vs Q E i c=>?_;obtain⟨t,h,q⟩:=a cdv A outer s H vs Q E i c;exact⟨t,h.nox,q⟩
theorem Fun.binds{x qual:Str}{st:Stmt}{f:Addr}{fd:FuncData}{ps:List Str}(F:Fun K x qual st f fd)
  (h:∀(kV doc pm:Value) (an:Option Addr) (cdv ct:Value) (us:List Value),us.length=ps.length->bindArgs (PySem.W.fnOf x qual (ql st) (y9 st) (jj st) .none kV doc pm an cdv ct) ⟨us,[]⟩=pure (ps.zip us)):Binds K fd ps []:=by
 obtain⟨c,od,kV,doc,pm,an,cdv,ct,a,rfl,d,b⟩:=F.ex;exact .all (h kV doc pm an cdv ct)
theorem ww{x qual:Str}{st:Stmt}{f:Addr}{oc:Value}{od an:Option Addr}{d:Array (Option Value)}{kV b pm a ct:Value}(l:K.lookup f=some ⟨oc,od,.func (PySem.W.fnOf x qual (ql st) (y9 st) (jj st) .none kV b pm an a ct),d⟩)
  (c:PySem.W.codeIn K a qual=true) (k:PySem.W.keepIn K (.ref f)=true):Fun K x qual st f (PySem.W.fnOf x qual (ql st) (y9 st) (jj st) .none kV b pm an a ct):=⟨⟨oc,od,kV,b,pm,an,a,ct,d,rfl,l,c⟩,k⟩
end
theorem jjc{A:Around}{k:Nat}(a:Room k A):A.units+1 < cLine:=Nat.lt_of_le_of_lt (Nat.add_le_add_left (by decide:1<=64) _) a.units
theorem jbo{n:Nat}(h:n<=1000):n < sizeLine:=Nat.lt_of_le_of_lt h (by decide)
section
variable {X:Cx}
theorem pv(i:Nat){x:Str}{pos:Pos}(b:X.N[i]?=some x:=by rfl)(c:Vis X.env.scope x:=by first | exact Or.inl rfl | exact Or.inr (Or.inl rfl) | exact Or.inr (Or.inr rfl))(hd:(x==("__debug__" : Str))=false:=by decide)
  (a:(x==("__classdict__" : Str))=false:=by decide):PE X (.Name x pos) (V7 i):=wb b c hd a
end
theorem jev{A B:Prop}(h:B):if false=true then A else B:=by
 rw[if_neg M8];exact h
theorem jeL{A B:Prop}(h:A):if true=true then A else B:=by
 rw[if_pos rfl];exact h
theorem wc(I:Nat->Shared->Prop)
  (b:∀ n s,I n s->wpAny (model prog w) A (pyNext it) (λr s₁=>match r with
   | none=>R (.ok .next) s₁
   | some v=>wpAny (model prog w) A (letOwnedTupleGo target it v) (λ_ s₁'=>wpAny (model prog w) A (assign target env v) (λ_ s₂ =>
     wpAny (model prog w) A (forIn ifs true λc r=>if r=true then do let ok <- isTrue c env (eval c env);pure (ForInStep.yield ok) else pure (ForInStep.yield r)) (λok s₃ =>
      if ok=true then wpAny (model prog w) A (eval elt env) (λx s₄ =>
       wpAny (model prog w) A (call (.builtin "list.append") [acc,x]) (λ_ s₅=>∃ m,m < n/\I m s₅) (λ_ _=>False) s₄) (λ_ _=>False) s₃
      else ∃ m,m < n/\I m s₃) (λ_ _=>False) s₂) (λ_ _=>False) s₁') (λ_ _=>False) s₁) (λ_ _=>False) s)
  (n:Nat) (h:I n s) :
  codeAny (model prog w) A (.compLoop (.ListComp elt [⟨target,iter,ifs,0⟩] scope pos) 0 it acc env) R s:=by
 have a:∀{α:Type}{t:Sem α}{Q:α->Shared->Prop}{E:Value->Shared->Prop}{s:Shared},wpAny (model prog w) A t Q (λ_ _=>False) s->wpAny (model prog w) A t Q E s :=
  λh=>wpAny_mono h (λ_ _ x=>x) λ_ _ z=>z.elim
 refine codeAny_loop rfl I (λn s g=>?_) n h;show wpAny _ A ((compTurn (.ListComp elt [⟨target,iter,ifs,0⟩] scope pos) 0 it acc env).onRaise (λx=>do noteFrame x env;theTreesLotGoes x)) _ _ s;refine wpAny_noted ?_;rw[compTurn_list];refine L5 (wpAny_standAt (L5 (thn (a (b n s g)) λr s₁ e=>?_)));cases r with
 | none=>exact N1 e
 | some v =>
  refine L5 (thn (a e) λ_ s₁' d=>L5 (thn (a d) λ_ s₂ i=>L5 (thn (a i) λok s₃ f=>?_)));cases ok with
  | false=>exact N1 ⟨rfl,f⟩
  | true =>
   exact L5 (L5 (thn (a f) λx s₄ j=>L5 (thn (a j) λ_ s₅ k=>N1 (N1 ⟨rfl,k⟩))))
noncomputable def jcd(env:Env):List (Str×NameKind)->List (Str×Addr)->List (Str×Addr)
 | [],cs=>cs
 | (n,k)::r,cs=>jcd env r (if k==NameKind.free then(match env.cells.lookup n with | some a=>(n,a)::cs | none=>cs) else cs)
noncomputable def jeb(scope:Scope)(env:Env):List (Str×Addr):=jcd env scope.names []
theorem jfZ:∀(l:List (Str×NameKind)) (cs:List (Str×Addr)),(∀ n k,(n,k)∈l->k=NameKind.free->∃ c,env.cells.lookup n=some c) ->
  (forIn (m:=Sem) l cs λx r=>match x with | (n,k)=>if k==NameKind.free then do let a <- cellOf env n;pure (ForInStep.yield ((n,a)::r)) else pure (ForInStep.yield r))=pure (jcd env l cs)
 | [],cs,_=>rfl
 | (n,k)::r,cs,h=>by
  rw[List.forIn_cons];by_cases b:(k==NameKind.free)=true
  ·obtain⟨c,j⟩:=h n k M3 (by simpa using b);have o:cellOf env n=pure c:=by unfold cellOf;rw[j]
   have d:=jfZ (env:=env) r ((n,c)::cs) λe f g i=>h e f (M0 _ g) i;simp only[b,if_true,o,pure_bind];rw[d]
   conv=>rhs;unfold jcd
   simp only[b,if_true,j]
  ·have d:=jfZ (env:=env) r cs λe f g i=>h e f (M0 _ g) i;simp only[b,if_false,pure_bind,Bool.false_eq_true];rw[d]
   conv=>rhs;unfold jcd
   simp only[b,if_false,Bool.false_eq_true]
theorem jaO(h:∀ n k,(n,k)∈scope.names->k=NameKind.free->∃ c,env.cells.lookup n=some c):closureFor scope env=pure (jeb scope env):=by
 have e:=jfZ (env:=env) scope.names [] h;unfold closureFor jeb;show(forIn (m:=Sem) scope.names [] λx r=>match x with | (n,k)=>if k==NameKind.free then do let a <- cellOf env n;pure (ForInStep.yield ((n,a)::r)) else pure (ForInStep.yield r)) >>= (λb=>pure b)=_;rw[e,pure_bind]
theorem jew:∀(l:List (Str×NameKind)) (cs:List (Str×Addr)),(x,c)∈jcd env l cs->(x,c)∈cs \/ env.cells.lookup x=some c
 | [],_,h=>.inl h
 | (n,k)::r,cs,h=>by
  unfold jcd at h;rcases jew r _ h with z | z
  ·split at z
   ·split at z
    ·rename_i a b;rcases M9.mp z with e | e
     ·cases e;exact .inr b
     ·exact .inl e
    ·exact .inl z
   ·exact .inl z
  ·exact .inr z
theorem jct:∀(l:List (Str×NameKind)) (cs:List (Str×Addr)),(x,c)∈cs->(x,c)∈jcd env l cs
 | [],_,h=>h
 | (n,k)::r,cs,h=>by
  unfold jcd;refine jct r _ ?_;split
  ·split
   ·exact M0 _ h
   ·exact h
  ·exact h
theorem jeT(a:env.cells.lookup x=some c):∀(l:List (Str×NameKind)) (cs:List (Str×Addr)),(x,NameKind.free)∈l->(x,c)∈jcd env l cs
 | [],_,h=>nomatch h
 | (n,k)::r,cs,h=>by
  unfold jcd;rcases M9.mp h with e | e
  ·cases e;refine jct r _ ?_;simp only[beq_self_eq_true,if_true,a];exact M3
  ·exact jeT a r _ e
theorem Vj:∀{l:List (Str×β)}{c:β},(x,c)∈l->∃ d,l.lookup x=some d
 | (n,a)::r,c,h=>by
  rw[List.lookup_cons];cases e:x==n with
  | true=>exact⟨a,rfl⟩
  | false =>
   rcases M9.mp h with z | z
   ·cases z;simp at e
   ·exact Vj z
theorem Kr(h:(jeb scope env).lookup x=some c):env.cells.lookup x=some c:=by
 rcases jew scope.names [] (PySem.mem_of_lookup h) with z | z
 ·exact nomatch z
 ·exact z
theorem jb0(a:env.cells.lookup x=some c)(f:(x,NameKind.free)∈scope.names):(jeb scope env).lookup x=some c:=by
 obtain⟨d,e⟩:=Vj (jeT a scope.names [] f);have b:(jeb scope env).lookup x=some d:=e;rw[b,<- Kr b,a]
theorem Yo(h:(n,k)∈(relabel scope env).names):(n,k)∈scope.names \/ (k=.cell/\(n,NameKind.free)∈scope.names):=by
 unfold relabel at h;obtain⟨⟨a,b⟩,c,e⟩:=N0.mp h;dsimp only at e;split at e
 ·rename_i d;cases e;have:b=NameKind.free:=by
   simp only[M6,beq_iff_eq] at d;exact d.1.1
  subst this;exact .inr ⟨rfl,c⟩
 ·cases e;exact .inl c
noncomputable def yD(X:Cx)(scope:Scope)(N':List Str)(C:Addr)(s₃:Shared)(H₃:Hp)(fp:List Addr):Cx :=
 { X with N:=N',s₀:=s₃,H₀:=H₃,env:=compEnvC scope (jeb scope X.env) C X.env,outer:=X.stack,stack:=X.stack,ex:=fp,fn:=λ_=>false,pn:=[],xe:=λ_ _=>False }
noncomputable def vI(ix:List (Option Nat))(σ:St):St:=ix.map λo=>o.bind λj=>(σ[j]?).join
structure BlockOk(X:Cx)(scope:Scope)(N':List Str)(ix:List (Option Nat)):Prop where
 kind:scope.kind=.function
 nocell:∀ y∈scope.names,y.2≠.cell
 names:∀ y∈scope.names,y.2=.local->scope.names.lookup y.1=some .local
 uniq:∀ y∈scope.names,y.2=.free->scope.names.lookup y.1=some .free
 outer:∀ y∈scope.names,y.2=.free->X.env.kindOf y.1=some .cell \/ X.env.kindOf y.1=some .free
 nd:N'.Nodup
 len:ix.length=N'.length
 at_:∀(i j:Nat) (x:Str),ix[i]?=some (some j)->N'[i]?=some x->X.N[j]?=some x/\(x,NameKind.free)∈scope.names
 func:X.env.scope.kind=.function
noncomputable abbrev BW:=Nat->Nat->St->Hp->Prop
def je8(tc:TT)(te:TE)(g:TG)(J:It)(p:Addr)(σ':St)(H1:Hp)(Q:Hp->Prop):Prop :=
 ∃ W:BW,(∃ m,W 0 m σ' H1)/\∀ i m σ2 H2,W i m σ2 H2->(J.stop i H2/\Q H2) \/
  (J.go i H2/\∀ x H3,J.yld i H2 x H3->g x σ2 H3 λσ4 H4=>tc σ4 H4 λb H5=>if b=true then
   te σ4 H5 λy H6=>∃ ys,H6 p=some (.lst ys)/\ys.length < sizeLine/\∃ m',m' < m/\W (i+1) m' σ4 (upd H6 p (.lst (ys++[y])))
   else ∃ m',m' < m/\W (i+1) m' σ4 H5)
noncomputable def jcG(wi:TI)(g:TG)(tc:TT)(te:TE)(ix:List (Option Nat)):TE:=λσ H Q=>wi σ H λJ H1=>∀ p,H1 p=none->je8 tc te g J p (vI ix σ) (upd H1 p (.lst [])) λH2=>Q (.ref p) H2
def PIf(X:Cx)(ifs:List Expr)(tc:TT):Prop:=(ifs=[]/\tc=λ_ H Q=>Q true H) \/ ∃ c,ifs=[c]/\PT X c tc
theorem jcb(B:BlockOk X scope N' ix)(I:Inv X pins σ H s)(A:∀ b∈fp,jaw X pins H b)(D:∀ b∈fp,b < s.heap.objs.size)
  (E:h₁.Ns s.heap.objs.size (λ_=>none)) (C:∀ b o,s.heap.get? b=some o->h₁.get? b=some o) :
  Inv (yD X scope N' s.heap.objs.size s H fp) [] (vI ix σ) H { s with heap:=h₁,toks:=t }:=by
 have fresh:H s.heap.objs.size=none:=I.hok.fresh (N3 _);have f:∀ x c,(jeb scope X.env).lookup x=some c->X.env.cells.lookup x=some c:=λx c e=>Kr e;refine⟨⟨I.ok.mod,B.kind,I.ok.glob,I.ok.blt,N3 _,λx y c F G=>I.ok.inj x y c (f x c F) (f y c G),λx O=>?_,(λx c h=>nomatch h),I.ok.hd,I.ok.frames,.inl rfl,λb g=>⟨N9 (D b g),λx c e=>(A b g).2.2.2.2.1 x c (f x c e)⟩,
  λb o e=>I.bs b o e,U0 I.ok.bsz I.sz,λb o e g=>?_,λb g z=>?_,I.stack,I.stkFree⟩,rfl,I.bare,Un.kept C,⟨_,E,λi x v F G P=>?_⟩,λx c e=>?_,fresh,λx c e=>I.freeC x c (f x c e),(λp Q=>nomatch (show p∈([]:List (Addr×Obj)) from Q)),I.hok.kept C,?_⟩
 ·have J:(relabel scope X.env).names.lookup x=some .cell \/ (relabel scope X.env).names.lookup x=some .free:=O;have n:(x,NameKind.free)∈scope.names:=by
   rcases J with q | q
   ·rcases Yo (PySem.mem_of_lookup q) with z | z
    ·exact absurd rfl (B.nocell _ z)
    ·exact z.2
   ·rcases Yo (PySem.mem_of_lookup q) with z | z
    ·exact z
    ·exact absurd z.1 (by decide)
  obtain⟨c,K⟩:=I.ok.has x (B.outer _ n rfl);exact⟨c,jb0 K n⟩
 ·rcases(A b g).2.2.2.1 with z | z
  ·exact I.ok.noex b o e z
  ·exact absurd (U7 (N5 e) (U0 I.ok.bsz z)) (Nat.lt_irrefl _)
 ·rcases M9.mp (I.stkSub b z) with q | q
  ·exact(A b g).2.1 q
  ·exact(A b g).2.2.1 q
 ·have a:(vI ix σ)[i]?=some (some v):=G;unfold vI at a;rw[List.getElem?_map] at a;cases e:ix[i]? with
  | none=>rw[e] at a;cases a
  | some o =>
   rw[e] at a;cases o with
   | none=>cases a
   | some j =>
    have d:(σ[j]?).join=some v:=X6 a;have R:σ[j]?=some (some v):=by
     cases q:σ[j]? with
     | none=>rw[q] at d;cases d
     | some u=>rw[q] at d;rw[show u=some v from d]
    obtain⟨S,n⟩:=B.at_ i j x e F;have w:=B.outer _ n rfl;obtain⟨m,U,T⟩:=I.loc;obtain⟨u,r,l⟩:=T j x v S R (w.elim (λz=>.inr (.inl z)) λz=>.inr (.inr z));refine⟨u,r,.inr ?_⟩;rcases l with⟨k,_⟩ | ⟨_,c,K,z⟩
    ·rcases w with y | y<;>rw[k] at y<;>cases y
    ·refine⟨?_,c,jb0 K n,?_⟩
     ·rcases P with y | y | y
      ·have:(x,NameKind.local)∈(relabel scope X.env).names:=PySem.mem_of_lookup y;rcases Yo this with L | L
       ·have N:=B.names _ L rfl;rw[B.uniq _ n rfl] at N;cases N
       ·exact absurd L.1 (by decide)
      ·exact .inl y
      ·exact .inr y
     ·obtain⟨o,M,hd⟩:=z;exact⟨o,C c o M,hd⟩
 ·obtain⟨v,o,M,hd⟩:=I.cell x c (f x c e);exact⟨v,o,C c o M,hd⟩
 ·show(vI ix σ).length=N'.length;unfold vI;rw[L4,B.len]
theorem Inv.other(I:Inv X pins σ H s)(f:jaw X pins H C)(a:Heap.SameBut C s.heap h'):Inv X pins σ H { s with heap:=h' } :=
 I.turned (t':=s.toks) (λb o c e=>a.extBut b o c e) f.1 f.2.1 f.2.2.2.1 f.2.2.2.2.1 f.2.2.2.2.2
theorem xG{X:Cx}{ifs:List Expr}{N':List Str}{ix:List (Option Nat)}{pins:List (Addr×Obj)}{s:Shared}{Q:Addr->Hp->Prop}{use:Option (Value->Sem Unit)}{QQ:Value->Shared->Prop}(B:BlockOk X scope N' ix)(hc:X.calm=true)(hi:PI X tg iter wi)
  (hg:∀ C s H fp,PG (yD X scope N' C s H fp) tg g) (hif:∀ C s H fp,PIf (yD X scope N' C s H fp) ifs tc) (he:∀ C s H fp,PE (yD X scope N' C s H fp) elt te)
  (hs:∀ x,foldedSetIterable iter X.env x=pure x) (I:Inv X pins σ H s)
  (h:wi σ H λJ H1=>∀ p,H1 p=none->je8 tc te g J p (vI ix σ) (upd H1 p (.lst [])) (Q p))
  (hend:∀ p C s' H',Q p H'->Inv X pins σ H' s'->jaw X pins H' C->(∃ m,s'.heap.Ns C m)->compPost (model X.prog X.w) X.A X.xe use QQ (.ref p) C (.ok .next) s') :
  wpAny (model X.prog X.w) X.A (comprehension (.ListComp elt [⟨tg,iter,ifs,0⟩] scope pos) scope X.env pos' (newList []) false (eval iter X.env) use) QQ X.xe s:=by
 have V:closureFor scope X.env=pure (jeb scope X.env):=jaO λn k hm hk=>I.ok.has n (B.outer _ hm hk);refine wpAny_comprehension_free rfl hs V B.kind B.names (thn (hi pins s σ H _ I h) λv s1 h1=>thn h1 λitv a h2=>?_);obtain⟨it,fp,tn,J,M,rfl,I2,T,Y,f2,h2⟩:=h2;refine wpAny_newObj_type (wpAny_newFunctionEnv B.nocell (by intro y hy;simp at hy) (λh₁ O P=>?_) B.kind);dsimp only at O P ⊢;have fr2:M a.heap.objs.size=none:=I2.fresh
 -- the new list
 have I3:Inv X pins σ (upd M a.heap.objs.size (.lst [])) { a with heap:=a.heap.push { cls:=.type "list",data:=.seq ([]:List Value).toArray } }:=I2.lnew (t':=a.toks) .nil (U8 _);generalize hs3:({ a with heap:=a.heap.push { cls:=.type "list",data:=.seq ([]:List Value).toArray } }:Shared)=s3 at I3;have e3:s3.heap=a.heap.push { cls:=.type "list",data:=.seq ([]:List Value).toArray }:=by rw[<- hs3]
 have hk3:∀ b o,a.heap.get? b=some o->s3.heap.get? b=some o:=λb o e=>by rw[e3];exact M4 _ e
 have lt3:∀ b∈fp,b < s3.heap.objs.size:=λb f=>by
  obtain⟨o,e,_⟩:=T.obj _ _ Y b f;exact N5 (hk3 b o e)
 have nep:∀ b∈fp,b≠a.heap.objs.size:=λb f z=>by
  obtain⟨o,e,_⟩:=T.obj _ _ Y b f;exact absurd (N5 e) (by rw[z];exact Nat.lt_irrefl _)
 have N:∀ b∈fp,jaw X pins (upd M a.heap.objs.size (.lst [])) b:=λb f=>⟨by rw[jo (nep b f)];exact(f2 b f).1,(f2 b f).2⟩;have sz3:s3.heap.objs.size=(a.heap.push { cls:=.type "list",data:=.seq ([]:List Value).toArray }).objs.size:=by rw[e3]
 have hk4:∀ b o,s3.heap.get? b=some o->h₁.get? b=some o:=λb o e=>by
  refine P.extBut b o ?_ (M4 _ (by rw[e3] at e;exact e));intro z;exact absurd (N5 e) (by rw[z,sz3];exact Nat.lt_irrefl _)
 have hns4:h₁.Ns s3.heap.objs.size (λ_=>none):=by
  rw[sz3];exact O
 have I4:Inv (yD X scope N' s3.heap.objs.size s3 (upd M a.heap.objs.size (.lst [])) fp) [] (vI ix σ) (upd M a.heap.objs.size (.lst [])) { s3 with heap:=h₁,toks:=a.toks }:=jcb B I3 N lt3 hns4 hk4;have st4:tn 0 h₁:=T.keep _ _ _ Y λb f o e=>hk4 b o (hk3 b o e);obtain⟨W,⟨m0,w0⟩,turn⟩:=h2 _ fr2;have hg':=hg s3.heap.objs.size s3 (upd M a.heap.objs.size (.lst [])) fp;have R:=hif s3.heap.objs.size s3 (upd M a.heap.objs.size (.lst [])) fp;have he':=he s3.heap.objs.size s3 (upd M a.heap.objs.size (.lst [])) fp;generalize j:yD X scope N' s3.heap.objs.size s3 (upd M a.heap.objs.size (.lst [])) fp=X' at I4 hg' R he';have Z:X'.prog=X.prog:=by rw[<- j];rfl
 have eW:X'.w=X.w:=by rw[<- j];rfl
 have eK:X'.K=X.K:=by rw[<- j];rfl
 have eA:X'.A=X.A:=by rw[<- j];rfl
 have eC:X'.calm=true:=by rw[<- j];exact hc
 have eE:X'.env=compEnvC scope (jeb scope X.env) s3.heap.objs.size X.env:=by rw[<- j];rfl
 have eX:X'.xe=λ_ _=>False:=by rw[<- j];rfl
 have F:∀{H':Hp},(∀ b∈fp,H' b=none)->∀ b∈fp,jaw X' [] H' b:=λhn b f=>by
  refine⟨hn b f,?_,?_,?_,?_,?_⟩
  ·rw[eE];exact N9 (lt3 b f)
  ·rw[<- j];intro z;rcases M9.mp (I3.stkSub b z) with q | q
   ·exact(N b f).2.1 q
   ·exact(N b f).2.2.1 q
  ·rw[<- j];exact .inl f
  ·rw[eE];exact λx c e=>(N b f).2.2.2.2.1 x c (Kr e)
  ·rw[<- j];exact(λp hp=>nomatch (show p∈([]:List (Addr×Obj)) from hp))
 -- the end of the block
 have fin:∀{l:St}{H':Hp}{s':Shared},Inv X' [] l H' s'->Q a.heap.objs.size H'->compPost (model X.prog X.w) X.A X.xe use QQ (.ref a.heap.objs.size) s3.heap.objs.size (.ok .next) s':=λ{l H' s'} J q=>by
  have hL:X'.env.locals=s3.heap.objs.size:=by rw[eE];rfl
  have un:Un (frs X.stack) fp (upd M a.heap.objs.size (.lst [])) H' s3.heap s'.heap:=by
   have z:=J.base;rw[<- j] at z;exact z
  have hos:s'.os=s3.os:=by
   have z:=J.os;rw[<- j] at z;exact z
  have hok:HOk X.prog X.w H' s'.heap:=by
   have z:=J.hok;rw[Z,eW] at z;exact z
  have fc:H' s3.heap.objs.size=none:=by
   have z:=J.free;rw[hL] at z;exact z
  have I5:Inv X pins σ H' s':=by
   obtain⟨hh,gg,dd,tt,oo⟩:=s';obtain rfl:oo=s3.os:=hos;exact I3.call (h':=hh) (g':=gg) (d':=dd) (t':=tt) (ch:=fp) un hok J.bare λb f=>⟨(N b f).2.2.2.1,(N b f).2.1,(N b f).2.2.2.2.1,(N b f).2.2.2.2.2⟩
  obtain⟨m,hn,_⟩:=J.loc;rw[hL] at hn;exact hend _ _ s' H' q I5 (I3.fpOk (N3 _) fc) ⟨m,hn⟩
 have loop:∀ s',s'=({ s3 with heap:=h₁,toks:=a.toks }:Shared)->codeAny (model X.prog X.w) X.A (.compLoop (.ListComp elt [⟨tg,iter,ifs,0⟩] scope pos) 0 (.ref it) (.ref a.heap.objs.size) X'.env) (compPost (model X.prog X.w) X.A X.xe use QQ (.ref a.heap.objs.size) s3.heap.objs.size) s':=by
  rintro s' rfl;refine wc (λn s'=>∃ i l H',Inv X' [] l H' s'/\tn i s'.heap/\(∀ b∈fp,H' b=none)/\W i n l H') ?_ m0 ⟨0,_,_,I4,st4,λb f=>(N b f).1,w0⟩;rintro n s5 ⟨i,σ5,H5,I5,st5,fr5,w5⟩;have it5:=T.item X' Z eW eK eC i [] s5 σ5 H5 (λ_ _=>False) I5 (F fr5) st5;have dn5:=T.done X' Z eW eK eC i [] s5 σ5 H5 (λ_ _=>False) I5 (F fr5) st5;rw[eA] at it5 dn5;rcases turn i n σ5 H5 w5 with⟨stop,qn⟩ | ⟨go,step⟩
  ·refine thn (dn5 stop) λr s6 ⟨hr,I6⟩=>?_;subst hr;exact fin I6 qn
  ·refine thn (it5 go) λr s6 ⟨u,hr,h6⟩=>?_;subst hr;refine thn h6 λ_ s7 ⟨x,H7,I7,r7,y7,st7,fr7⟩=>?_;have I7':=I7.pinned (F fr7) (T.obj _ _ st7);have a7:=hg' _ s7 σ5 H7 x u _ I7' r7 (step x H7 y7);rw[Z,eW,eA,eX] at a7;refine thn a7 λ_ s8 ⟨G,H8,I8,q8⟩=>?_;have L:∀{t:Shared}{E:Hp},Inv X' ([]++QY fp s7.heap) G E t->(∃ D,D < n/\W (i+1) D G E)->∃ m,m < n/\∃ i l H',Inv X' [] l H' t/\tn i t.heap/\(∀ b∈fp,H' b=none)/\W i m l H':=λ{t E} S ⟨D,hm,w9⟩=>by
    refine⟨D,hm,i+1,G,E,S.unpinned,T.keep _ _ _ st7 λb f o e=>(S.pin (b,o) (U6 _ (U6 _ (JU f e)))).1,λb f=>?_,w9⟩;obtain⟨o,e,d⟩:=T.obj _ _ st7 b f;exact(S.pin (b,o) (U6 _ (U6 _ (JU f e)))).2.1
   have rest:∀(b:Bool) (t:Shared) (E:Hp),Inv X' ([]++QY fp s7.heap) G E t->(if b=true then te G E λy H6=>∃ ys,H6 a.heap.objs.size=some (.lst ys)/\ys.length < sizeLine/\∃ D,D < n/\W (i+1) D G (upd H6 a.heap.objs.size (.lst (ys++[y])))
     else ∃ D,D < n/\W (i+1) D G E) ->
     if b=true then wpAny (model X.prog X.w) X.A (eval elt X'.env) (λx s₄=>wpAny (model X.prog X.w) X.A (call (.builtin "list.append") [.ref a.heap.objs.size,x]) (λ_ s₅=>∃ m,m < n/\∃ i l H',Inv X' [] l H' s₅/\tn i s₅.heap/\(∀ b∈fp,H' b=none)/\W i m l H') (λ_ _=>False) s₄) (λ_ _=>False) t
     else ∃ m,m < n/\∃ i l H',Inv X' [] l H' t/\tn i t.heap/\(∀ b∈fp,H' b=none)/\W i m l H':=λb t E S q9=>by
    cases b with
    | false =>
     rw[if_neg M8] at q9 ⊢;exact L S q9
    | true =>
     rw[if_pos rfl] at q9 ⊢;have a9:=he' _ t G E _ S q9;rw[Z,eW,eA,eX] at a9;refine thn a9 λyv s10 ⟨y,H10,I10,r10,ys,e10,l10,q10⟩=>?_;have a10:=wz _ s10 G H10 (.ref a.heap.objs.size) [y] (.ref a.heap.objs.size) [yv] (λ_ H'=>∃ D,D < n/\W (i+1) D G H') I10 rfl (.cons r10 .nil) ⟨_,ys,y,rfl,rfl,e10,l10,q10⟩;rw[Z,eW,eA,eX] at a10;exact thn a10 λ_ s11 ⟨_,H11,I11,_,q11⟩=>L I11 q11
   rcases R with⟨e1,e2⟩ | ⟨c,e1,e2⟩
   ·subst e1;rw[e2] at q8;exact wpAny_tests_nil (rest true s8 H8 I8 q8)
   ·subst e1;have a8:=e2 _ s8 G H8 _ I8 q8;rw[Z,eW,eA,eX] at a8;exact wpAny_tests_one (thn a8 λb t ⟨E,S,q9⟩=>rest b t E S q9)
 have U:codeAny (model X.prog X.w) X.A (.compStart (.ListComp elt [⟨tg,iter,ifs,0⟩] scope pos) 0 (.ref it) (.ref a.heap.objs.size) X'.env) (compPost (model X.prog X.w) X.A X.xe use QQ (.ref a.heap.objs.size) s3.heap.objs.size) { s3 with heap:=h₁,toks:=a.toks } :=
  codeAny_compStart_list (loop _ rfl) (T.self _ 0 _ _ _ st4 (loop _ rfl))
 rw[eE] at U;subst hs3;exact U
theorem jfQ(B:BlockOk X scope N' ix)(d:X.calm=true)(hi:PI X tg iter wi)
  (e:∀ C s H fp,PG (yD X scope N' C s H fp) tg g) (a:∀ C s H fp,PIf (yD X scope N' C s H fp) ifs tc) (i:∀ C s H fp,PE (yD X scope N' C s H fp) elt te)
  (j:∀ x,foldedSetIterable iter X.env x=pure x:=by intro _;rfl):PE X (.ListComp elt [⟨tg,iter,ifs,0⟩] scope pos) (jcG wi g tc te ix):=by
 intro c s σ H Q I h;rw[eval_ListComp];exact xG (use:=none) (Q:=λp b=>Q (.ref p) b) B d hi e a i j I h λp C o b q k f ⟨m,l⟩=>⟨m,l,λr n=>⟨.ref p,b,k.other f n,rfl,q⟩⟩
theorem jaE(B:BlockOk X scope N' ix)(E:X.calm=true)(hi:PI X tg iter wi)
  (F:∀ C s H fp,PG (yD X scope N' C s H fp) tg g) (d:∀ C s H fp,PIf (yD X scope N' C s H fp) ifs tc) (G:∀ C s H fp,PE (yD X scope N' C s H fp) elt te)
  (J:X.N.Nodup) (j:X.N[i]?=some x) (K:Loc X.env.scope x)
  (k:swapsWith (.ListComp elt [⟨tg,iter,ifs,0⟩] scope pos) (some (.Name x pos')) spos.line X.env=pure true)
  (L:∀ x,foldedSetIterable iter X.env x=pure x:=by intro _;rfl)
  (M:X.fn x=true \/ X.env.scope.names.lookup x=some .local:=by first | exact .inl rfl | exact .inr rfl | assumption) :
  PS X (.Assign [.Name x pos'] (.ListComp elt [⟨tg,iter,ifs,0⟩] scope pos) spos) (jgF (jcG wi g tc te ix) (zS i)):=by
 intro a s σ H D I h;rw[exec_Assign_Name_used _ _ _ _ k];refine L5 (wpAny_standAt (L5 ?_));show wpAny _ X.A (do let _ <- comprehension (.ListComp elt [⟨tg,iter,ifs,0⟩] scope pos) scope X.env _ (newList []) false (eval iter X.env) (some (assign (.Name x pos') X.env))) _ _ s;refine L5 (thn (xG (use:=some (assign (.Name x pos') X.env)) (QQ:=λ_ b=>SP X a D .next b) (Q:=λp c=>D.nx (σ.set i (some (.ref p))) c) B E hi F d G L I h λp C b c q r f ⟨m,O⟩=>?_) λ_ b P=>N1 (N1 P));obtain⟨o,R,S,T,t⟩:=id O;have hd:∀ v,o.data≠.cell v:=λv z=>by
  obtain⟨l,_⟩:=t;rw[l] at z;cases z
 have U:Inv X (a++[(C,o)]) σ c b:=r.pins_of λu n=>by
  rcases N6.mp n with z | z
  ·exact r.pin u (U6 _ z)
  ·have e:u=(C,o):=by simpa using z
   subst e;exact⟨T,f.1,f.2.1,f.2.2.1,hd⟩
 refine wpAny_assign_Name (Vn U J j K (v:=.ref p) rfl (λW w=>?_) M);have y:=w.pin (C,o) (U6 _ (U6 _ (N2.mpr rfl)));refine⟨m,⟨o,R,S,y.1,t⟩,λY V=>⟨_,c,(w.unpinned).other ⟨y.2.1,f.2⟩ V,q⟩⟩
noncomputable def S(l:List Nat):Str:=⟨l.toArray⟩
theorem vE(l:List Nat):(S l).cps.toList=l:=by simp[S]
theorem qE(l:List Nat):(S l).length=l.length:=by simp[S,Str.length]
theorem jlw(x:Str):x=S x.cps.toList:=by
 obtain⟨a⟩:=x;simp[S]
theorem jh2(h:S a=S b):a=b:=by
 rw[<- vE a,<- vE b,h]
theorem jkp(a b:List Nat):(S a=S b)=(a=b):=propext ⟨jh2,λh=>by rw[h]⟩
theorem jhc(a b:List Nat):S a++S b=S (a++b):=by
 apply PyProof.Rows.ext_toList;rw[PySem.W.KT.app_list,vE,vE,vE]
theorem jgq(c:Nat):(⟨#[c]⟩:Str)=S [c]:=rfl
noncomputable def YU{α:Type}(xs:List α)(lo hi:Option Int):List α:=(xs.drop (HT.sIx xs.length 0 lo)).take (HT.sIx xs.length xs.length hi - HT.sIx xs.length 0 lo)
theorem jfN(xs:List α)(k:Nat):YU xs none (some (k:Int))=xs.take k:=by
 unfold YU;rw[HT.sIx_none,HT.sIx_nat];simp[List.take_eq_take_iff]
theorem jbU(xs:List α)(k:Nat):YU xs (some (k:Int)) none=xs.drop k:=by
 unfold YU;rw[HT.sIx_none,HT.sIx_nat];by_cases h:k<=xs.length
 ·rw[Nat.min_eq_left h,List.take_of_length_le];rw[List.length_drop]
  lia
 ·have e:xs.drop k=[]:=List.drop_eq_nil_of_le (by lia);rw[e,Nat.min_eq_right (by lia)];simp
theorem jbf(lo hi:Option Int)(n:Nat):Builtin.Str.strSliceIndices lo hi 1 n=(List.range (HT.sIx n n hi - HT.sIx n 0 lo)).map (HT.sIx n 0 lo+·):=by
 have a:∀(o:Option Int) (d:Nat),(match o with | none=>(d:Int) | some i=>(let i:=if i < 0 then i+(n:Int) else i;if(1:Int) > 0 then max 0 (min i n) else max (-1) (min i (n - 1))))=((HT.sIx n d o:Nat):Int):=by
  intro o d;cases o with
  | none=>rfl
  | some v =>
   show(if(1:Int) > 0 then max 0 (min (if v < 0 then v+(n:Int) else v) n) else _)=(((if v < 0 then(v+(n:Int)).toNat else min v.toNat n):Nat):Int);rw[if_pos (by decide)];by_cases b:v < 0
   ·rw[if_pos b,if_pos b];lia
   ·rw[if_neg b,if_neg b];lia
 rw[<- sliceRange_one,<- a lo 0,<- a hi n];rfl
theorem jfp(l:List Nat)(lo hi:Option Int):Txt.slice (S l) lo hi=S (YU l lo hi):=by
 have i:HT.sIx l.length l.length hi<=l.length:=HT.sIx_le _ _ (N3 _) _;have j:HT.sIx l.length 0 lo<=l.length:=HT.sIx_le _ _ (U8 _) _;have e:(Builtin.Str.strSliceIndices lo hi 1 (S l).length).filterMap ((S l).cps[·]?)=YU l lo hi:=by
  rw[qE,jbf];have h:=StrLaws.picks l (HT.sIx l.length l.length hi - HT.sIx l.length 0 lo) (HT.sIx l.length 0 lo);by_cases c:HT.sIx l.length 0 lo<=HT.sIx l.length l.length hi
  ·have d:=h (by lia);unfold YU;rw[<- d];simp[S]
  ·have z:HT.sIx l.length l.length hi - HT.sIx l.length 0 lo=0:=by lia
   unfold YU;rw[z];simp
 unfold Txt.slice;split
 ·rename_i b;have f:(Builtin.Str.strSliceIndices lo hi 1 (S l).length).length=(S l).length:=by
   simp only[beq_self_eq_true,Bool.true_and] at b;exact beq_iff_eq.mp b
  rw[qE,jbf,L4,List.length_range] at f;unfold YU;by_cases a:l.length=0
  ·have:l=[]:=List.length_eq_zero_iff.mp a;subst this;simp
  ·have g:HT.sIx l.length 0 lo=0:=by lia
   rw[g,List.drop_zero,List.take_of_length_le (by lia)]
 ·rw[e];rfl
def jlx:V->Option Int->Option Int->Hp->VK->Prop:=λx lo hi H Q=>∃ l,x=.str (S l)/\l.length<=sizeLine/\Q (.str (S (YU l lo hi))) H
theorem jeB(p:IsPart v o):∃ q:Option (Int×Tok),v=partValue q/\q.map (·.1)=o:=by
 cases p with
 | none=>exact⟨none,rfl,rfl⟩
 | int i t=>exact⟨some (i,t),rfl,rfl⟩
theorem jiM:SlR X jlx:=by
 intro c s σ H x v w y a b z Q I g i pl j h;obtain⟨l,rfl,m,q⟩:=h;obtain⟨t,rfl⟩:=g;obtain⟨d,rfl,n⟩:=jeB pl;obtain⟨e,rfl,o⟩:=jeB j;refine⟨"str",_,F.slot_str_getitem.lookup,typeIs_str _ _ _,wpAny_getItem_str_slice (l:=d) (u:=e) (st:=none) i rfl ?_⟩;have p:Txt.slice (S l) a b=S (YU l a b):=jfp l a b;have key:∀ f k,EP X c σ Q (.str (Txt.slice (S l) a b) f) { s with toks:=k }:=λf k=>by
  rw[p];exact⟨.str (S (YU l a b)),H,I.tok k,⟨f,rfl⟩,q⟩
 have r:sliceMade (S l) t d e none=(if((1:Int)==1&&(Builtin.Str.strSliceIndices a b 1 (S l).length).length==(S l).length)=true then Made.val (.str (S l) t) else Made.str ⟨((Builtin.Str.strSliceIndices a b 1 (S l).length).filterMap ((S l).cps[·]?)).toArray⟩):=by
  unfold sliceMade slicePicked;rw[n,o];rfl
 rw[r];refine post_val_or_str ⟨?_,λf k=>key f k⟩;exact U0 (Txt.slice_le (S l) a b) (by rw[qE];exact m)
noncomputable def Its(l:List Nat):It:=⟨λi _=>i < l.length,λi H x H'=>H'=H/\∃ c,l[i]?=some c/\x=.str (S [c]),λi _=>l.length<=i⟩
theorem jec{tg:Expr}{P:Program}{w:World}{K:PySem.W.Frag}(a:Addr)(l:List Nat)(t:Tok)(ty:String)(j:ty = "str_ascii_iterator" \/ ty = "str_iterator")
  (W:∀ A:Around,A.handled=none->Walks P w A a [a] [a] (S l).cps.size (SignAt (S l)) (λi h=>h.IsStrIter a ty (S l) t i)):Turn P w K tg (Its l) [a] a (λi h=>h.IsStrIter a ty (S l) t i) where
 mem:=by simp
 obj:=λi h st b f=>by
  have e:b=a:=by simpa using f
  subst e;obtain⟨o,e,c,d⟩:=st;exact⟨o,e,λv z=>by rw[d] at z;cases z⟩
 keep:=λi h m st k=>by
  obtain⟨o,e,r⟩:=st;exact⟨o,k a (by simp) o e,r⟩
 item:=by
  intro X F G J p i g s σ H E I q st L;subst F G J;obtain⟨x,y,T,B,C,D⟩:=q a (by simp);have U:=W X.A (I.ok.hd p);have M:(S l).cps.size=l.length:=by simp[S]
  refine U.item i s _ _ (by rw[M];exact L) st λv m Q V n Y=>?_;obtain⟨c,u,N,rfl⟩:=V;have Z:Inv X g σ H { s with heap:=m,toks:=Q }:=I.turned (λb o f e=>Y b o (by simpa using f) e) x y B C D;obtain⟨o,e,ct,d⟩:=id n;refine⟨_,rfl,jcs (s:={ s with heap:=m,toks:=Q }) e ct d (by rcases j with z | z<;>subst z<;>decide) ⟨.str (S [c]),H,Z,⟨u,rfl⟩,⟨rfl,c,by simpa [S] using N,rfl⟩,n,λb f=>(q b f).1⟩⟩
 done:=by
  intro X F G J p i g s σ H E I q st L;subst F G J;obtain⟨x,y,T,B,C,D⟩:=q a (by simp);have R:(S l).cps[i]?=none:=by
   have:l.length<=i:=L;simp[S,this]
  rcases j with z | z
  ·subst z;exact wpAny_pyNext_ascii_end (I.ok.hd p) st R λm O=>⟨rfl,I.turned (t':=s.toks) (λb o f e=>O b o f e) x y B C D⟩
  ·subst z;exact wpAny_pyNext_wide_end (I.ok.hd p) st R λm O=>⟨rfl,I.turned (t':=s.toks) (λb o f e=>O b o f e) x y B C D⟩
 self:=λ_ _ _ _ _ st h=>by
  rcases j with z | z
  ·subst z;exact wpAny_pyIter_striter_ascii st h
  ·subst z;exact wpAny_pyIter_striter_wide st h
theorem jhN:OpR X (compareOp .In) (λx y H Q=>∃ c l,x=.str (S [c])/\y=.str (S l)/\Q (.bl (decide (c∈l))) H):=by
 intro a s σ H x y v u Q I b d h;obtain⟨c,l,rfl,rfl,q⟩:=h;refine jb8 a s σ H _ _ v u Q I b d ⟨_,_,rfl,rfl,?_⟩;rw[<- jgq,StrLaws.found_one,vE];exact q
theorem jbD:OpR X (compareOp .NotIn) (λx y H Q=>∃ c l,x=.str (S [c])/\y=.str (S l)/\Q (.bl (!decide (c∈l))) H):=by
 intro a s σ H x y v u Q I b d h;obtain⟨c,l,rfl,rfl,q⟩:=h;refine xU a s σ H _ _ v u Q I b d ⟨_,_,rfl,rfl,?_⟩;rw[<- jgq,StrLaws.found_one,vE];exact q
theorem jge:OpR X (binaryOp .Add) (λx y H Q=>∃ a b,x=.str (S a)/\y=.str (S b)/\a.length+b.length<=sizeLine/\Q (.str (S (a++b))) H):=by
 intro c s σ H x y v u Q I d e h;obtain⟨a,b,rfl,rfl,f,q⟩:=h;refine jaJ c s σ H _ _ v u Q I d e ⟨_,_,rfl,rfl,by rw[qE,qE];exact f,?_⟩;rw[jhc];exact q
theorem jfV:OpR X (binaryOp .Mult) (rI (λi j=>Builtin.Int.intBits i<=2 ^ 20/\Builtin.Int.intBits j<=2 ^ 20) λi j=>.int (i*j)):=opI λ_ _ _ _ _ _ _ a q=>mul_int q (IntMulOk.of_bits a.1 a.2)
theorem jav(h:i.natAbs < 2 ^ m)(a:m<=2 ^ 20):Builtin.Int.intBits i<=2 ^ 20:=U0 (PySem.intBits_le_iff.mpr h) a
theorem uy{A:Around}{bs:List Bool}{its:List Value}(r:Vals (bs.map V.bl) its):TruthOf P w A (λi v=>its.toArray[i]?=some v) (λi=>bs.getD i false):=by
 intro i v s Q E c d;have a:its[i]?=some v:=by simpa using c
 have h:i < its.length:=(M5.mp a).1;have e:=r.length;rw[L4] at e;have f:(bs.map V.bl)[i]?=some (V.bl (bs.getD i false)):=by
  rw[List.getElem?_map,List.getD_eq_getElem?_getD,X8 (by lia)];rfl
 obtain⟨u,b,g⟩:=r.get f;rw[a] at b;cases b;cases g;exact N1 d
theorem jbX:∀(bs:List Bool),(List.range bs.length).all (λi=>bs.getD i false)=bs.all (λb=>b):=by
 intro bs;rw[Bool.eq_iff_iff,List.all_eq_true,List.all_eq_true];constructor
 ·intro h b d;obtain⟨i,c,e⟩:=List.mem_iff_getElem.mp d;have:=h i (List.mem_range.mpr c);rw[List.getD_eq_getElem?_getD,X8 c,e] at this;exact this
 ·intro h i c;have a:=List.mem_range.mp c;rw[List.getD_eq_getElem?_getD,X8 a];exact h _ (List.getElem_mem a)
theorem jdA(j:X.calm=true):CallR X (.builtin "all") (λxs H Q=>∃(p:Addr) (bs:List Bool),xs=[.ref p]/\SqL X.K H p (bs.map V.bl)/\Q (.bl (bs.all λb=>b)) H):=by
 intro d s σ H xs v Q I r h;obtain⟨p,bs,rfl,k,q⟩:=h;obtain⟨u,rfl,l⟩:=r.one;cases l;obtain⟨a,f,pl,w⟩:=I.list k;have c:p < s.heap.objs.size:=by
  obtain⟨o,n,e,_⟩:=pl;exact N5 e
 have g:=f.length;rw[L4] at g;refine call_all_walk (wpAny_pyIter_list pl.isList ⟨s.heap.objs.size,_,_,_,_,_,λi=>bs.getD i false,rfl,Walks.list (A:=X.A.in1) (by exact I.ok.hd j) s.heap.objs.size p (N9 c) a.toArray,⟨⟨_,X9 _ rfl,rfl,rfl⟩,?_⟩,uy f,λx y m=>?_⟩)
 ·obtain⟨o,e,r⟩:=pl.isList;exact⟨o,M4 _ e,r⟩
 ·rw[N7,<- g,jbX];refine⟨.bl (bs.all λb=>b),H,I.kept λb o e=>m b o ?_ (M4 _ e),rfl,q⟩;intro t;have:b=s.heap.objs.size:=by simpa using t
  exact absurd (N5 e) (by rw[this];exact Nat.lt_irrefl _)
def SqX(K:PySem.W.Frag)(H:Hp)(a:Addr)(xs:List V):Prop :=
 Rd H a (.lst xs) \/ ∃(its:Array Value) (n:Nat),K.lookup a=some { cls:=.type "list",data:=.seq its n }/\its.size<=sizeLine/\Vals xs its.toList
theorem SqX.sq{K:PySem.W.Frag}{H:Hp}{a:Addr}{xs:List V}(h:SqX K H a xs):SqL K H a xs:=by
 rcases h with h | ⟨b,n,c,d,r⟩
 ·exact .inl h
 ·exact .inr ⟨_,b,n,c,rfl,rfl,rfl,d,r⟩
theorem SqX.of{K:PySem.W.Frag}{H:Hp}{a:Addr}{xs:List V}(h:H a=some (.lst xs)):SqX K H a xs:=.inl (.inl h)
theorem Inv.listX(I:Inv X pins σ H s)(h:SqX X.K H a xs):∃(its:List Value) (n:Nat),Vals xs its/\s.heap.get? a=some { cls:=.type "list",data:=.seq its.toArray n }/\xs.length<=sizeLine:=by
 rcases h with h | ⟨its,n,b,c,r⟩
 ·obtain⟨z,its,n,r,e⟩:=h.ok I.hok;exact⟨its,n,r,e,z⟩
 ·refine⟨its.toList,n,r,by simpa using I.kIn a _ b,?_⟩;have e:=r.length;simp only[Array.length_toList] at e
  lia
noncomputable def jiU(K:PySem.W.Frag):R2:=λx y H Q=>∃ l b xs zs,x=.ref l/\y=.ref b/\SqX K H l xs/\SqX K H b zs/\xs.length+zs.length<=sizeLine/\∀ p,H p=none->Q (.ref p) (upd H p (.lst (xs++zs)))
theorem jhf:OpR X (binaryOp .Add) (jiU X.K):=by
 intro d s σ H x y v u Q I g i h;obtain⟨l,b,t,w,rfl,rfl,j,k,z,q⟩:=h;cases g;cases i;obtain⟨c,n,r,e,_⟩:=I.listX j;obtain⟨a,A,f,m,_⟩:=I.listX k;have B:=r.length;have o:=f.length;refine PySem.P.add_list e m ?_ (by rw[N7,N7];lia);have p:c.toArray++a.toArray=(c++a).toArray:=by simp
 rw[p];exact⟨.ref _,_,I.lnew (t':=s.toks) (r.append f) (by rw[N8];lia),rfl,q _ I.fresh⟩
theorem uw{ns:List Int}(h:PySem.W.WData.layableAll [PySem.W.WData.list (ns.map PySem.W.WData.int)]=true):∀ x∈ns,Builtin.Int.intBits x<=2 ^ 20:=by
 intro x c;have f:(PySem.W.WData.list (ns.map PySem.W.WData.int)).layable=true:=(PySem.W.layW_cons h).1;have e:PySem.W.ofPy (.list (ns.map .int))=PySem.W.WData.list (ns.map PySem.W.WData.int):=by
  have g:∀ a:List Int,PySem.W.ofPys (a.map PyData.int)=a.map PySem.W.WData.int:=by
   intro a
   induction a with
   | nil=>rfl
   | cons m a i=>simp[PySem.W.ofPys,PySem.W.ofPy,i]
  simp[PySem.W.ofPy,g]
 have b:=PySem.W.lay0_ofPy (s:=.list .int) (d:=.list (ns.map .int)) rfl (by simp[Shape.has]) (by rw[e];exact f);have j:PyData.layable0 (.list (ns.map .int))=true:=by
  simp[PyData.layableAll0] at b;exact b
 exact PyData.bits_item_of_ints j c
theorem walk_ofB{l:PySem.W.OpenLaw}{n k:Nat}{j:List Str}{Q:(Str->Option Value)->Heap->Prop}{M:World->Heap->Prop}{d:DefRec}{K:Params->PySem.W.Frag}{CX:World->CXT}{sp:World->Sp} 
  (R:l.most=some n) (A:n<=sizeLine) (B:d.params.defaults=[]) (S:Room k callerA)
  (U:∀(w:World) (h:Heap),M w h->(K w.params).In h)
  (F:∀(w:World) (mg:Str->Option Value) (fa:Addr) (h:Heap),(K w.params).In h->h.Ns mainGlobals mg->mg d.name=some (.ref fa) ->
   ∃ fd:FuncData,(∀(s:Shared) (u:Value),BindsTo s fd ⟨[u],[]⟩ [(x,u)]) /\
    ∀ base:Heap,(K w.params).In base->base.Ns mainGlobals mg->FnOk l.prog w (K w.params) mg base (CX w) k fa fd [x] (sp w))
  (C:∀(w:World) (H:Hp) (a:Addr) (ns:List Int),ns.length<=n->(∀ x∈ns,Builtin.Int.intBits x<=2 ^ 20)->jj8 H->SqX (K w.params) H a (ns.map V.int)->sp w [.ref a] H (λv _=>v=.bl true) λ_ _ _=>False)
  (D:∀(w:World) (H:Hp) (s:Shared) (e:Value) (s':Shared),CX w [] H s (λ_ _ _=>False) e s'->False) :
  PySem.W.WalkO q j Q M l.row.toRowW d [] (λf vs=>PySem.call f vs):=by
 intro w s₀ X mg mb G Y fa o pm cd Z dV kV ho hd hcd N E hg args O as y z hrd I hlo;obtain rfl:dV=.none:=PySem.W.Dflts.none N B;obtain rfl:kV=.none:=PySem.W.Dflts.noKw N;obtain⟨a,vs,ns,rfl,rfl,c,p,i⟩:=Att.script_of R y I;have t:=uw z;have J:=U w _ Y;obtain⟨fd,hb,hF⟩:=F w mg fa _ J G.T.g E;refine PySem.W.enter_call (codeAny_mono (jdn J G.T.g G.T.b G.T.builtins G.T.nolimit hg c p (U0 i A) S hF hb (λH hO hS=>C w H a ns i t hO ?_) λH e s'=>D w H X e s') λr s' hq=>?_)
 ·rcases hS with h | ⟨o,its,m,P,_,_,L,hz,r⟩
  ·exact .inl h
  ·have e:=J a o P;rw[c] at e;cases e;cases L;exact .inr ⟨_,_,P,hz,r⟩
 ·obtain⟨rfl,h2,h3,h4⟩:=hq;exact⟨.inl ⟨.bool true,.bool true,[],rfl,λ_=>rfl,.bool true,Att.post_true l _,λ_=>⟨List.Pairwise.nil,λ_ hm=>(nomatch hm)⟩⟩,h2,h3,h4⟩
noncomputable def zy(sc:Scope)(N:List Str)(scope:Scope)(N':List Str)(ix:List (Option Nat)):Bool :=
 decide (scope.kind=.function)&&decide (sc.kind=.function)&&scope.names.all (λy=>decide (y.2≠.cell))&&scope.names.all (λy=>!decide (y.2=.local)||decide (scope.names.lookup y.1=some .local)) &&
 scope.names.all (λy=>!decide (y.2=.free)||(decide (scope.names.lookup y.1=some .free)&&(decide (sc.names.lookup y.1=some .cell)||decide (sc.names.lookup y.1=some .free))))&&decide N'.Nodup&&decide (ix.length=N'.length) &&
 (List.range ix.length).all (λi=>match ix[i]? with | some (some j)=>(match N'[i]? with | some x=>decide (N[j]?=some x)&&decide ((x,NameKind.free)∈scope.names) | none=>true) | _=>true)
theorem jgu{X:Cx}{scope:Scope}{N':List Str}{ix:List (Option Nat)}(b:Scope)(N:List Str)(h1:X.env.scope=b)(h2:X.N=N)(h:zy b N scope N' ix=true):BlockOk X scope N' ix:=by
 subst h1;subst h2;unfold zy at h;simp only[M6,decide_eq_true_eq,List.all_eq_true,Bool.or_eq_true,Bool.not_eq_true',decide_eq_false_iff_not] at h;obtain⟨⟨⟨⟨⟨⟨⟨d,f⟩,g⟩,k⟩,c⟩,l⟩,m⟩,n⟩:=h;refine⟨d,g,λy a e=>?_,λy a e=>?_,λy a e=>?_,l,m,λi j x h1 h2=>?_,f⟩
 ·exact(k y a).elim (λz=>absurd e z) id
 ·exact(c y a).elim (λz=>absurd e z) λz=>z.1
 ·exact(c y a).elim (λz=>absurd e z) λz=>z.2
 ·have o:i < ix.length:=(M5.mp h1).1;have z:=n i (List.mem_range.mpr o);rw[h1] at z;dsimp only at z;rw[h2] at z;dsimp only at z;simp only[M6,decide_eq_true_eq] at z;exact z
structure FnFact(K:PySem.W.Frag)(mg:Str->Option Value)(x qual:Str)(st:Stmt)(f:Addr)(fd:FuncData)(ps:List Str):Prop where
 fn:Fun K x qual st f fd
 mgf:mg x=some (.ref f)
 bd:Binds K fd ps []
section
variable {X:Cx}{k:Nat}{f:Addr}{fd:FuncData}{ps:List Str}{sp:Sp}{x qual:Str}{st:Stmt}{p pos:Pos}{e:Expr}{es:List Expr}{t:TA}
theorem jkd(F:FnFact X.K X.mg x qual st f fd ps)(G:FnOk X.prog X.w X.K X.mg X.base CX0 k f fd ps sp)(c:Room k X.A)(d:PA X (e::es) t)(g:Gl X x:=by rfl)(a:(x==("__debug__" : Str))=false:=by decide)
  (h:starEach (e::es) X.env=(false,eval e X.env)::starEach es X.env:=by rfl) (b:(backTo pos (starEach es X.env)).any (·.1)=false:=by rfl):PE X (.Call (.Name x p) (e::es) [] pos) (Qf sp [] E0 t) :=
 jbu G c g F.mgf F.fn.kp F.bd .nil jjo d a h b
theorem jik(F:FnFact X.K X.mg x qual st f fd ps)(G:FnOk X.prog X.w X.K X.mg X.base CX0 k f fd ps sp)(b:Room k X.A)(c:Gl X x:=by rfl)(a:(x==("__debug__" : Str))=false:=by decide):PE X (.Call (.Name x p) [] [] pos) (Qf sp [] E0 K9) :=
 jd5 G b c F.mgf F.fn.kp F.bd .nil jjo a
theorem wF:∀(l:List (Str×Tok)),Vals (l.map λp=>V.str p.1) (strValues l)
 | []=>.nil
 | (x,t)::r=>.cons ⟨t,rfl⟩ (wF r)
theorem jag:MtR X "str.split" (λx vs H Q=>∃ a b,x=.str a/\vs=[.str b]/\(b.length==0)=false/\a.length+2<=sizeLine/\∀ p,H p=none->Q (.ref p) (upd H p (.lst ((Txt.split a b).map V.str)))):=by
 intro c s σ H x vs v r Q I i j h;obtain⟨a,b,rfl,rfl,f,w,q⟩:=h;obtain⟨t,rfl⟩:=i;obtain⟨u,rfl,m⟩:=j.one;obtain⟨d,rfl⟩:=m;have fin:∀(l:List (Str×Tok)) (k:Nat),l.map (·.1)=Txt.split a b->l.length<=sizeLine->EP X c σ Q (.ref s.heap.objs.size) { s with toks:=k,heap:=s.heap.push { cls:=.type "list",data:=.seq (strValues l).toArray } }:=λl k e n=>by
  have o:(Txt.split a b).map V.str=l.map λp=>V.str p.1:=by
   rw[<- e,U4];rfl
  refine⟨.ref s.heap.objs.size,_,I.lnew (t':=k) (wF l) (by rw[L4];exact n),rfl,?_⟩;rw[<- o];exact q _ I.fresh
 have g:(Builtin.Str.partsBetween a (Builtin.Str.occurrences a b 0 a.length (a.length+1)) b.length).length<=sizeLine:=by
  have y:=StrLaws.occ_length_le a b 0 a.length (a.length+1);rw[length_partsBetween];lia
 cases h1:(decide (a.length < b.length)||decide (Builtin.Str.strKind a < Builtin.Str.strKind b))
 ·cases hf:(Builtin.Str.occurrences a b 0 a.length (a.length+1)).isEmpty
  ·refine call_meets F.slot_str_split (typeIs_str _ _ _) F.entry_str_split (F.args_str_split_2 _ _) (meets_str_split_sep a b t d h1 f hf (by lia) g) ?_;show EP X c σ Q (.ref s.heap.objs.size) { s with toks:=_,heap:=s.heap.push { cls:=.type "list",data:=.seq (strsFrom s.toks (Builtin.Str.partsBetween a (Builtin.Str.occurrences a b 0 a.length (a.length+1)) b.length)).toArray } };rw[strsFrom_eq];refine fin (numbered s.toks _) _ ((numbered_texts _ _).trans ((if_neg (ne_true_of_eq_false h1)).trans (if_neg (ne_true_of_eq_false hf))).symm) ?_;have e:=congrArg List.length (numbered_texts s.toks (Builtin.Str.partsBetween a (Builtin.Str.occurrences a b 0 a.length (a.length+1)) b.length));rw[L4] at e;rw[e];exact g
  ·exact call_meets F.slot_str_split (typeIs_str _ _ _) F.entry_str_split (F.args_str_split_2 _ _) (meets_str_split_not_found a b t d h1 f hf)
    (fin [(a,t)] s.toks ((if_neg (ne_true_of_eq_false h1)).trans (if_pos hf)).symm (by show 1<=sizeLine;decide))
 ·exact call_meets F.slot_str_split (typeIs_str _ _ _) F.entry_str_split (F.args_str_split_2 _ _) (meets_str_split_cannot_occur a b t d h1)
   (fin [(a,t)] s.toks (if_pos h1).symm (by show 1<=sizeLine;decide))
end
theorem jbl:CallR X (.type "int") (λxs H Q=>∃ w:List Nat,xs=[.str (S w)]/\NumText.AllDigits w/\w≠[]/\w.length<=600/\Q (.int (NumText.digitsVal w:Nat)) H):=by
 intro a s σ H xs d Q I r h;obtain⟨w,rfl,hd,b,f,q⟩:=h;obtain⟨u,rfl,c⟩:=r.one;obtain⟨t,rfl⟩:=c;have e:intText? (S w)=some ((NumText.digitsVal w:Nat):Int):=by
  have z:=intText_digits (x:=S w) (by rw[vE];exact hd) (by rw[vE];exact b) (by rw[qE];lia);rw[vE] at z;exact z
 exact PySem.W.KIN.call_text e (by rw[qE];lia) ⟨.int _,H,I.tok _,⟨_,rfl⟩,q⟩
noncomputable def zo(m:Nat):List Nat:=(Nat.toDigits 10 m).map Char.toNat
theorem jib(m:Nat):Str.ofString (toString ((m:Nat):Int))=S (zo m):=by
 apply PyProof.Rows.ext_toList;rw[PySem.W.KIN.signs_num,vE];rfl
theorem jdj(m:Nat):NumText.digitsVal (zo m)=m:=PySem.W.KIN.val_back m
theorem jdJ(a:1<=k)(b:m < 10 ^ k):(zo m).length<=k:=by
 unfold zo;rw[L4];exact PyProof.Rows.digits10_le a b
theorem jbO(h:m < 2 ^ 200):m.log2 < 1920:=by
 by_cases a:m=0
 ·subst a;decide
 ·have:=(Nat.log2_lt a (k:=200)).mpr h
  lia
theorem jcD:CallR X (.type "str") (λxs H Q=>∃ i:Int,xs=[.int i]/\0<=i/\i < 2 ^ 200/\Q (.str (S (zo i.toNat))) H):=by
 intro a s σ H xs b Q I r h;obtain⟨i,rfl,c,d,q⟩:=h;obtain⟨m,rfl⟩:∃ m:Nat,i=(m:Int):=⟨i.toNat,by lia⟩;rw[U1] at q;refine x6 a s σ H _ b Q I r ⟨_,rfl,jbO (by lia),?_⟩;have e:=jib m;show Q (.str (Str.ofString (toString ((m:Nat):Int)))) H;rw[e];exact q
theorem jcE:CallR X (.type "str") (λxs H Q=>∃ x,xs=[.str x]/\Q (.str x) H):=by
 intro a s σ H xs c Q I r h;obtain⟨x,rfl,q⟩:=h;obtain⟨u,rfl,b⟩:=r.one;obtain⟨t,rfl⟩:=b;exact PySem.P.str_of_str ⟨.str x,H,I,⟨_,rfl⟩,q⟩
theorem jhg:MtR X "str.find" (λx vs H Q=>∃ a b,x=.str a/\vs=[.str b]/\Q (.int (Txt.find a b)) H):=by
 intro c s σ H x vs v g Q I d e h;obtain⟨a,b,rfl,rfl,q⟩:=h;obtain⟨t,rfl⟩:=d;obtain⟨u,rfl,f⟩:=e.one;obtain⟨i,rfl⟩:=f;exact SC.find ⟨.int _,H,I.tok _,⟨_,rfl⟩,q⟩
theorem jb2:MtR X "str.rstrip" (λx vs H Q=>∃ a,x=.str a/\vs=[]/\a.length<=sizeLine/\Q (.str (Txt.rstrip a)) H):=by
 intro b s σ H x vs v f Q I c d h;obtain⟨a,rfl,rfl,e,q⟩:=h;obtain⟨t,rfl⟩:=c;have:=d.zero;subst this;exact SC.rstrip (λg k=>⟨.str _,H,I.tok _,⟨_,rfl⟩,q⟩) e
theorem jf7:OpR X (binaryOp .Mult) (λx y H Q=>∃(a:List Nat) (n:Int),x=.str (S a)/\y=.int n/\a.length<=1000/\0<=n/\n<=1000/\Q (.str (S (List.replicate n.toNat a).flatten)) H):=by
 intro f s σ H x y v u Q I g i h;obtain⟨a,n,rfl,rfl,j,B,l,q⟩:=h;obtain⟨k,rfl⟩:∃ k:Nat,n=(k:Int):=⟨n.toNat,by lia⟩;have m:k<=1000:=by lia
 rw[U1] at q;obtain⟨t,rfl⟩:=g;obtain⟨o,rfl⟩:=i;have p:a.length*k<=1000*1000:=Nat.mul_le_mul j m;have hok:MulOk (S a) (k:Int):=by
  refine⟨by simp;lia,λd c=>?_,λd c=>?_⟩
  ·rw[qE];have r:(1:Int)<=k:=by lia
   have C:(1000:Int)<=(2 ^ 63 - 1) / (k:Int):=by
    rw[Int.le_ediv_iff_mul_le (by lia)];have:(1000:Int)*k<=1000*1000:=by lia
    lia
   lia
  ·rw[qE,U1];unfold Builtin.Str.tooLong;have r:a.length*k<=sizeLine:=U0 p (by decide);exact X4 (by lia)
 have e:Txt.mul (S a) (k:Int)=S (List.replicate k a).flatten:=by
  have w:∀(n:Nat) (b:Array Nat),((List.replicate n a.toArray).foldl (·++·) b).toList=b.toList++(List.replicate n a).flatten:=by
   intro n
   induction n with
   | zero=>intro b;simp
   | succ n A=>intro b;rw[List.replicate_succ,X2,A];simp[List.replicate_succ]
  unfold Txt.mul;apply PyProof.Rows.ext_toList;rw[vE];by_cases d:(k:Int) < 1
  ·have:k=0:=by lia
   subst this;simp[Str.empty]
  ·rw[if_neg d];by_cases c:((k:Int)==1||(S a).length==0)=true
   ·rw[if_pos c,vE];rw[qE] at c;simp at c;rcases c with z | z
    ·have:k=1:=by lia
     subst this;simp
    ·subst z;simp
   ·rw[if_neg c,U1];have z:=w k #[];simp only[X7] at z;exact z
 refine SB.mul hok λo D=>?_;rw[e];exact⟨.str _,H,I.tok _,⟨_,rfl⟩,q⟩
end L2
namespace QD
open PySem L2
inductive KA where
 | int (i:Int) | str (s:List Nat)
 deriving DecidableEq
inductive D where
 | non | bl (b:Bool) | int (i:Int) | str (s:List Nat)
 | tup (l:List D) | lst (o:Bool) (l:List D)
 | dK (o:Bool) (ks:List KA) (l:List D)
 | dT (o:Bool) (ks:List (List KA)) (l:List D)
 | ins (o:Bool) (c:Nat) (ns:List Str) (l:List D)
 | dead
  | exc (c:Nat) (p:Int)
def xo(C a dx:Addr):Heap->Prop:=λh=>∃ o vs,h.get? a=some o/\o.cls=.ref C/\o.dict=some dx/\o.data=.fields vs
mutual
noncomputable def fz:D->D
 | .tup l=>.tup (fzs l)
 | .lst _ l=>.lst false (fzs l)
 | .dK _ ks l=>.dK false ks (fzs l)
 | .dT _ ks l=>.dT false ks (fzs l)
 | .ins _ c ns l=>.ins false c ns (fzs l)
 | .non=>.non | .bl b=>.bl b | .int i=>.int i | .str s=>.str s | .dead=>.dead | .exc c p=>.exc c p
noncomputable def fzs:List D->List D
 | []=>[]
 | d::l=>fz d::fzs l
end
mutual
noncomputable def frz:D->Bool
 | .tup l=>frzs l
 | .lst o l=>!o&&frzs l
 | .dK o _ l=>!o&&frzs l
 | .dT o _ l=>!o&&frzs l
 | .ins o _ _ l=>!o&&frzs l
 | .non=>true | .bl _=>true | .int _=>true | .str _=>true | .dead=>true | .exc _ _=>true
noncomputable def frzs:List D->Bool
 | []=>true
 | d::l=>frz d&&frzs l
end
mutual
theorem jbd:∀ d:D,frz d=true->fz d=d
 | .tup l,h=>by rw[frz] at h;rw[fz,vW l h]
 | .lst o l,h=>by rw[frz,M6] at h;rw[fz,vW l h.2];cases o<;>simp_all
 | .dK o ks l,h=>by rw[frz,M6] at h;rw[fz,vW l h.2];cases o<;>simp_all
 | .dT o ks l,h=>by rw[frz,M6] at h;rw[fz,vW l h.2];cases o<;>simp_all
 | .ins o c ns l,h=>by rw[frz,M6] at h;rw[fz,vW l h.2];cases o<;>simp_all
 | .non,_=>rfl | .bl _,_=>rfl | .int _,_=>rfl | .str _,_=>rfl | .dead,_=>rfl | .exc _ _,_=>rfl
theorem vW:∀ l:List D,frzs l=true->fzs l=l
 | [],_=>rfl
 | d::l,h=>by rw[frzs,M6] at h;rw[fzs,jbd d h.1,vW l h.2]
end
mutual
theorem jbS:∀ d:D,frz (fz d)=true
 | .tup l=>by rw[fz,frz];exact JN l
 | .lst o l=>by rw[fz,frz,JN l];rfl
 | .dK o ks l=>by rw[fz,frz,JN l];rfl
 | .dT o ks l=>by rw[fz,frz,JN l];rfl
 | .ins o c ns l=>by rw[fz,frz,JN l];rfl
 | .non=>rfl | .bl _=>rfl | .int _=>rfl | .str _=>rfl | .dead=>rfl | .exc _ _=>rfl
theorem JN:∀ l:List D,frzs (fzs l)=true
 | []=>rfl
 | d::l=>by rw[fzs,frzs,jbS d,JN l];rfl
end
theorem qp:∀ l:List D,fzs l=l.map fz
 | []=>rfl
 | d::l=>by rw[fzs,qp l];rfl
theorem zt:∀ l:List D,frzs l=l.all frz
 | []=>rfl
 | d::l=>by rw[frzs,zt l];rfl
structure RC where
 K:PySem.W.Frag
 cls:Nat->Addr
noncomputable def kaV:KA->Key
 | .int i=>.inl i
 | .str s=>.inr (S s)
noncomputable abbrev Zn:=Addr->Prop
def FT(R:RC)(Z:Zn)(H:Hp)(a:Addr)(vs:List V):Prop :=
 (Z a/\Rd H a (.tup vs)) \/ ∃(o:Obj) (its:Array Value) (n:Nat),R.K.lookup a=some o/\o.cls=.type "tuple"/\o.data=.seq its n/\its.size<=sizeLine/\Vals vs its.toList/\o.dict=none
def FL(R:RC)(Z:Zn)(H:Hp)(a:Addr)(vs:List V):Prop :=
 (Z a/\Rd H a (.lst vs)) \/ ∃(its:Array Value) (n:Nat),R.K.lookup a=some { cls:=.type "list",data:=.seq its n }/\its.size<=sizeLine/\Vals vs its.toList
def DkA(o:Bool)(H:Hp)(a:Addr)(kvs:List (Key×V)):Prop:=bif o then H a=some (.dK kvs) else Rd H a (.dK kvs)
mutual
def Rep(R:RC)(Z:Zn)(H:Hp):D->V->List Addr->Prop
 | .non,v,O=>v=.non/\O=[]
 | .bl b,v,O=>v=.bl b/\O=[]
 | .int i,v,O=>v=.int i/\O=[]
 | .str s,v,O=>v=.str (S s)/\O=[]
 | .dead,_,O=>O=[]
 | .exc c p,v,O=>∃ a dx,v=.ref a/\Z a/\Z dx/\H a=some (.ext (xo (R.cls c) a dx))/\H dx=some (.xd [("place",.int p)])/\O=[]
 | .tup l,v,O=>∃ a vs,v=.ref a/\FT R Z H a vs/\Reps R Z H l vs O
 | .lst o l,v,O=>∃ a vs O',v=.ref a/\Reps R Z H l vs O'/\bif o then H a=some (.lst vs)/\O=a::O' else FL R Z H a vs/\O'=[]/\O=[]
 | .dK o ks l,v,O=>∃ a vs O',v=.ref a/\Reps R Z H l vs O'/\ks.length=l.length/\DkA o H a ((ks.map kaV).zip vs)/\bif o then O=a::O' else Z a/\O'=[]/\O=[]
 | .dT o ks l,v,O=>∃ a vs O',v=.ref a/\Reps R Z H l vs O'/\ks.length=l.length/\H a=some (.dT ((ks.map (List.map kaV)).zip vs))/\bif o then O=a::O' else Z a/\O'=[]/\O=[]
 | .ins o c ns l,v,O=>∃ a dx vs O',v=.ref a/\Reps R Z H l vs O'/\ns.length=l.length/\H a=some (.ins (R.cls c) dx (ns.zip vs))/\bif o then O=a::O' else Z a/\O'=[]/\O=[]
def Reps(R:RC)(Z:Zn)(H:Hp):List D->List V->List Addr->Prop
 | [],vs,O=>vs=[]/\O=[]
 | d::ds,vs,O=>∃ v vs' O1 O2,vs=v::vs'/\O=O1++O2/\Rep R Z H d v O1/\Reps R Z H ds vs' O2
end
section
variable {R:RC}{Z Z':Zn}{H H':Hp}
theorem FT.sq{a:Addr}{vs:List V}(h:FT R Z H a vs):SqT R.K H a vs:=by
 rcases h with⟨_,h⟩ | ⟨o,b,n,c,d,e,f,g,_⟩
 ·exact .inl h
 ·exact .inr ⟨o,b,n,c,d,e,f,g⟩
theorem FL.sqx{a:Addr}{vs:List V}(h:FL R Z H a vs):SqX R.K H a vs:=by
 rcases h with⟨_,h⟩ | h
 ·exact .inl h
 ·exact .inr h
theorem FL.sq{a:Addr}{vs:List V}(h:FL R Z H a vs):SqL R.K H a vs:=h.sqx.sq
theorem Rd.agree{a:Addr}{u:HO}(e:H' a=H a)(h:Rd H a u):Rd H' a u:=by
 unfold Rd at h ⊢;rw[e];exact h
theorem FT.frame{a:Addr}{vs:List V}(b:∀ a,Z a->Z' a)(c:∀ a,Z a->H' a=H a)(h:FT R Z H a vs):FT R Z' H' a vs:=by
 rcases h with⟨z,h⟩ | h
 ·exact .inl ⟨b a z,Rd.agree (c a z) h⟩
 ·exact .inr h
theorem FL.frame{a:Addr}{vs:List V}(b:∀ a,Z a->Z' a)(c:∀ a,Z a->H' a=H a)(h:FL R Z H a vs):FL R Z' H' a vs:=by
 rcases h with⟨z,h⟩ | h
 ·exact .inl ⟨b a z,Rd.agree (c a z) h⟩
 ·exact .inr h
mutual
theorem Rep.frame(hz:∀ a,Z a->Z' a)(hH:∀ a,Z a->H' a=H a):∀{d:D}{v:V}{O:List Addr},Rep R Z H d v O->(∀ a∈O,H' a=H a)->Rep R Z' H' d v O
 | .non,_,_,h,_=>by rw[Rep] at h ⊢;exact h
 | .bl _,_,_,h,_=>by rw[Rep] at h ⊢;exact h
 | .int _,_,_,h,_=>by rw[Rep] at h ⊢;exact h
 | .str _,_,_,h,_=>by rw[Rep] at h ⊢;exact h
 | .dead,_,_,h,_=>by rw[Rep] at h ⊢;exact h
 | .exc _ _,_,_,h,_=>by
  rw[Rep] at h ⊢;obtain⟨a,dx,e,z1,z2,h1,h2,h3⟩:=h;exact⟨a,dx,e,hz a z1,hz dx z2,(hH a z1).trans h1,(hH dx z2).trans h2,h3⟩
 | .tup l,_,_,h,hO=>by
  rw[Rep] at h ⊢;obtain⟨a,vs,e,t,r⟩:=h;exact⟨a,vs,e,t.frame hz hH,Reps.frame hz hH r hO⟩
 | .lst o l,_,_,h,hO=>by
  rw[Rep] at h ⊢;obtain⟨a,vs,O',e,r,h⟩:=h;cases o with
  | true =>
   obtain⟨h1,rfl⟩:=h;exact⟨a,vs,O',e,Reps.frame hz hH r λb hb=>hO b (M0 _ hb),by rw[cond_true,hO a M3];exact⟨h1,rfl⟩⟩
  | false =>
   obtain⟨h1,rfl,rfl⟩:=h;exact⟨a,vs,[],e,Reps.frame hz hH r (λb hb=>nomatch hb),h1.frame hz hH,rfl,rfl⟩
 | .dK o ks l,_,_,h,hO=>by
  rw[Rep] at h ⊢;obtain⟨a,vs,O',e,r,hl,hd,h⟩:=h;cases o with
  | true =>
   have h:=(show _=_ from h);subst h;exact⟨a,vs,O',e,Reps.frame hz hH r λb hb=>hO b (M0 _ hb),hl,by show H' a=some _;rw[hO a M3];exact hd,rfl⟩
  | false =>
   obtain⟨h1,rfl,rfl⟩:=h;exact⟨a,vs,[],e,Reps.frame hz hH r (λb hb=>nomatch hb),hl,Rd.agree (hH a h1) hd,hz a h1,rfl,rfl⟩
 | .dT o ks l,_,_,h,hO=>by
  rw[Rep] at h ⊢;obtain⟨a,vs,O',e,r,hl,hd,h⟩:=h;cases o with
  | true =>
   have h:=(show _=_ from h);subst h;exact⟨a,vs,O',e,Reps.frame hz hH r λb hb=>hO b (M0 _ hb),hl,by rw[hO a M3];exact hd,rfl⟩
  | false =>
   obtain⟨h1,rfl,rfl⟩:=h;exact⟨a,vs,[],e,Reps.frame hz hH r (λb hb=>nomatch hb),hl,by rw[hH a h1];exact hd,hz a h1,rfl,rfl⟩
 | .ins o c ns l,_,_,h,hO=>by
  rw[Rep] at h ⊢;obtain⟨a,dx,vs,O',e,r,hl,hd,h⟩:=h;cases o with
  | true =>
   have h:=(show _=_ from h);subst h;exact⟨a,dx,vs,O',e,Reps.frame hz hH r λb hb=>hO b (M0 _ hb),hl,by rw[hO a M3];exact hd,rfl⟩
  | false =>
   obtain⟨h1,rfl,rfl⟩:=h;exact⟨a,dx,vs,[],e,Reps.frame hz hH r (λb hb=>nomatch hb),hl,by rw[hH a h1];exact hd,hz a h1,rfl,rfl⟩
theorem Reps.frame(hz:∀ a,Z a->Z' a)(hH:∀ a,Z a->H' a=H a):∀{l:List D}{vs:List V}{O:List Addr},Reps R Z H l vs O->(∀ a∈O,H' a=H a)->Reps R Z' H' l vs O
 | [],_,_,h,_=>by rw[Reps] at h ⊢;exact h
 | d::l,_,_,h,hO=>by
  rw[Reps] at h ⊢;obtain⟨v,vs,O1,O2,e,rfl,r1,r2⟩:=h;exact⟨v,vs,O1,O2,e,rfl,Rep.frame hz hH r1 λa ha=>hO a (List.mem_append_left _ ha),Reps.frame hz hH r2 λa ha=>hO a (U6 _ ha)⟩
end
mutual
theorem Rep.nil:∀{d:D}{v:V}{O:List Addr},Rep R Z H d v O->frz d=true->O=[]
 | .non,_,_,h,_=>by rw[Rep] at h;exact h.2
 | .bl _,_,_,h,_=>by rw[Rep] at h;exact h.2
 | .int _,_,_,h,_=>by rw[Rep] at h;exact h.2
 | .str _,_,_,h,_=>by rw[Rep] at h;exact h.2
 | .dead,_,_,h,_=>by rw[Rep] at h;exact h
 | .exc _ _,_,_,h,_=>by rw[Rep] at h;obtain⟨_,_,_,_,_,_,_,h⟩:=h;exact h
 | .tup l,_,_,h,f=>by
  rw[Rep] at h;rw[frz] at f;obtain⟨a,vs,e,t,r⟩:=h;exact Reps.nil r f
 | .lst o l,_,_,h,f=>by
  rw[Rep] at h;rw[frz] at f;obtain⟨a,vs,O',e,r,h⟩:=h;cases o with
  | true=>exact absurd f (by simp)
  | false=>exact h.2.2
 | .dK o ks l,_,_,h,f=>by
  rw[Rep] at h;rw[frz] at f;obtain⟨a,vs,O',e,r,hl,hd,h⟩:=h;cases o with
  | true=>exact absurd f (by simp)
  | false=>exact h.2.2
 | .dT o ks l,_,_,h,f=>by
  rw[Rep] at h;rw[frz] at f;obtain⟨a,vs,O',e,r,hl,hd,h⟩:=h;cases o with
  | true=>exact absurd f (by simp)
  | false=>exact h.2.2
 | .ins o c ns l,_,_,h,f=>by
  rw[Rep] at h;rw[frz] at f;obtain⟨a,dx,vs,O',e,r,hl,hd,h⟩:=h;cases o with
  | true=>exact absurd f (by simp)
  | false=>exact h.2.2
theorem Reps.nil:∀{l:List D}{vs:List V}{O:List Addr},Reps R Z H l vs O->frzs l=true->O=[]
 | [],_,_,h,_=>by rw[Reps] at h;exact h.2
 | d::l,_,_,h,f=>by
  rw[Reps] at h;rw[frzs,M6] at f;obtain⟨v,vs,O1,O2,e,rfl,r1,r2⟩:=h;rw[Rep.nil r1 f.1,Reps.nil r2 f.2];rfl
end
mutual
theorem Rep.freeze:∀{d:D}{v:V}{O:List Addr},Rep R Z H d v O->(∀ a,Z a->Z' a)->(∀ a∈O,Z' a)->Rep R Z' H (fz d) v []
 | .non,_,_,h,_,_=>by rw[Rep] at h;rw[fz,Rep];exact⟨h.1,rfl⟩
 | .bl _,_,_,h,_,_=>by rw[Rep] at h;rw[fz,Rep];exact⟨h.1,rfl⟩
 | .int _,_,_,h,_,_=>by rw[Rep] at h;rw[fz,Rep];exact⟨h.1,rfl⟩
 | .str _,_,_,h,_,_=>by rw[Rep] at h;rw[fz,Rep];exact⟨h.1,rfl⟩
 | .dead,_,_,h,_,_=>by rw[fz,Rep]
 | .exc _ _,_,_,h,hz,_=>by
  rw[Rep] at h;rw[fz,Rep];obtain⟨a,dx,e,z1,z2,h1,h2,_⟩:=h;exact⟨a,dx,e,hz a z1,hz dx z2,h1,h2,rfl⟩
 | .tup l,_,_,h,hz,hO=>by
  rw[Rep] at h;rw[fz,Rep];obtain⟨a,vs,e,t,r⟩:=h;exact⟨a,vs,e,t.frame hz λ_ _=>rfl,Reps.freeze r hz hO⟩
 | .lst o l,_,_,h,hz,hO=>by
  rw[Rep] at h;rw[fz,Rep];obtain⟨a,vs,O',e,r,h⟩:=h;cases o with
  | true =>
   obtain⟨h1,rfl⟩:=h;exact⟨a,vs,[],e,Reps.freeze r hz λb hb=>hO b (M0 _ hb),.inl ⟨hO a M3,.inl h1⟩,rfl,rfl⟩
  | false =>
   obtain⟨h1,rfl,rfl⟩:=h;exact⟨a,vs,[],e,Reps.freeze r hz (λb hb=>nomatch hb),h1.frame hz (λ_ _=>rfl),rfl,rfl⟩
 | .dK o ks l,_,_,h,hz,hO=>by
  rw[Rep] at h;rw[fz,Rep];obtain⟨a,vs,O',e,r,hl,hd,h⟩:=h;have hl':ks.length=(fzs l).length:=by rw[qp,L4];exact hl
  cases o with
  | true =>
   have h:=(show _=_ from h);subst h;exact⟨a,vs,[],e,Reps.freeze r hz λb hb=>hO b (M0 _ hb),hl',.inl hd,hO a M3,rfl,rfl⟩
  | false =>
   obtain⟨h1,rfl,rfl⟩:=h;exact⟨a,vs,[],e,Reps.freeze r hz (λb hb=>nomatch hb),hl',hd,hz a h1,rfl,rfl⟩
 | .dT o ks l,_,_,h,hz,hO=>by
  rw[Rep] at h;rw[fz,Rep];obtain⟨a,vs,O',e,r,hl,hd,h⟩:=h;have hl':ks.length=(fzs l).length:=by rw[qp,L4];exact hl
  cases o with
  | true =>
   have h:=(show _=_ from h);subst h;exact⟨a,vs,[],e,Reps.freeze r hz λb hb=>hO b (M0 _ hb),hl',hd,hO a M3,rfl,rfl⟩
  | false =>
   obtain⟨h1,rfl,rfl⟩:=h;exact⟨a,vs,[],e,Reps.freeze r hz (λb hb=>nomatch hb),hl',hd,hz a h1,rfl,rfl⟩
 | .ins o c ns l,_,_,h,hz,hO=>by
  rw[Rep] at h;rw[fz,Rep];obtain⟨a,dx,vs,O',e,r,hl,hd,h⟩:=h;have hl':ns.length=(fzs l).length:=by rw[qp,L4];exact hl
  cases o with
  | true =>
   have h:=(show _=_ from h);subst h;exact⟨a,dx,vs,[],e,Reps.freeze r hz λb hb=>hO b (M0 _ hb),hl',hd,hO a M3,rfl,rfl⟩
  | false =>
   obtain⟨h1,rfl,rfl⟩:=h;exact⟨a,dx,vs,[],e,Reps.freeze r hz (λb hb=>nomatch hb),hl',hd,hz a h1,rfl,rfl⟩
theorem Reps.freeze:∀{l:List D}{vs:List V}{O:List Addr},Reps R Z H l vs O->(∀ a,Z a->Z' a)->(∀ a∈O,Z' a)->Reps R Z' H (fzs l) vs []
 | [],_,_,h,_,_=>by rw[Reps] at h;rw[fzs,Reps];exact⟨h.1,rfl⟩
 | d::l,_,_,h,hz,hO=>by
  rw[Reps] at h;rw[fzs,Reps];obtain⟨v,vs,O1,O2,e,rfl,r1,r2⟩:=h;exact⟨v,vs,[],[],e,rfl,Rep.freeze r1 hz λa ha=>hO a (List.mem_append_left _ ha),Reps.freeze r2 hz λa ha=>hO a (U6 _ ha)⟩
end
theorem Reps.length:∀{l:List D}{vs:List V}{O:List Addr},Reps R Z H l vs O->vs.length=l.length
 | [],_,_,h=>by rw[Reps] at h;rw[h.1];rfl
 | d::l,_,_,h=>by
  rw[Reps] at h;obtain⟨v,vs,O1,O2,rfl,rfl,b,a⟩:=h;rw[M7,M7,Reps.length a]
theorem Reps.append:∀{l m:List D}{vs ws:List V}{O P:List Addr},Reps R Z H l vs O->Reps R Z H m ws P->Reps R Z H (l++m) (vs++ws) (O++P)
 | [],m,_,_,_,_,h,k=>by rw[Reps] at h;obtain⟨rfl,rfl⟩:=h;exact k
 | d::l,m,_,_,_,_,h,k=>by
  rw[Reps] at h;obtain⟨v,vs,O1,O2,rfl,rfl,a,b⟩:=h;rw[List.cons_append,Reps];exact⟨v,_,O1,_,rfl,List.append_assoc ..,a,Reps.append b k⟩
theorem Reps.one{d:D}{v:V}{O:List Addr}(h:Rep R Z H d v O):Reps R Z H [d] [v] O:=by
 rw[Reps];exact⟨v,[],O,[],rfl,(N4 O).symm,h,by rw[Reps];exact⟨rfl,rfl⟩⟩
theorem Reps.cons{d:D}{v:V}{O P:List Addr}{l:List D}{vs:List V}(h:Rep R Z H d v O)(k:Reps R Z H l vs P):Reps R Z H (d::l) (v::vs) (O++P):=by
 rw[Reps];exact⟨v,vs,O,P,rfl,rfl,h,k⟩
theorem Reps.empty:Reps R Z H [] [] []:=by rw[Reps];exact⟨rfl,rfl⟩
theorem Reps.at:∀{l:List D}{vs:List V}{O:List Addr}{i:Nat}{d:D},Reps R Z H l vs O->l[i]?=some d ->
  ∃ v A P B,vs[i]?=some v/\O=A++P++B/\Rep R Z H d v P/\∀{Z':Zn}{H':Hp}{d':D}{v':V}{P':List Addr},Rep R Z' H' d' v' P'->(∀ a,Z a->Z' a)->(∀ a,Z a->H' a=H a)->(∀ a∈A,H' a=H a)->(∀ a∈B,H' a=H a)->Reps R Z' H' (l.set i d') (vs.set i v') (A++P'++B)
 | [],_,_,_,_,_,e=>by simp at e
 | c::l,_,_,0,d,h,e=>by
  rw[Reps] at h;obtain⟨v,vs,O1,O2,rfl,rfl,g,j⟩:=h;have e:c=d:=by simpa using e
  subst e;refine⟨v,[],O1,O2,rfl,rfl,g,λr b f m n=>?_⟩;rw[List.set_cons_zero,List.set_cons_zero,Reps];exact⟨_,vs,_,O2,rfl,rfl,r,Reps.frame b f j n⟩
 | c::l,_,_,i+1,d,h,e=>by
  rw[Reps] at h;obtain⟨v,vs,O1,O2,rfl,rfl,g,j⟩:=h;obtain⟨w,A,P,B,p,rfl,q,k⟩:=Reps.at (i:=i) (d:=d) j (by simpa using e);refine⟨w,O1++A,P,B,by simpa using p,by simp,q,λ{Z' H' d' v' P'} r b f m n=>?_⟩;rw[List.set_cons_succ,List.set_cons_succ,Reps];exact⟨v,_,O1,A++P'++B,rfl,by simp,Rep.frame b f g λa o=>m a (List.mem_append_left _ o),k r b f (λa o=>m a (U6 _ o)) n⟩
theorem Reps.item{l:List D}{vs:List V}{i:Nat}{d:D}(h:Reps R Z H l vs [])(e:l[i]?=some d):∃ v,vs[i]?=some v/\Rep R Z H d v []:=by
 obtain⟨v,A,P,B,a,b,r,_⟩:=h.at e;have:P=[]:=by
  have:=congrArg List.length b;simp at this;exact List.eq_nil_of_length_eq_zero (by omega)
 subst this;exact⟨v,a,r⟩
theorem Reps.take:∀{l:List D}{vs:List V}(n:Nat),Reps R Z H l vs []->Reps R Z H (l.take n) (vs.take n) []
 | _,_,0,_=>by simp;exact .empty
 | [],_,n+1,h=>by rw[Reps] at h;rw[h.1];exact .empty
 | d::l,_,n+1,h=>by
  rw[Reps] at h;obtain⟨v,vs,O1,O2,rfl,e,a,b⟩:=h;obtain⟨rfl,rfl⟩:=List.append_eq_nil_iff.mp e.symm;rw[List.take_succ_cons,List.take_succ_cons];exact .cons a (Reps.take n b)
theorem Reps.drop:∀{l:List D}{vs:List V}(n:Nat),Reps R Z H l vs []->Reps R Z H (l.drop n) (vs.drop n) []
 | _,_,0,h=>h
 | [],_,n+1,h=>by rw[Reps] at h;rw[h.1];exact .empty
 | d::l,_,n+1,h=>by
  rw[Reps] at h;obtain⟨v,vs,O1,O2,rfl,e,b,a⟩:=h;obtain⟨rfl,rfl⟩:=List.append_eq_nil_iff.mp e.symm;rw[List.drop_succ_cons,List.drop_succ_cons];exact Reps.drop n a
structure WF(Z:Zn)(H:Hp)(O:List Addr):Prop where
 nd:O.Nodup
 nz:∀ a∈O,¬ Z a
 od:∀ a∈O,H a≠none
 zd:∀ a,Z a->H a≠none
structure Go(Z:Zn)(H:Hp)(O:List Addr)(Z':Zn)(H':Hp)(O':List Addr):Prop where
 wf:WF Z' H' O'
 zz:∀ a,Z a->Z' a
 fr:∀ a,H a≠none->a∉O->H' a=H a
 zn:∀ a,Z' a->Z a \/ a∈O \/ H a=none
 sub:∀ a∈O',a∈O \/ H a=none
 dm:∀ a,H a≠none->H' a≠none
variable {O O' O'' A B:List Addr}{Z'':Zn}{H'':Hp}
theorem Go.refl(w:WF Z H O):Go Z H O Z H O:=⟨w,λ_ z=>z,λ_ _ _=>rfl,λ_ z=>.inl z,λ_ h=>.inl h,λ_ h=>h⟩
theorem Go.trans(g:Go Z H O Z' H' O')(k:Go Z' H' O' Z'' H'' O''):Go Z H O Z'' H'' O'':=by
 refine⟨k.wf,λa z=>k.zz a (g.zz a z),λa h n=>?_,λa z=>?_,λa h=>?_,λa h=>k.dm a (g.dm a h)⟩
 ·rw[k.fr a (g.dm a h) λb=>(g.sub a b).elim n λe=>h e,g.fr a h n]
 ·rcases k.zn a z with z | z | z
  ·exact g.zn a z
  ·rcases g.sub a z with q | q
   ·exact .inr (.inl q)
   ·exact .inr (.inr q)
  ·by_cases h:H a=none
   ·exact .inr (.inr h)
   ·exact absurd z (g.dm a h)
 ·rcases k.sub a h with q | q
  ·exact g.sub a q
  ·by_cases h:H a=none
   ·exact .inr h
   ·exact absurd q (g.dm a h)
theorem Go.zH(w:WF Z H O)(g:Go Z H O Z' H' O'):∀ a,Z a->H' a=H a:=λa z=>g.fr a (w.zd a z) λh=>w.nz a h z
theorem WF.sub(w:WF Z H O)(h:∀ a∈O',a∈O)(n:O'.Nodup):WF Z H O':=⟨n,λa z=>w.nz a (h a z),λa z=>w.od a (h a z),w.zd⟩
theorem WF.mid(w:WF Z H (A++O++B)):WF Z H O:=w.sub (λa h=>by simp[h]) (by have:=w.nd;simp[X1] at this;exact this.2.1.1)
theorem Go.frame(w:WF Z H (A++O++B))(g:Go Z H O Z' H' O'):Go Z H (A++O++B) Z' H' (A++O'++B):=by
 have nd:=w.nd;simp only[X1,N6] at nd;have new:∀ a∈O',a∉A/\a∉B:=λa h=>by
  rcases g.sub a h with q | q
  ·exact⟨λz=>nd.1.2.2 a z a q rfl,λz=>nd.2.2 a (.inr q) a z rfl⟩
  ·exact⟨λz=>w.od a (by simp[z]) q,λz=>w.od a (by simp[z]) q⟩
 have keep:∀ a,a∈A \/ a∈B->a∉O:=λa h z=>by
  rcases h with h | h
  ·exact nd.1.2.2 a h a z rfl
  ·exact nd.2.2 a (.inr z) a h rfl
 refine⟨⟨?_,λa h z=>?_,λa h=>?_,g.wf.zd⟩,g.zz,λa h n=>?_,λa z=>?_,λa h=>?_,g.dm⟩
 ·simp only[X1,N6];exact⟨⟨nd.1.1,g.wf.nd,λa h b k e=>(new b k).1 (e▸h)⟩,nd.2.1,λa h b k e=>by
   rcases h with h | h
   ·exact nd.2.2 a (.inl h) b k e
   ·exact(new a h).2 (e▸k)⟩
 ·simp only[N6] at h;rcases h with(h | h) | h
  ·rcases g.zn a z with q | q | q
   ·exact w.nz a (by simp[h]) q
   ·exact keep a (.inl h) q
   ·exact w.od a (by simp[h]) q
  ·exact g.wf.nz a h z
  ·rcases g.zn a z with q | q | q
   ·exact w.nz a (by simp[h]) q
   ·exact keep a (.inr h) q
   ·exact w.od a (by simp[h]) q
 ·simp only[N6] at h;rcases h with(h | h) | h
  ·exact g.dm a (w.od a (by simp[h]))
  ·exact g.wf.od a h
  ·exact g.dm a (w.od a (by simp[h]))
 ·simp only[N6,not_or] at n;exact g.fr a h n.1.2
 ·rcases g.zn a z with q | q | q
  ·exact .inl q
  ·exact .inr (.inl (by simp[q]))
  ·exact .inr (.inr q)
 ·simp only[N6] at h ⊢;rcases h with(h | h) | h
  ·exact .inl (.inl (.inl h))
  ·rcases g.sub a h with q | q
   ·exact .inl (.inl (.inr q))
   ·exact .inr q
  ·exact .inl (.inr h)
theorem Go.drop(g:Go Z H O Z' H' O')(h:∀ a∈O'',a∈O')(n:O''.Nodup):Go Z H O Z' H' O'':=⟨g.wf.sub h n,g.zz,g.fr,g.zn,λa q=>g.sub a (h a q),g.dm⟩
theorem Go.dropL(g:Go Z H O Z' H' (A++B)):Go Z H O Z' H' B:=g.drop (λa h=>by simp[h]) (X1.mp g.wf.nd).2.1
theorem Go.dropR(g:Go Z H O Z' H' (A++B)):Go Z H O Z' H' A:=g.drop (λa h=>by simp[h]) (X1.mp g.wf.nd).1
theorem Go.freeze(w:WF Z H O):Go Z H O (λa=>Z a \/ a∈O) H [] :=
 ⟨⟨List.nodup_nil,λa h=>(nomatch h),λa h=>(nomatch h),λa h=>h.elim (w.zd a) (w.od a)⟩,λa z=>.inl z,λ_ _ _=>rfl,λa z=>z.elim .inl λq=>.inr (.inl q),λa h=>(nomatch h),λ_ h=>h⟩
theorem Go.newF{p:Addr}{o:HO}(w:WF Z H O)(hp:H p=none):Go Z H O (λa=>Z a \/ a=p) (upd H p o) O:=by
 have ne:∀ a,H a≠none->a≠p:=λa h e=>h (e▸hp);refine⟨⟨w.nd,λa h z=>z.elim (w.nz a h) (ne a (w.od a h)),λa h=>?_,λa z=>?_⟩,λa z=>.inl z,λa h _=>jo (ne a h),λa z=>z.elim .inl λe=>.inr (.inr (e▸hp)),λa h=>.inl h,λa h=>?_⟩
 ·rw[jo (ne a (w.od a h))];exact w.od a h
 ·by_cases e:a=p
  ·rw[e,jA];exact λh=>nomatch h
  ·rw[jo e];exact w.zd a (z.resolve_right e)
 ·rw[jo (ne a h)];exact h
theorem Go.newO{p:Addr}{o:HO}(w:WF Z H O)(hp:H p=none):Go Z H O Z (upd H p o) (p::O):=by
 have ne:∀ a,H a≠none->a≠p:=λa h e=>h (e▸hp);refine⟨⟨List.nodup_cons.mpr ⟨λh=>w.od p h hp,w.nd⟩,λa h z=>?_,λa h=>?_,λa z=>?_⟩,λa z=>z,λa h _=>jo (ne a h),λa z=>.inl z,λa h=>?_,λa h=>?_⟩
 ·rcases M9.mp h with e | e
  ·exact w.zd a z (e▸hp)
  ·exact w.nz a e z
 ·rcases M9.mp h with e | e
  ·rw[e,jA];exact λh=>nomatch h
  ·rw[jo (ne a (w.od a e))];exact w.od a e
 ·rw[jo (ne a (w.zd a z))];exact w.zd a z
 ·rcases M9.mp h with e | e
  ·exact .inr (e▸hp)
  ·exact .inl e
 ·rw[jo (ne a h)];exact h
theorem Go.put{p:Addr}{o:HO}(w:WF Z H O)(hp:p∈O):Go Z H O Z (upd H p o) O:=by
 have nn:∀ a,upd H p o a=none->a≠p/\H a=none:=λa h=>by
  by_cases e:a=p
  ·rw[e,jA] at h;cases h
  ·rw[jo e] at h;exact⟨e,h⟩
 exact⟨⟨w.nd,w.nz,λa h z=>w.od a h (nn a z).2,λa z e=>w.zd a z (nn a e).2⟩,λa z=>z,λa h n=>jo λe=>n (e▸hp),λa z=>.inl z,λa h=>.inl h,λa h z=>h (nn a z).2⟩
end
noncomputable abbrev Rh:=List (Option D)
def Slots(R:RC)(Z:Zn)(H:Hp):Rh->St->List Addr->Prop
 | [],σ,O=>σ=[]/\O=[]
 | none::ρ,σ,O=>∃ s σ',σ=s::σ'/\Slots R Z H ρ σ' O
 | some d::ρ,σ,O=>∃ v σ' O1 O2,σ=some v::σ'/\O=O1++O2/\Rep R Z H d v O1/\Slots R Z H ρ σ' O2
theorem Slots.frame(c:∀ a,Z a->Z' a)(f:∀ a,Z a->H' a=H a):∀{ρ:Rh}{σ:St}{O:List Addr},Slots R Z H ρ σ O->(∀ a∈O,H' a=H a)->Slots R Z' H' ρ σ O
 | [],_,_,h,_=>h
 | none::ρ,_,_,h,b=>by
  obtain⟨s,g,e,r⟩:=h;exact⟨s,g,e,Slots.frame c f r b⟩
 | some d::ρ,_,_,h,b=>by
  obtain⟨v,g,O1,O2,e,rfl,j,k⟩:=h;exact⟨v,g,O1,O2,e,rfl,j.frame c f λa i=>b a (List.mem_append_left _ i),Slots.frame c f k λa i=>b a (U6 _ i)⟩
theorem Slots.put:∀{ρ:Rh}{σ:St}{O:List Addr}{i:Nat},Slots R Z H ρ σ O->i < ρ.length->∃ A P B,O=A++P++B /\
  (∀ d,ρ[i]?=some (some d)->∃ v,σ[i]?=some (some v)/\Rep R Z H d v P) /\
  (∀{Z':Zn}{H':Hp}{d':D}{v':V}{P':List Addr},Rep R Z' H' d' v' P'->(∀ a,Z a->Z' a)->(∀ a,Z a->H' a=H a)->(∀ a∈A,H' a=H a)->(∀ a∈B,H' a=H a)->Slots R Z' H' (ρ.set i (some d')) (σ.set i (some v')) (A++P'++B)) /\
  Slots R Z H (ρ.set i none) σ (A++B)
 | [],_,_,_,_,j=>absurd j (Nat.not_lt_zero _)
 | none::ρ,_,_,0,h,j=>by
  obtain⟨s,b,rfl,r⟩:=h;refine⟨[],[],_,rfl,λd e=>by simp at e,λq f g l k=>?_,?_⟩
  ·exact⟨_,b,_,_,rfl,rfl,q,Slots.frame f g r k⟩
  ·exact⟨s,b,rfl,r⟩
 | some c::ρ,_,_,0,h,j=>by
  obtain⟨v,b,O1,O2,rfl,rfl,m,n⟩:=h;refine⟨[],O1,O2,rfl,λd e=>?_,λq f g l k=>?_,?_⟩
  ·have e:c=d:=by simpa using e
   subst e;exact⟨v,rfl,m⟩
  ·exact⟨_,b,_,_,rfl,rfl,q,Slots.frame f g n k⟩
  ·exact⟨_,b,rfl,n⟩
 | none::ρ,_,_,i+1,h,j=>by
  obtain⟨s,b,rfl,r⟩:=h;obtain⟨A,P,B,rfl,o,p,t⟩:=Slots.put (i:=i) r (by simpa using j);refine⟨A,P,B,rfl,λd e=>o d (by simpa using e),λq f g l k=>?_,?_⟩
  ·exact⟨s,_,rfl,p q f g l k⟩
  ·exact⟨s,b,rfl,t⟩
 | some c::ρ,_,_,i+1,h,j=>by
  obtain⟨v,b,O1,O2,rfl,rfl,m,n⟩:=h;obtain⟨A,P,B,rfl,o,p,t⟩:=Slots.put (i:=i) n (by simpa using j);refine⟨O1++A,P,B,by simp,λd e=>o d (by simpa using e),λ{Z' H' d' v' P'} q f g l k=>?_,?_⟩
  ·exact⟨v,_,O1,A++P'++B,rfl,by simp,m.frame f g λa u=>l a (List.mem_append_left _ u),p q f g (λa u=>l a (U6 _ u)) k⟩
  ·exact⟨v,b,O1,A++B,rfl,by simp,m,t⟩
theorem qF:∀{l:List α}{i:Nat}{x:α},l[i]?=some x->l.set i x=l
 | [],_,_,h=>by simp at h
 | y::l,0,x,h=>by simp at h;subst h;rfl
 | y::l,i+1,x,h=>by rw[List.set_cons_succ,qF (by simpa using h)]
noncomputable abbrev FE:=Rh->Option (D×Rh)
noncomputable abbrev FT':=Rh->Option (Bool×Rh)
noncomputable abbrev FA:=Rh->Option (List D×Rh)
def DE(R:RC)(te:TE)(f:FE):Prop:=∀{σ:St}{ρ ρ':Rh}{Z:Zn}{H:Hp}{O:List Addr}{d:D},WF Z H O->Slots R Z H ρ σ O->f ρ=some (d,ρ') ->
 ∀{Q:VK},(∀{v:V}{Z':Zn}{H':Hp}{P O':List Addr},Go Z H O Z' H' (P++O')->Rep R Z' H' d v P->Slots R Z' H' ρ' σ O'->Q v H')->te σ H Q
def DT(R:RC)(tt:TT)(f:FT'):Prop:=∀{σ:St}{ρ ρ':Rh}{Z:Zn}{H:Hp}{O:List Addr}{b:Bool},WF Z H O->Slots R Z H ρ σ O->f ρ=some (b,ρ') ->
 ∀{Q:Bool->Hp->Prop},(∀{Z':Zn}{H':Hp}{O':List Addr},Go Z H O Z' H' O'->Slots R Z' H' ρ' σ O'->Q b H')->tt σ H Q
def DA(R:RC)(ta:TA)(f:FA):Prop:=∀{σ:St}{ρ ρ':Rh}{Z:Zn}{H:Hp}{O:List Addr}{ds:List D},WF Z H O->Slots R Z H ρ σ O->f ρ=some (ds,ρ') ->
 ∀{Q:List V->Hp->Prop},(∀{vs:List V}{Z':Zn}{H':Hp}{P O':List Addr},Go Z H O Z' H' (P++O')->Reps R Z' H' ds vs P->Slots R Z' H' ρ' σ O'->Q vs H')->ta σ H Q
inductive Out where
 | nx (ρ:Rh) | rt (d:D) (ρ:Rh) | bk (ρ:Rh) | ct (ρ:Rh)
noncomputable abbrev FS:=Rh->Option Out
def Keep(pm:List Nat)(σ σ':St):Prop:=∀ i∈pm,σ'[i]?=σ[i]?
def OutOk(R:RC)(pm:List Nat)(Z:Zn)(H:Hp)(O:List Addr)(σ:St)(D':Ends):Out->Prop
 | .nx ρ'=>∀{σ':St}{Z':Zn}{H':Hp}{O':List Addr},Go Z H O Z' H' O'->Slots R Z' H' ρ' σ' O'->Keep pm σ σ'->D'.nx σ' H'
 | .bk ρ'=>∀{σ':St}{Z':Zn}{H':Hp}{O':List Addr},Go Z H O Z' H' O'->Slots R Z' H' ρ' σ' O'->Keep pm σ σ'->D'.bk σ' H'
 | .ct ρ'=>∀{σ':St}{Z':Zn}{H':Hp}{O':List Addr},Go Z H O Z' H' O'->Slots R Z' H' ρ' σ' O'->Keep pm σ σ'->D'.ct σ' H'
 | .rt d ρ'=>∀{v:V}{σ':St}{Z':Zn}{H':Hp}{P O':List Addr},Go Z H O Z' H' (P++O')->Rep R Z' H' d v P->Slots R Z' H' ρ' σ' O'->Keep pm σ σ'->D'.rt v H'
def DS(R:RC)(pm:List Nat)(ts:TS)(f:FS):Prop:=∀{σ:St}{ρ:Rh}{Z:Zn}{H:Hp}{O:List Addr}{o:Out},WF Z H O->Slots R Z H ρ σ O->f ρ=some o->∀{D':Ends},OutOk R pm Z H O σ D' o->ts D' σ H
def DG(R:RC)(pm:List Nat)(tg:TG)(f:D->Rh->Option Rh):Prop:=∀{σ:St}{ρ ρ':Rh}{Z:Zn}{H:Hp}{O P:List Addr}{d:D}{v:V},WF Z H (P++O)->Rep R Z H d v P->Slots R Z H ρ σ O->f d ρ=some ρ' ->
 ∀{Q:St->Hp->Prop},(∀{σ':St}{Z':Zn}{H':Hp}{O':List Addr},Go Z H (P++O) Z' H' O'->Slots R Z' H' ρ' σ' O'->Keep pm σ σ'->Q σ' H')->tg v σ H Q
theorem Keep.refl(pm:List Nat)(σ:St):Keep pm σ σ:=λ_ _=>rfl
theorem Keep.trans(h:Keep pm σ σ')(k:Keep pm σ' σ''):Keep pm σ σ'':=λi a=>(k i a).trans (h i a)
theorem Keep.set(h:i∉pm):Keep pm σ (σ.set i x):=λj a=>by
 have ne:i≠j:=λe=>h (by rw[e];exact a);rw[List.getElem?_set,if_neg ne]
noncomputable def dMv(i:Nat):FE:=λρ=>match ρ[i]? with
 | some (some d)=>some (d,ρ.set i none)
 | _=>none
theorem jkD:DE R (V7 i) (dMv i):=by
 intro σ ρ p Z H O d w h e Q k;unfold dMv at e;split at e
 ·rename_i c j;have l:i < ρ.length:=(M5.mp j).1;obtain⟨A,P,B,rfl,m,s,n⟩:=h.put l;obtain⟨v,o,r⟩:=m c j;cases e;refine⟨v,o,k (P:=P) ((Go.refl w).drop (λa q=>?_) ?_) r n⟩
  ·simp at q ⊢;rcases q with q | q | q<;>simp[q]
  ·have nd:=w.nd;simp only[X1,N6] at nd ⊢;exact⟨nd.1.2.1,⟨nd.1.1,nd.2.1,λa f b g=>nd.2.2 a (.inl f) b g⟩,λa f b g e=>g.elim (λq=>nd.1.2.2 b q a f e.symm) λq=>nd.2.2 a (.inr f) b q e⟩
 ·cases e
theorem jeE(h:n<=1000):n<=sizeLine:=Nat.le_of_lt (jbo h)
theorem Rep.tupNew(w:WF Z H O)(hp:H p=none)(r:Reps R Z H l vs O):Rep R (λa=>Z a \/ a=p) (upd H p (.tup vs)) (.tup l) (.ref p) O:=by
 have ne:∀ a,H a≠none->a≠p:=λa h e=>h (e▸hp);rw[Rep];exact⟨p,vs,rfl,.inl ⟨.inr rfl,.inl jA⟩,r.frame (λa z=>.inl z) (λa z=>jo (ne a (w.zd a z))) λa h=>jo (ne a (w.od a h))⟩
theorem Rep.lstNew(w:WF Z H O)(hp:H p=none)(r:Reps R Z H l vs O):Rep R Z (upd H p (.lst vs)) (.lst true l) (.ref p) (p::O):=by
 have ne:∀ a,H a≠none->a≠p:=λa h e=>h (e▸hp);rw[Rep];exact⟨p,vs,O,rfl,r.frame (λa z=>z) (λa z=>jo (ne a (w.zd a z))) λa h=>jo (ne a (w.od a h)),jA,rfl⟩
theorem Rep.bl_of(r:Rep R Z H (.bl b) v O):v=.bl b/\O=[]:=by rw[Rep] at r;exact r
theorem Rep.bl_mk:Rep R Z H (.bl b) (.bl b) []:=by rw[Rep];exact⟨rfl,rfl⟩
theorem OutOk.pre(g:Go Z H O Z1 H1 O1)(kp:Keep pm σ σ1)(k:OutOk R pm Z H O σ D' o):OutOk R pm Z1 H1 O1 σ1 D' o:=by
 cases o with
 | nx ρ=>exact λa b c=>k (g.trans a) b (kp.trans c)
 | bk ρ=>exact λa b c=>k (g.trans a) b (kp.trans c)
 | ct ρ=>exact λa b c=>k (g.trans a) b (kp.trans c)
 | rt d ρ=>exact λa e b c=>k (g.trans a) e b (kp.trans c)
noncomputable def jF:FS:=λρ=>some (.nx ρ)
noncomputable def jD(f g:FS):FS:=λρ=>match f ρ with
 | some (.nx ρ1)=>g ρ1
 | o=>o
theorem jfF:DS R pm jfj jF:=by
 intro σ ρ Z H O o w h e a k;cases e;exact k (Go.refl w) h (Keep.refl _ _)
theorem jeZ(i:DS R pm t f)(j:DS R pm u g):DS R pm (jhw t u) (jD f g):=by
 intro σ ρ Z H O o w h e a k;unfold jD at e;cases e1:f ρ with
 | none=>rw[e1] at e;cases e
 | some l =>
  rw[e1] at e;refine i w h e1 (D':={ a with nx:=u a }) ?_;cases l with
  | nx b=>exact λ{p q r s} c m n=>j c.wf m e (k.pre c n)
  | bk b=>cases e;exact k
  | ct b=>cases e;exact k
  | rt d b=>cases e;exact k
noncomputable def yj(fa:FE):FS:=λρ=>match fa ρ with
 | none=>none
 | some (x,ρ1)=>some (.rt x ρ1)
theorem jiV(a:DE R ta fa):DS R pm (jjr ta) (yj fa):=by
 intro σ ρ Z H O o w h e f k;unfold yj at e;cases e1:fa ρ with
 | none=>rw[e1] at e;cases e
 | some p =>
  obtain⟨x,g⟩:=p;rw[e1] at e;cases e;exact a w h e1 λb c d=>k b c d (Keep.refl _ _)
noncomputable def sIf(ft:FT')(f g:FS):FS:=λρ=>match ft ρ with
 | none=>none
 | some (b,ρ1)=>bif b then f ρ1 else g ρ1
theorem jjG(d:DT R tt ft)(i:DS R pm t f)(j:DS R pm u g):DS R pm (jiL tt t u) (sIf ft f g):=by
 intro σ ρ Z H O o w h e l k;unfold sIf at e;cases e1:ft ρ with
 | none=>rw[e1] at e;cases e
 | some p =>
  obtain⟨c,m⟩:=p;rw[e1] at e;dsimp only at e;refine d w h e1 λ{n q O1} a b=>?_;cases c with
  | true=>exact jeL (i a.wf b e (k.pre a (Keep.refl _ _)))
  | false=>exact jev (j a.wf b e (k.pre a (Keep.refl _ _)))
noncomputable def kY:FS:=λ_=>none
theorem jdT:DS R pm jbY kY:=by
 intro σ ρ Z H O o w h e a k;cases e
noncomputable def jB(pm:List Nat)(i:Nat):D->Rh->Option Rh:=λd ρ=>bif decide (i < ρ.length)&&!decide (i∈pm) then some (ρ.set i (some d)) else none
theorem jcx:DG R pm (zS i) (jB pm i):=by
 intro σ ρ m Z H O P d v w r h e Q k;unfold jB at e;by_cases f:i < ρ.length
 ·by_cases g:i∈pm
  ·rw[X3 g] at e;simp at e
  ·rw[X3 f,X4 g] at e;cases e;obtain⟨A,n,B,rfl,o,l,p⟩:=h.put f;refine k (O':=A++P++B) ((Go.refl w).drop (λa q=>?_) ?_) (l r (λ_ z=>z) (λ_ _=>rfl) (λ_ _=>rfl) (λ_ _=>rfl)) (Keep.set g)
   ·simp at q ⊢;rcases q with q | q | q<;>simp[q]
   ·have nd:=w.nd;simp only[X1,N6] at nd ⊢;exact⟨⟨nd.2.1.1.1,nd.1,λa j b c e=>nd.2.2 b c a (.inl (.inl j)) e.symm⟩,nd.2.1.2.1,λa j b c e=>j.elim (λq=>nd.2.1.2.2 a (.inl q) b c e) λq=>nd.2.2 a q b (.inr c) e⟩
 ·rw[X4 f] at e;simp at e
noncomputable def yw(fa:FE)(g:D->Rh->Option Rh):FS:=λρ=>match fa ρ with
 | none=>none
 | some (x,ρ1)=>match g x ρ1 with
  | none=>none
  | some ρ2=>some (.nx ρ2)
theorem jcu(b:DE R ta fa)(c:DG R pm tg g):DS R pm (jgF ta tg) (yw fa g):=by
 intro σ ρ Z H O o w h e n k;unfold yw at e;cases e1:fa ρ with
 | none=>rw[e1] at e;cases e
 | some p =>
  obtain⟨x,d⟩:=p;rw[e1] at e;dsimp only at e;cases e2:g x d with
  | none=>rw[e2] at e;cases e
  | some q =>
   rw[e2] at e;cases e;exact b w h e1 λa f i=>c a.wf f i e2 λj l m=>k (Go.trans a j) l m
def DGs(R:RC)(pm:List Nat)(tg:TGs)(f:List D->Rh->Option Rh):Prop:=∀{σ:St}{ρ ρ':Rh}{Z:Zn}{H:Hp}{O P:List Addr}{ds:List D}{vs:List V},WF Z H (P++O)->Reps R Z H ds vs P->Slots R Z H ρ σ O->f ds ρ=some ρ' ->
 ∀{Q:St->Hp->Prop},(∀{σ':St}{Z':Zn}{H':Hp}{O':List Addr},Go Z H (P++O) Z' H' O'->Slots R Z' H' ρ' σ' O'->Keep pm σ σ'->Q σ' H')->tg vs σ H Q
noncomputable def gN:List D->Rh->Option Rh:=λds ρ=>match ds with
 | []=>some ρ
 | _=>none
noncomputable def gC(g:D->Rh->Option Rh)(gs:List D->Rh->Option Rh):List D->Rh->Option Rh:=λds ρ=>match ds with
 | []=>none
 | d::r=>match g d ρ with
  | none=>none
  | some ρ1=>gs r ρ1
noncomputable def gT(n:Nat)(gs:List D->Rh->Option Rh):D->Rh->Option Rh:=λd ρ=>match d with
 | .tup l=>bif decide (l.length=n) then gs l ρ else none
 | _=>none
noncomputable abbrev PF:=Rh->Option D
noncomputable abbrev PTf:=Rh->Option Bool
noncomputable abbrev PAf:=Rh->Option (List D)
section
variable {R:RC}{Z Z':Zn}{H H':Hp}
mutual
theorem Rep.dom:∀{d:D}{v:V}{O:List Addr},Rep R Z H d v O->∀ a∈O,H a≠none
 | .non,_,_,h,a,ha=>by rw[Rep] at h;rw[h.2] at ha;cases ha
 | .bl _,_,_,h,a,ha=>by rw[Rep] at h;rw[h.2] at ha;cases ha
 | .int _,_,_,h,a,ha=>by rw[Rep] at h;rw[h.2] at ha;cases ha
 | .str _,_,_,h,a,ha=>by rw[Rep] at h;rw[h.2] at ha;cases ha
 | .dead,_,_,h,a,ha=>by rw[Rep] at h;rw[h] at ha;cases ha
 | .exc _ _,_,_,h,a,ha=>by rw[Rep] at h;obtain⟨_,_,_,_,_,_,_,h⟩:=h;rw[h] at ha;cases ha
 | .tup l,_,_,h,a,ha=>by
  rw[Rep] at h;obtain⟨b,vs,e,t,r⟩:=h;exact Reps.dom r a ha
 | .lst o l,_,_,h,a,ha=>by
  rw[Rep] at h;obtain⟨b,vs,O',e,r,h⟩:=h;cases o with
  | true =>
   obtain⟨h1,rfl⟩:=h;rcases M9.mp ha with e | e
   ·rw[e,h1];exact λz=>(nomatch z)
   ·exact Reps.dom r a e
  | false=>rw[h.2.2] at ha;cases ha
 | .dK o ks l,_,_,h,a,ha=>by
  rw[Rep] at h;obtain⟨b,vs,O',e,r,hl,hd,h⟩:=h;cases o with
  | true =>
   have h:=(show _=_ from h);subst h;rcases M9.mp ha with e | e
   ·rw[e,hd];exact λz=>(nomatch z)
   ·exact Reps.dom r a e
  | false=>rw[h.2.2] at ha;cases ha
 | .dT o ks l,_,_,h,a,ha=>by
  rw[Rep] at h;obtain⟨b,vs,O',e,r,hl,hd,h⟩:=h;cases o with
  | true =>
   have h:=(show _=_ from h);subst h;rcases M9.mp ha with e | e
   ·rw[e,hd];exact λz=>(nomatch z)
   ·exact Reps.dom r a e
  | false=>rw[h.2.2] at ha;cases ha
 | .ins o c ns l,_,_,h,a,ha=>by
  rw[Rep] at h;obtain⟨b,dx,vs,O',e,r,hl,hd,h⟩:=h;cases o with
  | true =>
   have h:=(show _=_ from h);subst h;rcases M9.mp ha with e | e
   ·rw[e,hd];exact λz=>(nomatch z)
   ·exact Reps.dom r a e
  | false=>rw[h.2.2] at ha;cases ha
theorem Reps.dom:∀{l:List D}{vs:List V}{O:List Addr},Reps R Z H l vs O->∀ a∈O,H a≠none
 | [],_,_,h,a,ha=>by rw[Reps] at h;rw[h.2] at ha;cases ha
 | d::l,_,_,h,a,ha=>by
  rw[Reps] at h;obtain⟨v,vs,O1,O2,e,rfl,r1,r2⟩:=h;rcases N6.mp ha with q | q
  ·exact Rep.dom r1 a q
  ·exact Reps.dom r2 a q
end
theorem Slots.dom:∀{ρ:Rh}{σ:St}{O:List Addr},Slots R Z H ρ σ O->∀ a∈O,H a≠none
 | [],_,_,h,a,b=>by rw[h.2] at b;cases b
 | none::ρ,_,_,h,a,b=>by obtain⟨s,c,rfl,r⟩:=h;exact Slots.dom r a b
 | some d::ρ,_,_,h,a,b=>by
  obtain⟨v,c,O1,O2,rfl,rfl,e,f⟩:=h;rcases N6.mp b with q | q
  ·exact e.dom a q
  ·exact Slots.dom f a q
abbrev Zd(Z:Zn)(H:Hp):Prop:=∀ a,Z a->H a≠none
theorem wf0(z:Zd Z H):WF Z H []:=⟨List.nodup_nil,λa h=>(nomatch h),λa h=>(nomatch h),z⟩
theorem Go.id(z:Zd Z H):Go Z H [] Z H []:=Go.refl (wf0 z)
theorem Go.same{P:List Addr}(g:Go Z H [] Z' H' P):∀ a,H a≠none->H' a=H a:=λa h=>g.fr a h (λz=>(nomatch z))
theorem Go.rep{P O:List Addr}{d:D}{v:V}(z:Zd Z H)(g:Go Z H [] Z' H' P)(r:Rep R Z H d v O):Rep R Z' H' d v O:=r.frame g.zz (λa h=>g.same a (z a h)) λa h=>g.same a (r.dom a h)
theorem Go.reps{P O:List Addr}{l:List D}{vs:List V}(z:Zd Z H)(g:Go Z H [] Z' H' P)(r:Reps R Z H l vs O):Reps R Z' H' l vs O:=r.frame g.zz (λa h=>g.same a (z a h)) λa h=>g.same a (r.dom a h)
theorem Go.slots{P O:List Addr}{ρ:Rh}{σ:St}(z:Zd Z H)(g:Go Z H [] Z' H' P)(r:Slots R Z H ρ σ O):Slots R Z' H' ρ σ O:=r.frame g.zz (λa h=>g.same a (z a h)) λa h=>g.same a (r.dom a h)
theorem Go.pair{P a:List Addr}{Z'':Zn}{H'':Hp}(g:Go Z H [] Z' H' P)(k:Go Z' H' [] Z'' H'' a):Go Z H [] Z'' H'' (P++a):=by
 have w:WF Z' H' (P++[]++[]):=by simpa using g.wf
 have f:=k.frame w;exact g.trans (by simpa using f)
theorem Go.to0{O P:List Addr}(g:Go Z H O Z' H' P):Go Z H O Z' H' []:=g.drop (λa h=>(nomatch h)) List.nodup_nil
theorem Go.widen{P O:List Addr}(w:WF Z H O)(g:Go Z H [] Z' H' P):Go Z H O Z' H' (P++O):=by
 have f:=g.frame (A:=[]) (B:=O) (by simpa using w);simpa using f
def PP(R:RC)(te:TE)(p:PF):Prop:=∀{σ:St}{ρ:Rh}{Z:Zn}{H:Hp}{O:List Addr}{d:D},Zd Z H->Slots R Z H ρ σ O->p ρ=some d ->
 ∀{Q:VK},(∀{v:V}{Z':Zn}{H':Hp}{P:List Addr},Go Z H [] Z' H' P->Rep R Z' H' d v P->Q v H')->te σ H Q
def PB(R:RC)(te:TE)(p:PF):Prop:=∀{σ:St}{ρ:Rh}{Z:Zn}{H:Hp}{O:List Addr}{d:D},Zd Z H->Slots R Z H ρ σ O->p ρ=some d ->
 ∀{Q:VK},(∀{v:V}{Z':Zn}{H':Hp}{P:List Addr},Go Z H [] Z' H' []->Rep R Z' H' d v P->Q v H')->te σ H Q
def PPs(R:RC)(ta:TA)(p:PAf):Prop:=∀{σ:St}{ρ:Rh}{Z:Zn}{H:Hp}{O:List Addr}{ds:List D},Zd Z H->Slots R Z H ρ σ O->p ρ=some ds ->
 ∀{Q:List V->Hp->Prop},(∀{vs:List V}{Z':Zn}{H':Hp}{P:List Addr},Go Z H [] Z' H' P->Reps R Z' H' ds vs P->Q vs H')->ta σ H Q
def PBs(R:RC)(ta:TA)(p:PAf):Prop:=∀{σ:St}{ρ:Rh}{Z:Zn}{H:Hp}{O:List Addr}{ds:List D},Zd Z H->Slots R Z H ρ σ O->p ρ=some ds ->
 ∀{Q:List V->Hp->Prop},(∀{vs:List V}{Z':Zn}{H':Hp}{P:List Addr},Go Z H [] Z' H' []->Reps R Z' H' ds vs P->Q vs H')->ta σ H Q
def PTt(R:RC)(tt:TT)(p:PTf):Prop:=∀{σ:St}{ρ:Rh}{Z:Zn}{H:Hp}{O:List Addr}{b:Bool},Zd Z H->Slots R Z H ρ σ O->p ρ=some b ->
 ∀{Q:Bool->Hp->Prop},(∀{Z':Zn}{H':Hp},Go Z H [] Z' H' []->Q b H')->tt σ H Q
theorem PP.b{te:TE}{p:PF}(h:PP R te p):PB R te p:=λz s e _ k=>h z s e λg r=>k g.to0 r
theorem PPs.b{te:TA}{p:PAf}(h:PPs R te p):PBs R te p:=λz s e _ k=>h z s e λg r=>k g.to0 r
noncomputable def pF(p:PF):PF:=λρ=>match p ρ with
 | some d=>bif frz d then some d else none
 | none=>none
theorem PB.f{te:TE}{p:PF}(h:PB R te p):PP R te (pF p):=by
 intro σ ρ Z H O d z s e Q k;unfold pF at e;cases e1:p ρ with
 | none=>rw[e1] at e;cases e
 | some c =>
  rw[e1] at e;dsimp only at e;cases hf:frz c with
  | false=>rw[hf] at e;cases e
  | true =>
   rw[hf] at e;cases e;exact h z s e1 λg r=>by
    cases r.nil hf;exact k g r
noncomputable def dP(p:PF):FE:=λρ=>match p ρ with
 | some d=>some (d,ρ)
 | none=>none
noncomputable def dPT(p:PTf):FT':=λρ=>match p ρ with
 | some d=>some (d,ρ)
 | none=>none
theorem PP.d{te:TE}{p:PF}(h:PP R te p):DE R te (dP p):=by
 intro σ ρ a Z H O d w s e Q k;unfold dP at e;cases e1:p ρ with
 | none=>rw[e1] at e;cases e
 | some c =>
  rw[e1] at e;cases e;exact h w.zd s e1 λg r=>k (g.widen w) r (g.slots w.zd s)
theorem PTt.d{te:TT}{p:PTf}(h:PTt R te p):DT R te (dPT p):=by
 intro σ ρ a Z H O d w s e Q k;unfold dPT at e;cases e1:p ρ with
 | none=>rw[e1] at e;cases e
 | some c =>
  rw[e1] at e;cases e;exact h w.zd s e1 λg=>k (by simpa using g.widen w) (g.slots w.zd s)
noncomputable def pV(i:Nat):PF:=λρ=>match ρ[i]? with
 | some (some d)=>some d
 | _=>none
noncomputable def pC(d:D):PF:=λ_=>some d
theorem jiT{i:Nat}:PB R (V7 i) (pV i):=by
 intro σ ρ Z H O d z s e Q k;unfold pV at e;split at e
 ·rename_i c a;cases e;obtain⟨A,P,B,rfl,b,_⟩:=s.put (M5.mp a).1;obtain⟨v,f,r⟩:=b d a;exact⟨v,f,k (Go.id z) r⟩
 ·cases e
theorem jfn{d:D}{v:V}(a:∀(Z:Zn) (H:Hp),Rep R Z H d v []):PP R (tC v) (pC d):=by
 intro σ ρ Z H O b z s e Q k;cases e;exact k (Go.id z) (a Z H)
theorem Rep.int_mk{i:Int}:Rep R Z H (.int i) (.int i) []:=by rw[Rep];exact⟨rfl,rfl⟩
theorem Rep.str_mk{s:List Nat}:Rep R Z H (.str s) (.str (S s)) []:=by rw[Rep];exact⟨rfl,rfl⟩
theorem Rep.non_mk:Rep R Z H .non .non []:=by rw[Rep];exact⟨rfl,rfl⟩
theorem Rep.int_of{i:Int}{v:V}{O:List Addr}(r:Rep R Z H (.int i) v O):v=.int i/\O=[]:=by rw[Rep] at r;exact r
theorem Rep.str_of{s:List Nat}{v:V}{O:List Addr}(r:Rep R Z H (.str s) v O):v=.str (S s)/\O=[]:=by rw[Rep] at r;exact r
theorem Rep.non_of{v:V}{O:List Addr}(r:Rep R Z H .non v O):v=.non/\O=[]:=by rw[Rep] at r;exact r
def BO(R:RC)(r:R2)(g:D->D->Option D):Prop:=∀{Z:Zn}{H:Hp}{x y d:D}{v u:V}{O1 O2:List Addr},Zd Z H->Rep R Z H x v O1->Rep R Z H y u O2->g x y=some d ->
 ∀{Q:VK},(∀{w:V}{Z':Zn}{H':Hp}{P:List Addr},Go Z H [] Z' H' P->Rep R Z' H' d w P->Q w H')->r v u H Q
def BO'(R:RC)(r:R2)(g:D->D->Option D):Prop:=∀{Z:Zn}{H:Hp}{x y d:D}{v u:V}{O1 O2:List Addr},Zd Z H->Rep R Z H x v O1->Rep R Z H y u O2->g x y=some d ->
 ∀{Q:VK},(∀{w:V}{P:List Addr},Rep R Z H d w P->Q w H)->r v u H Q
def BU(R:RC)(r:V->Hp->VK->Prop)(g:D->Option D):Prop:=∀{Z:Zn}{H:Hp}{x d:D}{v:V}{O:List Addr},Zd Z H->Rep R Z H x v O->g x=some d ->
 ∀{Q:VK},(∀{w:V}{Z':Zn}{H':Hp}{P:List Addr},Go Z H [] Z' H' P->Rep R Z' H' d w P->Q w H')->r v H Q
def BC(R:RC)(r:List V->Hp->VK->Prop)(g:List D->Option D):Prop:=∀{Z:Zn}{H:Hp}{xs:List D}{d:D}{vs:List V}{O:List Addr},Zd Z H->Reps R Z H xs vs O->g xs=some d ->
 ∀{Q:VK},(∀{w:V}{Z':Zn}{H':Hp}{P:List Addr},Go Z H [] Z' H' P->Rep R Z' H' d w P->Q w H')->r vs H Q
noncomputable def p2(g:D->D->Option D)(pa pb:PF):PF:=λρ=>match pa ρ with
 | none=>none
 | some x=>match pb ρ with
  | none=>none
  | some y=>g x y
noncomputable def p1(g:D->Option D)(pa:PF):PF:=λρ=>match pa ρ with
 | none=>none
 | some x=>g x
theorem Qb{r:R2}{g:D->D->Option D}{ta tb:TE}{pa pb:PF}(c:BO R r g)(f:PB R ta pa)(h:PB R tb pb):PP R (tOp r ta tb) (p2 g pa pb):=by
 intro σ ρ Z H O d z s e Q k;unfold p2 at e;cases e1:pa ρ with
 | none=>rw[e1] at e;cases e
 | some x =>
  rw[e1] at e;dsimp only at e;cases e2:pb ρ with
  | none=>rw[e2] at e;cases e
  | some y =>
   rw[e2] at e;refine f z s e1 λ{v n o p} a i=>?_;refine h a.wf.zd (a.slots z s) e2 λ{u q t w} b j=>?_;exact c b.wf.zd (b.rep a.wf.zd i) j e λl m=>k ((a.pair b).pair l) m
theorem jkx{r:R2}{g:D->D->Option D}{ta tb:TE}{pa pb:PF}(c:BO' R r g)(f:PB R ta pa)(h:PB R tb pb):PB R (tOp r ta tb) (p2 g pa pb):=by
 intro σ ρ Z H O d z s e Q k;unfold p2 at e;cases e1:pa ρ with
 | none=>rw[e1] at e;cases e
 | some x =>
  rw[e1] at e;dsimp only at e;cases e2:pb ρ with
  | none=>rw[e2] at e;cases e
  | some y =>
   rw[e2] at e;refine f z s e1 λ{v m n o} a i=>?_;refine h a.wf.zd (a.slots z s) e2 λ{u p q t} b j=>?_;exact c b.wf.zd (b.rep a.wf.zd i) j e λl=>k (a.pair b) l
theorem jkC{r:V->Hp->VK->Prop}{g:D->Option D}{ta:TE}{pa:PF}(b:BU R r g)(c:PB R ta pa):PP R (tUn r ta) (p1 g pa):=by
 intro σ ρ Z H O d z s e Q k;unfold p1 at e;cases e1:pa ρ with
 | none=>rw[e1] at e;cases e
 | some x =>
  rw[e1] at e;exact c z s e1 λ{v j l m} a f=>b a.wf.zd f e λh i=>k (by simpa using a.pair h) i
noncomputable def pN:PAf:=λ_=>some []
noncomputable def jb(pa:PF)(pr:PAf):PAf:=λρ=>match pa ρ with
 | none=>none
 | some x=>match pr ρ with
  | none=>none
  | some xs=>some (x::xs)
theorem pps_nil:PPs R K9 pN:=by
 intro σ ρ Z H O d z s e Q k;cases e;exact k (Go.id z) Reps.empty
theorem pps_cons{ta:TE}{pa:PF}{tr:TA}{pr:PAf}(c:PP R ta pa)(f:PPs R tr pr):PPs R (vd ta tr) (jb pa pr):=by
 intro σ ρ Z H O d z s e Q k;unfold jb at e;cases e1:pa ρ with
 | none=>rw[e1] at e;cases e
 | some x =>
  rw[e1] at e;dsimp only at e;cases e2:pr ρ with
  | none=>rw[e2] at e;cases e
  | some i =>
   rw[e2] at e;cases e;refine c z s e1 λ{v j l m} a g=>?_;refine f a.wf.zd (a.slots z s) e2 λ{u n o p} b h=>?_;exact k (a.pair b) (.cons (b.rep a.wf.zd g) h)
theorem jcc:PBs R K9 pN:=pps_nil.b
theorem jc4{ta:TE}{pa:PF}{tr:TA}{pr:PAf}(c:PB R ta pa)(f:PBs R tr pr):PBs R (vd ta tr) (jb pa pr):=by
 intro σ ρ Z H O d z s e Q k;unfold jb at e;cases e1:pa ρ with
 | none=>rw[e1] at e;cases e
 | some x =>
  rw[e1] at e;dsimp only at e;cases e2:pr ρ with
  | none=>rw[e2] at e;cases e
  | some i =>
   rw[e2] at e;cases e;refine c z s e1 λ{v j l m} a g=>?_;refine f a.wf.zd (a.slots z s) e2 λ{u n o p} b h=>?_;exact k (a.pair b) (.cons (b.rep a.wf.zd g) h)
noncomputable def pCB(g:List D->Option D)(pa:PAf):PF:=λρ=>match pa ρ with
 | none=>none
 | some xs=>g xs
theorem jjn{r:List V->Hp->VK->Prop}{g:List D->Option D}{ta:TA}{pa:PAf}(b:BC R r g)(c:PBs R ta pa):PP R (tCB r ta) (pCB g pa):=by
 intro σ ρ Z H O d z s e Q k;unfold pCB at e;cases e1:pa ρ with
 | none=>rw[e1] at e;cases e
 | some x =>
  rw[e1] at e;exact c z s e1 λ{v j l m} a f=>b a.wf.zd f e λh i=>k (by simpa using a.pair h) i
noncomputable def lim(n:Nat):Bool:=decide (n<=100000)
theorem VX{n:Nat}(h:lim n=true):n<=sizeLine:=U0 (X5 h) (by decide)
theorem uN{n:Nat}(h:lim n=true):n < sizeLine:=Nat.lt_of_le_of_lt (X5 h) (by decide)
noncomputable def jhv(pa:PAf):PF:=pCB (λxs=>bif lim xs.length then some (.tup xs) else none) pa
noncomputable def vL(pa:PAf):PF:=pCB (λxs=>bif lim xs.length then some (.lst true xs) else none) pa
theorem jir{ta:TA}{pa:PAf}(f:PPs R ta pa):PP R (jkS ta) (jhv pa):=by
 intro σ ρ Z H O d z s e Q k;unfold jhv pCB at e;cases e1:pa ρ with
 | none=>rw[e1] at e;cases e
 | some g =>
  rw[e1] at e;dsimp only at e;cases hl:lim g.length with
  | false=>rw[hl] at e;cases e
  | true =>
   rw[hl] at e;cases e;exact f z s e1 λ{v h i j} a b=>⟨by rw[b.length];exact VX hl,λp c=>k (a.trans (Go.newF a.wf c)) (Rep.tupNew a.wf c b)⟩
theorem jja{ta:TA}{pa:PAf}(f:PPs R ta pa):PP R (jkZ ta) (vL pa):=by
 intro σ ρ Z H O d z s e Q k;unfold vL pCB at e;cases e1:pa ρ with
 | none=>rw[e1] at e;cases e
 | some g =>
  rw[e1] at e;dsimp only at e;cases hl:lim g.length with
  | false=>rw[hl] at e;cases e
  | true =>
   rw[hl] at e;cases e;exact f z s e1 λ{v h i j} a b=>⟨by rw[b.length];exact VX hl,λp c=>k (a.trans (Go.newO a.wf c)) (Rep.lstNew a.wf c b)⟩
noncomputable def jp(pa:PF):PTf:=λρ=>match pa ρ with
 | some (.bl b)=>some b
 | _=>none
noncomputable def jcT(pa pb:PTf):PTf:=λρ=>match pa ρ with
 | none=>none
 | some b=>bif b then pb ρ else some false
noncomputable def qOr(pa pb:PTf):PTf:=λρ=>match pa ρ with
 | none=>none
 | some b=>bif b then some true else pb ρ
noncomputable def uI(pa:PTf):PTf:=λρ=>match pa ρ with
 | none=>none
 | some b=>some (!b)
theorem KZ{ta:TE}{pa:PF}(a:PB R ta pa):PTt R (jbV ta) (jp pa):=by
 intro σ ρ Z H O b z s e Q k;unfold jp at e;split at e
 ·rename_i c d;cases e;refine a z s d λ{v h i j} f g=>?_;obtain⟨rfl,rfl⟩:=g.bl_of;exact⟨b,rfl,k f⟩
 ·cases e
theorem jis{ta tb:TT}{pa pb:PTf}(d:PTt R ta pa)(f:PTt R tb pb):PTt R (jk1 ta tb) (jcT pa pb):=by
 intro σ ρ Z H O b z s e Q k;unfold jcT at e;cases e1:pa ρ with
 | none=>rw[e1] at e;cases e
 | some c =>
  rw[e1] at e;dsimp only at e;refine d z s e1 λ{h i} a=>?_;cases c with
  | true=>exact jeL (f a.wf.zd (a.slots z s) e λg=>k (a.pair g))
  | false=>cases e;exact jev (k a)
theorem jk7{ta tb:TT}{pa pb:PTf}(d:PTt R ta pa)(f:PTt R tb pb):PTt R (tOr ta tb) (qOr pa pb):=by
 intro σ ρ Z H O b z s e Q k;unfold qOr at e;cases e1:pa ρ with
 | none=>rw[e1] at e;cases e
 | some c =>
  rw[e1] at e;dsimp only at e;refine d z s e1 λ{h i} a=>?_;cases c with
  | true=>cases e;exact jeL (k a)
  | false=>exact jev (f a.wf.zd (a.slots z s) e λg=>k (a.pair g))
theorem jha{ta:TT}{pa:PTf}(a:PTt R ta pa):PTt R (jli ta) (uI pa):=by
 intro σ ρ Z H O b z s e Q k;unfold uI at e;cases e1:pa ρ with
 | none=>rw[e1] at e;cases e
 | some c =>
  rw[e1] at e;cases e;exact a z s e1 λ{f g} d=>k d
noncomputable def jcS(pa pb:PF):PF:=λρ=>match pa ρ with
 | some (.bl b)=>bif b then pb ρ else some (.bl false)
 | _=>none
noncomputable def jhu(pa:PF):PF:=λρ=>match pa ρ with
 | some (.bl b)=>some (.bl (!b))
 | _=>none
theorem jh4{ta tb:TE}{pa pb:PF}(b:PB R ta pa)(f:PP R tb pb):PP R (jhj ta tb) (jcS pa pb):=by
 intro σ ρ Z H O d z s e Q k;unfold jcS at e;split at e
 ·rename_i c g;refine b z s g λ{v l m n} a h=>?_;obtain⟨rfl,rfl⟩:=h.bl_of;refine⟨c,rfl,?_⟩;cases c with
  | true=>exact jeL (f a.wf.zd (a.slots z s) e λi j=>k (by simpa using a.pair i) j)
  | false=>cases e;exact jev (k a .bl_mk)
 ·cases e
theorem jiE{ta:TE}{pa:PF}(a:PB R ta pa):PP R (jf9 ta) (jhu pa):=by
 intro σ ρ Z H O d z s e Q k;unfold jhu at e;split at e
 ·rename_i c b;cases e;refine a z s b λ{v h i j} f g=>?_;obtain⟨rfl,rfl⟩:=g.bl_of;exact⟨c,rfl,k f .bl_mk⟩
 ·cases e
noncomputable def pIf(pt:PTf)(pa pb:PF):PF:=λρ=>match pt ρ with
 | none=>none
 | some b=>bif b then pa ρ else pb ρ
theorem jlh{g:TT}{ta tb:TE}{pt:PTf}{pa pb:PF}(h:PTt R g pt)(i:PP R ta pa)(j:PP R tb pb):PP R (tIf g ta tb) (pIf pt pa pb):=by
 intro σ ρ Z H O d z s e Q k;unfold pIf at e;cases e1:pt ρ with
 | none=>rw[e1] at e;cases e
 | some c =>
  rw[e1] at e;dsimp only at e;refine h z s e1 λ{l m} a=>?_;cases c with
  | true=>exact jeL (i a.wf.zd (a.slots z s) e λb f=>k (by simpa using a.pair b) f)
  | false=>exact jev (j a.wf.zd (a.slots z s) e λb f=>k (by simpa using a.pair b) f)
noncomputable def Vo(g g':D->D->Option D)(pa pb pc:PF):PF:=λρ=>match pa ρ with
 | none=>none
 | some x=>match pb ρ with
  | none=>none
  | some y=>match g x y with
   | some (.bl b)=>bif b then(match pc ρ with
    | none=>none
    | some w=>g' y w) else some (.bl false)
   | _=>none
theorem jdu{r m:R2}{g g':D->D->Option D}{ta tb tc:TE}{pa pb pc:PF}(o:BO R r g)(i:BO R m g')(p:PB R ta pa)(q:PB R tb pb)(t:PB R tc pc):PP R (jbh r m ta tb tc) (Vo g g' pa pb pc):=by
 intro σ ρ Z H O d z s e Q k;unfold Vo at e;cases e1:pa ρ with
 | none=>rw[e1] at e;cases e
 | some x =>
  rw[e1] at e;dsimp only at e;cases e2:pb ρ with
  | none=>rw[e2] at e;cases e
  | some y =>
   rw[e2] at e;dsimp only at e;refine p z s e1 λ{v G I J} c w=>?_;refine q c.wf.zd (c.slots z s) e2 λ{u K L M} f n=>?_;have j:=c.pair f;split at e
   ·rename_i b A;refine o f.wf.zd (f.rep c.wf.zd w) n A λ{N Z3 P S} h B=>?_;obtain⟨rfl,rfl⟩:=B.bl_of;have a:=j.pair h;refine⟨b,rfl,?_⟩;cases b with
    | false=>cases e;exact jev (k (by simpa using a) .bl_mk)
    | true =>
     refine jeL ?_;cases e4:pc ρ with
     | none=>rw[cond_true,e4] at e;cases e
     | some T =>
      rw[cond_true,e4] at e;refine t h.wf.zd (a.slots z s) e4 λ{U V W X} l C=>?_;exact i l.wf.zd (l.rep h.wf.zd (h.rep f.wf.zd n)) C e λE F=>k (by simpa using(a.pair l).pair E) F
   ·cases e
end
section
variable {R:RC}{Z Z':Zn}{H H':Hp}{pm:List Nat}
def jhp(R:RC)(J:It)(Z:Zn)(H:Hp)(xs:List D):Prop:=∀{Z1:Zn}{H1:Hp},(∀ a,Z a->Z1 a)->(∀ a,Z a->H1 a=H a)->Zd Z1 H1->∀ i:Nat,
 (xs.length<=i->J.stop i H1)/\∀ x,xs[i]?=some x->J.go i H1/\∀ u H2,J.yld i H1 u H2->∃ Z2,Go Z1 H1 [] Z2 H2 []/\Rep R Z2 H2 x u []
def PIt(R:RC)(wi:TI)(p:PAf):Prop:=∀{σ:St}{ρ:Rh}{Z:Zn}{H:Hp}{O:List Addr}{xs:List D},Zd Z H->Slots R Z H ρ σ O->p ρ=some xs ->
 ∀{Q:It->Hp->Prop},(∀{J:It}{Z':Zn}{H':Hp},Go Z H [] Z' H' []->jhp R J Z' H' xs->Q J H')->wi σ H Q
noncomputable def jhA(K:PySem.W.Frag)(tl:TE):TI:=λσ H Q=>tl σ H λx H1 =>
 (∃ a,x=.ref a/\(∃ xs,SqL K H1 a xs)/\Q (Itl K a) H1) \/ (∃ a,x=.ref a/\(∃ xs,SqT K H1 a xs)/\Q (Itt K a) H1) \/ ∃ l,x=.str (S l)/\Q (Its l) H1
theorem jfd{X:Cx}{tg l:Expr}{tl:TE}(B:PE X l tl):PI X tg l (jhA X.K tl):=by
 intro d s σ H Q I h;have n:∀ v c,EP X d σ (λx g=>(∃ a,x=.ref a/\(∃ j,SqL X.K g a j)/\Q (Itl X.K a) g) \/ (∃ a,x=.ref a/\(∃ j,SqT X.K g a j)/\Q (Itt X.K a) g) \/ ∃ l,x=.str (S l)/\Q (Its l) g) v c->wpAny (model X.prog X.w) X.A (pyIter v) (PIE X d σ tg Q) X.xe c:=by
  rintro v c ⟨x,g,f,r,C⟩
  -- each by the layer's own rule,at a name that holds the value
  rcases C with⟨a,rfl,⟨j,u⟩,q⟩ | ⟨a,rfl,⟨j,u⟩,q⟩ | ⟨l,rfl,q⟩
  ·cases r;obtain⟨k,D,p,E⟩:=f.list u;refine wpAny_pyIter_list p.isList ?_;refine⟨c.heap.objs.size,[c.heap.objs.size],_,_,g,rfl,f.kept (t':=c.toks) λb o e=>M4 _ e,jbK a _,⟨_,X9 _ rfl,rfl,rfl⟩,λb m=>?_,q⟩;have e:b=c.heap.objs.size:=by simpa using m
   subst e;exact f.fpOk (N3 _) (f.hok.fresh (N3 _))
  ·cases r;obtain⟨k,D,p,E⟩:=f.tuple u;refine wpAny_pyIter_tuple (show c.heap.IsTuple a k.toArray from p) ?_;refine⟨c.heap.objs.size,[c.heap.objs.size],_,_,g,rfl,f.kept (t':=c.toks) λb o e=>M4 _ e,jaI a _,⟨_,X9 _ rfl,rfl,rfl⟩,λb m=>?_,q⟩;have e:b=c.heap.objs.size:=by simpa using m
   subst e;exact f.fpOk (N3 _) (f.hok.fresh (N3 _))
  ·obtain⟨t,rfl⟩:=r;have fin:∀(ty:String),(ty = "str_ascii_iterator" \/ ty = "str_iterator")->(∀ A:Around,A.handled=none->Walks X.prog X.w A c.heap.objs.size [c.heap.objs.size] [c.heap.objs.size] (S l).cps.size (SignAt (S l)) (λi h=>h.IsStrIter c.heap.objs.size ty (S l) t i)) ->
     PIE X d σ tg Q (.ref c.heap.objs.size) { c with heap:=c.heap.push { cls:=.type ty,data:=.fields #[.str (S l) t,.int 0 0] } }:=λty y W=>by
    refine⟨c.heap.objs.size,[c.heap.objs.size],_,_,g,rfl,f.kept (t':=c.toks) λb o e=>M4 _ e,jec _ l t ty y W,⟨_,X9 _ rfl,rfl,rfl⟩,λb m=>?_,q⟩;have e:b=c.heap.objs.size:=by simpa using m
    subst e;exact f.fpOk (N3 _) (f.hok.fresh (N3 _))
   cases ha:(S l).cps.all (· < 128)
   ·exact wpAny_pyIter_wide ha (fin _ (.inr rfl) λF z=>Walks.strWide z _ (S l) t)
   ·exact wpAny_pyIter_ascii ha (fin _ (.inl rfl) λF z=>Walks.strAscii z _ (S l) t)
 exact thn (B d s σ H _ I h) n
noncomputable def K4:D->Option (List D)
 | .lst _ l=>some (fzs l)
 | .tup l=>some (fzs l)
 | .str s=>some (s.map λc=>.str [c])
 | _=>none
noncomputable def pIt(p:PF):PAf:=λρ=>match p ρ with
 | none=>none
 | some d=>K4 d
theorem jiD{a:Addr}{vs:List V}{l:List D}(h:FL R Z H a vs)(r:Reps R Z H l vs []):jhp R (Itl R.K a) Z H l:=by
 intro d k f g zd i;have b:=(h.frame f g).sq;have m:Reps R d k l vs []:=r.frame f g λa n=>(nomatch n);refine⟨λo=>⟨vs,b,by rw[r.length];exact o⟩,λx p=>?_⟩;obtain⟨v,j,q⟩:=m.item p;refine⟨⟨vs,v,b,j⟩,λu s c=>?_⟩;obtain⟨rfl,c⟩:=c;have e:=c vs b;rw[j] at e;cases e;exact⟨d,Go.id zd,q⟩
theorem jiB{a:Addr}{vs:List V}{l:List D}(h:FT R Z H a vs)(r:Reps R Z H l vs []):jhp R (Itt R.K a) Z H l:=by
 intro d k f g zd i;have b:=(h.frame f g).sq;have m:Reps R d k l vs []:=r.frame f g λa n=>(nomatch n);refine⟨λo=>⟨vs,b,by rw[r.length];exact o⟩,λx p=>?_⟩;obtain⟨v,j,q⟩:=m.item p;refine⟨⟨vs,v,b,j⟩,λu s c=>?_⟩;obtain⟨rfl,c⟩:=c;have e:=c vs b;rw[j] at e;cases e;exact⟨d,Go.id zd,q⟩
theorem jeJ{s:List Nat}:jhp R (Its s) Z H (s.map λc=>.str [c]):=by
 intro d h j k zd i;refine⟨λf=>by show s.length<=i;simpa using f,λx a=>?_⟩;rw[List.getElem?_map] at a;cases e:s[i]? with
 | none=>rw[e] at a;cases a
 | some c =>
  rw[e] at a;cases a;refine⟨(M5.mp e).1,λu l g=>?_⟩;obtain⟨rfl,m,b,rfl⟩:=g;rw[e] at b;cases b;exact⟨d,Go.id zd,.str_mk⟩
theorem Go.fz{P:List Addr}(g:Go Z H [] Z' H' P):Go Z H [] (λa=>Z' a \/ a∈P) H' []:=g.trans (Go.freeze g.wf)
theorem jk3{te:TE}{p:PF}(h:PP R te p):PIt R (jhA R.K te) (pIt p):=by
 intro σ ρ Z H O q z s e Q k;unfold pIt at e;cases e1:p ρ with
 | none=>rw[e1] at e;cases e
 | some d =>
  rw[e1] at e;refine h z s e1 λ{v m r n} f j=>?_;have c:=j.freeze (Z':=λa=>m a \/ a∈n) (λa z=>.inl z) λa z=>.inr z;cases d with
  | lst o l =>
   cases e;rw[fz,Rep] at c;obtain⟨a,g,u,rfl,i,b,rfl,_⟩:=c;exact .inl ⟨a,rfl,⟨g,FL.sq b⟩,k f.fz (jiD b i)⟩
  | tup l =>
   cases e;rw[fz,Rep] at c;obtain⟨a,g,rfl,b,i⟩:=c;exact .inr (.inl ⟨a,rfl,⟨g,FT.sq b⟩,k f.fz (jiB b i)⟩)
  | str t =>
   cases e;obtain⟨rfl,rfl⟩:=j.str_of;exact .inr (.inr ⟨t,rfl,k f jeJ⟩)
  | _=>cases e
noncomputable def Qe(lo:Int)(n:Nat):List D:=(List.range n).map λ(i:Nat)=>D.int (lo+(i:Int))
theorem jhL{lo:Int}{n:Nat}:jhp R (Itr lo n) Z H (Qe lo n):=by
 intro c e f g zd i;refine⟨λb=>by show n<=i;simpa [Qe] using b,λx a=>?_⟩;unfold Qe at a;rw[List.getElem?_map] at a;by_cases b:i < n
 ·rw[List.getElem?_range b] at a;cases a;refine⟨b,λu h d=>?_⟩;obtain⟨rfl,rfl⟩:=d;exact⟨c,Go.id zd,.int_mk⟩
 ·rw[List.getElem?_eq_none (by simpa using b)] at a;cases a
noncomputable def QR(i:Int):Bool:=Nat.ble i.natAbs 4611686018427387903
theorem xB{i:Int}(h:QR i=true):-(2 ^ 62)<=i/\i < 2 ^ 62:=by
 have h:=Nat.le_of_ble_eq_true h;constructor<;>omega
noncomputable def zI(p:PAf):PAf:=λρ=>match p ρ with
 | some [.int j]=>bif QR j then some (Qe 0 j.toNat) else none
 | _=>none
theorem Reps.one_of{d:D}{vs:List V}{O:List Addr}(r:Reps R Z H [d] vs O):∃ v,vs=[v]/\Rep R Z H d v O:=by
 rw[Reps] at r;obtain⟨v,b,O1,O2,rfl,rfl,c,a⟩:=r;rw[Reps] at a;obtain⟨rfl,rfl⟩:=a;exact⟨v,rfl,by simpa using c⟩
theorem Reps.two_of{d e:D}{vs:List V}{O:List Addr}(r:Reps R Z H [d,e] vs O):∃ v u O1 O2,vs=[v,u]/\O=O1++O2/\Rep R Z H d v O1/\Rep R Z H e u O2:=by
 rw[Reps] at r;obtain⟨v,a,O1,O2,rfl,rfl,b,c⟩:=r;obtain⟨u,rfl,f⟩:=c.one_of;exact⟨v,u,O1,O2,rfl,rfl,b,f⟩
theorem jg1{ta:TA}{p:PAf}(h:PBs R ta p):PIt R (jfq ta) (zI p):=by
 intro σ ρ Z H O f z s e Q k;unfold zI at e;split at e
 ·rename_i j a;cases hs:QR j with
  | false=>rw[hs] at e;cases e
  | true =>
   rw[hs] at e;cases e;refine h z s a λ{v g i l} b c=>?_;obtain⟨u,rfl,d⟩:=c.one_of;obtain⟨rfl,_⟩:=d.int_of;exact⟨j,rfl,(xB hs).1,(xB hs).2,k b jhL⟩
 ·cases e
def PGt(R:RC)(pm:List Nat)(tg:TG)(f:D->Rh->Option Rh):Prop:=∀{σ:St}{ρ ρ':Rh}{Z:Zn}{H:Hp}{O:List Addr}{d:D}{v:V},Rep R Z H d v []->Slots R Z H ρ σ O->f d ρ=some ρ' ->
 ∀{Q:St->Hp->Prop},(∀{σ':St}{O':List Addr},(∀ a∈O',a∈O)->(O.Nodup->O'.Nodup)->Slots R Z H ρ' σ' O'->Keep pm σ σ'->Q σ' H)->tg v σ H Q
def jiv(R:RC)(pm:List Nat)(tg:TGs)(f:List D->Rh->Option Rh):Prop:=∀{σ:St}{ρ ρ':Rh}{Z:Zn}{H:Hp}{O:List Addr}{ds:List D}{vs:List V},Reps R Z H ds vs []->Slots R Z H ρ σ O->f ds ρ=some ρ' ->
 ∀{Q:St->Hp->Prop},(∀{σ':St}{O':List Addr},(∀ a∈O',a∈O)->(O.Nodup->O'.Nodup)->Slots R Z H ρ' σ' O'->Keep pm σ σ'->Q σ' H)->tg vs σ H Q
theorem jei{i:Nat}:PGt R pm (zS i) (jB pm i):=by
 intro σ ρ m Z H O d v r h e Q k;unfold jB at e;by_cases c:i < ρ.length
 ·by_cases f:i∈pm
  ·rw[X3 f] at e;simp at e
  ·rw[X3 c,X4 f] at e;cases e;obtain⟨A,n,B,rfl,o,g,p⟩:=h.put c;refine k (O':=A++[]++B) (λa q=>?_) (λnd=>?_) (g r (λ_ z=>z) (λ_ _=>rfl) (λ_ _=>rfl) (λ_ _=>rfl)) (Keep.set f)
   ·simp at q ⊢;rcases q with q | q<;>simp[q]
   ·simp only[X1,N6] at nd;simp only[N4,X1];exact⟨nd.1.1,nd.2.1,λa j b l e=>nd.2.2 a (.inl j) b l e⟩
 ·rw[X4 c] at e;simp at e
theorem jd2:jiv R pm jkM gN:=by
 intro σ ρ c Z H O b d r h e Q k;unfold gN at e;cases b with
 | cons _ _=>cases e
 | nil =>
  cases e;rw[Reps] at r;obtain⟨rfl,_⟩:=r;exact⟨rfl,k (λa h=>h) (λh=>h) h (Keep.refl _ _)⟩
theorem jbJ{t:TG}{u:TGs}{g:D->Rh->Option Rh}{c:List D->Rh->Option Rh}(i:PGt R pm t g)(j:jiv R pm u c):jiv R pm (jgA t u) (gC g c):=by
 intro σ ρ B Z H O f C r h e Q k;unfold gC at e;cases f with
 | nil=>cases e
 | cons d f =>
  dsimp only at e;cases e1:g d ρ with
  | none=>rw[e1] at e;cases e
  | some E =>
   rw[e1] at e;dsimp only at e;rw[Reps] at r;obtain⟨v,b,O1,O2,rfl,l,m,n⟩:=r;obtain⟨rfl,rfl⟩:=List.append_eq_nil_iff.mp l.symm;exact⟨v,b,rfl,i m h e1 λo p s w=>j n s e λx y z A=>k (λa q=>o a (x a q)) (λq=>y (p q)) z (w.trans A)⟩
theorem jfs{n:Nat}{u:TGs}{c:List D->Rh->Option Rh}(g:jiv R pm u c):PGt R pm (jk8 R.K n u) (gT n c):=by
 intro σ ρ m Z H O d v r h e Q k;cases d with
 | tup l =>
  unfold gT at e;dsimp only at e;by_cases b:l.length=n
  ·rw[X3 b,cond_true] at e;rw[Rep] at r;obtain⟨a,i,rfl,j,f⟩:=r;exact⟨a,i,rfl,j.sq,by rw[f.length];exact b,g f h e k⟩
  ·rw[X4 b,cond_false] at e;cases e
 | _=>cases e
noncomputable def vF(g:D->Rh->Option Rh)(f:FS):List D->FS
 | [],ρ=>some (.nx ρ)
 | x::xs,ρ=>match g x ρ with
  | none=>none
  | some ρ1=>match f ρ1 with
   | none=>none
   | some (.nx ρ2)=>vF g f xs ρ2
   | some (.ct ρ2)=>vF g f xs ρ2
   | some (.bk ρ2)=>some (.nx ρ2)
   | some (.rt d ρ2)=>some (.rt d ρ2)
noncomputable def zZ(p:PAf)(g:D->Rh->Option Rh)(f:FS):FS:=λρ=>match p ρ with
 | none=>none
 | some xs=>vF g f xs ρ
theorem Vl{α:Type}{l:List α}{i:Nat}{x:α}(h:l[i]?=some x):l.drop i=x::l.drop (i+1):=by
 obtain⟨a,rfl⟩:=M5.mp h;exact List.drop_eq_getElem_cons a
theorem jeU{wi:TI}{tg:TG}{tb:TS}{p:PAf}{g:D->Rh->Option Rh}{f:FS}(hi:PIt R wi p)(hg:PGt R pm tg g)(hf:DS R pm tb f):DS R pm (jjb wi tg tb) (zZ p g f):=by
 intro σ ρ Z H O o w s e D' k;unfold zZ at e;cases e1:p ρ with
 | none=>rw[e1] at e;cases e
 | some c =>
  rw[e1] at e;dsimp only at e;refine hi w.zd s e1 λ{J x L} V it=>?_;have h:Go Z H O x L O:=by simpa using V.widen w
  refine⟨λi m P y=>m=c.length - i/\i<=c.length/\∃ M A B,Go x L O A y B/\Slots R A y M P B/\Keep pm σ P/\vF g f (c.drop i) M=some o,
   ⟨c.length,rfl,U8 _,ρ,x,O,Go.refl h.wf,V.slots w.zd s,Keep.refl _ _,e⟩,?_⟩
  rintro i m P y ⟨rfl,hi',M,A,B,l,W,kp,b⟩;have C:=it (Z1:=A) (H1:=y) l.zz (λa z=>l.zH h.wf a z) l.wf.zd i;by_cases E:i < c.length
  ·right
   have X:c[i]?=some c[i]:=by simp[E]
   obtain⟨go,yl⟩:=C.2 _ X;rw[Vl X] at b;unfold vF at b;cases e3:g c[i] M with
   | none=>rw[e3] at b;cases b
   | some ρ1 =>
    rw[e3] at b;dsimp only at b;cases e4:f ρ1 with
    | none=>rw[e4] at b;cases b
    | some o1 =>
     rw[e4] at b;refine⟨go,λQ n=>∃ j q O2,Go x L O q n O2/\Slots R q n j Q O2/\Keep pm σ Q/\vF g f (c.drop (i+1)) j=some o,λQ n ⟨j,q,O2,a1,a2,a3,a4⟩=>⟨c.length - (i+1),by omega,rfl,E,j,q,O2,a1,a2,a3,a4⟩,λu n hy=>?_⟩;obtain⟨q,Y,r2⟩:=yl u n hy;have F:Go A y B q n B:=by simpa using Y.widen l.wf
     refine hg r2 (Y.slots l.wf.zd W) e3 λ{σ3 O3} sub nd s3 N=>?_;have G:Go x L O q n O3:=(l.trans F).drop sub (nd F.wf.nd);refine hf G.wf s3 e4 ?_;cases o1 with
     | nx j=>exact λ{S I T K} r t v=>⟨j,I,K,G.trans r,t,kp.trans (N.trans v),b⟩
     | ct j=>exact λ{S I T K} r t v=>⟨j,I,K,G.trans r,t,kp.trans (N.trans v),b⟩
     | bk j=>cases b;exact λ{S I T K} r t v=>k (h.trans (G.trans r)) t (kp.trans (N.trans v))
     | rt d j=>cases b;exact λ{v4 S I T P4 K} r r4 t v=>k (h.trans (G.trans r)) r4 t (kp.trans (N.trans v))
  ·left
   have U:i=c.length:=by omega
   refine⟨C.1 (by omega),?_⟩;rw[U,List.drop_length] at b;cases b;exact k (h.trans l) W kp
noncomputable def y6(ix:List (Option Nat))(ρ:Rh):Rh:=ix.map λo=>o.bind λj=>(ρ[j]?).join
theorem KB{ρ:Rh}{σ:St}{O:List Addr}(s:Slots R Z H ρ σ O):∀ ix:List (Option Nat),∃ O',Slots R Z H (y6 ix ρ) (vI ix σ) O'
 | []=>⟨[],rfl,rfl⟩
 | o::ix=>by
  obtain⟨O',b⟩:=KB s ix;show ∃ O',Slots R Z H ((o.bind λj=>(ρ[j]?).join)::y6 ix ρ) ((o.bind λj=>(σ[j]?).join)::vI ix σ) O';cases e:o.bind λj=>(ρ[j]?).join with
  | none=>exact⟨O',_,_,rfl,b⟩
  | some d =>
   cases o with
   | none=>cases e
   | some j =>
    have a:(ρ[j]?).join=some d:=e;have c:ρ[j]?=some (some d):=by
     cases q:ρ[j]? with
     | none=>rw[q] at a;cases a
     | some u=>rw[q] at a;rw[show u=some d from a]
    obtain⟨A,P,B,_,f,_⟩:=s.put (M5.mp c).1;obtain⟨v,g,r⟩:=f d c;refine⟨P++O',v,_,P,O',?_,rfl,r,b⟩;show((σ[j]?).join::vI ix σ)=some v::vI ix σ;rw[g];rfl
noncomputable def qT:PTf:=λ_=>some true
theorem jgO:PTt R (λ_ H Q=>Q true H) qT:=by
 intro σ ρ Z H O b z s e Q k;cases e;exact k (Go.id z)
noncomputable def vQ(g:D->Rh->Option Rh)(q:PTf)(p:PF):List D->Rh->Option (List D)
 | [],_=>some []
 | x::xs,ρ=>match g x ρ with
  | none=>none
  | some ρ1=>match q ρ1 with
   | none=>none
   | some b=>bif b then(match p ρ1 with
    | none=>none
    | some y=>match vQ g q p xs ρ1 with
     | none=>none
     | some ys=>some (y::ys)) else vQ g q p xs ρ1
noncomputable def VO(pi:PAf)(g:D->Rh->Option Rh)(q:PTf)(p:PF)(ix:List (Option Nat)):PF:=λρ=>match pi ρ with
 | none=>none
 | some xs=>bif lim xs.length then(match vQ g q p xs (y6 ix ρ) with
  | none=>none
  | some ys=>some (.lst true ys)) else none
noncomputable def spP(R:RC)(m:List D->Option D)(n:Nat):Sp:=λvs H Q _=>∃ Z ds d,Zd Z H/\ds.length=n/\Reps R Z H ds vs []/\m ds=some d/\∀{v:V}{Z':Zn}{H':Hp}{P:List Addr},Go Z H [] Z' H' P->Rep R Z' H' d v P->Q v H'
noncomputable def fnP(n:Nat)(f:FS):List D->Option D:=λds=>match f (ds.map some++List.replicate (n - ds.length) none) with
 | some (.rt d _)=>some d
 | some (.nx _)=>some .non
 | _=>none
theorem VN:∀ n:Nat,Slots R Z H (List.replicate n none) (List.replicate n none) []
 | 0=>⟨rfl,rfl⟩
 | n+1=>⟨none,_,rfl,VN n⟩
theorem VE:∀{ds:List D}{vs:List V}{O:List Addr}{ρ:Rh}{σ:St}{P:List Addr},Reps R Z H ds vs O->Slots R Z H ρ σ P->Slots R Z H (ds.map some++ρ) (vs.map some++σ) (O++P)
 | [],_,_,_,_,_,r,s=>by rw[Reps] at r;obtain⟨rfl,rfl⟩:=r;exact s
 | d::ds,_,_,_,_,_,r,s=>by
  rw[Reps] at r;obtain⟨v,a,O1,O2,rfl,rfl,b,c⟩:=r;exact⟨v,_,O1,_,rfl,List.append_assoc ..,b,VE c s⟩
theorem jfC{N:List Str}{ts:TS}{f:FS}{vs:List V}{Q:VK}{E:XK}{n:Nat}(c:DS R [] ts f)(h:spP R (fnP N.length f) n vs H Q E):ts { nx:=λ_ H'=>Q .non H',rt:=Q } (L2.start N vs) H:=by
 obtain⟨Z,a,d,z,l,r,e,k⟩:=h;unfold fnP at e;have s:Slots R Z H (a.map some++List.replicate (N.length - a.length) none) (L2.start N vs) []:=by
  have q:=VE r (VN (R:=R) (Z:=Z) (H:=H) (N.length - a.length));unfold L2.start;rw[r.length];exact q
 split at e
 ·rename_i m i b;cases e;exact c (wf0 z) s b λg j _ _=>k g.dropR j
 ·rename_i i b;cases e;exact c (wf0 z) s b λg _ _=>k (P:=[]) g.to0 .non_mk
 ·cases e
theorem jgZ{m:List D->Option D}{n:Nat}{vs:List V}{Q:VK}{E:XK}(h:spP R m n vs H Q E):vs.length=n:=by
 obtain⟨Z,b,d,z,a,r,_⟩:=h;rw[r.length,a]
mutual
noncomputable def vf:D->Bool
 | .tup l=>yE l
 | .lst o l=>o&&yE l
 | .dK o _ l=>o&&yE l
 | .dT o _ l=>o&&yE l
 | .ins o _ _ l=>o&&yE l
 | .non=>true | .bl _=>true | .int _=>true | .str _=>true | .dead=>true | .exc _ _=>false
noncomputable def yE:List D->Bool
 | []=>true
 | d::l=>vf d&&yE l
end
mutual
theorem Rep.thaw(ht:∀ a vs,Z a->Rd H a (.tup vs)->Z' a):∀{d:D}{v:V}{O:List Addr},Rep R Z H d v O->vf d=true->Rep R Z' H d v O
 | .non,_,_,h,_=>by rw[Rep] at h ⊢;exact h
 | .bl _,_,_,h,_=>by rw[Rep] at h ⊢;exact h
 | .int _,_,_,h,_=>by rw[Rep] at h ⊢;exact h
 | .str _,_,_,h,_=>by rw[Rep] at h ⊢;exact h
 | .dead,_,_,h,_=>by rw[Rep] at h ⊢;exact h
 | .exc _ _,_,_,_,f=>by rw[vf] at f;cases f
 | .tup l,_,_,h,f=>by
  rw[Rep] at h ⊢;rw[vf] at f;obtain⟨a,vs,e,t,r⟩:=h;refine⟨a,vs,e,?_,Reps.thaw ht r f⟩;rcases t with⟨z,q⟩ | q
  ·exact .inl ⟨ht a vs z q,q⟩
  ·exact .inr q
 | .lst o l,_,_,h,f=>by
  rw[Rep] at h ⊢;rw[vf,M6] at f;obtain⟨a,vs,O',e,r,h⟩:=h;cases f.1;exact⟨a,vs,O',e,Reps.thaw ht r f.2,h⟩
 | .dK o ks l,_,_,h,f=>by
  rw[Rep] at h ⊢;rw[vf,M6] at f;obtain⟨a,vs,O',e,r,h⟩:=h;cases f.1;exact⟨a,vs,O',e,Reps.thaw ht r f.2,h⟩
 | .dT o ks l,_,_,h,f=>by
  rw[Rep] at h ⊢;rw[vf,M6] at f;obtain⟨a,vs,O',e,r,h⟩:=h;cases f.1;exact⟨a,vs,O',e,Reps.thaw ht r f.2,h⟩
 | .ins o c ns l,_,_,h,f=>by
  rw[Rep] at h ⊢;rw[vf,M6] at f;obtain⟨a,dx,vs,O',e,r,h⟩:=h;cases f.1;exact⟨a,dx,vs,O',e,Reps.thaw ht r f.2,h⟩
theorem Reps.thaw(ht:∀ a vs,Z a->Rd H a (.tup vs)->Z' a):∀{l:List D}{vs:List V}{O:List Addr},Reps R Z H l vs O->yE l=true->Reps R Z' H l vs O
 | [],_,_,h,_=>by rw[Reps] at h ⊢;exact h
 | d::l,_,_,h,f=>by
  rw[Reps] at h ⊢;rw[yE,M6] at f;obtain⟨v,vs,O1,O2,e,rfl,r1,r2⟩:=h;exact⟨v,vs,O1,O2,e,rfl,Rep.thaw ht r1 f.1,Reps.thaw ht r2 f.2⟩
end
mutual
theorem Rep.notTup:∀{d:D}{v:V}{O:List Addr},Rep R Z H d v O->∀ a∈O,∀ vs,¬ Rd H a (.tup vs)
 | .non,_,_,h,a,ha=>by rw[Rep] at h;rw[h.2] at ha;cases ha
 | .bl _,_,_,h,a,ha=>by rw[Rep] at h;rw[h.2] at ha;cases ha
 | .int _,_,_,h,a,ha=>by rw[Rep] at h;rw[h.2] at ha;cases ha
 | .str _,_,_,h,a,ha=>by rw[Rep] at h;rw[h.2] at ha;cases ha
 | .dead,_,_,h,a,ha=>by rw[Rep] at h;rw[h] at ha;cases ha
 | .exc _ _,_,_,h,a,ha=>by rw[Rep] at h;obtain⟨_,_,_,_,_,_,_,h⟩:=h;rw[h] at ha;cases ha
 | .tup l,_,_,h,a,ha=>by
  rw[Rep] at h;obtain⟨b,vs,e,t,r⟩:=h;exact Reps.notTup r a ha
 | .lst o l,_,_,h,a,ha=>by
  rw[Rep] at h;obtain⟨b,vs,O',e,r,h⟩:=h;cases o with
  | true =>
   obtain⟨h1,rfl⟩:=h;rcases M9.mp ha with e | e
   ·subst e;rintro ws (q | ⟨_,q⟩)<;>rw[h1] at q<;>cases q
   ·exact Reps.notTup r a e
  | false=>rw[h.2.2] at ha;cases ha
 | .dK o ks l,_,_,h,a,ha=>by
  rw[Rep] at h;obtain⟨b,vs,O',e,r,hl,hd,h⟩:=h;cases o with
  | true =>
   have h:=(show _=_ from h);subst h;rcases M9.mp ha with e | e
   ·subst e;rintro ws (q | ⟨_,q⟩)<;>rw[hd] at q<;>cases q
   ·exact Reps.notTup r a e
  | false=>rw[h.2.2] at ha;cases ha
 | .dT o ks l,_,_,h,a,ha=>by
  rw[Rep] at h;obtain⟨b,vs,O',e,r,hl,hd,h⟩:=h;cases o with
  | true =>
   have h:=(show _=_ from h);subst h;rcases M9.mp ha with e | e
   ·subst e;rintro ws (q | ⟨_,q⟩)<;>rw[hd] at q<;>cases q
   ·exact Reps.notTup r a e
  | false=>rw[h.2.2] at ha;cases ha
 | .ins o c ns l,_,_,h,a,ha=>by
  rw[Rep] at h;obtain⟨b,dx,vs,O',e,r,hl,hd,h⟩:=h;cases o with
  | true =>
   have h:=(show _=_ from h);subst h;rcases M9.mp ha with e | e
   ·subst e;rintro ws (q | ⟨_,q⟩)<;>rw[hd] at q<;>cases q
   ·exact Reps.notTup r a e
  | false=>rw[h.2.2] at ha;cases ha
theorem Reps.notTup:∀{l:List D}{vs:List V}{O:List Addr},Reps R Z H l vs O->∀ a∈O,∀ vs,¬ Rd H a (.tup vs)
 | [],_,_,h,a,ha=>by rw[Reps] at h;rw[h.2] at ha;cases ha
 | d::l,_,_,h,a,ha=>by
  rw[Reps] at h;obtain⟨v,vs,O1,O2,e,rfl,r1,r2⟩:=h;rcases N6.mp ha with q | q
  ·exact Rep.notTup r1 a q
  ·exact Reps.notTup r2 a q
end
noncomputable def jz(m:List D->Option D)(p:PAf):PF:=λρ=>match p ρ with
 | none=>none
 | some ds=>match m (fzs ds) with
  | none=>none
  | some d=>bif frzs ds||vf d then some d else none
theorem ur(l:List D):(fzs l).length=l.length:=by rw[qp,L4]
theorem jcg{m:List D->Option D}{ta:TA}{p:PAf}{n:Nat}(y:PBs R ta p)(A:∀ ρ ds,p ρ=some ds->ds.length=n):PP R (Qf (spP R m n) [] E0 ta) (jz m p):=by
 intro σ ρ Z H O d z s e Q k;unfold jz at e;cases e1:p ρ with
 | none=>rw[e1] at e;cases e
 | some ds =>
  rw[e1] at e;dsimp only at e;cases e2:m (fzs ds) with
  | none=>rw[e2] at e;cases e
  | some c =>
   rw[e2] at e;dsimp only at e;cases f:frzs ds||vf c with
   | false=>rw[f] at e;cases e
   | true =>
    rw[f] at e;cases e;refine y z s e1 λ{I i o j} r l=>?_;have B:=r.wf.zd;have C:Zd (λa=>i a \/ a∈j) o:=λa h=>h.elim (B a) (l.dom a);refine⟨λa=>i a \/ a∈j,fzs ds,d,C,by rw[ur];exact A ρ ds e1,by rw[N4];exact l.freeze (λa z=>.inl z) λa z=>.inr z,e2,λ{v t u P} b x=>?_⟩;rw[Bool.or_eq_true] at f;rcases f with f | f
    ·cases l.nil f;have g:Go i o [] t u P:=⟨b.wf,λa z=>b.zz a (.inl z),b.fr,λa z=>(b.zn a z).imp (λq=>q.resolve_right (λq=>(nomatch q))) id,b.sub,b.dm⟩;exact k (by simpa using r.pair g) x
    ·have g:Go i o [] (λa=>t a/\(a∉j \/ i a)) u P:=by
      refine⟨⟨b.wf.nd,λa h q=>b.wf.nz a h q.1,b.wf.od,λa q=>b.wf.zd a q.1⟩,λa z=>⟨b.zz a (.inl z),.inr z⟩,b.fr,λa z=>?_,b.sub,b.dm⟩;rcases b.zn a z.1 with(q | q) | q
      ·exact .inl q
      ·exact .inl (z.2.resolve_left λn=>n q)
      ·exact .inr q
     have E:Rep R (λa=>t a/\(a∉j \/ i a)) u d v P:=by
      refine x.thaw (λa F G ta=>⟨G,?_⟩) f;by_cases w:a∈j
      ·exact absurd (Rd.agree (b.same a (l.dom a w)).symm ta) (l.notTup a w F)
      ·exact .inl w
     exact k (by simpa using r.pair g) E
noncomputable def sFz(i:Nat)(f:FS):FS:=λρ=>match ρ[i]? with
 | some (some d)=>f (ρ.set i (some (fz d)))
 | _=>f ρ
theorem jkl{i:Nat}{t:TS}{f:FS}(h:DS R pm t f):DS R pm t (sFz i f):=by
 intro σ ρ Z H O o w s e m k;unfold sFz at e;split at e
 ·rename_i d hd;obtain⟨A,P,B,rfl,c,j,_⟩:=s.put (M5.mp hd).1;obtain⟨v,l,r⟩:=c d hd;have g:Go Z H (A++P++B) (λa=>Z a \/ a∈P) H (A++[]++B):=(Go.freeze w.mid).frame w;have b:=j (r.freeze (Z':=λa=>Z a \/ a∈P) (λa z=>.inl z) λa z=>.inr z) (λa z=>.inl z) (λ_ _=>rfl) (λ_ _=>rfl) (λ_ _=>rfl);rw[qF l] at b;exact h g.wf b e (k.pre g (Keep.refl _ _))
 ·exact h w s e k
noncomputable def jdX(i:Nat)(p:PF):FS:=λρ=>match p ρ with
 | none=>none
 | some d=>match ρ[i]? with
  | some (some (.lst true l))=>bif lim l.length then some (.nx (ρ.set i (some (.lst true (l++[d]))))) else none
  | _=>none
theorem jjF{i:Nat}{te:TE}{p:PF}(h:PP R te p):DS R pm (zq (tBM R.K "list" wN (V7 i) (vd te K9))) (jdX i p):=by
 intro σ ρ Z H O o w s e D' k;unfold jdX at e;cases e1:p ρ with
 | none=>rw[e1] at e;cases e
 | some d =>
  rw[e1] at e;dsimp only at e;split at e
  ·rename_i l V;cases hlim:lim l.length with
   | false=>rw[hlim] at e;cases e
   | true =>
    rw[hlim] at e;cases e;obtain⟨A,P,B,rfl,k1,k2,_⟩:=s.put (M5.mp V).1;obtain⟨v,W,r⟩:=k1 _ V;rw[Rep] at r;obtain⟨a,j,t,rfl,X,L,rfl⟩:=r;refine⟨.ref a,W,.inl ⟨rfl,j,SqL.of L⟩,?_⟩;refine h w.zd s e1 λ{u C m D} n r1=>?_;have M:m a=some (.lst j):=by rw[n.same a (by rw[L];exact λz=>(nomatch z))];exact L
    refine⟨a,j,u,rfl,rfl,M,by rw[X.length];exact uN hlim,?_⟩;have G:Go Z H (A++(a::t)++B) C m (A++(a::(t++D))++B):=by
     have q:=n.widen w;refine q.drop (λb c=>by simp at c ⊢;rcases c with c | c | c | c | c<;>simp[c]) ?_;have nd:=q.wf.nd;simp only[X1,N6,List.nodup_cons,M9,not_or] at nd ⊢;obtain⟨Y,⟨⟨N,⟨Q,n4⟩,I⟩,n6,E⟩,J⟩:=nd;refine⟨⟨N,⟨⟨Q,λq=>J a q a (.inl (.inr (.inl rfl))) rfl⟩,n4,Y,λx f y g e=>J y g x (.inl (.inr (.inr f))) e.symm⟩,λx f y g e=>?_⟩,n6,λx f y g e=>?_⟩
     ·rcases g with g | g | g
      ·exact I x f y (.inl g) e
      ·exact I x f y (.inr g) e
      ·exact J y g x (.inl (.inl f)) e.symm
     ·rcases f with f | f | f | f
      ·exact E x (.inl f) y g e
      ·exact E x (.inr (.inl f)) y g e
      ·exact E x (.inr (.inr f)) y g e
      ·exact J x f y (.inr g) e
    have gB:Go C m (A++(a::(t++D))++B) C (upd m a (.lst (j++[u]))) (A++(a::(t++D))++B):=Go.put G.wf (by simp);have nd:=G.wf.nd;simp only[X1,N6,List.nodup_cons,M9,not_or] at nd;obtain⟨⟨Y,⟨⟨N,Q⟩,n4⟩,I⟩,n6,E⟩:=nd;have F:∀ b,C b->upd m a (.lst (j++[u])) b=m b:=λb c=>jo λz=>G.wf.nz a (by simp) (z▸c);have hr:Rep R C (upd m a (.lst (j++[u]))) (.lst true (l++[d])) (.ref a) (a::(t++D)):=by
     rw[Rep];refine⟨a,j++[u],t++D,rfl,?_,jA,rfl⟩;refine((n.reps w.zd X).append (.one r1)).frame (λb z=>z) F λb c=>jo λz=>?_;subst z;rcases N6.mp c with q | q
     ·exact N q
     ·exact Q q
    have S:∀ b,Z b->upd m a (.lst (j++[u])) b=H b:=λb c=>by rw[F b (n.zz b c)];exact n.same b (w.zd b c)
    have T:∀ b∈A,upd m a (.lst (j++[u])) b=H b:=λb c=>by
     rw[jo λz=>I b c b (.inl z) rfl];exact n.same b (w.od b (by simp[c]))
    have U:∀ b∈B,upd m a (.lst (j++[u])) b=H b:=λb c=>by
     rw[jo λz=>E b (.inr (.inl z)) b c rfl];exact n.same b (w.od b (by simp[c]))
    have sl:=k2 hr (λb z=>n.zz b z) S T U;rw[qF W] at sl;exact k (G.trans gB) sl (Keep.refl _ _)
  ·cases e
end
end QD
namespace L2
open PySem PySem.Spec PyProof.Rows
section
variable {X:Cx}{pins:List (Addr×Obj)}{σ:St}{H:Hp}{s:Shared}{h':Heap}
theorem Inv.turnedNew{t':Nat}{wr:List Addr}{T:Addr}{xs:List V}{its:Array Value}(I:Inv X pins σ H s)(k:∀ b o,b∉wr->s.heap.get? b=some o->h'.get? b=some o)(g:∀ b∈wr,jaw X pins H b)
  (h:s.heap.objs.size<=T) (j:IsTupN h' T its) (l:Vals xs its.toList) (p:xs.length<=sizeLine):Inv X pins σ (upd H T (.tup xs)) { s with heap:=h',toks:=t' }:=by
 have t:=I.hok.fresh h;have i:∀ b u,H b=some u->b∉wr:=λb u e z=>by rw[(g b z).1] at e;cases e
 have d:∀ b u,H b=some u->b≠T:=λb u e z=>by rw[z,t] at e;cases e
 refine I.step (g':=s.gens) (d':=s.drawn) (ch:=wr) (λb f=>?_) (λb o _ _ a e _=>k b o a e) (λb o _ _ a e _=>⟨o.slots,k b o a e⟩) (λb o _ e n=>?_)
  (λb o a e=>⟨o,k b o a e⟩) (λb w e=>by rw[jo (d b _ e)];exact e) (λb o u e=>by rw[jo (d b _ e)];exact e) (λb G e=>⟨#[],by rw[jo (d b _ e),e];simp⟩) (λm x=>?_) (λb u e=>?_) I.bare
 ·obtain⟨_,y,_,A,B,C⟩:=g b f;exact⟨A,y,B,C⟩
 ·rw[jo (λz=>absurd (N5 e) (by rw[z];exact Nat.not_lt.mpr h))];exact n
 ·obtain⟨o,D,E,F,r⟩:=x;refine⟨o,D,E,k _ o (λz=>(g _ z).2.1 rfl) F,r⟩
 ·by_cases f:b=T
  ·subst f;rw[jA] at e;cases e;exact⟨p,its.toList,l,by simpa using j⟩
  ·rw[jo f] at e;refine(I.hok b u e).stay (λc v a q=>k c v ?_ q) (λc q=>by rw[jo (d c _ q)];exact q) λc w q=>by rw[jo (d c _ q)];exact q
   rcases a with z | z
   ·rw[z];exact i b u e
   ·exact i c _ z
theorem Inv.turnedL{t':Nat}{wr:List Addr}(I:Inv X pins σ H s)(k:∀ b o,b∉wr->s.heap.get? b=some o->h'.get? b=some o)(d:∀ b∈wr,jaw X pins H b):Inv X pins σ H { s with heap:=h',toks:=t' }:=by
 have f:∀ b u,H b=some u->b∉wr:=λb u e z=>by rw[(d b z).1] at e;cases e
 refine I.step (g':=s.gens) (d':=s.drawn) (ch:=wr) (λb g=>?_) (λb o _ _ a e _=>k b o a e) (λb o _ _ a e _=>⟨o.slots,k b o a e⟩) (λb o _ e n=>n)
  (λb o a e=>⟨o,k b o a e⟩) (λb y e=>e) (λb o u e=>e) (λb A e=>⟨#[],by rw[e];simp⟩) (λm h=>?_) (λb u e=>?_) I.bare
 ·obtain⟨_,i,_,j,l,p⟩:=d b g;exact⟨j,i,l,p⟩
 ·obtain⟨o,t,w,x,r⟩:=h;refine⟨o,t,w,k _ o (λz=>(d _ z).2.1 rfl) x,r⟩
 ·refine(I.hok b u e).stay (λc v a q=>k c v ?_ q) (λ_ q=>q) λ_ _ q=>q;rcases a with z | z
  ·rw[z];exact f b u e
  ·exact f c _ z
end
noncomputable def Itz(K:PySem.W.Frag)(l1 l2:Addr):It :=
 ⟨λi H=>∃ xs ys x y,SqL K H l1 xs/\SqL K H l2 ys/\xs[i]?=some x/\ys[i]?=some y,λi H x H'=>∃ p u v,(∀ xs,SqL K H l1 xs->xs[i]?=some u)/\(∀ ys,SqL K H l2 ys->ys[i]?=some v)/\x=.ref p/\H p=none/\H'=upd H p (.tup [u,v]),
  λi H=>∃ xs ys,SqL K H l1 xs/\SqL K H l2 ys/\min xs.length ys.length<=i⟩
theorem jd1{P:Program}{w:World}{K:PySem.W.Frag}{M:List Expr}{n:Nat}{pos:Pos}(z TI TO g j l1 V:Addr)(D:ZipApart z TI TO g j l1 V) :
  Turn P w K (.Tuple M n pos) (Itz K l1 V) [z,TI,TO,g,j] z (λi h=>IsZip h z TI TO .none/\IsPair h TI (.ref g) (.ref j)/\(∃ a b,IsPair h TO a b)/\h.IsListIter g l1 i/\h.IsListIter j V i) where
 mem:=by simp
 obj:=λi h st b t=>by
  obtain⟨l,m,⟨a,c,A⟩,⟨o4,B,_,d4⟩,⟨o5,C,_,d5⟩⟩:=st;rcases(by simpa using t:b=z \/ b=TI \/ b=TO \/ b=g \/ b=j) with q | q | q | q | q<;>subst q
  ·exact⟨_,l,λv q=>by cases q⟩
  ·exact⟨_,m,λv q=>by cases q⟩
  ·exact⟨_,A,λv q=>by cases q⟩
  ·exact⟨_,B,λv q=>by rw[d4] at q;cases q⟩
  ·exact⟨_,C,λv q=>by rw[d5] at q;cases q⟩
 keep:=λi h h' st k=>by
  obtain⟨l,m,⟨a,c,A⟩,B,C⟩:=st;exact⟨k z (by simp) _ l,k TI (by simp) _ m,⟨a,c,k TO (by simp) _ A⟩,B.at λo q=>k g (by simp) o q,C.at λo q=>k j (by simp) o q⟩
 item:=by
  intro X Y Z hK hc i N s σ H E I R st hg;subst Y Z hK;obtain⟨xs,ys,x,y,p,r,hx,hy⟩:=hg;obtain⟨F,J,p1,hz1⟩:=I.list p;obtain⟨G,L,p2,hz2⟩:=I.list r;obtain⟨u,hu,ru⟩:=J.get hx;obtain⟨v,hv,rv⟩:=L.get hy;obtain⟨l,m,⟨a,c,A⟩,B,C⟩:=st;refine wpAny_pyNext_zip_item D l m A B C p1.isList p2.isList (x:=u) (y:=v) (by simpa using hu) (by simpa using hv) λhh a1 a2 a3 a4 a5 a6 S=>?_;refine⟨_,rfl,wpAny_letOwnedTupleGo_zip (s:={ s with heap:=hh }) a1 λU hz6 f=>?_⟩;replace f:Heap.SameBut z hh U:=f;have lt:∀{c o},s.heap.get? c=some o->c < s.heap.objs.size:=λe=>N5 e;have O:U.get? s.heap.objs.size=_:=(f.2 _ (Nat.ne_of_gt (lt l))).trans a5;have kk:∀ b o,b∉[z,TI,TO,g,j]->s.heap.get? b=some o->U.get? b=some o:=λb o t q=>by
   have d:b≠z/\b≠TI/\b≠TO/\b≠g/\b≠j:=by simpa using t
   exact(f.2 b d.1).trans (S b o d.1 d.2.2.1 d.2.2.2.1 d.2.2.2.2 q)
  have I1:=I.turnedNew (h':=U) (t':=s.toks) (wr:=[z,TI,TO,g,j]) (T:=s.heap.objs.size) (xs:=[x,y]) (its:=#[u,v]) kk R (N3 _) ⟨⟨_,O,rfl,_,rfl⟩,_,O,rfl⟩ (.cons ru (.cons rv .nil)) (by show 2<=sizeLine;decide);refine⟨.ref s.heap.objs.size,_,I1,rfl,⟨_,x,y,(λzs hs=>by rw[I.list_inj hs p];exact hx),(λzs hs=>by rw[I.list_inj hs r];exact hy),rfl,I.hok.fresh (N3 _),rfl⟩,⟨hz6,(f.2 TI D.TIz).trans (S _ _ D.TIz D.TITO D.TIi1 D.TIi2 m),⟨_,_,(f.2 TO D.TOz).trans a2⟩,a3.at λo q=>(f.2 g D.i1z).trans q,a4.at λo q=>(f.2 j D.i2z).trans q⟩,λb t=>?_⟩;rw[jo]
  ·exact(R b t).1
  ·intro q;have:b < s.heap.objs.size:=by
    obtain⟨_,h4',_⟩:=id B;obtain⟨_,h5',_⟩:=id C;rcases(by simpa using t:b=z \/ b=TI \/ b=TO \/ b=g \/ b=j) with w | w | w | w | w<;>rw[w]
    ·exact lt l
    ·exact lt m
    ·exact lt A
    ·exact lt h4'
    ·exact lt h5'
   exact absurd this (by rw[q];exact Nat.lt_irrefl _)
 done:=by
  intro X Y Z hK hc i N s σ H E I R st hg;subst Y Z hK;obtain⟨xs,ys,p,r,hx⟩:=hg;obtain⟨F,J,p1,hz1⟩:=I.list p;obtain⟨G,L,p2,hz2⟩:=I.list r;obtain⟨l,m,⟨a,c,A⟩,B,C⟩:=st;have hl1:=J.length;have hl2:=L.length;have Q:F.toArray[i]?=none \/ G.toArray[i]?=none:=by
   rcases Nat.le_total xs.length ys.length with h | h
   ·exact .inl (by simp;lia)
   ·exact .inr (by simp;lia)
  exact wpAny_pyNext_zip_end (I.ok.hd hc) D l m A B C p1.isList p2.isList Q λhh S=>⟨rfl,I.turnedL (t':=s.toks) (wr:=[z,TI,TO,g,j]) (λb o t q=>by
   have d:b≠z/\b≠TI/\b≠TO/\b≠g/\b≠j:=by simpa using t
   exact S b o d.1 d.2.2.1 d.2.2.2.1 d.2.2.2.2 q) R⟩
 self:=λ_ _ _ _ _ st h=>wpAny_pyIter_zip st.1 h
theorem u1(n l1 a:Nat)(h1:l1 < n)(h2:a < n):ZipApart (n+4) (n+2) (n+3) n (n+1) l1 a:=by
 constructor<;>(show @Ne Nat _ _)<;>lia
noncomputable def jkR(K:PySem.W.Frag)(tl:TA):TI:=λσ H R=>tl σ H λvs H1=>∃ a b xs ys,vs=[.ref a,.ref b]/\SqL K H1 a xs/\SqL K H1 b ys/\R (Itz K a b) H1
section
variable {X:Cx}
theorem jiJ{f:List Expr}{n:Nat}{tpos p pos:Pos}{a b:Expr}{ta:TA}(E:Gl X "zip")(F:X.mg "zip" = none)(G:PA X [a,b] ta)(J:starEach [a,b] X.env=[(false,eval a X.env),(false,eval b X.env)]:=by rfl)(g:starEach [b] X.env=[(false,eval b X.env)]:=by rfl) :
  PI X (.Tuple f n tpos) (.Call (.Name "zip" p) [a,b] [] pos) (jkR X.K ta):=by
 intro d s σ H R I h;refine Call_ (VY I E F (show bootBuiltins "zip" = some (.type "zip") by decide +kernel) (PyProof.Rows.callWith_type1 (thn (G pos d s σ H _ I h) λus c ⟨vs,y,i,L,M⟩=>?_) (by rw[J,g]) (by rw[g];rfl)));obtain⟨l1,t,xs,ys,rfl,w,x,q⟩:=M;obtain⟨u,v,rfl,N,O⟩:=L.two;cases N;cases O;obtain⟨A,P,j,Q⟩:=i.list w;obtain⟨B,S,k,T⟩:=i.list x;have l:l1 < c.heap.objs.size:=by
  obtain⟨o,_,e,_⟩:=j;exact N5 e
 have m:t < c.heap.objs.size:=by
  obtain⟨o,_,e,_⟩:=k;exact N5 e
 refine call_zip_2 j.isList k.isList λC D U V W Y a6 Z=>?_;have I2:Inv X d σ y { c with heap:=C }:=i.kept (t':=c.toks) Z;refine PySem.wpAny_pyIter_zip (s:={ c with heap:=C }) D ?_;refine⟨c.heap.objs.size+4,[c.heap.objs.size+4,c.heap.objs.size+2,c.heap.objs.size+3,c.heap.objs.size,c.heap.objs.size+1],_,_,y,rfl,I2,jd1 _ _ _ _ _ l1 t (u1 _ l1 t l m),⟨D,U,⟨_,_,V⟩,W,Y⟩,λb hb=>?_,q⟩;have r:c.heap.objs.size<=b:=by
  rcases(by simpa using hb:b=c.heap.objs.size+4 \/ b=c.heap.objs.size+2 \/ b=c.heap.objs.size+3 \/ b=c.heap.objs.size \/ b=c.heap.objs.size+1) with z | z | z | z | z<;>rw[z]
  ·exact Nat.le_add_right _ 4
  ·exact Nat.le_add_right _ 2
  ·exact Nat.le_add_right _ 3
  ·exact N3 _
  ·exact Nat.le_add_right _ 1
 exact i.fpOk r (i.hok.fresh r)
inductive TyQ (K:PySem.W.Frag) (H:Hp):V->String->Prop where
 | non:TyQ K H .non "NoneType"
 | bl (x:Bool):TyQ K H (.bl x) "bool"
 | int (i:Int):TyQ K H (.int i) "int"
 | str (x:Str):TyQ K H (.str x) "str"
 | lst {a:Addr}{xs:List V}(e:SqL K H a xs):TyQ K H (.ref a) "list"
 | tup {a:Addr}{xs:List V}(e:SqT K H a xs):TyQ K H (.ref a) "tuple"
 | dK {a:Addr}{kvs:List (Key×V)}(e:H a=some (.dK kvs)):TyQ K H (.ref a) "dict"
theorem xS:CallR X (.builtin "isinstance") (λxs H Q=>∃ x T t b,xs=[x,.ty T]/\TyQ X.K H x t/\PySem.W.kitOne X.K (.type t) (.type T)=some b/\Q (.bl b) H):=by
 intro d s σ H xs B Q I r h;obtain⟨x,T,t,b,rfl,ty,e,q⟩:=h;obtain⟨u,v,rfl,c,A⟩:=r.two;cases A;have fin:∀ k,EP X d σ Q (.bool b) { s with toks:=k }:=λk=>⟨.bl b,H,I.tok k,rfl,q⟩;cases ty with
 | non=>cases(show u=Value.none from c);exact PySem.W.kia_one PySem.W.kitx_none I.kIn True.intro e (λz=>nomatch z) fin
 | bl y=>cases(show u=Value.bool y from c);exact PySem.W.kia_one PySem.W.kitx_bool I.kIn True.intro e (λz=>nomatch z) fin
 | int i=>obtain⟨t,q⟩:=(show ∃ t,u=Value.int i t from c);cases q;exact PySem.W.kia_one PySem.W.kitx_int I.kIn True.intro e (λz=>nomatch z) fin
 | str y=>obtain⟨t,q⟩:=(show ∃ t,u=Value.str y t from c);cases q;exact PySem.W.kia_one PySem.W.kitx_str I.kIn True.intro e (λz=>nomatch z) fin
 | @lst a xs f =>
  cases(show u=Value.ref a from c);obtain⟨l,_,⟨o,n,g,j,_,_⟩,_⟩:=I.list f;exact PySem.W.kia_one PySem.W.kitx_list I.kIn ⟨o,g,j⟩ e (λz=>nomatch z) fin
 | @tup a xs f =>
  cases(show u=Value.ref a from c);obtain⟨l,_,⟨o,g,j,_⟩,_⟩:=I.tuple f;exact PySem.W.kia_one PySem.W.kitx_tuple I.kIn ⟨o,g,j⟩ e (λz=>nomatch z) fin
 | @dK a m f =>
  cases(show u=Value.ref a from c);obtain⟨_,_,C,_,p⟩:=(show ObjOk X.prog X.w H s.heap a (.dK m) from I.hok a _ f);obtain⟨o,D,E,g,j,_⟩:=p;exact PySem.W.kia_one PySem.W.kitx_dict I.kIn ⟨o,g,j.1⟩ e (λz=>nomatch z) fin
end
end L2
namespace QD
open PySem L2
section
variable {X:Cx}{R:RC}{Z Z':Zn}{H H':Hp}
theorem V4{f:Value->Value->Sem Value}{r b:R2}(h:OpR X f r)(h':OpR X f b):OpR X f (λx y H Q=>r x y H Q \/ b x y H Q):=by
 intro a s σ H x y v u Q I c d q;rcases q with q | q
 ·exact h a s σ H x y v u Q I c d q
 ·exact h' a s σ H x y v u Q I c d q
theorem Rep.lst_of{o:Bool}{l:List D}{v:V}{O:List Addr}(r:Rep R Z H (.lst o l) v O):∃ a vs O',v=.ref a/\SqX R.K H a vs/\Reps R Z H l vs O':=by
 rw[Rep] at r;obtain⟨a,vs,O',rfl,b,h⟩:=r;cases o with
 | true=>exact⟨a,vs,O',rfl,SqX.of h.1,b⟩
 | false=>exact⟨a,vs,O',rfl,FL.sqx h.1,b⟩
theorem Rep.tup_of{l:List D}{v:V}{O:List Addr}(r:Rep R Z H (.tup l) v O):∃ a vs,v=.ref a/\SqT R.K H a vs/\Reps R Z H l vs O:=by
 rw[Rep] at r;obtain⟨a,vs,rfl,h,b⟩:=r;exact⟨a,vs,rfl,h.sq,b⟩
theorem Reps.frozen{l:List D}{vs:List V}{O:List Addr}(r:Reps R Z H l vs O)(f:frzs l=true):Reps R Z H l vs []:=by
 cases r.nil f;exact r
noncomputable def wI(i:Int):Bool:=decide (Builtin.Int.intBits i<=2 ^ 20)
theorem uo{i:Int}(h:i.natAbs < 2 ^ 1000):wI i=true:=X3 (jav h (by decide))
noncomputable def jQ(x y:D):Option D:=match x with
 | .int i=>(match y with
  | .int j=>some (.int (i+j))
  | _=>none)
 | .str a=>(match y with
  | .str b=>bif lim (a.length+b.length) then some (.str (a++b)) else none
  | _=>none)
 | .lst _ a=>(match y with
  | .lst _ b=>bif lim (a.length+b.length)&&(frzs a&&frzs b) then some (.lst true (a++b)) else none
  | _=>none)
 | .tup a=>(match y with
  | .tup b=>bif lim (a.length+b.length)&&(frzs a&&frzs b)&&!a.isEmpty then some (.tup (a++b)) else none
  | _=>none)
 | _=>none
noncomputable def jkH:R2:=λx y H Q=>∃ a b,x=.str (S a)/\y=.str (S b)/\a.length+b.length<=sizeLine/\Q (.str (S (a++b))) H
noncomputable def jdw(K:PySem.W.Frag):R2:=λx y H Q=>rI0 (λi j=>.int (i+j)) x y H Q \/ jkH x y H Q \/ jiU K x y H Q \/ jhC K x y H Q
theorem jhm:OpR X (binaryOp .Add) (jdw X.K):=V4 jid (V4 jge (V4 jhf jfu))
theorem jjA:BO R (jdw R.K) jQ:=by
 intro Z H x y d v u O1 O2 z f h e Q k;cases x with
 | int i =>
  cases y with
  | int j =>
   cases e;obtain⟨rfl,_⟩:=f.int_of;obtain⟨rfl,_⟩:=h.int_of;exact .inl ⟨i,j,rfl,rfl,k (Go.id z) .int_mk⟩
  | _=>cases e
 | str a =>
  cases y with
  | str b =>
   simp only[jQ] at e;cases hl:lim (a.length+b.length) with
   | false=>rw[hl] at e;cases e
   | true =>
    rw[hl] at e;cases e;obtain⟨rfl,_⟩:=f.str_of;obtain⟨rfl,_⟩:=h.str_of;exact .inr (.inl ⟨a,b,rfl,rfl,VX hl,k (Go.id z) .str_mk⟩)
  | _=>cases e
 | lst o a =>
  cases y with
  | lst E b =>
   simp only[jQ] at e;cases hl:lim (a.length+b.length)&&(frzs a&&frzs b) with
   | false=>rw[hl] at e;cases e
   | true =>
    rw[hl] at e;cases e;simp only[M6] at hl;obtain⟨p,l,F,rfl,m,c⟩:=f.lst_of;obtain⟨q,n,A,rfl,r,rt⟩:=h.lst_of;have s:=(c.frozen hl.2.1).append (rt.frozen hl.2.2);exact .inr (.inr (.inl ⟨p,q,l,n,rfl,rfl,m,r,by rw[c.length,rt.length];exact VX hl.1,λb g=>k (Go.newO (wf0 z) g) (Rep.lstNew (wf0 z) g s)⟩))
  | _=>cases e
 | tup a =>
  cases y with
  | tup b =>
   simp only[jQ] at e;cases hl:lim (a.length+b.length)&&(frzs a&&frzs b)&&!a.isEmpty with
   | false=>rw[hl] at e;cases e
   | true =>
    rw[hl] at e;cases e;simp only[M6] at hl;obtain⟨p,l,rfl,m,c⟩:=f.tup_of;obtain⟨q,n,rfl,r,rt⟩:=h.tup_of;have s:=(c.frozen hl.1.2.1).append (rt.frozen hl.1.2.2);have t:l≠[]:=by
     intro B;have:=c.length;rw[B] at this;have w:a=[]:=List.eq_nil_of_length_eq_zero this.symm;rw[w] at hl;simp at hl
    refine .inr (.inr (.inr ⟨p,q,l,n,rfl,rfl,m,r,t,by rw[c.length,rt.length];exact VX hl.1.1,(λw=>?_),λ_ b g=>k (Go.newF (wf0 z) g) (Rep.tupNew (wf0 z) g s)⟩));have C:b=[]:=List.eq_nil_of_length_eq_zero (by rw[<- rt.length,w];rfl);subst C;rw[N4] at k;have D:=c.nil hl.1.2.1;subst D;exact k (Go.id z) f
  | _=>cases e
 | _=>cases e
noncomputable def two(f:Int->Int->Option D):D->D->Option D
 | .int i,.int j=>f i j
 | _,_=>none
theorem two_of{f:Int->Int->Option D}{x y d:D}(e:two f x y=some d):∃ i j,x=.int i/\y=.int j/\f i j=some d:=by
 cases x with
 | int i =>
  cases y with
  | int j=>exact⟨i,j,rfl,rfl,e⟩
  | _=>cases e
 | _=>cases y<;>cases e
noncomputable def Jg:D->D->Option D:=two λi j=>some (.int (i - j))
theorem jh5:BO R (rI0 λi j=>.int (i - j)) Jg:=by
 intro Z H x y d v u O1 O2 z a b e Q k;replace e:=two_of e;obtain⟨i,j,rfl,rfl,e⟩:=e;cases e;obtain⟨rfl,_⟩:=a.int_of;obtain⟨rfl,_⟩:=b.int_of;exact⟨i,j,rfl,rfl,k (Go.id z) .int_mk⟩
noncomputable def qh(x y:D):Option D:=match y with
 | .int n=>(match x with
  | .int i=>bif wI i&&wI n then some (.int (i*n)) else none
  | .str a=>bif decide (a.length<=1000)&&(decide (0<=n)&&decide (n<=1000)) then some (.str (List.replicate n.toNat a).flatten) else none
  | _=>none)
 | _=>none
noncomputable def jhq:R2:=λx y H Q=>rI (λi j=>Builtin.Int.intBits i<=2 ^ 20/\Builtin.Int.intBits j<=2 ^ 20) (λi j=>.int (i*j)) x y H Q \/
 ∃(a:List Nat) (n:Int),x=.str (S a)/\y=.int n/\a.length<=1000/\0<=n/\n<=1000/\Q (.str (S (List.replicate n.toNat a).flatten)) H
theorem jfP:OpR X (binaryOp .Mult) jhq:=V4 jfV jf7
theorem jh8:BO R jhq qh:=by
 intro Z H x y d v u O1 O2 z b c e Q k;cases y with
 | int n =>
  cases x with
  | int i =>
   simp only[qh] at e;cases hl:wI i&&wI n with
   | false=>rw[hl] at e;cases e
   | true =>
    rw[hl] at e;cases e;rw[M6] at hl;obtain⟨rfl,_⟩:=b.int_of;obtain⟨rfl,_⟩:=c.int_of;exact .inl ⟨i,n,rfl,rfl,⟨X5 hl.1,X5 hl.2⟩,k (Go.id z) .int_mk⟩
  | str a =>
   simp only[qh] at e;cases hl:decide (a.length<=1000)&&(decide (0<=n)&&decide (n<=1000)) with
   | false=>rw[hl] at e;cases e
   | true =>
    rw[hl] at e;cases e;simp only[M6,decide_eq_true_eq] at hl;obtain⟨rfl,_⟩:=b.str_of;obtain⟨rfl,_⟩:=c.int_of;exact .inr ⟨a,n,rfl,rfl,hl.1,hl.2.1,hl.2.2,k (Go.id z) .str_mk⟩
  | _=>cases e
 | _=>cases e
noncomputable def uu(j:Int):Bool:=decide (0 < j)&&decide (j < 2 ^ 300)
theorem jbm{j:Int}(h:uu j=true):0 < j/\j.natAbs.log2 < 9000:=by
 unfold uu at h;simp only[M6,decide_eq_true_eq] at h;refine⟨h.1,?_⟩;have a:j.natAbs < 2 ^ 300:=by omega
 have b:j.natAbs≠0:=by omega
 have:=(Nat.log2_lt b (k:=300)).mpr a;omega
theorem jdc:OpR X (binaryOp .FloorDiv) (rI (λ_ j=>uu j=true) λi j=>.int (i / j)):=opI λi j t u s Q E a q=>by
 obtain⟨b,c⟩:=jbm a;have e:i / j=i.fdiv j:=(Int.fdiv_eq_ediv_of_nonneg i (Int.le_of_lt b)).symm;rw[e] at q;exact PyProof.Rows.floordiv_int (by omega) q (.inl (PyProof.noPylong_of_log2 c))
noncomputable def qK:D->D->Option D:=two λi j=>bif uu j then some (.int (i / j)) else none
noncomputable def yA:D->D->Option D:=two λi j=>bif decide (0 < j) then some (.int (i % j)) else none
noncomputable def Vk:D->D->Option D:=two λi j=>bif decide (0<=j)&&decide (j<=100)&&decide (i.natAbs < 2 ^ 64) then some (.int (i ^ j.toNat)) else none
theorem ji7:BO R (rI (λ_ j=>uu j=true) λi j=>.int (i / j)) qK:=by
 intro Z H x y d v u O1 O2 z a b e Q k;replace e:=two_of e;obtain⟨i,j,rfl,rfl,e⟩:=e;cases hl:uu j with
 | false=>rw[hl] at e;cases e
 | true =>
  rw[hl] at e;cases e;obtain⟨rfl,_⟩:=a.int_of;obtain⟨rfl,_⟩:=b.int_of;exact⟨i,j,rfl,rfl,hl,k (Go.id z) .int_mk⟩
theorem jhz:BO R (rI (λ_ j=>0 < j) λi j=>.int (i % j)) yA:=by
 intro Z H x y d v u O1 O2 z b c e Q k;replace e:=two_of e;obtain⟨i,j,rfl,rfl,e⟩:=e;by_cases a:0 < j
 ·rw[X3 a] at e;cases e;obtain⟨rfl,_⟩:=b.int_of;obtain⟨rfl,_⟩:=c.int_of;exact⟨i,j,rfl,rfl,a,k (Go.id z) .int_mk⟩
 ·rw[X4 a] at e;cases e
theorem jhS:BO R (rI jkb λi j=>.int (i ^ j.toNat)) Vk:=by
 intro Z H x y d v u O1 O2 z a b e Q k;replace e:=two_of e;obtain⟨i,j,rfl,rfl,e⟩:=e;cases hl:decide (0<=j)&&decide (j<=100)&&decide (i.natAbs < 2 ^ 64) with
 | false=>rw[hl] at e;cases e
 | true =>
  rw[hl] at e;cases e;simp only[M6,decide_eq_true_eq] at hl;obtain⟨rfl,_⟩:=a.int_of;obtain⟨rfl,_⟩:=b.int_of;exact⟨i,j,rfl,rfl,⟨hl.1.1,by omega,hl.2⟩,k (Go.id z) .int_mk⟩
noncomputable def jaH:D->Option D
 | .int i=>some (.int (-i))
 | _=>none
theorem jjE:BU R (rU λi=>.int (-i)) jaH:=by
 intro Z H x d v O z a e Q k;cases x with
 | int i =>
  cases e;obtain⟨rfl,_⟩:=a.int_of;exact⟨i,rfl,k (Go.id z) .int_mk⟩
 | _=>cases e
noncomputable def opB(g:Int->Int->Bool):D->D->Option D:=two λi j=>some (.bl (g i j))
theorem jj3{g:Int->Int->Bool}:BO R (rI0 λi j=>.bl (g i j)) (opB g):=by
 intro Z H x y d v u O1 O2 z a b e Q k;replace e:=two_of e;obtain⟨i,j,rfl,rfl,e⟩:=e;cases e;obtain⟨rfl,_⟩:=a.int_of;obtain⟨rfl,_⟩:=b.int_of;exact⟨i,j,rfl,rfl,k (Go.id z) .bl_mk⟩
noncomputable abbrev jdM:D->D->Option D:=opB λi j=>decide (i < j)
noncomputable abbrev jdy:D->D->Option D:=opB λi j=>decide (i<=j)
noncomputable abbrev jht:D->D->Option D:=opB λi j=>decide (j < i)
noncomputable abbrev jjY:D->D->Option D:=opB λi j=>decide (j<=i)
noncomputable def jbg:D->Bool
 | .non=>true
 | _=>false
noncomputable def jeu:D->Bool
 | .dead=>true
 | _=>false
noncomputable def YQ(x y:D):Option D:=bif jbg y&&!jeu x then some (.bl (jbg x)) else none
theorem jd0{y:D}(h:jbg y=true):y=.non:=by
 cases y with
 | non=>rfl
 | _=>cases h
theorem ja2{x:D}{v:V}{O:List Addr}(r:Rep R Z H x v O)(hd:∀(h:x=.dead),False):decide (v=V.non)=jbg x:=by
 cases x with
 | non=>obtain⟨rfl,_⟩:=r.non_of;rfl
 | bl b=>obtain⟨rfl,_⟩:=r.bl_of;rfl
 | int i=>obtain⟨rfl,_⟩:=r.int_of;rfl
 | str s=>obtain⟨rfl,_⟩:=r.str_of;rfl
 | tup l=>rw[Rep] at r;obtain⟨a,d,rfl,_⟩:=r;rfl
 | lst o l=>rw[Rep] at r;obtain⟨a,d,e,rfl,_⟩:=r;rfl
 | dK o f l=>rw[Rep] at r;obtain⟨a,d,e,rfl,_⟩:=r;rfl
 | dT o f l=>rw[Rep] at r;obtain⟨a,d,e,rfl,_⟩:=r;rfl
 | ins o c ns l=>rw[Rep] at r;obtain⟨a,dx,d,e,rfl,_⟩:=r;rfl
 | exc c p=>rw[Rep] at r;obtain⟨a,dx,rfl,_⟩:=r;rfl
 | dead=>exact(hd rfl).elim
theorem jlf:BO R (λx y H Q=>y=.non/\Q (.bl (decide (x=.non))) H) YQ:=by
 intro Z H x y d v u O1 O2 z a b e Q k;unfold YQ at e;cases hl:jbg y&&!jeu x with
 | false=>rw[hl] at e;cases e
 | true =>
  rw[hl] at e;cases e;rw[M6] at hl;have hd:∀(h:x=.dead),False:=λh=>by rw[h] at hl;exact absurd hl.2 (by decide)
  cases jd0 hl.1;obtain⟨rfl,_⟩:=b.non_of;refine⟨rfl,?_⟩;rw[ja2 a hd];exact k (Go.id z) .bl_mk
noncomputable def YR:D->Bool
 | .non=>true | .bl _=>true | .int _=>true | .str _=>true
 | _=>false
noncomputable def eqF:D->D->Bool
 | .non,.non=>true
 | .bl a,.bl b=>a==b
 | .int a,.int b=>a==b
 | .str a,.str b=>a==b
 | _,_=>false
noncomputable def zP:D->D->Bool
 | .bl _,.int _=>false
 | .int _,.bl _=>false
 | _,_=>true
theorem jbL{x y:D}{v u:V}{O1 O2:List Addr}(d:Rep R Z H x v O1)(c:Rep R Z H y u O2)(h:(YR x&&YR y&&zP x y)=true):jk6 v u=true/\decide (v=u)=eqF x y:=by
 cases x with
 | non =>
  obtain⟨rfl,_⟩:=d.non_of;cases y with
  | non=>obtain⟨rfl,_⟩:=c.non_of;exact⟨rfl,rfl⟩
  | bl b=>obtain⟨rfl,_⟩:=c.bl_of;exact⟨rfl,rfl⟩
  | int b=>obtain⟨rfl,_⟩:=c.int_of;exact⟨rfl,rfl⟩
  | str b=>obtain⟨rfl,_⟩:=c.str_of;exact⟨rfl,rfl⟩
  | _=>cases h
 | bl a =>
  obtain⟨rfl,_⟩:=d.bl_of;cases y with
  | non=>obtain⟨rfl,_⟩:=c.non_of;exact⟨rfl,rfl⟩
  | bl b=>obtain⟨rfl,_⟩:=c.bl_of;exact⟨rfl,by rw[jbz];rfl⟩
  | str b=>obtain⟨rfl,_⟩:=c.str_of;exact⟨rfl,rfl⟩
  | _=>cases h
 | int a =>
  obtain⟨rfl,_⟩:=d.int_of;cases y with
  | non=>obtain⟨rfl,_⟩:=c.non_of;exact⟨rfl,rfl⟩
  | int b=>obtain⟨rfl,_⟩:=c.int_of;exact⟨rfl,by rw[uj];rfl⟩
  | str b=>obtain⟨rfl,_⟩:=c.str_of;exact⟨rfl,rfl⟩
  | _=>cases h
 | str a =>
  obtain⟨rfl,_⟩:=d.str_of;cases y with
  | non=>obtain⟨rfl,_⟩:=c.non_of;exact⟨rfl,rfl⟩
  | bl b=>obtain⟨rfl,_⟩:=c.bl_of;exact⟨rfl,rfl⟩
  | int b=>obtain⟨rfl,_⟩:=c.int_of;exact⟨rfl,rfl⟩
  | str b =>
   obtain⟨rfl,_⟩:=c.str_of;refine⟨rfl,?_⟩;rw[Bool.eq_iff_iff];simp[eqF,jkp]
  | _=>cases h
 | _=>cases h
noncomputable def inL(x:D)(l:List D):Bool:=l.any λy=>eqF y x
noncomputable def ja1(x:D)(l:List D):Bool:=YR x&&l.all λy=>YR y&&zP y x
noncomputable def zE(neg:Bool)(x y:D):Option D:=match y with
 | .str s=>(match x with
  | .str [c]=>some (.bl (neg != decide (c∈s)))
  | _=>none)
 | .lst _ l=>bif ja1 x l then some (.bl (neg != inL x l)) else none
 | .tup l=>bif ja1 x l then some (.bl (neg != inL x l)) else none
 | _=>none
theorem Reps.flat{x:D}{v:V}{P:List Addr}(c:Rep R Z H x v P)(d:YR x=true):∀{l:List D}{vs:List V}{O:List Addr},Reps R Z H l vs O->(l.all λy=>YR y&&zP y x)=true->Ku v=true/\vs.all Ku=true/\inV v vs=inL x l
 | [],_,_,h,_=>by
  rw[Reps] at h;obtain⟨rfl,_⟩:=h;refine⟨?_,rfl,rfl⟩;cases x with
  | non=>obtain⟨rfl,_⟩:=c.non_of;rfl
  | bl b=>obtain⟨rfl,_⟩:=c.bl_of;rfl
  | int b=>obtain⟨rfl,_⟩:=c.int_of;rfl
  | str b=>obtain⟨rfl,_⟩:=c.str_of;rfl
  | _=>cases d
 | y::l,_,_,h,f=>by
  rw[Reps] at h;obtain⟨u,vs,O1,O2,rfl,rfl,e,g⟩:=h;rw[List.all_cons,M6] at f;obtain⟨i,j,k⟩:=Reps.flat c d g f.2;have key:Ku u=true/\eqV u v=eqF y x:=by
   cases y with
   | non =>
    obtain⟨rfl,_⟩:=e.non_of;cases x with
    | non=>obtain⟨rfl,_⟩:=c.non_of;exact⟨rfl,rfl⟩
    | bl b=>obtain⟨rfl,_⟩:=c.bl_of;exact⟨rfl,rfl⟩
    | int b=>obtain⟨rfl,_⟩:=c.int_of;exact⟨rfl,rfl⟩
    | str b=>obtain⟨rfl,_⟩:=c.str_of;exact⟨rfl,rfl⟩
    | _=>cases d
   | bl a =>
    obtain⟨rfl,_⟩:=e.bl_of;cases x with
    | non=>obtain⟨rfl,_⟩:=c.non_of;exact⟨rfl,rfl⟩
    | bl b=>obtain⟨rfl,_⟩:=c.bl_of;exact⟨rfl,rfl⟩
    | str b=>obtain⟨rfl,_⟩:=c.str_of;exact⟨rfl,rfl⟩
    | int b=>exact absurd f.1 (by simp[zP])
    | _=>cases d
   | int a =>
    obtain⟨rfl,_⟩:=e.int_of;cases x with
    | non=>obtain⟨rfl,_⟩:=c.non_of;exact⟨rfl,rfl⟩
    | int b=>obtain⟨rfl,_⟩:=c.int_of;exact⟨rfl,rfl⟩
    | str b=>obtain⟨rfl,_⟩:=c.str_of;exact⟨rfl,rfl⟩
    | bl b=>exact absurd f.1 (by simp[zP])
    | _=>cases d
   | str a =>
    obtain⟨rfl,_⟩:=e.str_of;cases x with
    | non=>obtain⟨rfl,_⟩:=c.non_of;exact⟨rfl,rfl⟩
    | bl b=>obtain⟨rfl,_⟩:=c.bl_of;exact⟨rfl,rfl⟩
    | int b=>obtain⟨rfl,_⟩:=c.int_of;exact⟨rfl,rfl⟩
    | str b =>
     obtain⟨rfl,_⟩:=c.str_of;refine⟨rfl,?_⟩;rw[Bool.eq_iff_iff];simp[eqF,eqV,jkp]
    | _=>cases d
   | _=>exact absurd f.1 (by simp[YR])
  refine⟨i,by rw[List.all_cons,key.1,j];rfl,?_⟩;show(eqV u v||inV v vs)=(eqF y x||inL x l);rw[key.2,k]
noncomputable def jlO(neg:Bool):R2:=λx y H Q=>∃ c l,x=.str (S [c])/\y=.str (S l)/\Q (.bl (if neg then !decide (c∈l) else decide (c∈l))) H
noncomputable def jhx(K:PySem.W.Frag)(neg:Bool):R2:=λx y H Q=>jlO neg x y H Q \/ rIn K neg x y H Q
theorem jiK:OpR X (compareOp .In) (jhx X.K false):=V4 jhN jbC
theorem jbb:OpR X (compareOp .NotIn) (jhx X.K true):=V4 jbD xq
theorem ug(neg b:Bool):(if neg=true then !b else b)=(neg != b):=by cases neg<;>cases b<;>rfl
theorem jiS{neg:Bool}:BO R (jhx R.K neg) (zE neg):=by
 intro Z H x y d v u O1 O2 z b f e Q k;cases y with
 | str s =>
  cases x with
  | str t =>
   match t,e,b with
   | [c],e,b =>
    cases e;obtain⟨rfl,_⟩:=b.str_of;obtain⟨rfl,_⟩:=f.str_of;refine .inl ⟨c,s,rfl,rfl,?_⟩;rw[ug];exact k (Go.id z) .bl_mk
   | [],e,b=>cases e
   | _::_::_,e,b=>cases e
  | _=>cases e
 | lst o l =>
  have a:(bif ja1 x l then some (D.bl (neg != inL x l)) else none)=some d:=e;cases hl:ja1 x l with
  | false=>rw[hl] at a;cases a
  | true =>
   rw[hl] at a;cases a;unfold ja1 at hl;rw[M6] at hl;obtain⟨p,g,q,rfl,h,i⟩:=f.lst_of;obtain⟨j,m,n⟩:=i.flat b hl.1 hl.2;refine .inr ⟨p,g,rfl,.inl h.sq,j,m,?_⟩;rw[n,ug];exact k (Go.id z) .bl_mk
 | tup l =>
  have a:(bif ja1 x l then some (D.bl (neg != inL x l)) else none)=some d:=e;cases hl:ja1 x l with
  | false=>rw[hl] at a;cases a
  | true =>
   rw[hl] at a;cases a;unfold ja1 at hl;rw[M6] at hl;obtain⟨p,g,rfl,h,i⟩:=f.tup_of;obtain⟨j,m,n⟩:=i.flat b hl.1 hl.2;refine .inr ⟨p,g,rfl,.inr h,j,m,?_⟩;rw[n,ug];exact k (Go.id z) .bl_mk
 | _=>cases e
noncomputable def kW(x y:D):Option D:=match y with
 | .int i=>(match x with
  | .lst _ l=>atI l i
  | .tup l=>atI l i
  | .str s=>bif lim s.length then(match atI s i with
   | some c=>some (.str [c])
   | none=>none) else none
  | _=>none)
 | _=>none
theorem Reps.atI{l:List D}{vs:List V}{O:List Addr}{i:Int}{d:D}(r:Reps R Z H l vs O)(e:L2.atI l i=some d):∃ v P,L2.atI vs i=some v/\Rep R Z H d v P:=by
 unfold L2.atI at e ⊢;rw[r.length];cases h:ixN l.length i with
 | none=>rw[h] at e;cases e
 | some j =>
  rw[h] at e;obtain⟨v,A,P,B,a,_,b,_⟩:=r.at (show l[j]?=some d from e);exact⟨v,P,a,b⟩
theorem jkt:BO' R (rIx R.K) kW:=by
 intro Z H x y d v u O1 O2 z a n e Q k;cases y with
 | int i =>
  obtain⟨rfl,_⟩:=n.int_of;cases x with
  | lst o l =>
   obtain⟨p,b,q,rfl,f,g⟩:=a.lst_of;obtain⟨w,P,j,m⟩:=g.atI e;exact .inl ⟨p,b,i,w,rfl,rfl,f.sq,j,k m⟩
  | tup l =>
   obtain⟨p,b,rfl,f,g⟩:=a.tup_of;obtain⟨w,P,j,m⟩:=g.atI e;exact .inr (.inl ⟨p,b,i,w,rfl,rfl,f,j,k m⟩)
  | str s =>
   obtain⟨rfl,_⟩:=a.str_of;simp only[kW] at e;cases hl:lim s.length with
   | false=>rw[hl] at e;cases e
   | true =>
    rw[hl,cond_true] at e;cases h:L2.atI s i with
    | none=>rw[h] at e;cases e
    | some c =>
     rw[h] at e;cases e;refine .inr (.inr ⟨S s,i,c,rfl,rfl,by rw[qE];exact VX hl,by rw[vE];exact h,?_⟩);rw[jgq];exact k .str_mk
  | _=>cases e
 | _=>cases e
noncomputable abbrev OF:=Rh->Option (Option Int)
def PO'(R:RC)(t:TO)(p:OF):Prop:=∀{σ:St}{ρ:Rh}{Z:Zn}{H:Hp}{O:List Addr}{i:Option Int},Zd Z H->Slots R Z H ρ σ O->p ρ=some i ->
 ∀{Q:Option Int->Hp->Prop},(∀{Z':Zn}{H':Hp},Go Z H [] Z' H' []->Q i H')->t σ H Q
noncomputable def oN:OF:=λ_=>some none
noncomputable def oS(p:PF):OF:=λρ=>match p ρ with
 | some (.int i)=>some (some i)
 | _=>none
theorem jlV:PO' R wJ oN:=by
 intro σ ρ Z H O i z s e Q k;cases e;exact k (Go.id z)
theorem jlM{te:TE}{p:PF}(h:PB R te p):PO' R (jgL te) (oS p):=by
 intro σ ρ Z H O i z s e Q k;unfold oS at e;split at e
 ·rename_i j a;cases e;refine h z s a λ{v d f g} b c=>?_;obtain⟨rfl,_⟩:=c.int_of;exact⟨j,rfl,k b⟩
 ·cases e
noncomputable def jau(lo hi:Option Int):D->Option D
 | .str s=>bif lim s.length then some (.str (YU s lo hi)) else none
 | .lst _ l=>bif frzs l then some (.lst true (YU l lo hi)) else none
 | .tup l=>bif frzs l&&decide ((YU l lo hi).length < l.length) then some (.tup (YU l lo hi)) else none
 | _=>none
def jle(K:PySem.W.Frag):V->Option Int->Option Int->Hp->VK->Prop:=λx lo hi H Q=>jlx x lo hi H Q \/ jlE K x lo hi H Q \/ jlq K x lo hi H Q
theorem jlS:SlR X (jle X.K):=SlR.or jiM (SlR.or jgp jig)
noncomputable def pSl(pa:PF)(pl ph:OF):PF:=λρ=>match pa ρ with
 | none=>none
 | some x=>match pl ρ with
  | none=>none
  | some lo=>match ph ρ with
   | none=>none
   | some hi=>jau lo hi x
theorem Reps.cut{l:List D}{vs:List V}(r:Reps R Z H l vs [])(lo hi:Option Int):Reps R Z H (YU l lo hi) (jeF vs lo hi) []:=by
 unfold YU jeF;rw[r.length];exact(r.drop _).take _
theorem jko{te:TE}{tl th:TO}{pa:PF}{pl m:OF}(D:PB R te pa)(E:PO' R tl pl)(F:PO' R th m):PP R (tSl (jle R.K) te tl th) (pSl pa pl m):=by
 intro σ ρ Z H O d z s e Q k;unfold pSl at e;cases e1:pa ρ with
 | none=>rw[e1] at e;cases e
 | some x =>
  rw[e1] at e;dsimp only at e;cases e2:pl ρ with
  | none=>rw[e2] at e;cases e
  | some n =>
   rw[e2] at e;dsimp only at e;cases e3:m ρ with
   | none=>rw[e3] at e;cases e
   | some q =>
    rw[e3] at e;dsimp only at e;refine D z s e1 λ{v J L M} h G=>?_;refine E h.wf.zd (h.slots z s) e2 λ{N P} r=>?_;have c:=h.pair r;refine F r.wf.zd (c.slots z s) e3 λ{Z3 I} i=>?_;have a:Go Z H [] Z3 I []:=c.pair i;have u:=(r.pair i).rep h.wf.zd G;cases x with
    | str t =>
     simp only[jau] at e;cases hm:lim t.length with
     | false=>rw[hm] at e;cases e
     | true =>
      rw[hm] at e;cases e;obtain⟨rfl,_⟩:=u.str_of;exact .inl ⟨t,rfl,VX hm,k a .str_mk⟩
    | lst o l =>
     simp only[jau] at e;cases hm:frzs l with
     | false=>rw[hm] at e;cases e
     | true =>
      rw[hm] at e;cases e;obtain⟨p,w,S,rfl,y,j⟩:=u.lst_of;have f:=i.wf.zd;exact .inr (.inl ⟨p,w,rfl,y.sq,λb g=>k (by simpa using a.pair (Go.newO (wf0 f) g)) (Rep.lstNew (wf0 f) g ((j.frozen hm).cut n q))⟩)
    | tup l =>
     simp only[jau] at e;cases hm:frzs l&&decide ((YU l n q).length < l.length) with
     | false=>rw[hm] at e;cases e
     | true =>
      rw[hm] at e;cases e;simp only[M6,decide_eq_true_eq] at hm;obtain⟨p,w,rfl,y,j⟩:=u.tup_of;have f:=i.wf.zd;refine .inr (.inr ⟨p,w,rfl,y,?_,λb g=>k (by simpa using a.pair (Go.newF (wf0 f) g)) (Rep.tupNew (wf0 f) g ((j.frozen hm.1).cut n q))⟩);rintro⟨B,C⟩;have A:=hm.2;unfold YU at A;rw[j.length] at B C;rw[B,C,List.drop_zero,Nat.sub_zero,List.take_length] at A;exact absurd A (Nat.lt_irrefl _)
    | _=>cases e
noncomputable def kZ:List D->Option D
 | [.lst _ l]=>some (.int l.length)
 | [.tup l]=>some (.int l.length)
 | [.str s]=>bif lim s.length then some (.int s.length) else none
 | _=>none
theorem jjz:BC R (λxs H Q=>∃ x n,xs=[x]/\jk0 R.K x H n/\Q (.int n) H) kZ:=by
 intro Z H xs d g O z r e Q k
 match xs,e,r with
 | [.lst o l],e,r =>
  cases e;obtain⟨v,rfl,a⟩:=r.one_of;obtain⟨p,b,h,rfl,c,f⟩:=a.lst_of;exact⟨_,_,rfl,.inl ⟨b,c.sq,rfl⟩,by rw[f.length];exact k (Go.id z) .int_mk⟩
 | [.tup l],e,r =>
  cases e;obtain⟨v,rfl,a⟩:=r.one_of;obtain⟨p,b,rfl,c,f⟩:=a.tup_of;exact⟨_,_,rfl,.inr ⟨b,c,rfl⟩,by rw[f.length];exact k (Go.id z) .int_mk⟩
 | [.str s],e,r =>
  simp only[kZ] at e;cases hm:lim s.length with
  | false=>rw[hm] at e;cases e
  | true =>
   rw[hm] at e;cases e;obtain⟨v,rfl,a⟩:=r.one_of;obtain⟨rfl,_⟩:=a.str_of;exact⟨_,_,rfl,⟨by rw[qE];exact VX hm,rfl⟩,by rw[qE];exact k (Go.id z) .int_mk⟩
noncomputable def jfk:List D->Option (List Int)
 | []=>some []
 | d::l=>match d with
  | .int i=>(match jfk l with
   | some r=>some (i::r)
   | none=>none)
  | _=>none
noncomputable def Jd:List D->Option (List Bool)
 | []=>some []
 | d::l=>match d with
  | .bl i=>(match Jd l with
   | some r=>some (i::r)
   | none=>none)
  | _=>none
theorem Reps.bools:∀{l:List D}{vs:List V}{O:List Addr}{ns:List Bool},Reps R Z H l vs O->Jd l=some ns->vs=ns.map V.bl:=by
 intro l
 induction l with
 | nil=>intro vs O ns h e;rw[Reps] at h;cases e;exact h.1
 | cons d l a =>
  intro vs O ns h e;rw[Reps] at h;obtain⟨v,vs,O1,O2,rfl,rfl,b,c⟩:=h;cases d with
  | bl i =>
   have e:(match Jd l with | some r=>some (i::r) | none=>none)=some ns:=e;cases e1:Jd l with
   | none=>rw[e1] at e;cases e
   | some r =>
    rw[e1] at e;cases e;rw[a c e1,b.bl_of.1];rfl
  | _=>cases e
noncomputable def jjV:List D->Option D
 | [.lst _ l]=>match Jd l with
  | some ns=>some (.bl (ns.all λb=>b))
  | none=>none
 | _=>none
theorem jjL:BC R (λxs H Q=>∃(p:Addr) (bs:List Bool),xs=[.ref p]/\SqL R.K H p (bs.map V.bl)/\Q (.bl (bs.all λb=>b)) H) jjV:=by
 intro Z H xs d g O z r e Q k
 match xs,e,r with
 | [.lst o l],e,r =>
  simp only[jjV] at e;cases e1:Jd l with
  | none=>rw[e1] at e;cases e
  | some ns =>
   rw[e1] at e;cases e;obtain⟨v,rfl,a⟩:=r.one_of;obtain⟨p,h,i,rfl,c,f⟩:=a.lst_of;have:=f.bools e1;subst this;exact⟨p,ns,rfl,c.sq,k (Go.id z) .bl_mk⟩
noncomputable def f2I(g:Int->Int->Int):List D->Option D
 | [.int i,.int j]=>some (.int (g i j))
 | _=>none
theorem jky{g:Int->Int->Int}:BC R (λxs H Q=>∃ i j,xs=[.int i,.int j]/\Q (.int (g i j)) H) (f2I g):=by
 intro Z H xs d c O z r e Q k
 match xs,e,r with
 | [.int i,.int j],e,r =>
  cases e;obtain⟨v,u,O1,O2,rfl,_,a,b⟩:=r.two_of;obtain⟨rfl,_⟩:=a.int_of;obtain⟨rfl,_⟩:=b.int_of;exact⟨i,j,rfl,k (Go.id z) .int_mk⟩
noncomputable abbrev jlX:List D->Option D:=f2I λi j=>if j > i then j else i
noncomputable def jaW(w:List Nat):Bool:=!w.isEmpty&&(decide (w.length<=600)&&w.all λc=>decide (48<=c)&&decide (c<=57))
noncomputable def jjT:List D->Option D
 | [.str w]=>bif jaW w then some (.int (NumText.digitsVal w:Nat)) else none
 | _=>none
noncomputable def jeN:List D->Option D
 | [.int i]=>bif decide (0<=i)&&decide (i < 2 ^ 200) then some (.str (zo i.toNat)) else none
 | [.str s]=>some (.str s)
 | _=>none
theorem jiC:BC R (λxs H Q=>∃ w:List Nat,xs=[.str (S w)]/\NumText.AllDigits w/\w≠[]/\w.length<=600/\Q (.int (NumText.digitsVal w:Nat)) H) jjT:=by
 intro Z H xs d f O z r e Q k
 match xs,e,r with
 | [.str w],e,r =>
  simp only[jjT] at e;cases hm:jaW w with
  | false=>rw[hm] at e;cases e
  | true =>
   rw[hm] at e;cases e;unfold jaW at hm;simp only[M6,decide_eq_true_eq,List.all_eq_true,Bool.not_eq_true',List.isEmpty_eq_false_iff] at hm;obtain⟨v,rfl,a⟩:=r.one_of;obtain⟨rfl,_⟩:=a.str_of;exact⟨w,rfl,λc b=>hm.2.2 c b,hm.1,hm.2.1,k (Go.id z) .int_mk⟩
theorem jd9{f:Value}{r a:List V->Hp->VK->Prop}(h:CallR X f r)(h':CallR X f a):CallR X f (λxs H Q=>r xs H Q \/ a xs H Q):=CallR.or h h'
theorem jjt:BC R (λxs H Q=>(∃ i:Int,xs=[.int i]/\0<=i/\i < 2 ^ 200/\Q (.str (S (zo i.toNat))) H) \/ ∃ x,xs=[.str x]/\Q (.str x) H) jeN:=by
 intro Z H xs d b O z r e Q k
 match xs,e,r with
 | [.int i],e,r =>
  simp only[jeN] at e;cases hm:decide (0<=i)&&decide (i < 2 ^ 200) with
  | false=>rw[hm] at e;cases e
  | true =>
   rw[hm] at e;cases e;simp only[M6,decide_eq_true_eq] at hm;obtain⟨v,rfl,a⟩:=r.one_of;obtain⟨rfl,_⟩:=a.int_of;exact .inl ⟨i,rfl,hm.1,hm.2,k (Go.id z) .str_mk⟩
 | [.str s],e,r =>
  cases e;obtain⟨v,rfl,a⟩:=r.one_of;obtain⟨rfl,_⟩:=a.str_of;exact .inr ⟨_,rfl,k (Go.id z) .str_mk⟩
noncomputable def jas:List D->Option D
 | [.lst _ l]=>bif frzs l then some (.lst true l) else none
 | [.tup l]=>bif frzs l then some (.lst true l) else none
 | _=>none
theorem jbG:BC R (λxs H Q=>∃ p ys,xs=[.ref p]/\(SqL R.K H p ys \/ SqT R.K H p ys)/\∀ l,H l=none->Q (.ref l) (upd H l (.lst ys))) jas:=by
 intro Z H xs d i O z r e Q k
 match xs,e,r with
 | [.lst o l],e,r =>
  simp only[jas] at e;cases hm:frzs l with
  | false=>rw[hm] at e;cases e
  | true =>
   rw[hm] at e;cases e;obtain⟨v,rfl,c⟩:=r.one_of;obtain⟨p,f,j,rfl,g,h⟩:=c.lst_of;exact⟨p,f,rfl,.inl g.sq,λb a=>k (Go.newO (wf0 z) a) (Rep.lstNew (wf0 z) a (h.frozen hm))⟩
 | [.tup l],e,r =>
  simp only[jas] at e;cases hm:frzs l with
  | false=>rw[hm] at e;cases e
  | true =>
   rw[hm] at e;cases e;obtain⟨v,rfl,c⟩:=r.one_of;obtain⟨p,f,rfl,g,h⟩:=c.tup_of;exact⟨p,f,rfl,.inr g,λb a=>k (Go.newO (wf0 z) a) (Rep.lstNew (wf0 z) a (h.frozen hm))⟩
noncomputable def tyD:D->Option String
 | .non=>some "NoneType" | .bl _=>some "bool" | .int _=>some "int" | .str _=>some "str" | .tup _=>some "tuple" | .lst _ _=>some "list"
 | .dK true _ _=>some "dict"
 | _=>none
noncomputable def zC(t T:String):Bool:=t==T||(t=="bool"&&T=="int")
noncomputable def xD(T:String)(p:PF):PF:=λρ=>match p ρ with
 | none=>none
 | some d=>match tyD d with
  | none=>none
  | some t=>some (.bl (zC t T))
theorem jgH(K:PySem.W.Frag){t T:String}(a:t∈["NoneType","bool","int","str","tuple","list","dict"])(b:T∈["bool","int","str","tuple","list","dict"]):PySem.W.kitOne K (.type t) (.type T)=some (zC t T):=by
 simp only[M9,List.not_mem_nil,or_false] at a b;rcases a with rfl | rfl | rfl | rfl | rfl | rfl | rfl<;>rcases b with rfl | rfl | rfl | rfl | rfl | rfl<;>rfl
theorem Rep.ty{x:D}{v:V}{O:List Addr}{t:String}(r:Rep R Z H x v O)(e:tyD x=some t):TyQ R.K H v t/\t∈["NoneType","bool","int","str","tuple","list","dict"]:=by
 cases x with
 | non=>cases e;obtain⟨rfl,_⟩:=r.non_of;exact⟨.non,by simp⟩
 | bl b=>cases e;obtain⟨rfl,_⟩:=r.bl_of;exact⟨.bl _,by simp⟩
 | int i=>cases e;obtain⟨rfl,_⟩:=r.int_of;exact⟨.int _,by simp⟩
 | str s=>cases e;obtain⟨rfl,_⟩:=r.str_of;exact⟨.str _,by simp⟩
 | tup l=>cases e;obtain⟨p,d,rfl,c,f⟩:=r.tup_of;exact⟨.tup c,by simp⟩
 | lst o l=>cases e;obtain⟨p,d,g,rfl,c,f⟩:=r.lst_of;exact⟨.lst c.sq,by simp⟩
 | dK o h l=>cases o with
  | false=>cases e
  | true=>cases e;rw[Rep] at r;obtain⟨a,j,g,rfl,_,_,hd,_⟩:=r;exact⟨.dK hd,by simp⟩
 | _=>cases e
theorem ji2{T:String}(a:T∈["bool","int","str","tuple","list","dict"]){te:TE}{p:PF}(h:PB R te p) :
  PP R (tCB (λxs H Q=>∃ x T t b,xs=[x,.ty T]/\TyQ R.K H x t/\PySem.W.kitOne R.K (.type t) (.type T)=some b/\Q (.bl b) H) (vd te (vd (tC (.ty T)) K9))) (xD T p):=by
 intro σ ρ Z H O d z s e Q k;unfold xD at e;cases e1:p ρ with
 | none=>rw[e1] at e;cases e
 | some x =>
  rw[e1] at e;dsimp only at e;cases e2:tyD x with
  | none=>rw[e2] at e;cases e
  | some t =>
   rw[e2] at e;cases e;refine h z s e1 λ{v j l m} c f=>?_;obtain⟨g,i⟩:=f.ty e2;exact⟨v,T,t,zC t T,rfl,g,jgH _ i a,k c .bl_mk⟩
end
noncomputable def Yv:List D->List D->List D
 | x::l,y::m=>.tup [x,y]::Yv l m
 | _,_=>[]
theorem zm:∀(l m:List D),(Yv l m).length=min l.length m.length
 | [],_=>by simp[Yv]
 | _::_,[]=>by simp[Yv]
 | x::l,y::m=>by rw[Yv,M7,zm];simp
theorem zM:∀(l m:List D) (i:Nat) (y:D),(Yv l m)[i]?=some y->∃ a b,l[i]?=some a/\m[i]?=some b/\y=.tup [a,b]
 | [],_,_,_,e=>by simp[Yv] at e
 | _::_,[],_,_,e=>by simp[Yv] at e
 | x::l,z::m,0,y,e=>by simp[Yv] at e;exact⟨x,z,rfl,rfl,e.symm⟩
 | x::l,z::m,i+1,y,e=>by
  obtain⟨a,b,c,d,f⟩:=zM l m i y (by simpa [Yv] using e);exact⟨a,b,by simpa using c,by simpa using d,f⟩
noncomputable def jhh(p:PAf):PAf:=λρ=>match p ρ with
 | some [.lst _ l,.lst _ m]=>some (Yv (fzs l) (fzs m))
 | _=>none
theorem jc3(z:Zd Z H)(hp:H p=none)(b:Rep R Z H x u [])(c:Rep R Z H y v []):Rep R (λa=>Z a \/ a=p) (upd H p (.tup [u,v])) (.tup [x,y]) (.ref p) [] :=
 Rep.tupNew (wf0 z) hp (.cons b (.cons c .empty))
theorem jhl(h:PPs R ta p):PIt R (jkR R.K ta) (jhh p):=by
 intro σ ρ Z H O xs z s e Q k;unfold jhh at e;split at e
 ·rename_i o l o2 m r;cases e;refine h z s r λ{vs M H1 P1} g1 r1=>?_;obtain⟨v,v2,O1,O2,rfl,rfl,r2,C⟩:=r1.two_of;have N:=r2.freeze (Z':=λa=>M a \/ a∈O1++O2) (λa z=>.inl z) λa z=>.inr (List.mem_append_left _ z);have d:=C.freeze (Z':=λa=>M a \/ a∈O1++O2) (λa z=>.inl z) λa z=>.inr (U6 _ z);rw[fz,Rep] at N d;obtain⟨a,f,O',rfl,rs,P,rfl,_⟩:=N;obtain⟨a',b,O'',rfl,D,g,rfl,_⟩:=d;refine⟨a,a',f,b,rfl,FL.sq P,FL.sq g,k g1.fz ?_⟩;intro S T A B zd i;have E:=(P.frame A B).sq;have c:=(g.frame A B).sq;have U:Reps R S T (fzs l) f []:=rs.frame A B λa F=>(nomatch F);have j:Reps R S T (fzs m) b []:=D.frame A B λa F=>(nomatch F);refine⟨λV=>⟨f,b,E,c,by rw[U.length,j.length];rw[zm] at V;exact V⟩,λx hx=>?_⟩;obtain⟨y,y',hy,G,rfl⟩:=zM _ _ i x hx;obtain⟨u,W,ru⟩:=U.item hy;obtain⟨u',n,I⟩:=j.item G;refine⟨⟨f,b,u,u',E,c,W,n⟩,λw H3 J=>?_⟩;obtain⟨q,t,t',ht,L,rfl,X,rfl⟩:=J;have r:=ht f E;rw[W] at r;cases r;have Y:=L b c;rw[n] at Y;cases Y;exact⟨_,Go.newF (wf0 zd) X,jc3 zd X ru I⟩
 ·cases e
theorem ji9(h:ixN n i=some j):j < n:=(uh h).2.1
theorem Slots.setItem(w:WF Z H (P++O))(s:Slots R Z H ρ σ O)(q:ρ[i]?=some (some (.lst true l)))(F:j < l.length)(rd:Rep R Z H d u P) :
  ∃ a vs,σ[i]?=some (some (.ref a))/\H a=some (.lst vs)/\vs.length=l.length/\(∃ O',Go Z H (P++O) Z (upd H a (.lst (vs.set j u))) O'/\Slots R Z (upd H a (.lst (vs.set j u))) (ρ.set i (some (.lst true (l.set j d)))) σ O'):=by
 obtain⟨A,Q,B,rfl,G,I,_⟩:=s.put (M5.mp q).1;obtain⟨v,t,r⟩:=G _ q;rw[Rep] at r;obtain⟨a,vs,O',rfl,y,J,rfl⟩:=r;refine⟨a,vs,t,J,y.length,?_⟩;obtain⟨x,K⟩:∃ x,l[j]?=some x:=⟨l[j],by simp[F]⟩;obtain⟨M,g,o,h,N,rfl,S,put⟩:=y.at K;have m:Go Z H (P++(A++(a::(g++o++h))++B)) Z (upd H a (.lst (vs.set j u))) (P++(A++(a::(g++o++h))++B)):=Go.put w (by simp);have nd:=w.nd;have n:∀ b,b∈P \/ b∈A \/ b∈g \/ b∈o \/ b∈h \/ b∈B->b≠a:=by
  intro b f e;subst e;simp only[X1,List.nodup_cons,N6,M9] at nd
  grind
 have k:∀ b,Z b->upd H a (.lst (vs.set j u)) b=H b:=λb f=>jo λz=>w.nz a (by simp) (z▸f);have p:=put (Z':=Z) (H':=upd H a (.lst (vs.set j u))) (rd.frame (λ_ z=>z) k λb f=>jo (n b (.inl f))) (λ_ z=>z) k (λb f=>jo (n b (.inr (.inr (.inl f))))) (λb f=>jo (n b (.inr (.inr (.inr (.inr (.inl f)))))));have L:Rep R Z (upd H a (.lst (vs.set j u))) (.lst true (l.set j d)) (.ref a) (a::(g++P++h)):=by
  rw[Rep];exact⟨a,vs.set j u,_,rfl,p,jA,rfl⟩
 have C:=I L (λ_ z=>z) k (λb f=>jo (n b (.inr (.inl f)))) (λb f=>jo (n b (.inr (.inr (.inr (.inr (.inr f)))))));rw[qF t] at C;have D:(P++(A++(a::(g++[]++h))++B)).Perm (A++(a::(g++P++h))++B):=List.perm_iff_count.mpr λc=>by
  simp[List.count_append,List.count_cons];lia
 have E:(P++(A++(a::(g++[]++h))++B)).Sublist (P++(A++(a::(g++o++h))++B)) :=
  (List.Sublist.refl _).append (((List.Sublist.refl _).append (List.Sublist.cons_cons a (((List.Sublist.refl _).append (List.nil_sublist _)).append (List.Sublist.refl _)))).append (List.Sublist.refl _))
 exact⟨_,m.drop (λb f=>E.subset (D.symm.subset f)) (D.nodup_iff.mp (nd.sublist E)),C⟩
noncomputable def gIx(pm:List Nat)(i:Nat)(pi:PF):D->Rh->Option Rh:=λd ρ=>match pi ρ with
 | some (.int k)=>(match ρ[i]? with
  | some (some (.lst true l))=>(match ixN l.length k with
   | some j=>some (ρ.set i (some (.lst true (l.set j d))))
   | none=>none)
  | _=>none)
 | _=>none
theorem jkX(h:PB R te pi):DG R pm (jkT (V7 i) te jfe) (gIx pm i pi):=by
 intro σ ρ I Z H O P d v w r s e Q k;unfold gIx at e;split at e
 ·rename_i n q;split at e
  ·rename_i l c;cases e2:ixN l.length n with
   | none=>rw[e2] at e;cases e
   | some j =>
    rw[e2] at e;cases e;obtain⟨A,m,B,rfl,t,_,_⟩:=s.put (M5.mp c).1;obtain⟨x,o,J⟩:=t _ c;refine⟨x,o,?_⟩;refine h w.zd s q λ{u y z K} f C=>?_;obtain⟨rfl,_⟩:=C.int_of;have b:Go Z H (P++(A++m++B)) y z (P++(A++m++B)):=by simpa using f.widen w
    obtain⟨a,D,p,E,g,L,F,G⟩:=Slots.setItem b.wf (f.slots w.zd s) c (ji9 e2) (f.rep w.zd r);rw[o] at p;cases p;exact⟨a,D,n,j,rfl,rfl,E,by rw[g];exact e2,k (b.trans F) G (Keep.refl _ _)⟩
  ·cases e
 ·cases e
end QD
namespace QD
open PySem L2 PySem.Spec PyProof.Rows
section
variable (c:Nat->Addr)(pm:List Nat)(X:Cx)
structure QP(e:Expr)(te:TE)(p:PF):Prop where
 sem:PE X e te
 den:PP ⟨X.K,c⟩ te p
structure QB(e:Expr)(te:TE)(p:PF):Prop where
 sem:PE X e te
 den:PB ⟨X.K,c⟩ te p
structure QPs(es:List Expr)(ta:TA)(p:PAf):Prop where
 sem:PA X es ta
 den:PPs ⟨X.K,c⟩ ta p
structure QBs(es:List Expr)(ta:TA)(p:PAf):Prop where
 sem:PA X es ta
 den:PBs ⟨X.K,c⟩ ta p
 n:∀ ρ ds,p ρ=some ds->ds.length=es.length
structure QT(e:Expr)(tt:TT)(q:PTf):Prop where
 sem:PT X e tt
 den:PTt ⟨X.K,c⟩ tt q
structure QW(e:Expr)(tt:TT)(q:PTf):Prop where
 sem:PW X e tt
 den:PTt ⟨X.K,c⟩ tt q
structure QI(tg e:Expr)(wi:TI)(p:PAf):Prop where
 sem:PI X tg e wi
 den:PIt ⟨X.K,c⟩ wi p
structure QG(tg:Expr)(t:TG)(g:D->Rh->Option Rh):Prop where
 sem:PG X tg t
 den:PGt ⟨X.K,c⟩ pm t g
structure QGs(tg:List Expr)(t:TGs)(g:List D->Rh->Option Rh):Prop where
 sem:PGs X tg t
 den:jiv ⟨X.K,c⟩ pm t g
structure QE(e:Expr)(te:TE)(f:FE):Prop where
 sem:PE X e te
 den:DE ⟨X.K,c⟩ te f
structure QS(st:Stmt)(ts:TS)(f:FS):Prop where
 sem:PS X st ts
 den:DS ⟨X.K,c⟩ pm ts f
structure QSs(st:List Stmt)(ts:TS)(f:FS):Prop where
 sem:PSs X st ts
 den:DS ⟨X.K,c⟩ pm ts f
structure QO(e:Option Expr)(t:TO)(p:OF):Prop where
 sem:PO X e t
 den:PO' ⟨X.K,c⟩ t p
structure QIf(ifs:List Expr)(tc:TT)(q:PTf):Prop where
 sem:PIf X ifs tc
 den:PTt ⟨X.K,c⟩ tc q
end
theorem QP.bb(h:QP cl X e te pe):QB cl X e te pe:=⟨h.sem,PP.b h.den⟩
theorem QB.f(h:QB cl X e te pe):QP cl X e te (pF pe):=⟨h.sem,PB.f h.den⟩
theorem QP.d(h:QP cl X e te pe):QE cl X e te (dP pe):=⟨h.sem,PP.d h.den⟩
theorem ja(i:Nat)  (b:X.N[i]?=some x:=by rfl) (c:Vis X.env.scope x:=by first | exact Or.inl rfl | exact Or.inr (Or.inl rfl) | exact Or.inr (Or.inr rfl)) (hd:(x==("__debug__" : Str))=false:=by decide)
  (a:(x==("__classdict__" : Str))=false:=by decide):QB cl X (.Name x pos) (V7 i) (pV i):=⟨wb b c hd a,jiT⟩
theorem jjO(i:Nat)  (b:X.N[i]?=some x:=by rfl) (c:Vis X.env.scope x:=by first | exact Or.inl rfl | exact Or.inr (Or.inl rfl) | exact Or.inr (Or.inr rfl)) (hd:(x==("__debug__" : Str))=false:=by decide)
  (a:(x==("__classdict__" : Str))=false:=by decide):QE cl X (.Name x pos) (V7 i) (dMv i):=⟨wb b c hd a,jkD⟩
theorem jgJ{j}:QP cl X (.Constant (.int i) j pos) (tC (.int i)) (pC (.int i)):=⟨jhO,jfn λ_ _=>.int_mk⟩
theorem uZ{j}:QP cl X (.Constant (.bool i) j pos) (tC (.bl i)) (pC (.bl i)):=⟨jkg,jfn λ_ _=>.bl_mk⟩
theorem qW{j}:QP cl X (.Constant .none j pos) (tC .non) (pC .non):=⟨jii,jfn λ_ _=>.non_mk⟩
theorem jkJ{j}(l:List Nat)(h:x=S l):QP cl X (.Constant (.str x) j pos) (tC (.str x)) (pC (.str l)):=⟨jiq,by subst h;exact jfn λ_ _=>.str_mk⟩
theorem jls(a:X.mg x=some (.int i t))(b:Gl X x:=by rfl)(hd:(x==("__debug__" : Str))=false:=by decide):QP cl X (.Name x pos) (tC (.int i)) (pC (.int i)):=⟨ze b a ⟨t,rfl⟩ hd,jfn λ_ _=>.int_mk⟩
theorem jlr(l:List Nat)(a:X.mg x=some (.str y t))(h:y=S l)(b:Gl X x:=by rfl)(hd:(x==("__debug__" : Str))=false:=by decide):QP cl X (.Name x pos) (tC (.str y)) (pC (.str l)):=⟨ze b a ⟨t,rfl⟩ hd,by subst h;exact jfn λ_ _=>.str_mk⟩
theorem jlY(d:D)(a:X.mg x=some (.ref p))(b:∀(Z:Zn) (H:Hp),Rep ⟨X.K,cl⟩ Z H d (.ref p) [])(c:Gl X x:=by rfl)(hd:(x==("__debug__" : Str))=false:=by decide):QP cl X (.Name x pos) (tC (.ref p)) (pC d) :=
 ⟨ze c a rfl hd,jfn b⟩
theorem yu(c:QB cl X a ta pa)(d:QB cl X b tb pb):QP cl X (.BinOp a .Add b pos) (tOp (jdw X.K) ta tb) (p2 jQ pa pb):=⟨xI jhm c.sem d.sem,Qb jjA c.den d.den⟩
theorem Kc(c:QB cl X a ta pa)(d:QB cl X b tb pb):QP cl X (.BinOp a .Sub b pos) (tOp (rI0 λi j=>.int (i - j)) ta tb) (p2 Jg pa pb):=⟨xI jh9 c.sem d.sem,Qb jh5 c.den d.den⟩
theorem Qo(c:QB cl X a ta pa)(d:QB cl X b tb pb):QP cl X (.BinOp a .Mult b pos) (tOp jhq ta tb) (p2 qh pa pb):=⟨xI jfP c.sem d.sem,Qb jh8 c.den d.den⟩
theorem Vm(c:QB cl X a ta pa)(d:QB cl X b tb pb):QP cl X (.BinOp a .FloorDiv b pos) (tOp (rI (λ_ j=>uu j=true) λi j=>.int (i / j)) ta tb) (p2 qK pa pb):=⟨xI jdc c.sem d.sem,Qb ji7 c.den d.den⟩
theorem vG(c:QB cl X a ta pa)(d:QB cl X b tb pb):QP cl X (.BinOp a .Mod b pos) (tOp (rI (λ_ j=>0 < j) λi j=>.int (i % j)) ta tb) (p2 yA pa pb):=⟨xI jip c.sem d.sem,Qb jhz c.den d.den⟩
theorem jbA(c:QB cl X a ta pa)(d:QB cl X b tb pb):QP cl X (.BinOp a .Pow b pos) (tOp (rI jkb λi j=>.int (i ^ j.toNat)) ta tb) (p2 Vk pa pb):=⟨xI jia c.sem d.sem,Qb jhS c.den d.den⟩
theorem jfx(b:QB cl X a ta pa):QP cl X (.UnaryOp .USub a pos) (tUn (rU λi=>.int (-i)) ta) (p1 jaH pa):=⟨jke jhP b.sem,jkC jjE b.den⟩
theorem jkc(b:QB cl X a ta pa):QP cl X (.UnaryOp .Not a pos) (jf9 ta) (jhu pa):=⟨jiF b.sem,jiE b.den⟩
structure CmpR(cl:Nat->Addr)(X:Cx)(op:CmpOp)(b:Expr)(r:R2)(g:D->D->Option D):Prop where
 o:OpR X (compareOp op) r
 g:BO ⟨X.K,cl⟩ r g
 m:behindInMarks op b=false
theorem jex:CmpR cl X .Lt b (rI0 λi j=>.bl (decide (i < j))) jdM:=⟨jkG,jj3,K1 _⟩
theorem jeq:CmpR cl X .LtE b (rI0 λi j=>.bl (decide (i<=j))) jdy:=⟨jkv,jj3,K1 _⟩
theorem ji0:CmpR cl X .Gt b (rI0 λi j=>.bl (decide (j < i))) jht:=⟨jkf,jj3,K1 _⟩
theorem jlH:CmpR cl X .GtE b (rI0 λi j=>.bl (decide (j<=i))) jjY:=⟨jlm,jj3,K1 _⟩
theorem jd6:CmpR cl X .Is b (λx y H Q=>y=.non/\Q (.bl (decide (x=.non))) H) YQ:=⟨jil,jlf,K1 _⟩
theorem c_in(a:behindInMarks .In b=false):CmpR cl X .In b (jhx X.K false) (zE false):=⟨jiK,jiS,a⟩
theorem uE(a:behindInMarks .NotIn b=false):CmpR cl X .NotIn b (jhx X.K true) (zE true):=⟨jbb,jiS,a⟩
theorem xr(h:CmpR cl X op b r g)(c:QB cl X a ta pa)(d:QB cl X b tb pb):QP cl X (.Compare a [op] [b] pos) (tOp r ta tb) (p2 g pa pb):=⟨jgW h.o c.sem d.sem h.m,Qb h.g c.den d.den⟩
theorem jr(h:CmpR cl X op b r g)(c:QB cl X a ta pa)(d:QB cl X b tb pb):QT cl X (.Compare a [op] [b] pos) (jbV (tOp r ta tb)) (jp (p2 g pa pb)):=⟨jfO h.o c.sem d.sem h.m,KZ (PP.b (Qb h.g c.den d.den))⟩
theorem Kk(h:CmpR cl X op b r g)(h':CmpR cl X op' c r' g')(d:QB cl X a ta pa)(e:QB cl X b tb pb)(f:QB cl X c tc pc)(i:lastMarks [op,op'] [b,c]=false:=by with_unfolding_all rfl) :
  QT cl X (.Compare a [op,op'] [b,c] pos) (jbV (jbh r r' ta tb tc)) (jp (Vo g g' pa pb pc)):=⟨jdI h.o h'.o d.sem e.sem f.sem i,KZ (PP.b (jdu h.g h'.g d.den e.den f.den))⟩
theorem Ja(b:QB cl X a ta pa)(c:∀ whole,isTrue a X.env whole=(do let v <- whole;standAt a.pos;holding [v] (truthy v)):=by intro _;rfl):QT cl X a (L2.tB ta) (jp pa):=⟨jjq b.sem c,KZ b.den⟩
theorem Yd(b:QT cl X a tA qa):QT cl X (.UnaryOp .Not a pos) (jli tA) (uI qa):=⟨jhW b.sem,jha b.den⟩
theorem Q8(b:QT cl X a tA qa):QW cl X (.BoolOp .And [a] pos) tA qa:=⟨jgf b.sem,b.den⟩
theorem qZ(b:QT cl X a tA qa):QW cl X (.BoolOp .Or [a] pos) tA qa:=⟨ji6 b.sem,b.den⟩
theorem xC{cl:Nat->Addr}{X:Cx}{a b:Expr}{es:List Expr}{tA tB:TT}{c d:PTf}{pos:Pos}(e:QT cl X a tA c)(f:QW cl X (.BoolOp .And (b::es) pos) tB d):QW cl X (.BoolOp .And (a::b::es) pos) (jk1 tA tB) (jcT c d):=⟨jh7 e.sem f.sem,jis e.den f.den⟩
theorem Y0{cl:Nat->Addr}{X:Cx}{a b:Expr}{es:List Expr}{tA tB:TT}{c d:PTf}{pos:Pos}(e:QT cl X a tA c)(f:QW cl X (.BoolOp .Or (b::es) pos) tB d):QW cl X (.BoolOp .Or (a::b::es) pos) (tOr tA tB) (qOr c d):=⟨jkB e.sem f.sem,jk7 e.den f.den⟩
theorem QW.t(h:QW cl X a tA qa):QT cl X a tA qa:=⟨PW.pt h.sem,h.den⟩
theorem jc7{op}(h:QP cl X a ta pa):QP cl X (.BoolOp op [a] pos) ta pa:=⟨jjH h.sem,h.den⟩
theorem jb7(c:QB cl X a ta pa)(d:QP cl X (.BoolOp .And (b::es) pos) tb pb):QP cl X (.BoolOp .And (a::b::es) pos) (jhj ta tb) (jcS pa pb):=⟨jjw c.sem d.sem,jh4 c.den d.den⟩
theorem jlv(d:QT cl X c tA qa)(e:QP cl X a ta pa)(f:QP cl X b tb pb):QP cl X (.IfExp c a b pos) (tIf tA ta tb) (pIf qa pa pb):=⟨jda d.sem e.sem f.sem,jlh d.den e.den f.den⟩
theorem jx:QPs cl X [] K9 pN:=⟨Yc,pps_nil⟩
theorem jf(a:QP cl X e te pe)(b:QPs cl X es tr pr)(c:starEach (e::es) X.env=(false,eval e X.env)::starEach es X.env:=by rfl):QPs cl X (e::es) (vd te tr) (jb pe pr):=⟨yS a.sem b.sem c,pps_cons a.den b.den⟩
theorem ji:QBs cl X [] K9 pN:=⟨Yc,jcc,λρ a e=>by cases e;rfl⟩
theorem jc(b:QB cl X e te pe)(a:QBs cl X es tr pr)(c:starEach (e::es) X.env=(false,eval e X.env)::starEach es X.env:=by rfl):QBs cl X (e::es) (vd te tr) (jb pe pr) :=
 ⟨yS b.sem a.sem c,jc4 b.den a.den,λρ f h=>by
  unfold jb at h;cases e1:pe ρ with
  | none=>rw[e1] at h;cases h
  | some x =>
   rw[e1] at h;dsimp only at h;cases e2:pr ρ with
   | none=>rw[e2] at h;cases h
   | some d =>
    rw[e2] at h;cases h;rw[M7,M7,a.n ρ d e2]⟩
theorem jkh{x1}(h:QPs cl X es tr pr):QP cl X (.Tuple es x1 pos) (jkS tr) (jhv pr):=⟨jhG h.sem,jir h.den⟩
theorem yc(h:QPs cl X es tr pr):QP cl X (.List es pos) (jkZ tr) (vL pr):=⟨jiP h.sem,jja h.den⟩
theorem Kj(c:QB cl X a ta pa)(d:QB cl X b tb pb)(e:wR b:=by exact λ_ _=>rfl):QB cl X (.Subscript a b pos) (tOp (rIx X.K) ta tb) (p2 kW pa pb):=⟨jkW jiR c.sem d.sem e,jkx jkt c.den d.den⟩
theorem YM:QO cl X none wJ oN:=⟨jfr,jlV⟩
theorem Yr(h:QB cl X e te pe):QO cl X (some e) (jgL te) (oS pe):=⟨jfM h.sem,jlM h.den⟩
theorem jfA{cl:Nat->Addr}{X:Cx}{lo hi:Option Expr}(b:QB cl X a ta pa)(c:QO cl X lo tl pl)(d:QO cl X hi th ph):QP cl X (.Subscript a (.Slice lo hi none p2') pos) (tSl (jle X.K) ta tl th) (pSl pa pl ph) :=
 ⟨jek jlS b.sem c.sem d.sem,jko b.den c.den d.den⟩
theorem jw{cl:Nat->Addr}{X:Cx}{e:Expr}{es:List Expr}{tr:TA}{pr:PAf}{pos:Pos}{k n:Nat}{f:Addr}{fd:FuncData}{ps:List Str}{m:List D->Option D}{x qual:Str}{st:Stmt}{p:Pos}(F:FnFact X.K X.mg x qual st f fd ps)(G:FnOk X.prog X.w X.K X.mg X.base CX0 k f fd ps (spP ⟨X.K,cl⟩ m n))(d:Room k X.A)
  (a:QBs cl X (e::es) tr pr) (g:(e::es).length=n:=by rfl) (i:Gl X x:=by rfl) (b:(x==("__debug__" : Str))=false:=by decide)
  (j:starEach (e::es) X.env=(false,eval e X.env)::starEach es X.env:=by rfl) (c:(backTo pos (starEach es X.env)).any (·.1)=false:=by rfl):QP cl X (.Call (.Name x p) (e::es) [] pos) (Qf (spP ⟨X.K,cl⟩ m n) [] E0 tr) (jz m pr) :=
 ⟨jkd F G d a.sem i b j c,jcg a.den λρ l h=>(a.n ρ l h).trans g⟩
theorem uH{cl:Nat->Addr}{X:Cx}{pos:Pos}{k n:Nat}{f:Addr}{fd:FuncData}{ps:List Str}{m:List D->Option D}{x qual:Str}{st:Stmt}{p:Pos}(F:FnFact X.K X.mg x qual st f fd ps)(G:FnOk X.prog X.w X.K X.mg X.base CX0 k f fd ps (spP ⟨X.K,cl⟩ m n))(b:Room k X.A)
  (c:0=n:=by rfl) (d:Gl X x:=by rfl) (a:(x==("__debug__" : Str))=false:=by decide):QP cl X (.Call (.Name x p) [] [] pos) (Qf (spP ⟨X.K,cl⟩ m n) [] E0 K9) (jz m pN) :=
 ⟨jik F G b d a,jcg jcc λρ e h=>by cases h;exact c⟩
theorem ux{cl:Nat->Addr}{X:Cx}{e:Expr}{es:List Expr}{tr:TA}{pr:PAf}{pos:Pos}{x:Str}{p:Pos}{id:String}{r:List V->Hp->VK->Prop}{g:List D->Option D}(d:CallR X (.builtin id) r)(f:BC ⟨X.K,cl⟩ r g)(h:X.mg x=none)(i:bootBuiltins x=some (.builtin id))(c:QBs cl X (e::es) tr pr)(j:Gl X x:=by rfl)
  (k:x≠"__name__":=by decide) (a:(x==("__debug__" : Str))=false:=by decide) (l:starEach (e::es) X.env=(false,eval e X.env)::starEach es X.env:=by rfl) (b:(backTo pos (starEach es X.env)).any (·.1)=false:=by rfl) :
  QP cl X (.Call (.Name x p) (e::es) [] pos) (tCB r tr) (pCB g pr):=⟨Ki d j h i c.sem k a l b,jjn f c.den⟩
theorem zu(d:CallR X (.type T) r)(f:BC ⟨X.K,cl⟩ r g)(h:X.mg x=none)(i:bootBuiltins x=some (.type T))(c:QBs cl X (e::es) tr pr)(j:Gl X x:=by rfl)
  (k:x≠"__name__":=by decide) (a:(x==("__debug__" : Str))=false:=by decide) (l:starEach (e::es) X.env=(false,eval e X.env)::starEach es X.env:=by rfl) (b:(backTo pos (starEach es X.env)).any (·.1)=false:=by rfl) :
  QP cl X (.Call (.Name x p) (e::es) [] pos) (tCB r tr) (pCB g pr):=⟨jcB d j h i c.sem k a l b,jjn f c.den⟩
theorem vc(b:X.mg "len" = none)  (c:QBs cl X [e] tr pr) (d:Gl X "len":=by rfl) (f:starEach [e] X.env=(false,eval e X.env)::starEach [] X.env:=by rfl) (a:(backTo pos (starEach [] X.env)).any (·.1)=false:=by rfl) :
  QP cl X (.Call (.Name "len" p) [e] [] pos) (tCB (λxs H Q=>∃ x n,xs=[x]/\jk0 X.K x H n/\Q (.int n) H) tr) (pCB kZ pr):=ux jdQ jjz b PySem.boot_len c d (by decide) (by decide) f a
theorem jbI:bootBuiltins "all" = some (.builtin "all"):=by decide +kernel
theorem ja3:bootBuiltins "max" = some (.builtin "max"):=by decide +kernel
theorem V9:bootBuiltins "isinstance" = some (.builtin "isinstance"):=by decide +kernel
theorem Ky:bootBuiltins "int" = some (.type "int"):=by decide +kernel
theorem Kw:bootBuiltins "str" = some (.type "str"):=by decide +kernel
theorem qg:bootBuiltins "list" = some (.type "list"):=by decide +kernel
theorem Ys:bootBuiltins "tuple" = some (.type "tuple"):=by decide +kernel
theorem Qq:bootBuiltins "bool" = some (.type "bool"):=by decide +kernel
theorem Ka{cl:Nat->Addr}{X:Cx}{a:Expr}{ta:TE}{pa:PF}{pos:Pos}{T:String}{x:Str}{p p1:Pos}(j:T∈["bool","int","str","tuple","list","dict"])(k:X.mg "isinstance" = none)(c:X.mg x=none)(d:bootBuiltins x=some (.type T))(h:QB cl X a ta pa)(l:Gl X "isinstance":=by rfl)(e:Gl X x:=by rfl)
  (m:x≠"__name__":=by decide) (f:(x==("__debug__" : Str))=false:=by decide) (i:starEach [a,.Name x p1] X.env=(false,eval a X.env)::starEach [.Name x p1] X.env:=by rfl) (g:(backTo pos (starEach [.Name x p1] X.env)).any (·.1)=false:=by rfl)
  (h1:starEach [.Name x p1] X.env=(false,eval (.Name x p1) X.env)::starEach [] X.env:=by rfl) :
  QP cl X (.Call (.Name "isinstance" p) [a,.Name x p1] [] pos) (tCB (λxs H Q=>∃ x T t b,xs=[x,.ty T]/\TyQ X.K H x t/\PySem.W.kitOne X.K (.type t) (.type T)=some b/\Q (.bl b) H) (vd ta (vd (tC (.ty T)) K9))) (xD T pa) :=
 ⟨Ki xS l k V9 (yS h.sem (yS (jb4 e c d rfl m f) Yc h1) i) (by decide) (by decide) i g,ji2 j h.den⟩
theorem jaj(h:QP cl X e te pe):QI cl X tg e (jhA X.K te) (pIt pe):=⟨jfd h.sem,jk3 h.den⟩
theorem zi(b:X.mg "range" = none)(h:QBs cl X [a] tr pr)(c:Gl X "range":=by rfl)(d:starEach [a] X.env=[(false,eval a X.env)]:=by rfl):QI cl X tg (.Call (.Name "range" p) [a] [] pos) (jfq tr) (zI pr):=⟨jcp c b h.sem d,jg1 h.den⟩
theorem je6(d:X.mg "zip" = none)(h:QPs cl X [a,b] tr pr)(e:Gl X "zip":=by rfl)(f:starEach [a,b] X.env=[(false,eval a X.env),(false,eval b X.env)]:=by rfl)(c:starEach [b] X.env=[(false,eval b X.env)]:=by rfl) :
  QI cl X (.Tuple elts n tpos) (.Call (.Name "zip" p) [a,b] [] pos) (jkR X.K tr) (jhh pr):=⟨jiJ e d h.sem f c,jhl h.den⟩
theorem yR(a:X.N.Nodup)(hi:X.N[i]?=some x:=by rfl)(b:Loc X.env.scope x:=by first | exact Or.inl rfl | exact Or.inr rfl)(c:X.fn x=true \/ X.env.scope.names.lookup x=some .local:=by first | exact .inl rfl | exact .inr rfl) :
  QG cl pm X (.Name x pos) (zS i) (jB pm i):=⟨jfT a hi b c,jei⟩
theorem zp:QGs cl pm X [] jkM gN:=⟨jg6,jd2⟩
theorem kr(h1:QG cl pm X e t g)(h2:QGs cl pm X es ts gs)(a:(assignEach (e::es) X.env).map (·.2)=assign e X.env::(assignEach es X.env).map (·.2):=by rfl):QGs cl pm X (e::es) (jgA t ts) (gC g gs):=⟨jel h1.sem h2.sem a,jbJ h1.den h2.den⟩
theorem uX(b:X.calm=true)(h:QGs cl pm X es ts gs)(c:(assignEach es X.env).length=n:=by rfl)(a:(assignEach es X.env).findIdx? (·.1)=none:=by rfl):QG cl pm X (.Tuple es k pos) (jk8 X.K n ts) (gT n gs):=⟨jiY b h.sem c a,jfs h.den⟩
theorem jcZ:QIf cl X [] (λ_ H Q=>Q true H) qT:=⟨.inl ⟨rfl,rfl⟩,jgO⟩
theorem zK(h:QT cl X c tA qa):QIf cl X [c] tA qa:=⟨.inr ⟨c,rfl,h.sem⟩,h.den⟩
theorem jm:QSs cl pm X [] jfj jF:=⟨jfL,jfF⟩
theorem jg{cl:Nat->Addr}{pm:List Nat}{X:Cx}{st:Stmt}{ts:TS}{f:FS}(h:QS cl pm X st ts f):QSs cl pm X [st] ts f:=⟨zk h.sem,h.den⟩
theorem je{cl:Nat->Addr}{pm:List Nat}{X:Cx}{st:Stmt}{rest:List Stmt}{ts tu:TS}{f fe:FS}(h:QS cl pm X st ts f)(k:QSs cl pm X rest tu fe):QSs cl pm X (st::rest) (jhw ts tu) (jD f fe):=⟨zN h.sem k.sem,jeZ h.den k.den⟩
theorem jn(h:QE cl X e te fE):QS cl pm X (.Return (some e) pos) (jjr te) (yj fE):=⟨jeA h.sem,jiV h.den⟩
theorem jJ(a:QT cl X c tA qa)(b:QSs cl pm X x ts f)(e:QSs cl pm X y tu fe):QS cl pm X (.If c x y pos) (jiL tA ts tu) (sIf (dPT qa) f fe):=⟨jhH a.sem b.sem e.sem,jjG (PTt.d a.den) b.den e.den⟩
theorem uO{cl:Nat->Addr}{pm:List Nat}{X:Cx}{st:Stmt}:QS cl pm X st jbY kY:=⟨jdV,jdT⟩
theorem ju(a:X.N.Nodup)(h:QE cl X e te fE)(hi:X.N[i]?=some x:=by rfl)(b:Loc X.env.scope x:=by first | exact Or.inl rfl | exact Or.inr rfl)(c:swapsWith e (some (.Name x pos')) pos.line X.env=pure false:=by rfl)
  (d:X.fn x=true \/ X.env.scope.names.lookup x=some .local:=by first | exact .inl rfl | exact .inr rfl):QS cl pm X (.Assign [.Name x pos'] e pos) (jgF te (zS i)) (yw fE (jB pm i)):=⟨jer a hi b h.sem c d,jcu h.den jcx⟩
theorem JI(a:QB cl X (.Name x xpos) (V7 i) (pV i))(hi:QB cl X b tb pb)(h:QE cl X e te fE)
  (c:∀ v,assign (.Subscript (.Name x xpos) b ipos) X.env v=(do
   let ov <- holding [v] (eval (.Name x xpos) X.env)
   let iv <- holding [v,ov] (eval b X.env)
   standAt ipos
   holding [v,ov,iv] (setItem ov iv v)
   release [v,ov,iv] []):=by intro _;rfl)
  (d:swapsWithSole [.Subscript (.Name x xpos) b ipos] e pos.line X.env=pure false:=by rfl) (f:swappedStores [.Subscript (.Name x xpos) b ipos] e X.env=pure none:=by rfl)
  (h1:(assignEach [.Subscript (.Name x xpos) b ipos] X.env).map (·.2)=[assign (.Subscript (.Name x xpos) b ipos) X.env]:=by rfl) :
  QS cl pm X (.Assign [.Subscript (.Name x xpos) b ipos] e pos) (jgF te (jkT (V7 i) tb jfe)) (yw fE (gIx pm i pb)):=⟨jjj h.sem (jhK a.sem hi.sem jde c) d f h1,jcu h.den (jkX hi.den)⟩
theorem jah(j:QB cl X (.Name x xpos) (V7 i) (pV i))(h:QP cl X e te pe)(b:attributeBase (.Name x xpos) "append" X.env (eval (.Name x xpos) X.env)=eval (.Name x xpos) X.env:=by rfl)
  (d:((backTo cpos (starEach [e] X.env)).all (λx=>!x.1)&&(backToKw cpos (keywordEach [] X.env)).all (λx=>x.1.isSome)
   && decide ([e].length+([]:List Keyword).length+(if([]:List Keyword).isEmpty then 0 else 1) < 30))=true:=by rfl)
  (c:(apos.endLine==cpos.line)=true:=by rfl) (g:starEach [e] X.env=(false,eval e X.env)::starEach [] X.env:=by rfl) (a:(backTo cpos (starEach [] X.env)).any (·.1)=false:=by rfl)
  (f:swapsWith (.Call (.Attribute (.Name x xpos) "append" apos) [e] [] cpos) none pos.line X.env=pure false:=by rfl) :
  QS cl pm X (.Expr (.Call (.Attribute (.Name x xpos) "append" apos) [e] [] cpos) pos) (zq (tBM X.K "list" wN (V7 i) (vd te K9))) (jdX i pe) :=
 ⟨zj (jcr PySem.F.plainAttrs_list PySem.F.slot_list_append PySem.F.type_list_append wz j.sem (yS h.sem Yc g) b d c g a) f,jjF h.den⟩
theorem Y1(hp:PassesOwn (model X.prog X.w) X.A X.env X.xe)(c:X.calm=true)(hi:QI cl X tg iter wi pi)(a:QG cl pm X tg t g)(b:QSs cl pm X body ts f)(d:∀ x,foldedSetIterable iter X.env x=pure x:=by intro _;rfl):QS cl pm X (.For tg iter body [] pos) (jjb wi t ts) (zZ pi g f) :=
 ⟨jeC hp c hi.sem a.sem b.sem d,jeU hi.den a.den b.den⟩
theorem QS.fz{cl:Nat->Addr}{pm:List Nat}{X:Cx}{st:Stmt}{ts:TS}{f:FS}(i:Nat)(h:QS cl pm X st ts f):QS cl pm X st ts (sFz i f):=⟨h.sem,jkl h.den⟩
theorem y0{cl:Nat->Addr}{P:Program}{w:World}{K:PySem.W.Frag}{mg:Str->Option Value}{base:Heap}{x qual:Str}{fst:Stmt}{fa:Addr}{fd:FuncData}{N ps:List Str}{k n:Nat}{fs:FS}(F:Fun K x qual fst fa fd)(b:FnScope N ps (jj fst))(c:ps.length=n)
  (a:∀(cdv:Value) (A:Around) (outer:List Env) (s:Shared) (H:Hp) (E:XK),Room k (A.deeper (envOfC qual (jj fst) s.heap.objs.size fa cdv)) ->
   ∃ ts,QSs cl [] (uT CX0 P w K mg base N qual (jj fst) fa cdv A outer s H E).nox (y9 fst) ts fs):FnOk P w K mg base CX0 (k+1) fa fd ps (spP ⟨K,cl⟩ (fnP N.length fs) n):=by
 refine F.ok b (λd H Q E h=>by rw[jgZ h,c]) λcdv A outer s H d Q E e h=>?_;obtain⟨ts,q⟩:=a cdv A outer s H E e;exact⟨ts,q.sem,jfC q.den h⟩
mutual
noncomputable def jbP:D->PyData
 | .non=>.none | .bl b=>.bool b | .int i=>.int i | .str s=>.str (S s)
 | .tup l=>.tuple (JD l)
 | .lst _ l=>.list (JD l)
 | .dK _ _ _=>.none | .dT _ _ _=>.none | .ins _ _ _ _=>.none | .dead=>.none | .exc _ _=>.none
noncomputable def JD:List D->List PyData
 | []=>[]
 | d::l=>jbP d::JD l
end
mutual
noncomputable def okE:Nat->D->Bool
 | _,.non=>true | _,.bl _=>true | _,.int _=>true
 | _,.str s=>s.all λc=>decide (c < 1114112)
 | n+1,.tup l=>V0 n l
 | n+1,.lst _ l=>V0 n l
 | _,_=>false
noncomputable def V0:Nat->List D->Bool
 | _,[]=>true
 | n,d::l=>okE n d&&V0 n l
end
mutual
noncomputable def eqD:D->D->Bool
 | .non,.non=>true
 | .bl a,.bl b=>a==b
 | .bl a,.int j=>(if a then 1 else 0)==j
 | .int i,.bl b=>i==(if b then 1 else 0)
 | .int i,.int j=>i==j
 | .str a,.str b=>a==b
 | .tup l,.tup m=>zY l m
 | .lst _ l,.lst _ m=>zY l m
 | _,_=>false
noncomputable def zY:List D->List D->Bool
 | [],[]=>true
 | x::l,y::m=>eqD x y&&zY l m
 | _,_=>false
end
theorem zT:∀(n:Nat) (l:List D),V0 n l=l.all (okE n)
 | _,[]=>rfl
 | n,d::l=>by rw[V0,zT n l];rfl
mutual
theorem jbW:∀(n:Nat) (x y:D),okE n x=true->okE n y=true->PyData.eqv (jbP x) (jbP y)=eqD x y
 | n,.non,y,hx,hy=>by cases y<;>first | rfl | (cases n<;>simp_all [okE])
 | n,.bl a,y,hx,hy=>by cases y<;>first | rfl | (cases n<;>simp_all [okE])
 | n,.int a,y,hx,hy=>by cases y<;>first | rfl | (cases n<;>simp_all [okE])
 | n,.str a,y,hx,hy=>by
  cases y with
  | str b =>
   show(S a==S b)=(a==b);rw[Bool.eq_iff_iff];simp[jkp]
  | _=>first | rfl | (cases n<;>simp_all [okE])
 | 0,.tup l,y,hx,hy=>by simp[okE] at hx
 | n+1,.tup l,y,hx,hy=>by
  cases y with
  | tup m=>show PyData.eqvAll (JD l) (JD m)=zY l m;exact ub n l m (by simpa [okE] using hx) (by simpa [okE] using hy)
  | _=>first | rfl | (simp_all [okE])
 | 0,.lst o l,y,hx,hy=>by simp[okE] at hx
 | n+1,.lst o l,y,hx,hy=>by
  cases y with
  | lst o' m=>show PyData.eqvAll (JD l) (JD m)=zY l m;exact ub n l m (by simpa [okE] using hx) (by simpa [okE] using hy)
  | _=>first | rfl | (simp_all [okE])
 | n,.dK _ _ _,y,hx,hy=>by cases n<;>simp[okE] at hx
 | n,.dT _ _ _,y,hx,hy=>by cases n<;>simp[okE] at hx
 | n,.ins _ _ _ _,y,hx,hy=>by cases n<;>simp[okE] at hx
 | n,.dead,y,hx,hy=>by cases n<;>simp[okE] at hx
 | n,.exc _ _,y,hx,hy=>by cases n<;>simp[okE] at hx
theorem ub:∀(n:Nat) (l m:List D),V0 n l=true->V0 n m=true->PyData.eqvAll (JD l) (JD m)=zY l m
 | n,[],[],_,_=>rfl
 | n,[],_::_,_,_=>rfl
 | n,_::_,[],_,_=>rfl
 | n,x::l,y::m,hx,hy=>by
  rw[V0,M6] at hx hy;show(PyData.eqv (jbP x) (jbP y)&&PyData.eqvAll (JD l) (JD m))=(eqD x y&&zY l m);rw[jbW n x y hx.1 hy.1,ub n l m hx.2 hy.2]
end
mutual
theorem u8:∀(n:Nat) (x:D),okE n x=true->(jbP x).canLay0=true/\(jbP x).depth<=n
 | n,.non,_=>⟨rfl,U8 _⟩
 | n,.bl _,_=>⟨rfl,U8 _⟩
 | n,.int _,_=>⟨rfl,U8 _⟩
 | n,.str s,h=>by
  refine⟨?_,U8 _⟩;have h:(s.all λc=>decide (c < 1114112))=true:=by cases n<;>simpa [okE] using h
  show PyData.strOk (S s)=true;unfold PyData.strOk S;rw[Array.all_eq_true'];intro c hc;rw[List.all_eq_true] at h;exact h c (by simpa using hc)
 | 0,.tup l,h=>by simp[okE] at h
 | n+1,.tup l,h=>by
  obtain⟨h1,h2⟩:=KQ n l (by simpa [okE] using h);exact⟨h1,Nat.succ_le_succ h2⟩
 | 0,.lst o l,h=>by simp[okE] at h
 | n+1,.lst o l,h=>by
  obtain⟨h1,h2⟩:=KQ n l (by simpa [okE] using h);exact⟨h1,Nat.succ_le_succ h2⟩
 | n,.dK _ _ _,hx=>by cases n<;>simp[okE] at hx
 | n,.dT _ _ _,hx=>by cases n<;>simp[okE] at hx
 | n,.ins _ _ _ _,hx=>by cases n<;>simp[okE] at hx
 | n,.dead,hx=>by cases n<;>simp[okE] at hx
 | n,.exc _ _,hx=>by cases n<;>simp[okE] at hx
theorem KQ:∀(n:Nat) (l:List D),V0 n l=true->PyData.canLayAll0 (JD l)=true/\PyData.depthAll (JD l)<=n
 | n,[],_=>⟨rfl,U8 _⟩
 | n,x::l,h=>by
  rw[V0,M6] at h;obtain⟨h1,h2⟩:=u8 n x h.1;obtain⟨h3,h4⟩:=KQ n l h.2;rw[JD];refine⟨?_,?_⟩
  ·show((jbP x).canLay0&&PyData.canLayAll0 (JD l))=true;rw[h1,h3];rfl
  ·show max (jbP x).depth (PyData.depthAll (JD l))<=n;exact Nat.max_le.mpr ⟨h2,h4⟩
end
section
variable {X:Cx}{cl:Nat->Addr}{Z Z':Zn}{H H':Hp}{pins:List (Addr×Obj)}{σ:L2.St}{s:Shared}
mutual
theorem Rep.reads(I:Inv X pins σ H s):∀(n:Nat) {x:D}{v:V}{u:Value}{O:List Addr},Rep ⟨X.K,cl⟩ Z H x v O->RelV v u->okE n x=true->∃ as,Reads s.heap u (jbP x) as
 | n,.non,_,_,_,r,q,_=>by obtain⟨rfl,_⟩:=r.non_of;cases q;exact⟨_,.none⟩
 | n,.bl b,_,_,_,r,q,_=>by obtain⟨rfl,_⟩:=r.bl_of;cases q;exact⟨_,.bool b⟩
 | n,.int i,_,_,_,r,q,_=>by obtain⟨rfl,_⟩:=r.int_of;obtain⟨t,rfl⟩:=q;exact⟨_,.int i t⟩
 | n,.str w,_,_,_,r,q,_=>by obtain⟨rfl,_⟩:=r.str_of;obtain⟨t,rfl⟩:=q;exact⟨_,.str _ t⟩
 | 0,.tup l,_,_,_,r,q,h=>by simp[okE] at h
 | n+1,.tup l,_,_,_,r,q,h=>by
  obtain⟨a,vs,rfl,hx,rs⟩:=r.tup_of;cases q;obtain⟨its,rv,⟨o,h1,h2,k,h3⟩,_⟩:=I.tuple hx;obtain⟨as,hr⟩:=Reps.reads I n rs rv (by simpa [okE] using h);exact⟨_,reads_tuple_at h1 h2 h3 (by simpa using hr)⟩
 | 0,.lst o l,_,_,_,r,q,h=>by simp[okE] at h
 | n+1,.lst o l,_,_,_,r,q,h=>by
  obtain⟨a,vs,O',rfl,hx,rs⟩:=r.lst_of;cases q;obtain⟨its,rv,⟨o,k,h1,h2,_,h3⟩,_⟩:=I.list hx.sq;obtain⟨as,hr⟩:=Reps.reads I n rs rv (by simpa [okE] using h);exact⟨_,reads_list_at h1 h2 h3 (by simpa using hr)⟩
 | n,.dK _ _ _,_,_,_,_,_,hx=>by cases n<;>simp[okE] at hx
 | n,.dT _ _ _,_,_,_,_,_,hx=>by cases n<;>simp[okE] at hx
 | n,.ins _ _ _ _,_,_,_,_,_,hx=>by cases n<;>simp[okE] at hx
 | n,.dead,_,_,_,_,_,hx=>by cases n<;>simp[okE] at hx
 | n,.exc _ _,_,_,_,_,_,hx=>by cases n<;>simp[okE] at hx
theorem Reps.reads(I:Inv X pins σ H s):∀(n:Nat) {l:List D}{vs:List V}{us:List Value}{O:List Addr},Reps ⟨X.K,cl⟩ Z H l vs O->Vals vs us->V0 n l=true->∃ as,ReadsAll s.heap us (JD l) as
 | n,[],_,_,_,r,q,_=>by rw[Reps] at r;obtain⟨rfl,_⟩:=r;cases q;exact⟨_,.nil⟩
 | n,x::l,_,_,_,r,q,h=>by
  rw[Reps] at r;obtain⟨v,vs,O1,O2,rfl,rfl,r1,r2⟩:=r;rw[V0,M6] at h;cases q with
  | cons q1 q2 =>
   obtain⟨as,h1⟩:=Rep.reads I n r1 q1 h.1;obtain⟨bs,h2⟩:=Reps.reads I n r2 q2 h.2;exact⟨_,.cons h1 h2⟩
end
noncomputable def je3(R:RC)(neg:Bool):R2:=λx y H Q=>∃ Z d e O P,Rep R Z H d x O/\Rep R Z H e y P/\okE 20 d=true/\okE 20 e=true/\Q (.bl (neg != eqD d e)) H
theorem jj1{x:D}(h:okE 20 x=true):SeqAt.shaped (jbP x)=true:=by
 obtain⟨a,b⟩:=u8 20 x h;unfold SeqAt.shaped;rw[a,Bool.true_and];exact X3 (U0 b (by decide))
theorem jjI(f:X.A.units+64 < cLine):OpR X (compareOp .Eq) (je3 ⟨X.K,cl⟩ false):=by
 intro c s σ H x y v u Q I g i h;obtain⟨Z,d,e,O,P,j,k,a,b,q⟩:=h;obtain⟨n,l⟩:=j.reads I 20 g a;obtain⟨bs,m⟩:=k.reads I 20 i b;refine eq_dataH l m (jj1 a) (jj1 b) f ?_;rw[jbW 20 d e a b];exact⟨.bl _,H,I,rfl,by simpa using q⟩
theorem jje(f:X.A.units+64 < cLine):OpR X (compareOp .NotEq) (je3 ⟨X.K,cl⟩ true):=by
 intro c s σ H x y v u Q I g i h;obtain⟨Z,d,e,O,P,j,k,a,b,q⟩:=h;obtain⟨n,l⟩:=j.reads I 20 g a;obtain⟨bs,m⟩:=k.reads I 20 i b;refine ne_dataH l m (jj1 a) (jj1 b) f ?_;rw[jbW 20 d e a b];exact⟨.bl _,H,I,rfl,by simpa using q⟩
noncomputable def kn(x y:D):Option D:=bif YR x&&YR y&&zP x y then some (.bl (eqF x y)) else bif okE 20 x&&okE 20 y then some (.bl (eqD x y)) else none
noncomputable def V1(x y:D):Option D:=bif YR x&&YR y&&zP x y then some (.bl (!eqF x y)) else bif okE 20 x&&okE 20 y then some (.bl (!eqD x y)) else none
theorem jkm{R:RC}:BO R (λx y H Q=>rEq x y H Q \/ je3 R false x y H Q) kn:=by
 intro Z H x y d v u O1 O2 z a b e Q k;unfold kn at e;cases hl:YR x&&YR y&&zP x y with
 | true =>
  rw[hl] at e;cases e;obtain⟨c,f⟩:=jbL a b hl;exact .inl ⟨c,by rw[f];exact k (Go.id z) .bl_mk⟩
 | false =>
  rw[hl,cond_false] at e;cases hm:okE 20 x&&okE 20 y with
  | false=>rw[hm] at e;cases e
  | true =>
   rw[hm] at e;cases e;rw[M6] at hm;exact .inr ⟨Z,x,y,O1,O2,a,b,hm.1,hm.2,by simpa using k (Go.id z) .bl_mk⟩
theorem jkj{R:RC}:BO R (λx y H Q=>rNe x y H Q \/ je3 R true x y H Q) V1:=by
 intro Z H x y d v u O1 O2 z a b e Q k;unfold V1 at e;cases hl:YR x&&YR y&&zP x y with
 | true =>
  rw[hl] at e;cases e;obtain⟨c,f⟩:=jbL a b hl;exact .inl ⟨c,by rw[f];exact k (Go.id z) .bl_mk⟩
 | false =>
  rw[hl,cond_false] at e;cases hm:okE 20 x&&okE 20 y with
  | false=>rw[hm] at e;cases e
  | true =>
   rw[hm] at e;cases e;rw[M6] at hm;exact .inr ⟨Z,x,y,O1,O2,a,b,hm.1,hm.2,by simpa using k (Go.id z) .bl_mk⟩
theorem c_eq{b:Expr}{k:Nat}(a:Room k X.A):CmpR cl X .Eq b (λx y H Q=>rEq x y H Q \/ je3 ⟨X.K,cl⟩ false x y H Q) kn:=⟨V4 jkE (jjI a.units),jkm,K1 _⟩
theorem c_ne{b:Expr}{k:Nat}(a:Room k X.A):CmpR cl X .NotEq b (λx y H Q=>rNe x y H Q \/ je3 ⟨X.K,cl⟩ true x y H Q) V1:=⟨V4 jks (jje a.units),jkj,K1 _⟩
def BM(R:RC)(T:String)(r:V->List V->Hp->VK->Prop)(g:D->List D->Option D):Prop:=∀{Z:Zn}{H:Hp}{x d:D}{xs:List D}{v:V}{vs:List V}{O1 O2:List Addr},Zd Z H->Rep R Z H x v O1->Reps R Z H xs vs O2->g x xs=some d ->
 ∀{Q:VK},(∀{w:V}{Z':Zn}{H':Hp}{P:List Addr},Go Z H [] Z' H' P->Rep R Z' H' d w P->Q w H')->r v vs H Q
noncomputable def isT:String->D->Bool
 | "str",.str _=>true
 | _,_=>false
noncomputable def pBM(T:String)(g:D->List D->Option D)(pa:PF)(pr:PAf):PF:=λρ=>match pa ρ with
 | none=>none
 | some x=>bif isT T x then(match pr ρ with
  | none=>none
  | some xs=>g x xs) else none
theorem je0{R:RC}{T:String}{x:D}{v:V}{O:List Addr}(r:Rep R Z H x v O)(h:isT T x=true):tyV R.K T v H:=by
 unfold isT at h;split at h
 ·obtain⟨rfl,_⟩:=r.str_of;rfl
 ·cases h
theorem jkK{R:RC}{T:String}{r:V->List V->Hp->VK->Prop}{g:D->List D->Option D}{to:TE}{ta:TA}{pa:PF}{pr:PAf}(f:BM R T r g)(h:PB R to pa)(i:PBs R ta pr):PP R (tBM R.K T r to ta) (pBM T g pa pr):=by
 intro σ ρ Z H O d z s e Q k;unfold pBM at e;cases e1:pa ρ with
 | none=>rw[e1] at e;cases e
 | some x =>
  rw[e1] at e;dsimp only at e;cases ht:isT T x with
  | false=>rw[ht] at e;cases e
  | true =>
   rw[ht,cond_true] at e;cases e2:pr ρ with
   | none=>rw[e2] at e;cases e
   | some n =>
    rw[e2] at e;refine h z s e1 λ{v o p q} a c=>⟨je0 c ht,?_⟩;refine i a.wf.zd (a.slots z s) e2 λ{t u w y} b j=>?_;exact f b.wf.zd (b.rep a.wf.zd c) j e λl m=>k ((a.pair b).pair l) m
theorem jim{R:RC}{T:String}{r:V->List V->Hp->VK->Prop}{g:D->List D->Option D}{to:TE}{pa:PF}(c:BM R T r g)(f:PB R to pa):PP R (jkY R.K T r to) (pBM T g pa pN):=by
 intro σ ρ Z H O d z s e Q k;unfold pBM pN at e;cases e1:pa ρ with
 | none=>rw[e1] at e;cases e
 | some x =>
  rw[e1] at e;dsimp only at e;cases ht:isT T x with
  | false=>rw[ht] at e;cases e
  | true =>
   rw[ht,cond_true] at e;refine f z s e1 λ{v j l m} a b=>⟨je0 b ht,?_⟩;exact c a.wf.zd b .empty e λh i=>k (by simpa using a.pair h) i
end
end QD
namespace QD
open PySem L2
def ItB(R:RC)(J:It)(Z:Zn)(H:Hp)(xs:List D):Prop:=∀{Z1:Zn}{H1:Hp},(∀ a,Z a->Z1 a)->(∀ a,H a≠none->H1 a=H a)->Zd Z1 H1->∀ i:Nat,
 (xs.length<=i->J.stop i H1)/\∀ x,xs[i]?=some x->J.go i H1/\∀ u H2,J.yld i H1 u H2->∃ Z2,Go Z1 H1 [] Z2 H2 []/\Rep R Z2 H2 x u []
def jjR(R:RC)(wi:TI)(p:PAf):Prop:=∀{σ:St}{ρ:Rh}{Z:Zn}{H:Hp}{O:List Addr}{xs:List D},Zd Z H->Slots R Z H ρ σ O->p ρ=some xs ->
 ∀{Q:It->Hp->Prop},(∀{J:It}{Z':Zn}{H':Hp},Go Z H [] Z' H' []->ItB R J Z' H' xs->Q J H')->wi σ H Q
theorem PIt.b(h:PIt R wi p):jjR R wi p:=by
 intro σ ρ Z H O j z s e Q k;refine h z s e λg c=>k g ?_;intro l m d f zd i;exact c d (λa z=>f a (g.wf.zd a z)) zd i
noncomputable def jdg(p:PF):PAf:=λρ=>match p ρ with
 | some (.lst _ l)=>bif frzs l then some l else none
 | some (.tup l)=>bif frzs l then some l else none
 | some (.str s)=>some (s.map λc=>.str [c])
 | _=>none
theorem jd3(b:∀ a,H a≠none->H' a=H a)(h:SqX K H a vs):SqX K H' a vs:=by
 rcases h with h | h
 ·refine .inl (Rd.agree (b a ?_) h);rcases h with h | ⟨o,h⟩<;>rw[h]<;>exact λz=>(nomatch z)
 ·exact .inr h
theorem jdZ(b:∀ a,H a≠none->H' a=H a)(h:SqT K H a vs):SqT K H' a vs:=by
 rcases h with h | h
 ·refine .inl (Rd.agree (b a ?_) h);rcases h with h | ⟨o,h⟩<;>rw[h]<;>exact λz=>(nomatch z)
 ·exact .inr h
theorem jhM(h:PB R te p):jjR R (jhA R.K te) (jdg p):=by
 intro σ ρ Z H O P z s e Q k;unfold jdg at e;split at e
 ·rename_i o l y;cases hf:frzs l with
  | false=>rw[hf] at e;cases e
  | true =>
   rw[hf] at e;cases e;refine h z s y λ{v I J S} f A=>?_;obtain⟨a,d,U,rfl,B,C⟩:=A.lst_of;have g:=C.frozen hf;refine .inl ⟨a,rfl,⟨d,B.sq⟩,k f ?_⟩;intro r G D j zd i;have c:=SqX.sq (jd3 j B);have m:Reps R r G P d []:=g.frame D (λb z=>j b (f.wf.zd b z)) λb L=>(nomatch L);refine⟨λM=>⟨d,c,by rw[C.length];exact M⟩,λx n=>?_⟩;obtain⟨u,E,N⟩:=m.item n;refine⟨⟨d,u,c,E⟩,λw T q=>?_⟩;obtain⟨rfl,q⟩:=q;have F:=q d c;rw[E] at F;cases F;exact⟨r,Go.id zd,N⟩
 ·rename_i l y;cases hf:frzs l with
  | false=>rw[hf] at e;cases e
  | true =>
   rw[hf] at e;cases e;refine h z s y λ{v I J S} f A=>?_;obtain⟨a,d,rfl,B,C⟩:=A.tup_of;have g:=C.frozen hf;refine .inr (.inl ⟨a,rfl,⟨d,B⟩,k f ?_⟩);intro r G D j zd i;have c:=jdZ j B;have m:Reps R r G P d []:=g.frame D (λb z=>j b (f.wf.zd b z)) λb L=>(nomatch L);refine⟨λM=>⟨d,c,by rw[C.length];exact M⟩,λx n=>?_⟩;obtain⟨u,E,N⟩:=m.item n;refine⟨⟨d,u,c,E⟩,λw T q=>?_⟩;obtain⟨rfl,q⟩:=q;have F:=q d c;rw[E] at F;cases F;exact⟨r,Go.id zd,N⟩
 ·rename_i t y;cases e;refine h z s y λ{v I J S} f A=>?_;obtain⟨rfl,_⟩:=A.str_of;refine .inr (.inr ⟨t,rfl,k f ?_⟩);intro r G D j zd i;exact jeJ (Z:=I) (H:=J) D (λb z=>j b (f.wf.zd b z)) zd i
 ·cases e
theorem uK(hi:jjR R wi pi)(hg:PGt R [] tg g)(hq:PTt R tc q)(he:PP R te p) :
  PP R (jcG wi tg tc te ix) (VO pi g q p ix):=by
 intro σ ρ Z H O d z s e Q k;unfold VO at e;cases e1:pi ρ with
 | none=>rw[e1] at e;cases e
 | some h =>
  rw[e1] at e;dsimp only at e;cases hl:lim h.length with
  | false=>rw[hl] at e;cases e
  | true =>
   rw[hl,cond_true] at e;cases e2:vQ g q p h (y6 ix ρ) with
   | none=>rw[e2] at e;cases e
   | some all =>
    rw[e2] at e;cases e;refine hi z s e1 λ{J F M} g0 it=>?_;intro a ha;have N:=g0.wf.zd;obtain⟨Oi,si⟩:=KB (g0.slots z s) ix;have gp:Go F M [] F (upd M a (.lst [])) [a]:=Go.newO (wf0 N) ha;refine⟨λi m σ2 w=>m=h.length - i/\i<=h.length/\∃ X G O2 x l j rest,Go F M [] G w (a::j)/\w a=some (.lst l)/\Reps R G w x l j/\(∀ b∈O2,b≠a)/\Slots R G w X σ2 O2/\vQ g q p (h.drop i) X=some rest/\all=x++rest/\x.length<=i,
     ⟨h.length,rfl,U8 _,_,F,Oi,[],[],[],all,gp,jA,Reps.empty,λb o e=>si.dom b o (e▸ha),gp.slots N si,e2,rfl,N3 _⟩,?_⟩
    rintro i m σ2 w ⟨rfl,hi',X,G,O2,x,l,j,rest,r,S,Y,na,s2,c,e4,C⟩;have T:=it (Z1:=G) (H1:=w) r.zz (λb z=>r.same b z) r.wf.zd i;by_cases D:i < h.length
    ·right
     have hx:h[i]?=some h[i]:=by simp[D]
     obtain⟨go,yl⟩:=T.2 _ hx;refine⟨go,λu H3 hy=>?_⟩;obtain⟨Z3,I,r3⟩:=yl u H3 hy;rw[Vl hx] at c;unfold vQ at c;cases e5:g h[i] X with
     | none=>rw[e5] at c;cases c
     | some U =>
      rw[e5] at c;dsimp only at c;refine hg r3 (I.slots r.wf.zd s2) e5 λ{σ4 O4} sub nd s4 _=>?_;cases e6:q U with
      | none=>rw[e6] at c;cases c
      | some b =>
       rw[e6] at c;dsimp only at c;refine hq I.wf.zd s4 e6 λ{Z5 H5} V=>?_;have t:=I.pair V;cases b with
       | true =>
        refine jeL ?_;rw[cond_true] at c;cases e7:p U with
        | none=>rw[e7] at c;cases c
        | some y =>
         rw[e7] at c;dsimp only at c;cases e8:vQ g q p (h.drop (i+1)) U with
         | none=>rw[e8] at c;cases c
         | some ys2 =>
          rw[e8] at c;cases c;refine he V.wf.zd (V.slots I.wf.zd s4) e7 λ{v6 K v L} g6 r6=>?_;have E:Go G w [] K v L:=by simpa using t.pair g6
          have ea6:v a=some (.lst l):=by rw[E.same a (by rw[S];exact λz=>(nomatch z))];exact S
          have hvl:l.length < sizeLine:=by
           rw[Y.length];exact uN (n:=x.length) (X3 (U0 C (U0 hi' (X5 hl))))
          have gA:Go F M [] K v (a::j++L):=by
           have f:=E.frame (A:=a::j) (B:=[]) (by simpa using r.wf);exact r.trans (by simpa using f)
          have w6:=gA.wf;have gB:Go K v (a::j++L) K (upd v a (.lst (l++[v6]))) (a::j++L):=Go.put w6 M3;have nd6:=List.nodup_cons.mp w6.nd;have ne:∀ b,b∈j++L->upd v a (.lst (l++[v6])) b=v b:=λb o=>jo λz=>nd6.1 (z▸o);have W:∀ b,K b->upd v a (.lst (l++[v6])) b=v b:=λb o=>jo λz=>w6.nz a M3 (z▸o);refine⟨l,ea6,hvl,h.length - (i+1),by lia,rfl,D,U,K,O4,x++[y],l++[v6],j++L,ys2,gA.trans gB,jA,?_,λb o=>na b (sub b o),?_,e8,by rw[e4];simp,by rw[N8];exact Nat.add_le_add_right C 1⟩
          ·refine((E.reps r.wf.zd Y).append (.one r6)).frame (λb z=>z) W ne
          ·exact((V.pair g6).slots I.wf.zd s4).frame (λb z=>z) W λb o=>jo (na b (sub b o))
       | false =>
        refine jev ?_;rw[cond_false] at c;have gA:Go F M [] Z5 H5 (a::j):=by
         have f:=t.frame (A:=a::j) (B:=[]) (by simpa using r.wf);exact r.trans (by simpa using f)
        exact⟨h.length - (i+1),by lia,rfl,D,U,Z5,O4,x,l,j,rest,gA,by rw[t.same a (by rw[S];exact λz=>(nomatch z))];exact S,t.reps r.wf.zd Y,λb o=>na b (sub b o),V.slots I.wf.zd s4,c,e4,Nat.le_succ_of_le C⟩
    ·left
     have hi2:i=h.length:=by lia
     refine⟨T.1 (by lia),?_⟩;rw[hi2,List.drop_length] at c;cases c;rw[N4] at e4;subst e4;refine k (P:=a::j) (by simpa using g0.pair r) ?_;rw[Rep];exact⟨a,l,j,rfl,Y,S,rfl⟩
structure QIb(cl:Nat->Addr)(X:Cx)(tg e:Expr)(wi:TI)(p:PAf):Prop where
 sem:PI X tg e wi
 den:jjR ⟨X.K,cl⟩ wi p
theorem QI.b'(h:QI cl X tg e wi pi):QIb cl X tg e wi pi:=⟨h.sem,PIt.b h.den⟩
theorem Q9(h:QB cl X e te pe):QIb cl X tg e (jhA X.K te) (jdg pe):=⟨jfd h.sem,jhM h.den⟩
theorem KF(B:BlockOk X scope N' ix)(d:X.calm=true)(hi:QIb cl X tg iter wi pi)
  (b:∀ C s H fp,QG cl [] (yD X scope N' C s H fp) tg t g) (a:∀ C s H fp,QIf cl (yD X scope N' C s H fp) ifs tcc qq) (c:∀ C s H fp,QP cl (yD X scope N' C s H fp) elt te pe)
  (e:∀ x,foldedSetIterable iter X.env x=pure x:=by intro _;rfl):QP cl X (.ListComp elt [⟨tg,iter,ifs,0⟩] scope pos) (jcG wi t tcc te ix) (VO pi g qq pe ix) :=
 ⟨jfQ B d hi.sem (λC s H fp=>(b C s H fp).sem) (λC s H fp=>(a C s H fp).sem) (λC s H fp=>(c C s H fp).sem) e,
  uK hi.den (b 0 X.s₀ X.H₀ []).den (a 0 X.s₀ X.H₀ []).den (c 0 X.s₀ X.H₀ []).den⟩
theorem KP(B:BlockOk X scope N' ix)(h:X.calm=true)(hi:QIb cl X tg iter wi pi)
  (e:∀ C s H fp,QG cl [] (yD X scope N' C s H fp) tg t g) (a:∀ C s H fp,QIf cl (yD X scope N' C s H fp) ifs tcc qq) (f:∀ C s H fp,QP cl (yD X scope N' C s H fp) elt te pe)
  (j:X.N.Nodup) (b:X.N[i]?=some x:=by rfl) (k:Loc X.env.scope x:=by first | exact Or.inl rfl | exact Or.inr rfl)
  (c:swapsWith (.ListComp elt [⟨tg,iter,ifs,0⟩] scope pos) (some (.Name x pos')) spos.line X.env=pure true:=by with_unfolding_all rfl)
  (l:∀ x,foldedSetIterable iter X.env x=pure x:=by intro _;rfl)
  (m:X.fn x=true \/ X.env.scope.names.lookup x=some .local:=by first | exact .inl rfl | exact .inr rfl) :
  QS cl pm X (.Assign [.Name x pos'] (.ListComp elt [⟨tg,iter,ifs,0⟩] scope pos) spos) (jgF (jcG wi t tcc te ix) (zS i)) (yw (dP (VO pi g qq pe ix)) (jB pm i)) :=
 ⟨jaE B h hi.sem (λC s H fp=>(e C s H fp).sem) (λC s H fp=>(a C s H fp).sem) (λC s H fp=>(f C s H fp).sem) j b k c l m,
  jcu (PP.d (uK hi.den (e 0 X.s₀ X.H₀ []).den (a 0 X.s₀ X.H₀ []).den (f 0 X.s₀ X.H₀ []).den)) jcx⟩
noncomputable def Out.thn:Out->FS->Option Out
 | .nx ρ,g=>g ρ
 | .rt d ρ,_=>some (.rt d ρ)
 | .bk ρ,_=>some (.bk ρ)
 | .ct ρ,_=>some (.ct ρ)
@[simp] theorem thn_nx(ρ:Rh)(g:FS):(Out.nx ρ).thn g=g ρ:=rfl
@[simp] theorem thn_rt(d:D)(ρ:Rh)(g:FS):(Out.rt d ρ).thn g=some (.rt d ρ):=rfl
@[simp] theorem thn_bk(ρ:Rh)(g:FS):(Out.bk ρ).thn g=some (.bk ρ):=rfl
@[simp] theorem thn_ct(ρ:Rh)(g:FS):(Out.ct ρ).thn g=some (.ct ρ):=rfl
@[simp] theorem sSeq_e:jD f g ρ=(f ρ).bind λo=>o.thn g:=by
 unfold jD;cases h:f ρ with
 | none=>rfl
 | some o=>cases o<;>rfl
@[simp] theorem sNext_e:jF ρ=some (.nx ρ):=rfl
@[simp] theorem sNever_e:kY ρ=none:=rfl
@[simp] theorem sRet_e:yj fe ρ=(fe ρ).bind λx=>some (.rt x.1 x.2):=by unfold yj;cases fe ρ<;>rfl
@[simp] theorem sAsg_e:yw fe G ρ=(fe ρ).bind λx=>(G x.1 x.2).bind λr=>some (.nx r):=by
 unfold yw;cases fe ρ with
 | none=>rfl
 | some x=>obtain⟨d,r⟩:=x;dsimp only[Option.bind];cases G d r<;>rfl
@[simp] theorem sIf_e:sIf ft f g ρ=(ft ρ).bind λx=>bif x.1 then f x.2 else g x.2:=by unfold sIf;cases ft ρ<;>rfl
@[simp] theorem dP_e:dP pa ρ=(pa ρ).bind λd=>some (d,ρ):=by unfold dP;cases pa ρ<;>rfl
@[simp] theorem dPT_e:dPT q ρ=(q ρ).bind λd=>some (d,ρ):=by unfold dPT;cases q ρ<;>rfl
@[simp] theorem dMv_e:dMv i ρ=(pV i ρ).bind λd=>some (d,ρ.set i none):=by
 unfold dMv pV;cases ρ[i]? with
 | none=>rfl
 | some o=>cases o<;>rfl
@[simp] theorem jlD:pC d ρ=some d:=rfl
@[simp] theorem pN_e:pN ρ=some []:=rfl
@[simp] theorem qT_e:qT ρ=some true:=rfl
@[simp] theorem oN_e:oN ρ=some none:=rfl
@[simp] theorem pV0:pV 0 (o::ρ)=o:=by unfold pV;cases o<;>rfl
@[simp] theorem pVs:pV (i+1) (o::ρ)=pV i ρ:=rfl
@[simp] theorem jlB:p2 G pa pb ρ=(pa ρ).bind λx=>(pb ρ).bind λy=>G x y:=by
 unfold p2;cases pa ρ with
 | none=>rfl
 | some x=>dsimp only[Option.bind];cases pb ρ<;>rfl
@[simp] theorem p1_e:p1 G pa ρ=(pa ρ).bind G:=by unfold p1;cases pa ρ<;>rfl
@[simp] theorem pF_e:pF pa ρ=(pa ρ).bind λd=>bif frz d then some d else none:=by unfold pF;cases pa ρ<;>rfl
@[simp] theorem pCons_e:jb pa p ρ=(pa ρ).bind λx=>(p ρ).bind λxs=>some (x::xs):=by
 unfold jb;cases pa ρ with
 | none=>rfl
 | some x=>dsimp only[Option.bind];cases p ρ<;>rfl
@[simp] theorem jhJ:pCB G p ρ=(p ρ).bind G:=by unfold pCB;cases p ρ<;>rfl
@[simp] theorem pTup_e:jhv p ρ=(p ρ).bind λxs=>bif lim xs.length then some (.tup xs) else none:=by unfold jhv;rw[jhJ]
@[simp] theorem pLst_e:vL p ρ=(p ρ).bind λxs=>bif lim xs.length then some (.lst true xs) else none:=by unfold vL;rw[jhJ]
@[simp] theorem pCall_e:jz m p ρ=(p ρ).bind λds=>(m (fzs ds)).bind λd=>bif frzs ds||vf d then some d else none:=by
 unfold jz;cases p ρ with
 | none=>rfl
 | some x=>dsimp only[Option.bind];cases m (fzs x)<;>rfl
noncomputable def jhy:D->Option Bool
 | .bl b=>some b
 | _=>none
@[simp] theorem jcJ(b:Bool):jhy (.bl b)=some b:=rfl
@[simp] theorem ue:jp pa ρ=(pa ρ).bind jhy:=by
 unfold jp;cases pa ρ with
 | none=>rfl
 | some d=>cases d<;>rfl
@[simp] theorem qNot_e:uI q ρ=(q ρ).bind λb=>some (!b):=by unfold uI;cases q ρ<;>rfl
@[simp] theorem qAnd_e:jcT q q' ρ=(q ρ).bind λb=>bif b then q' ρ else some false:=by unfold jcT;cases q ρ<;>rfl
@[simp] theorem qOr_e:qOr q q' ρ=(q ρ).bind λb=>bif b then some true else q' ρ:=by unfold qOr;cases q ρ<;>rfl
@[simp] theorem pNot_e:jhu pa ρ=(pa ρ).bind λd=>(jhy d).bind λb=>some (.bl (!b)):=by
 unfold jhu;cases pa ρ with
 | none=>rfl
 | some d=>cases d<;>rfl
@[simp] theorem pAnd_e:jcS pa pb ρ=(pa ρ).bind λd=>(jhy d).bind λb=>bif b then pb ρ else some (.bl false):=by
 unfold jcS;cases pa ρ with
 | none=>rfl
 | some d=>cases d<;>rfl
@[simp] theorem pIf_e:pIf q pa pb ρ=(q ρ).bind λb=>bif b then pa ρ else pb ρ:=by unfold pIf;cases q ρ<;>rfl
@[simp] theorem pChain_e:Vo G G' pa pb pc ρ=(pa ρ).bind λx=>(pb ρ).bind λy=>(G x y).bind λd=>(jhy d).bind λb=>bif b then((pc ρ).bind λw=>G' y w) else some (.bl false):=by
 unfold Vo;cases pa ρ with
 | none=>rfl
 | some x =>
  dsimp only[Option.bind];cases pb ρ with
  | none=>rfl
  | some y =>
   dsimp only;cases G x y with
   | none=>rfl
   | some d=>cases d with
    | bl b=>cases b with
     | true=>dsimp only[jhy,cond];cases pc ρ<;>rfl
     | false=>rfl
    | _=>rfl
@[simp] theorem oS_e:oS pa ρ=(pa ρ).bind λd=>match d with | .int i=>some (some i) | _=>none:=by
 unfold oS;cases pa ρ with
 | none=>rfl
 | some d=>cases d<;>rfl
@[simp] theorem pSl_e:pSl pa pl ph ρ=(pa ρ).bind λx=>(pl ρ).bind λlo=>(ph ρ).bind λhi=>jau lo hi x:=by
 unfold pSl;cases pa ρ with
 | none=>rfl
 | some x =>
  dsimp only[Option.bind];cases pl ρ with
  | none=>rfl
  | some lo=>dsimp only;cases ph ρ<;>rfl
@[simp] theorem gSet_e:jB pm i d ρ=bif decide (i < ρ.length)&&!decide (i∈pm) then some (ρ.set i (some d)) else none:=rfl
@[simp] theorem gN_e:gN [] ρ=some ρ:=rfl
@[simp] theorem gC_e:gC G Gs (d::r) ρ=(G d ρ).bind λρ1=>Gs r ρ1:=by
 show(match G d ρ with | none=>none | some ρ1=>Gs r ρ1)=_;cases G d ρ<;>rfl
@[simp] theorem gT_e:gT n Gs (.tup l) ρ=bif decide (l.length=n) then Gs l ρ else none:=rfl
@[simp] theorem sFz_e:sFz i f ρ=match pV i ρ with | some d=>f (ρ.set i (some (fz d))) | none=>f ρ:=by
 unfold sFz pV;cases ρ[i]? with
 | none=>rfl
 | some o=>cases o<;>rfl
noncomputable def jdk:D->Option (List D)
 | .lst true l=>some l
 | _=>none
@[simp] theorem lstOf_lst(l:List D):jdk (.lst true l)=some l:=rfl
noncomputable def Ql:D->Option Int
 | .int i=>some i
 | _=>none
@[simp] theorem intOf_int(i:Int):Ql (.int i)=some i:=rfl
@[simp] theorem sApp_e:jdX i pa ρ=(pa ρ).bind λd=>(pV i ρ).bind λx=>(jdk x).bind λl=>bif lim l.length then some (.nx (ρ.set i (some (.lst true (l++[d]))))) else none:=by
 unfold jdX pV;cases pa ρ with
 | none=>rfl
 | some d =>
  dsimp only[Option.bind];cases ρ[i]? with
  | none=>rfl
  | some o=>cases o with
   | none=>rfl
   | some x=>cases x with
    | lst o l=>cases o<;>rfl
    | _=>rfl
@[simp] theorem jeY:zZ p G f ρ=(p ρ).bind λxs=>vF G f xs ρ:=by unfold zZ;cases p ρ<;>rfl
@[simp] theorem pIt_e:pIt pa ρ=(pa ρ).bind K4:=by unfold pIt;cases pa ρ<;>rfl
@[simp] theorem pItB_lst:jdg pa ρ=(pa ρ).bind λd=>match d with | .lst _ l=>bif frzs l then some l else none | .tup l=>bif frzs l then some l else none | .str s=>some (s.map λc=>D.str [c]) | _=>none:=by
 unfold jdg;cases pa ρ with
 | none=>rfl
 | some d=>cases d<;>rfl
noncomputable def jdF:List D->Option (List D)
 | [.lst _ l,.lst _ m]=>some (Yv (fzs l) (fzs m))
 | _=>none
noncomputable def xK:List D->Option (List D)
 | [.int j]=>bif QR j then some (Qe 0 j.toNat) else none
 | _=>none
@[simp] theorem zipOf_e(o o':Bool)(l m:List D):jdF [.lst o l,.lst o' m]=some (Yv (fzs l) (fzs m)):=rfl
theorem jcK(h:-(2 ^ 62) < j)(k:j < 2 ^ 62):QR j=true:=Nat.ble_eq_true_of_le (by lia)
theorem zr(h:-(2 ^ 62) < j)(k:j < 2 ^ 62):xK [.int j]=some (Qe 0 j.toNat):=by
 show(bif QR j then some (Qe 0 j.toNat) else none)=_;rw[jcK h k];rfl
@[simp] theorem pZip_e:jhh p ρ=(p ρ).bind jdF:=by
 unfold jhh;cases p ρ with
 | none=>rfl
 | some d =>
  match d with
  | []=>rfl
  | [x]=>cases x<;>rfl
  | [x,y]=>cases x<;>cases y<;>rfl
  | x::y::z::r=>cases x<;>cases y<;>rfl
@[simp] theorem pRng1_e:zI p ρ=(p ρ).bind xK:=by
 unfold zI;cases p ρ with
 | none=>rfl
 | some d =>
  match d with
  | []=>rfl
  | [x]=>cases x<;>rfl
  | x::y::r=>cases x<;>rfl
@[simp] theorem pComp_e:VO pi G q pa ix ρ=(pi ρ).bind λxs=>bif lim xs.length then((vQ G q pa xs (y6 ix ρ)).bind λys=>some (.lst true ys)) else none:=by
 unfold VO;cases pi ρ with
 | none=>rfl
 | some xs =>
  dsimp only[Option.bind];cases lim xs.length with
  | false=>rfl
  | true=>dsimp only[cond];cases vQ G q pa xs (y6 ix ρ)<;>rfl
@[simp] theorem gIx_e:gIx pm i pi d ρ=(pi ρ).bind λk=>(Ql k).bind λk=>(pV i ρ).bind λx=>(jdk x).bind λl=>(ixN l.length k).bind λj=>some (ρ.set i (some (.lst true (l.set j d)))):=by
 unfold gIx pV;cases pi ρ with
 | none=>rfl
 | some k=>cases k with
  | int k =>
   dsimp only[Option.bind,Ql];cases ρ[i]? with
   | none=>rfl
   | some o=>cases o with
    | none=>rfl
    | some x=>cases x with
     | lst o l=>cases o with
      | false=>rfl
      | true=>dsimp only[jdk];cases ixN l.length k<;>rfl
     | _=>rfl
  | _=>rfl
@[simp] theorem pIsI_e:xD T pa ρ=(pa ρ).bind λd=>(tyD d).bind λt=>some (.bl (zC t T)):=by
 unfold xD;cases pa ρ with
 | none=>rfl
 | some d=>dsimp only[Option.bind];cases tyD d<;>rfl
noncomputable def Out.val:Out->Option D
 | .rt d _=>some d
 | .nx _=>some .non
 | _=>none
@[simp] theorem val_rt(d:D)(ρ:Rh):(Out.rt d ρ).val=some d:=rfl
@[simp] theorem val_nx(ρ:Rh):(Out.nx ρ).val=some .non:=rfl
theorem jt(n:Nat)(f:FS)(ds:List D):fnP n f ds=(f (ds.map some++List.replicate (n - ds.length) none)).bind Out.val:=by
 unfold fnP;cases f (ds.map some++List.replicate (n - ds.length) none) with
 | none=>rfl
 | some o=>cases o<;>rfl
@[simp] theorem sLoop_nil:vF G f [] ρ=some (.nx ρ):=rfl
noncomputable def Out.loop:Out->FS->Option Out
 | .nx ρ,g=>g ρ
 | .ct ρ,g=>g ρ
 | .bk ρ,_=>some (.nx ρ)
 | .rt d ρ,_=>some (.rt d ρ)
@[simp] theorem VL(ρ:Rh)(g:FS):(Out.nx ρ).loop g=g ρ:=rfl
@[simp] theorem loop_ct(ρ:Rh)(g:FS):(Out.ct ρ).loop g=g ρ:=rfl
@[simp] theorem loop_bk(ρ:Rh)(g:FS):(Out.bk ρ).loop g=some (.nx ρ):=rfl
@[simp] theorem YC(d:D)(ρ:Rh)(g:FS):(Out.rt d ρ).loop g=some (.rt d ρ):=rfl
theorem j5:vF G f (x::xs) ρ=(G x ρ).bind λr=>(f r).bind λo=>o.loop (vF G f xs):=by
 rw[vF];cases G x ρ with
 | none=>rfl
 | some r =>
  dsimp only[Option.bind];cases f r with
  | none=>rfl
  | some o=>cases o<;>rfl
@[simp] theorem cLoop_nil:vQ G q p [] ρ=some []:=rfl
theorem VB:vQ G q p (x::xs) ρ=(G x ρ).bind λr=>(q r).bind λb=>bif b then((p r).bind λy=>(vQ G q p xs r).bind λys=>some (y::ys)) else vQ G q p xs r:=by
 rw[vQ];cases G x ρ with
 | none=>rfl
 | some r =>
  dsimp only[Option.bind];cases q r with
  | none=>rfl
  | some b=>cases b with
   | false=>rfl
   | true =>
    dsimp only[cond];cases p r with
    | none=>rfl
    | some y=>dsimp only;cases vQ G q p xs r<;>rfl
theorem wx(P:Nat->Rh->Prop)(step:∀ i x ρ,xs[i]?=some x->P i ρ->∃ ρ1 ρ2,G x ρ=some ρ1/\(f ρ1=some (.nx ρ2) \/ f ρ1=some (.ct ρ2))/\P (i+1) ρ2)  (d:P 0 ρ) :
  ∃ ρ',vF G f xs ρ=some (.nx ρ')/\P xs.length ρ':=by
 have key:∀(n i:Nat) (ρ:Rh),xs.length - i=n->i<=xs.length->P i ρ->∃ ρ',vF G f (xs.drop i) ρ=some (.nx ρ')/\P xs.length ρ':=by
  intro n
  induction n with
  | zero =>
   intro i ρ e g p;have:i=xs.length:=by lia
   subst this;exact⟨ρ,by rw[List.drop_length];rfl,p⟩
  | succ n h =>
   intro i ρ e g p;have a:i < xs.length:=by lia
   have c:xs[i]?=some xs[i]:=by simp[a]
   obtain⟨ρ1,ρ2,j,b,p2⟩:=step i _ ρ c p;obtain⟨ρ',k,p3⟩:=h (i+1) ρ2 (by lia) a p2;refine⟨ρ',?_,p3⟩;rw[Vl c,j5,j];rcases b with b | b<;>simp[b,k]
 exact key _ 0 ρ rfl (U8 _) d
theorem z9{G:D->Rh->Option Rh}{xs:List D}{l:List α}{en:α->D}{out:α->D}(a:xs=l.map en)(P:Rh->Prop)(step:∀ x∈l,∀ ρ,P ρ->∃ ρ1,G (en x) ρ=some ρ1/\p ρ1=some (out x)/\P ρ1){ρ:Rh}(b:P ρ):vQ G qT p xs ρ=some (l.map out):=by
 subst a
 induction l generalizing ρ with
 | nil=>rfl
 | cons x l c =>
  obtain⟨ρ1,d,e,p1⟩:=step x M3 ρ b;rw[L9,VB,d];simp[e,c (λy f=>step y (M0 _ f)) p1]
@[simp] theorem cond_dec(p:Prop) [Decidable p] (x y:α):(bif decide p then x else y)=if p then x else y:=by by_cases h:p<;>simp[h]
@[simp] theorem cond_beq_int(i j:Int)(x y:α):(bif i==j then x else y)=if i=j then x else y:=by
 by_cases h:i=j
 ·subst h;simp
 ·rw[if_neg h,U5.mpr h];rfl
@[simp] theorem ite_bind(p:Prop) [Decidable p] (x y:Option α) (f:α->Option β):(if p then x else y).bind f=if p then x.bind f else y.bind f:=by by_cases h:p<;>simp[h]
@[simp] theorem add_ii(i j:Int):jQ (.int i) (.int j)=some (.int (i+j)):=rfl
@[simp] theorem sub_ii(i j:Int):Jg (.int i) (.int j)=some (.int (i - j)):=rfl
theorem je7(h:i.natAbs < 2 ^ 1000)(k:j.natAbs < 2 ^ 1000):qh (.int i) (.int j)=some (.int (i*j)):=by
 show(bif wI i&&wI j then some (D.int (i*j)) else none)=_;rw[uo h,uo k];rfl
theorem jdx(h:wI i=true)(k:wI j=true):qh (.int i) (.int j)=some (.int (i*j)):=by
 show(bif wI i&&wI j then some (D.int (i*j)) else none)=_;rw[h,k];rfl
theorem yI(h:0 < j)(k:j < 2 ^ 300):qK (.int i) (.int j)=some (.int (i / j)):=by
 show(bif decide (0 < j)&&decide (j < 2 ^ 300) then some (D.int (i / j)) else none)=_;rw[X3 h,X3 k];rfl
theorem jK(h:0 < j):yA (.int i) (.int j)=some (.int (i % j)):=by
 show(bif decide (0 < j) then some (D.int (i % j)) else none)=_;rw[X3 h];rfl
@[simp] theorem opB_ii(g:Int->Int->Bool)(i j:Int):opB g (.int i) (.int j)=some (.bl (g i j)):=rfl
@[simp] theorem eq_ii(i j:Int):kn (.int i) (.int j)=some (.bl (i==j)):=rfl
@[simp] theorem ne_ii(i j:Int):V1 (.int i) (.int j)=some (.bl (!(i==j))):=rfl
@[simp] theorem f2I_ii(g:Int->Int->Int)(i j:Int):f2I g [.int i,.int j]=some (.int (g i j)):=rfl
@[simp] theorem frz_int(i:Int):frz (.int i)=true:=rfl
@[simp] theorem frz_bl(i:Bool):frz (.bl i)=true:=rfl
@[simp] theorem frz_str(i:List Nat):frz (.str i)=true:=rfl
@[simp] theorem frz_non:frz .non=true:=rfl
@[simp] theorem fz_int(i:Int):fz (.int i)=.int i:=rfl
@[simp] theorem fz_bl(i:Bool):fz (.bl i)=.bl i:=rfl
@[simp] theorem fz_str(i:List Nat):fz (.str i)=.str i:=rfl
@[simp] theorem fz_non:fz .non=.non:=rfl
@[simp] theorem fz_lst(o:Bool)(l:List D):fz (.lst o l)=.lst false (fzs l):=rfl
@[simp] theorem fz_tup(l:List D):fz (.tup l)=.tup (fzs l):=rfl
@[simp] theorem frz_lst(o:Bool)(l:List D):frz (.lst o l)=(!o&&frzs l):=rfl
@[simp] theorem frz_tup(l:List D):frz (.tup l)=frzs l:=rfl
@[simp] theorem fzs_nil:fzs []=[]:=rfl
@[simp] theorem jed(d:D)(l:List D):fzs (d::l)=fz d::fzs l:=rfl
@[simp] theorem frzs_nil:frzs []=true:=rfl
@[simp] theorem K6(d:D)(l:List D):frzs (d::l)=(frz d&&frzs l):=rfl
@[simp] theorem clean_int(i:Int):vf (.int i)=true:=rfl
@[simp] theorem clean_bl(i:Bool):vf (.bl i)=true:=rfl
@[simp] theorem clean_str(i:List Nat):vf (.str i)=true:=rfl
@[simp] theorem clean_non:vf .non=true:=rfl
@[simp] theorem clean_lst(o:Bool)(l:List D):vf (.lst o l)=(o&&yE l):=rfl
@[simp] theorem clean_tup(l:List D):vf (.tup l)=yE l:=rfl
@[simp] theorem cleans_nil:yE []=true:=rfl
@[simp] theorem cleans_cons(d:D)(l:List D):yE (d::l)=(vf d&&yE l):=rfl
@[simp] theorem fzs_ints(l:List Int):fzs (l.map D.int)=l.map D.int:=by
 rw[qp,U4];rfl
@[simp] theorem frzs_ints(l:List Int):frzs (l.map D.int)=true:=by
 rw[zt,List.all_map,List.all_eq_true];intro x _;rfl
theorem ke:∀ l:List D,yE l=l.all vf
 | []=>rfl
 | d::l=>by rw[yE,ke l];rfl
@[simp] theorem cleans_ints(l:List Int):yE (l.map D.int)=true:=by
 rw[ke,List.all_map,List.all_eq_true];intro x _;rfl
@[simp] theorem intsD_ints(l:List Int):jfk (l.map D.int)=some l:=by
 induction l with
 | nil=>rfl
 | cons x l a=>show(match jfk (l.map D.int) with | some r=>some (x::r) | none=>none)=_;rw[a]
@[simp] theorem boolsD_bools(l:List Bool):Jd (l.map D.bl)=some l:=by
 induction l with
 | nil=>rfl
 | cons x l a=>show(match Jd (l.map D.bl) with | some r=>some (x::r) | none=>none)=_;rw[a]
@[simp] theorem fLen_lst(o:Bool)(l:List D):kZ [.lst o l]=some (.int l.length):=rfl
@[simp] theorem fLen_tup(l:List D):kZ [.tup l]=some (.int l.length):=rfl
@[simp] theorem fList_lst(o:Bool)(l:List D):jas [.lst o l]=bif frzs l then some (.lst true l) else none:=rfl
@[simp] theorem itemsOf_lst(o:Bool)(l:List D):K4 (.lst o l)=some (fzs l):=rfl
@[simp] theorem itemsOf_tup(l:List D):K4 (.tup l)=some (fzs l):=rfl
@[simp] theorem tyD_int(i:Int):tyD (.int i)=some "int":=rfl
@[simp] theorem tyD_bl(i:Bool):tyD (.bl i)=some "bool":=rfl
@[simp] theorem tyD_str(i:List Nat):tyD (.str i)=some "str":=rfl
@[simp] theorem tyD_non:tyD .non=some "NoneType":=rfl
@[simp] theorem tyD_lst(o:Bool)(l:List D):tyD (.lst o l)=some "list":=rfl
@[simp] theorem tyD_tup(l:List D):tyD (.tup l)=some "tuple":=rfl
theorem wq:∀(l m:List Int),zY (l.map D.int) (m.map D.int)=decide (l=m)
 | [],[]=>rfl
 | [],_::_=>rfl
 | _::_,[]=>rfl
 | x::l,y::m=>by
  show((x==y)&&zY (l.map D.int) (m.map D.int))=_;rw[wq l m];by_cases h:x=y<;>simp[h]
theorem xV(n:Nat)(l:List Int):V0 n (l.map D.int)=true:=by
 rw[zT,List.all_map,List.all_eq_true];intro x _;cases n<;>rfl
theorem jfX(o o':Bool)(l m:List Int):V1 (.lst o (l.map D.int)) (.lst o' (m.map D.int))=some (.bl (!decide (l=m))):=by
 show(bif okE 20 (.lst o (l.map D.int))&&okE 20 (.lst o' (m.map D.int)) then some (D.bl (!zY (l.map D.int) (m.map D.int))) else none)=_;rw[wq];show(bif V0 19 (l.map D.int)&&V0 19 (m.map D.int) then _ else _)=_;rw[xV,xV];rfl
theorem jhY{c:Nat->Addr}{m:List D->Option D}{ns:List Int}(h:m [.lst false (ns.map D.int)]=some (.bl true))(d:SqX K H a (ns.map V.int)):spP ⟨K,c⟩ m 1 [.ref a] H (λv _=>v=.bl true) E:=by
 refine⟨λb=>b=a/\H a≠none,[.lst false (ns.map D.int)],.bl true,λb e=>by rw[e.1];exact e.2,rfl,.one ?_,h,λg r=>r.bl_of.1⟩;rw[Rep];have f:∀(l:List Int),Reps ⟨K,c⟩ (λb=>b=a/\H a≠none) H (l.map D.int) (l.map V.int) []:=by
  intro l
  induction l with
  | nil=>exact .empty
  | cons x l i=>exact .cons (O:=[]) (P:=[]) .int_mk i
 refine⟨a,ns.map V.int,[],rfl,f ns,?_⟩;show FL _ _ _ _ _/\_;refine⟨?_,rfl,rfl⟩;rcases d with d | d
 ·refine .inl ⟨⟨rfl,?_⟩,d⟩;rcases d with d | ⟨o,d⟩<;>rw[d]<;>exact λz=>(nomatch z)
 ·exact .inr d
end QD
namespace L2
open PySem PySem.Spec PyProof.Rows
end L2
namespace QD
open PySem L2 PySem.Spec PyProof.Rows
noncomputable def w4(sep:List Nat):List (List Nat)->List Nat
 | []=>[]
 | [x]=>x
 | x::y::r=>x++sep++w4 sep (y::r)
theorem jbs(a:List Nat):∀ ws:List (List Nat),Str.join (S a) (ws.map S)=S (w4 a ws)
 | []=>rfl
 | [x]=>rfl
 | x::y::r=>by
  show S x++S a++Str.join (S a) ((y::r).map S)=_;rw[jbs a (y::r),jhc,jhc];rfl
section
variable {R:RC}{Z:Zn}{H:Hp}
noncomputable def jfH(a b:List Nat):Int:=Txt.find (S a) (S b)
noncomputable def jdp:D->List D->Option D
 | .str a,[.str b]=>some (.int (jfH a b))
 | _,_=>none
theorem jgd:BM R "str" (λx vs H Q=>∃ a b,x=.str a/\vs=[.str b]/\Q (.int (Txt.find a b)) H) jdp:=by
 intro Z H x d g v vs O1 O2 z r c e Q k;unfold jdp at e;split at e
 ·cases e;obtain⟨rfl,_⟩:=r.str_of;obtain⟨v,rfl,f⟩:=c.one_of;obtain⟨rfl,_⟩:=f.str_of;exact⟨_,_,rfl,rfl,k (Go.id z) .int_mk⟩
 ·cases e
noncomputable def kB(a b:List Nat):List (List Nat):=(Txt.split (S a) (S b)).map λw=>w.cps.toList
noncomputable def QZ:D->List D->Option D
 | .str a,[.str b]=>bif !b.isEmpty&&decide (a.length<=1000000) then some (.lst true ((kB a b).map D.str)) else none
 | _,_=>none
theorem jbc(ws:List Str):Reps R Z H ((ws.map λw=>w.cps.toList).map D.str) (ws.map V.str) []:=by
 induction ws with
 | nil=>exact .empty
 | cons w ws a =>
  refine .cons (O:=[]) (P:=[]) ?_ a;have:=jlw w;show Rep R Z H (.str w.cps.toList) (.str w) [];rw[this,vE];exact .str_mk
theorem uW:BM R "str" (λx vs H Q=>∃ a b,x=.str a/\vs=[.str b]/\(b.length==0)=false/\a.length+2<=sizeLine/\∀ p,H p=none->Q (.ref p) (upd H p (.lst ((Txt.split a b).map V.str)))) QZ:=by
 intro Z H x d h v vs O1 O2 z r f e Q k;unfold QZ at e;split at e
 ·rename_i a b;cases hm:(!b.isEmpty&&decide (a.length<=1000000)) with
  | false=>rw[hm] at e;cases e
  | true =>
   rw[hm] at e;cases e;simp only[M6,decide_eq_true_eq,Bool.not_eq_true',List.isEmpty_eq_false_iff] at hm;obtain⟨rfl,_⟩:=r.str_of;obtain⟨v,rfl,g⟩:=f.one_of;obtain⟨rfl,_⟩:=g.str_of;have i:sizeLine=16777216:=by decide
   refine⟨_,_,rfl,rfl,?_,?_,λp c=>k (Go.newO (wf0 z) c) (Rep.lstNew (wf0 z) c (jbc _))⟩
   ·rw[qE];have:=List.length_pos_iff.mpr hm.1;exact U5.mpr (by lia)
   ·rw[qE];lia
 ·cases e
noncomputable def Jz(a:List Nat):List Nat:=(Txt.rstrip (S a)).cps.toList
noncomputable def K3:D->List D->Option D
 | .str a,[]=>bif decide (a.length<=1000000) then some (.str (Jz a)) else none
 | _,_=>none
theorem jb3:BM R "str" (λx vs H Q=>∃ a,x=.str a/\vs=[]/\a.length<=sizeLine/\Q (.str (Txt.rstrip a)) H) K3:=by
 intro Z H x d c v vs O1 O2 z r b e Q k;unfold K3 at e;split at e
 ·rename_i a;cases hm:decide (a.length<=1000000) with
  | false=>rw[hm] at e;cases e
  | true =>
   rw[hm] at e;cases e;obtain⟨rfl,_⟩:=r.str_of;have:=List.length_eq_zero_iff.mp b.length;subst this;have f:sizeLine=16777216:=by decide
   refine⟨_,rfl,rfl,by rw[qE];have:=X5 hm;lia,?_⟩;have e:=jlw (Txt.rstrip (S a));rw[e];exact k (Go.id z) .str_mk
 ·cases e
end
section
variable {cl:Nat->Addr}{X:Cx}{o e:Expr}{es:List Expr}{to:TE}{po:PF}{tr:TA}{pr:PAf}{name:Str}{apos cpos:Pos}{T id:String}{r:V->List V->Hp->VK->Prop}{g:D->List D->Option D}
theorem jkk(pa:PlainAttrs T)(slot:Slot T name id)(c:typeOf (.builtin id)=pure (.type "method_descriptor"))(e:MtR X id r)(f:BM ⟨X.K,cl⟩ T r g)(d:QB cl X o to po)
  (a:attributeBase o name X.env (eval o X.env)=eval o X.env:=by rfl) (b:(apos.endLine==cpos.line)=true:=by rfl):QP cl X (.Call (.Attribute o name apos) [] [] cpos) (jkY X.K T r to) (pBM T g po pN) :=
 ⟨jh0 pa slot c e d.sem a b,jim f d.den⟩
theorem jka(pa:PlainAttrs T)(slot:Slot T name id)(f:typeOf (.builtin id)=pure (.type "method_descriptor"))(j:MtR X id r)(k:BM ⟨X.K,cl⟩ T r g)(h:QB cl X o to po)(i:QBs cl X (e::es) tr pr)
  (b:attributeBase o name X.env (eval o X.env)=eval o X.env:=by rfl)
  (d:((backTo cpos (starEach (e::es) X.env)).all (λx=>!x.1)&&(backToKw cpos (keywordEach [] X.env)).all (λx=>x.1.isSome)
   && decide ((e::es).length+([]:List Keyword).length+(if([]:List Keyword).isEmpty then 0 else 1) < 30))=true:=by rfl)
  (c:(apos.endLine==cpos.line)=true:=by rfl) (l:starEach (e::es) X.env=(false,eval e X.env)::starEach es X.env:=by rfl) (a:(backTo cpos (starEach es X.env)).any (·.1)=false:=by rfl) :
  QP cl X (.Call (.Attribute o name apos) (e::es) [] cpos) (tBM X.K T r to tr) (pBM T g po pr) :=
 ⟨jcr pa slot f j h.sem i.sem b d c l a,jkK k h.den i.den⟩
end
@[simp] theorem pBM_e{g:D->List D->Option D}{pa:PF}{pr:PAf}{ρ:Rh}:pBM "str" g pa pr ρ=(pa ρ).bind λx=>bif isT "str" x then(pr ρ).bind λxs=>g x xs else none:=by
 unfold pBM;cases pa ρ with
 | none=>rfl
 | some x=>dsimp only[Option.bind];cases isT "str" x<;>cases pr ρ<;>rfl
@[simp] theorem isT_str(w:List Nat):isT "str" (.str w)=true:=rfl
@[simp] theorem fFind_e(a b:List Nat):jdp (.str a) [.str b]=some (.int (jfH a b)):=rfl
end QD
namespace QK
open PySem L2 QD PySem.Spec PyProof.Rows
section
variable {cl:Nat->Addr}{pm:List Nat}{X:Cx}{a b c e o:Expr}{es:List Expr}{ta tb tc te to:TE}{pa pb pc pe po:PF}{tr:TA}{pr:PAf}{pos:Pos}{K:PySem.W.Frag}
variable {tg iter elt:Expr}{ifs:List Expr}{wi:TI}{pi:PAf}{t:TG}{g:D->Rh->Option Rh}
theorem add(c:X.K=K)(d:QB cl X a ta pa)(e:QB cl X b tb pb):QP cl X (.BinOp a .Add b pos) (tOp (jdw K) ta tb) (p2 jQ pa pb):=by subst c;exact yu d e
theorem ix(c:X.K=K)(d:QB cl X a ta pa)(e:QB cl X b tb pb)(f:wR b:=by exact λ_ _=>rfl):QB cl X (.Subscript a b pos) (tOp (rIx K) ta tb) (p2 kW pa pb):=by subst c;exact Kj d e f
theorem call{k n:Nat}{f:Addr}{fd:FuncData}{ps:List Str}{m:List D->Option D}{x qual:Str}{st:Stmt}{p:Pos}(c:X.K=K)(F:FnFact X.K X.mg x qual st f fd ps)(G:FnOk X.prog X.w X.K X.mg X.base CX0 k f fd ps (spP ⟨X.K,cl⟩ m n))(d:Room k X.A)
  (g:QBs cl X (e::es) tr pr) (h:(e::es).length=n:=by rfl) (i:Gl X x:=by rfl) (a:(x==("__debug__" : Str))=false:=by decide)
  (j:starEach (e::es) X.env=(false,eval e X.env)::starEach es X.env:=by rfl) (b:(backTo pos (starEach es X.env)).any (·.1)=false:=by rfl):QP cl X (.Call (.Name x p) (e::es) [] pos) (Qf (spP ⟨K,cl⟩ m n) [] E0 tr) (jz m pr):=by
 subst c;exact jw F G d g h i a j b
theorem c_in(a:X.K=K)(c:behindInMarks .In b=false):CmpR cl X .In b (jhx K false) (zE false):=by subst a;exact QD.c_in c
theorem c_eq{k:Nat}(a:X.K=K)(c:Room k X.A):CmpR cl X .Eq b (λx y H Q=>rEq x y H Q \/ je3 ⟨K,cl⟩ false x y H Q) kn:=by subst a;exact QD.c_eq c
theorem c_ne{k:Nat}(a:X.K=K)(c:Room k X.A):CmpR cl X .NotEq b (λx y H Q=>rNe x y H Q \/ je3 ⟨K,cl⟩ true x y H Q) V1:=by subst a;exact QD.c_ne c
end
end QK
namespace QD
open PySem L2 PySem.Spec PyProof.Rows
structure QGo(cl:Nat->Addr)(pm:List Nat)(X:Cx)(tg:Expr)(t:TG)(g:D->Rh->Option Rh):Prop where
 sem:PG X tg t
 den:DG ⟨X.K,cl⟩ pm t g
structure QGos(cl:Nat->Addr)(pm:List Nat)(X:Cx)(tg:List Expr)(t:TGs)(g:List D->Rh->Option Rh):Prop where
 sem:PGs X tg t
 den:DGs ⟨X.K,cl⟩ pm t g
end QD
namespace L2
open PySem PySem.Spec PyProof.Rows
section
variable {κ:Type} [DecidableEq κ]
noncomputable def Q6(kvs:List (κ×V))(k:κ):Option V:=(kvs.find? λkv=>decide (kv.1=k)).map (·.2)
noncomputable def ja0(kvs:List (κ×V))(k:κ)(v:V):List (κ×V) :=
 if(kvs.any λkv=>decide (kv.1=k))=true then kvs.map (λkv=>if kv.1=k then(kv.1,v) else kv) else kvs++[(k,v)]
theorem zD{p:κ×V}{r:List (κ×V)}{k:κ}(e:p.1=k):Q6 (p::r) k=some p.2:=by simp[Q6,List.find?_cons,e]
theorem zO{p:κ×V}{r:List (κ×V)}{k:κ}(e:¬ p.1=k):Q6 (p::r) k=Q6 r k:=by simp[Q6,List.find?_cons,e]
theorem wW(a:List (κ×V))(k:κ)(v:V):(ja0 a k v).length<=a.length+1:=by
 unfold ja0;split
 ·rw[L4];omega
 ·rw[N8,M7,List.length_nil];omega
theorem RelO.isSome_eq{o:Option V}{u:Option Value}(r:RelO o u):o.isSome=u.isSome:=by
 cases o with
 | none=>cases u with
  | none=>rfl
  | some _=>exact(show False from r).elim
 | some _=>cases u with
  | none=>exact(show False from r).elim
  | some _=>rfl
theorem RelO.getD{o:Option V}{u:Option Value}{d:V}{d':Value}(r:RelO o u)(rd:RelV d d'):RelV (o.getD d) (u.getD d'):=by
 cases o with
 | none=>cases u with
  | none=>exact rd
  | some _=>exact(show False from r).elim
 | some _=>cases u with
  | none=>exact(show False from r).elim
  | some _=>exact r
theorem KV.val{a:List (κ×V)}{vs:List (κ×Value)}(r:KV a vs)(k:κ):RelO (Q6 a k) (valueAt vs k):=by
 unfold KV at r
 induction r with
 | nil=>exact True.intro
 | @cons p q j c h t g =>
  obtain⟨f,i⟩:=h;by_cases e:p.1=k
  ·have d:q.1=k:=f.symm.trans e;have b:valueAt (q::c) k=some q.2:=by simp[valueAt,List.find?_cons,d]
   rw[zD e,b];exact i
  ·have d:¬ q.1=k:=λz=>e (f.trans z);have b:valueAt (q::c) k=valueAt c k:=by simp[valueAt,List.find?_cons,d]
   rw[zO e,b];exact g
theorem KV.any{a:List (κ×V)}{vs:List (κ×Value)}(r:KV a vs)(k:κ):(a.any λkv=>decide (kv.1=k))=vs.any λkv=>decide (kv.1=k):=by
 unfold KV at r
 induction r with
 | nil=>rfl
 | cons h t b=>rw[List.any_cons,List.any_cons,b,h.1]
theorem KV.repl{a:List (κ×V)}{vs:List (κ×Value)}(r:KV a vs)(k:κ){y:V}{u:Value}(c:RelV y u) :
  KV (a.map λkv=>if kv.1=k then(kv.1,y) else kv) (vs.map λkv=>if kv.1=k then(kv.1,u) else kv):=by
 unfold KV at r ⊢
 induction r with
 | nil=>exact .nil
 | @cons p q g i h t d =>
  rw[L9,L9];refine .cons ?_ d;obtain⟨b,f⟩:=h;by_cases e:p.1=k
  ·rw[if_pos e,if_pos (b.symm.trans e)];exact⟨b,c⟩
  ·rw[if_neg e,if_neg (λz=>e (b.trans z))];exact⟨b,f⟩
theorem KV.put{a:List (κ×V)}{vs:List (κ×Value)}(r:KV a vs)(k:κ){y:V}{u:Value}(b:RelV y u):KV (ja0 a k y) (stored vs k u):=by
 unfold ja0 stored;rw[r.any k];by_cases e:(vs.any λc=>decide (c.1=k))=true
 ·rw[if_pos e,if_pos e];exact r.repl k b
 ·rw[if_neg e,if_neg e];exact Paired.snoc r ⟨rfl,b⟩
theorem KV.length{a:List (κ×V)}{vs:List (κ×Value)}(r:KV a vs):a.length=vs.length:=Paired.length r
end
theorem wM{P:Program}{w:World}{k:Key}{u:Value}(r:RelV (kV k) u):(yd P w).is k u=true:=by
 cases k with
 | inl i=>obtain⟨t,e⟩:=(show ∃ t,u=Value.int i t from r);subst e;exact wQ P w i t
 | inr x=>obtain⟨t,e⟩:=(show ∃ t,u=Value.str x t from r);subst e;exact YI P w x t
theorem xu{P:Program}{w:World}:∀{ks:List Key}{us:List Value},Vals (ks.map kV) us->ItemsAre (yd P w) ks us
 | [],_,r=>by rw[List.map_nil] at r;cases r;exact .nil
 | k::ks,_,r=>by
  rw[L9] at r;cases r with
  | cons h t=>exact .cons (wM h) (xu t)
abbrev KT(H:Hp):List (List Key×V)->List (List Key×Addr×Value)->Prop:=Paired λp q=>p.1=q.1/\H q.2.1=some (.tup (p.1.map kV))/\RelV p.2 q.2.2
theorem KT.val{H:Hp}{a:List (List Key×V)}{xs:List (List Key×Addr×Value)}(r:KT H a xs)(k:List Key):RelO (Q6 a k) ((atKey xs k).map (·.2)):=by
 induction r with
 | nil=>exact True.intro
 | @cons p q j c h t g =>
  obtain⟨f,_,i⟩:=h;by_cases e:p.1=k
  ·have d:q.1=k:=f.symm.trans e;have b:atKey (q::c) k=some q.2:=by simp[atKey,List.find?_cons,d]
   rw[zD e,b];exact i
  ·have d:¬ q.1=k:=λz=>e (f.trans z);have b:atKey (q::c) k=atKey c k:=by simp[atKey,List.find?_cons,d]
   rw[zO e,b];exact g
section
variable {P:Program}{w:World}{H:Hp}{h:Heap}{a:Addr}
theorem jiI{u:HO}(ok:HOk P w H h)(e:Rd H a u):ObjOk P w H h a u:=e.ok ok
theorem jdB{b:List (Key×V)}(ok:HOk P w H h)(e:Rd H a (.dK b)):b.length<=sizeLine/\(a==sysModules)=false/\∃ vs,KV b vs/\h.DictOf (yd P w) a vs :=
 show ObjOk P w H h a (.dK b) from jiI ok e
theorem jfB{b:List (Key×V)}(ok:HOk P w H h)(e:H a=some (.dK b)):b.length<=sizeLine/\(a==sysModules)=false/\∃ vs,KV b vs/\h.DictOf (yd P w) a vs:=jdB ok (.inl e)
theorem ja6{ks:List Key}(ok:HOk P w H h)(e:H a=some (.tup (ks.map kV))):(tupleKind (yd P w)).is h ks a:=by
 obtain⟨_,b,r,⟨o,c,d,n,f⟩,_⟩:=(show ObjOk P w H h a (.tup (ks.map kV)) from ok a _ e);exact⟨o,b.toArray,n,c,d,f,by simpa using xu r⟩
theorem jg2{b:List (List Key×V)}(ok:HOk P w H h)(e:Rd H a (.dT b)):b.length<=sizeLine/\(a==sysModules)=false /\
  ∃ xs,KT H b xs/\h.DictOfH (tupleKind (yd P w)) a xs:=by
 obtain⟨z,y,xs,r,o,f,g,i,j,k,n,s⟩:=(show ObjOk P w H h a (.dT b) from jiI ok e);refine⟨z,y,xs,r,o,f,g,i,j,k,n,λx c=>?_,s⟩;have all:∀{l:List (List Key×V)}{m:List (List Key×Addr×Value)},KT H l m->∀ x∈m,(tupleKind (yd P w)).is h x.1 x.2.1:=by
  intro l m q
  induction q with
  | nil=>intro x c;exact nomatch c
  | @cons p q v A d t u =>
   intro x c;rcases M9.mp c with e | c
   ·subst e;exact ja6 ok (by rw[<- d.1];exact d.2.1)
   ·exact u x c
 exact all r x c
end
def DGet(H:Hp)(a:Addr)(y:V)(r:Option V):Prop :=
 (∃ kvs k,Rd H a (.dK kvs)/\y=kV k/\r=Q6 kvs k) \/ ∃ kvs k b,Rd H a (.dT kvs)/\y=.ref b/\H b=some (.tup (k.map kV))/\r=Q6 kvs k
section
variable {X:Cx}{pins:List (Addr×Obj)}{σ:St}{H:Hp}{s:Shared}{a:Addr}{y v:V}{u r:Value}{o:Option V}{A:Around}{E:Value->Shared->Prop}
theorem Inv.big(I:Inv X pins σ H s):sysModules < s.heap.objs.size:=by
 have h:mainGlobals < s.heap.objs.size:=(I.mod.glob.keeps I.bk).lt;exact Nat.lt_trans (by decide) h
theorem jbB{Q:Value->Shared->Prop}(n:A.units+1 < cLine)(I:Inv X pins σ H s)(g:DGet H a y (some v))(m:RelV y u)(h:∀ w' s',Inv X pins σ H s'->RelV v w'->Q w' s') :
  wpAny (model X.prog X.w) A (getItem (.ref a) u) Q E s:=by
 rcases g with⟨d,k,e,f,l⟩ | ⟨d,k,b,e,f,q,l⟩
 ·subst f;obtain⟨z,hd,r,rel,dd⟩:=jdB I.hok e;obtain⟨w',i,c⟩:=RelO.some_of (v:=v) (o:=valueAt r k) (by rw[l];exact rel.val k);exact wpAny_getItem_of (wM m) dd.mapOf i (h w' _ (I.tok _) c)
 ·subst f;cases(show u=Value.ref b from m);obtain⟨z,hd,t,rel,dd⟩:=jg2 I.hok e;obtain⟨w',i,c⟩:=RelO.some_of (v:=v) (o:=(atKey t k).map (·.2)) (by rw[l];exact rel.val k);obtain⟨p,x,j⟩:=Option.map_eq_some_iff.mp i;refine wpAny_getItem_heap (tupleKind_room_in1 n) (ja6 I.hok q) dd x ?_;rw[j];exact h w' _ (I.tok _) c
theorem jlF{Q:Value->Shared->Prop}(i:A.units+1 < cLine)(I:Inv X pins σ H s)(g:DGet H a y o)(f:RelV y u)(h:∀ s',Inv X pins σ H s'->Q (.bool o.isSome) s') :
  wpAny (model X.prog X.w) A (compareOp .In u (.ref a)) Q E s:=by
 rcases g with⟨c,k,e,d,l⟩ | ⟨c,k,b,e,d,j,l⟩
 ·subst d;obtain⟨z,hd,m,rel,dd⟩:=jdB I.hok e;refine wpAny_in_of (wM f) hd dd.mapOf ?_;rw[<- (rel.val k).isSome_eq,<- l];exact h _ (I.tok _)
 ·subst d;cases(show u=Value.ref b from f);obtain⟨z,hd,n,rel,dd⟩:=jg2 I.hok e;refine wpAny_in_heap (tupleKind_room_in1 i) (ja6 I.hok j) hd dd ?_;have q:=(rel.val k).isSome_eq;rw[Option.isSome_map] at q;rw[<- q,<- l];exact h _ (I.tok _)
theorem jcC{h':Heap}{t':Nat}{c:HO}(I:Inv X pins σ H s)(d:Mut (H a))(f:Heap.SameBut a s.heap h')(g:∃ q,h'.get? a=some q)(new:ObjOk X.prog X.w (upd H a c) h' a c) :
  Inv X pins σ (upd H a c) { s with heap:=h',toks:=t' } :=
 I.write (x:=a) (e:=a) d (.inl rfl) (λb q h z=>(f.2 b h).trans z) g new
theorem jeX{P:Program}{w:World}{H':Hp}{h':Heap}{b:List (Key×V)}{vs:List (Key×Value)}(z:b.length<=sizeLine)(hd:(a==sysModules)=false)(rel:KV b vs)(dd:h'.DictOf (yd P w) a vs) :
  ObjOk P w H' h' a (.dK b):=⟨z,hd,vs,rel,dd⟩
end
def jiu(i:Expr):Prop:=∀ ov iv,subscripted i false ov iv=operate [ov,iv] (getItem ov iv)
theorem jce{prog:Program}{w:World}{A:Around}{E:Value->Shared->Prop}{s:Shared}{env:Env}{value slice:Expr}{pos:Pos}{T id:String}{Q:Value->Shared->Prop}
  (d:typeLookup (.type T) "__getitem__" = pure (some (.builtin id))) (e:jiu slice)
  (h:wpAny (model prog w) A (eval value env) (λo s₁=>wpAny (model prog w) A (eval slice env) (λi s₂=>s₂.TypeIs o T/\wpAny (model prog w) A (getItem o i) Q E s₂) E s₁) E s) :
  wpAny (model prog w) A (eval (.Subscript value slice pos) env) Q E s:=by
 refine Subscript_ (wpAny_mono h (λo s₁ f=>wpAny_mono f (λi s₂ a=>?_) λ_ _ x=>x) λ_ _ x=>x);obtain⟨b,a⟩:=a;unfold subscriptTail;refine L5 ?_;rw[getitemInPython_of_ne b.not_modules];refine L5 (wpAny_specialOf b d ?_);have fin:wpAny (model prog w) A (subscripted slice false o i) (λr c=>wpAny (model prog w) A (letTemporaryGo value o r >>= λ_=>pure r) Q E c) E s₂:=by
  rw[e o i];exact wpAny_operating (wpAny_mono a (λr c g=>L5 (wpAny_letTemporaryGo (N1 g))) λ_ _ x=>x)
 first
  | exact N1 (L5 fin)
  | exact L5 (N1 (L5 fin))
  | exact L5 fin
theorem um{X:Cx}{pins:List (Addr×Obj)}{σ:St}{H:Hp}{s:Shared}{a:Addr}{y:V}{o:Option V}(I:Inv X pins σ H s)(g:DGet H a y o):s.TypeIs (.ref a) "dict":=by
 rcases g with⟨c,k,e,_,_⟩ | ⟨c,k,b,e,_,_,_⟩
 ·obtain⟨_,_,d,_,dd⟩:=jdB I.hok e;exact dd.typeIs
 ·obtain⟨_,_,f,_,dd⟩:=jg2 I.hok e;exact dd.typeIs
noncomputable def jgx(td ty:TE):TE:=λσ H Q=>td σ H λx H1=>ty σ H1 λy H2=>∃ a v,x=.ref a/\DGet H2 a y (some v)/\Q v H2
noncomputable def jj5(ty td:TE):TE:=λσ H Q=>ty σ H λy H1=>td σ H1 λx H2=>∃ a o,x=.ref a/\DGet H2 a y o/\Q (.bl o.isSome) H2
section
variable {X:Cx}{o i e value:Expr}{pos pos' tpos:Pos}{td ty tv:TE}
theorem jf4(e:X.A.units+1 < cLine)(f:PE X o td)(hi:PE X i ty)(j:jiu i):PE X (.Subscript o i pos) (jgx td ty):=by
 intro b s σ H Q I h;refine jce PySem.F.slot_dict_getitem.lookup j (thn (f b s σ H _ I h) λu k ⟨x,l,m,n,p⟩=>thn (hi b k σ l _ m p) λz B ⟨y,q,d,r,a,v,ex,g,t⟩=>?_);subst ex;obtain rfl:u=Value.ref a:=n;exact⟨um d g,jbB e d g r λC D w c=>⟨v,q,w,c,t⟩⟩
theorem jio(c:X.A.units+1 < cLine)(hi:PE X i ty)(d:PE X o td):PC X .In i o (jj5 ty td):=by
 intro b s σ H Q I h;refine thn (hi b s σ H _ I h) λv e ⟨y,f,j,k,l⟩=>thn (d b e σ f _ j l) λu w ⟨x,m,n,p,a,q,ex,g,r⟩=>?_;subst ex;obtain rfl:u=Value.ref a:=p;exact jlF c n g k λz t=>⟨.bl q.isSome,m,t,rfl,r⟩
end
theorem jdf{P:Program}{w:World}{H:Hp}(h:Heap)(a:sysModules < h.objs.size):ObjOk P w H (h.push { cls:=.type "dict",data:=.dict #[] }) h.objs.size (.dK []) :=
 ⟨U8 _,U5.mpr (Ne.symm (N9 a)),[],.nil,Heap.DictOf.new h⟩
def jaf:List (TE×TE)->St->Hp->(List (V×V)->Hp->Prop)->Prop
 | [],_,H,Q=>Q [] H
 | (tk,tv)::r,σ,H,Q=>tk σ H λx H1=>tv σ H1 λy H2=>jaf r σ H2 λps H3=>Q ((x,y)::ps) H3
abbrev VV:List (V×V)->List (Value×Value)->Prop:=Paired λp q=>RelV p.1 q.1/\RelV p.2 q.2
def PPs(X:Cx)(pos:Pos)(keys:List (Option Expr))(values:List Expr)(trs:List (TE×TE)):Prop :=
 ∀(pins:List (Addr×Obj)) (s:Shared) (σ:St) (H:Hp) (Q:List (V×V)->Hp->Prop),Inv X pins σ H s->jaf trs σ H Q ->
  wpAny (model X.prog X.w) X.A (evalPairs (pairTrees keys values X.env pos)) (λvs s'=>∃ ps H',Inv X pins σ H' s'/\VV ps vs/\Q ps H') X.xe s
theorem pps_nil{X:Cx}{pos:Pos}:PPs X pos [] [] []:=λa s σ H Q I h=>pairTrees_nil_walk ⟨[],H,I,.nil,h⟩
theorem pps_cons{X:Cx}{pos:Pos}{k v:Expr}{ks:List (Option Expr)}{vs:List Expr}{tk tv:TE}{b:List (TE×TE)}(c:PE X k tk)(d:PE X v tv)(e:PPs X pos ks vs b) :
  PPs X pos (some k::ks) (v::vs) ((tk,tv)::b):=λa s σ H Q I h =>
 pairTrees_cons_walk (thn (c a s σ H _ I h) λu f ⟨x,g,i,j,l⟩=>thn (d a f σ g _ i l) λA m ⟨y,n,o,p,q⟩ =>
  thn (e a m σ n _ o q) λB C ⟨r,t,w,rel,z⟩=>⟨(x,y)::r,t,w,.cons ⟨j,p⟩ rel,z⟩)
noncomputable def J3(kvs more:List (Key×V)):List (Key×V):=more.foldl (λacc kv=>ja0 acc kv.1 kv.2) kvs
theorem KV.merge:∀{more:List (Key×V)}{rs:List (Key×Value)}{kvs:List (Key×V)}{vs:List (Key×Value)},KV more rs->KV kvs vs->KV (J3 kvs more) (merged vs rs):=by
 intro more rs kvs vs r;unfold KV at r
 induction r generalizing kvs vs with
 | nil=>intro q;exact q
 | @cons p q c d h t a =>
  intro b;have e:KV (ja0 kvs p.1 p.2) (stored vs q.1 q.2):=by
   have:=b.put p.1 h.2;rw[<- h.1];exact this
  exact a e
theorem qM:∀(more kvs:List (Key×V)),(J3 kvs more).length<=kvs.length+more.length
 | [],kvs=>by show kvs.length<=kvs.length+0;omega
 | p::r,kvs=>by
  have a:=qM r (ja0 kvs p.1 p.2);have b:=wW kvs p.1 p.2;show(J3 (ja0 kvs p.1 p.2) r).length<=_;rw[M7];omega
theorem Q2{P:Program}{w:World}:∀{kvs:List (Key×V)}{ws:List (Value×Value)},VV (kvs.map λkv=>(kV kv.1,kv.2)) ws->∃ rs,Carries (yd P w) ws rs/\KV kvs rs
 | [],_,r=>by rw[List.map_nil] at r;cases r;exact⟨[],True.intro,.nil⟩
 | p::kvs,_,r=>by
  rw[L9] at r;cases r with
  | @cons a b e bs h t =>
   obtain⟨rs,c,q⟩:=Q2 (P:=P) (w:=w) t;obtain⟨f,d⟩:=b;exact⟨(p.1,d)::rs,⟨wM h.1,rfl,c⟩,.cons ⟨rfl,h.2⟩ q⟩
noncomputable def jf0(trs:List (TE×TE)):TE:=λσ H Q=>∀ p,H p=none->jaf trs σ (upd H p (.dK [])) λps H2=>H2 p=some (.dK [])/\∃ kvs:List (Key×V),ps=kvs.map (λkv=>(kV kv.1,kv.2))/\kvs.length<=15/\Q (.ref p) (upd H2 p (.dK (J3 [] kvs)))
theorem jhe{X:Cx}{pos:Pos}{b:List (Option Expr)}{d:List Expr}{f:List (TE×TE)}(h:PPs X pos b d f)(g:b.all (·.isSome)=true)(p:b.length=d.length)(r:b≠[])
  (l:b.length<=15):PE X (.Dict b d pos) (jf0 f):=by
 intro i s σ H Q I q;have t:=I.hok.fresh (N3 s.heap.objs.size);have u:=I.laid (a:=s.heap.objs.size) (o:=.dK []) (h':=s.heap.push { cls:=.type "dict",data:=.dict #[] }) (t':=s.toks) (λ_ _ q=>M4 _ q) (N3 _) (jdf s.heap I.big);refine wpAny_Dict_walk (knd:=yd X.prog X.w) g p r l (thn (h i _ σ _ _ u (q _ t)) λJ K ⟨L,M,n,rel,e,j,v,N,x⟩=>?_);subst v;obtain⟨y,c,A⟩:=Q2 (P:=X.prog) (w:=X.w) rel;obtain⟨z,hd,B,C,dd⟩:=jfB n.hok e;cases C;refine⟨y,c,dd,λm k D=>⟨.ref s.heap.objs.size,_,?_,rfl,x⟩⟩;have E:(J3 [] j).length<=sizeLine:=by
  have F:=qM j [];rw[List.length_nil] at F;rw[sizeLine_eq];omega
 have G:∃ q,m.get? s.heap.objs.size=some q:=let ⟨q,_,_,hq,_⟩:=k;⟨q,hq⟩
 exact jcC n (by rw[e];exact True.intro) D G (jeX E hd (A.merge .nil) k)
structure M1(X:Cx)(o:Expr)(m:Str)(apos:Pos)(e:Expr)(cpos:Pos):Prop where
 base:attributeBase o m X.env (eval o X.env)=eval o X.env
 few:((backTo cpos (starEach [e] X.env)).all (λx=>!x.1)&&(backToKw cpos (keywordEach [] X.env)).all (λx=>x.1.isSome)
  && decide (([e]:List Expr).length+([]:List Keyword).length+(if([]:List Keyword).isEmpty then 0 else 1) < 30))=true
 line:(apos.endLine==cpos.line)=true
 trees:backTo cpos (starEach [e] X.env)=[(false,eval e X.env)]
structure M2(X:Cx)(o:Expr)(m:Str)(apos:Pos)(e f:Expr)(cpos:Pos):Prop where
 base:attributeBase o m X.env (eval o X.env)=eval o X.env
 few:((backTo cpos (starEach [e,f] X.env)).all (λx=>!x.1)&&(backToKw cpos (keywordEach [] X.env)).all (λx=>x.1.isSome)
  && decide (([e,f]:List Expr).length+([]:List Keyword).length+(if([]:List Keyword).isEmpty then 0 else 1) < 30))=true
 line:(apos.endLine==cpos.line)=true
 trees:backTo cpos (starEach [e,f] X.env)=[(false,eval e X.env),(false,eval f X.env)]
end L2
namespace QD
open PySem L2 PySem.Spec PyProof.Rows
section
variable {R:RC}{Z Z':Zn}{H H':Hp}{pm:List Nat}
noncomputable def kO:D->Option KA
 | .int i=>some (.int i)
 | .str s=>some (.str s)
 | _=>none
theorem kX(e:kO d=some k)(r:Rep R Z H d v O):v=kV (kaV k)/\O=[]:=by
 cases d with
 | int i=>cases e;rw[Rep] at r;exact r
 | str s=>cases e;rw[Rep] at r;exact r
 | _=>cases e
theorem jcz(h:kaV a=kaV b):a=b:=by
 cases a<;>cases b<;>simp only[kaV] at h
 ·cases h;rfl
 ·cases h
 ·cases h
 ·have:=jh2 (Sum.inr.inj h);rw[this]
noncomputable def Yk:List KA->List D->KA->Option D
 | k::ks,d::l,a=>if k=a then some d else Yk ks l a
 | _,_,_=>none
theorem qC:∀{ks:List KA}{l:List D}{vs:List V}{O:List Addr}{a:KA},Reps R Z H l vs O->ks.length=l.length ->
  (∀ d,Yk ks l a=some d->∃ v P,Q6 ((ks.map kaV).zip vs) (kaV a)=some v/\Rep R Z H d v P)/\(Yk ks l a=none->Q6 ((ks.map kaV).zip vs) (kaV a)=none)
 | [],l,vs,O,a,r,c=>⟨λd e=>(by cases l<;>cases e),λ_=>rfl⟩
 | k::ks,[],vs,O,a,r,c=>by simp at c
 | k::ks,x::l,vs,O,a,r,c=>by
  rw[Reps] at r;obtain⟨v,b,O1,O2,rfl,rfl,f,g⟩:=r;have i:=qC (a:=a) g (by simpa using c);by_cases e:k=a
  ·subst e;refine⟨λd h=>?_,λh=>?_⟩
   ·simp only[Yk,if_true] at h;cases h;exact⟨v,O1,zD rfl,f⟩
   ·simp[Yk] at h
  ·have j:¬ (kaV k=kaV a):=λz=>e (jcz z);have q:Q6 (((k::ks).map kaV).zip (v::b)) (kaV a)=Q6 ((ks.map kaV).zip b) (kaV a):=zO j;rw[q];simp only[Yk,if_neg e];exact i
theorem DkA.rd(h:DkA o H a kvs):Rd H a (.dK kvs):=by
 cases o with
 | true=>exact .inl h
 | false=>exact h
theorem DGet.r(e:Rd H a (.dK kvs)):DGet H a (kV k) (Q6 kvs k):=.inl ⟨kvs,k,e,rfl,rfl⟩
theorem Rep.dK_of(r:Rep R Z H (.dK o ks l) v O):∃ a vs O',v=.ref a/\Rd H a (.dK ((ks.map kaV).zip vs))/\Reps R Z H l vs O'/\ks.length=l.length:=by
 rw[Rep] at r;obtain⟨a,vs,O',rfl,b,c,d,_⟩:=r;exact⟨a,vs,O',rfl,d.rd,b,c⟩
noncomputable def Ko:D->D->Option D
 | .dK _ ks l,y=>(kO y).bind λk=>Yk ks l k
 | _,_=>none
theorem jgz(f:PB R td pa)(g:PB R ty pb):PB R (jgx td ty) (p2 Ko pa pb):=by
 intro σ ρ Z H O d z s e Q k;unfold p2 at e;cases e1:pa ρ with
 | none=>rw[e1] at e;cases e
 | some x =>
  rw[e1] at e;dsimp only at e;cases e2:pb ρ with
  | none=>rw[e2] at e;cases e
  | some y =>
   rw[e2] at e;dsimp only at e;refine f z s e1 λ{v A B C} b h=>?_;refine g b.wf.zd (b.slots z s) e2 λ{u D E F} c i=>?_;have j:=c.rep b.wf.zd h;cases x with
   | dK o G l =>
    simp only[Ko] at e;cases e3:kO y with
    | none=>rw[e3] at e;cases e
    | some a =>
     rw[e3,L8] at e;obtain⟨p,I,J,rfl,m,n,q⟩:=j.dK_of;obtain⟨rfl,_⟩:=kX e3 i;obtain⟨w,P,t,rw⟩:=(qC n q).1 d e;exact⟨p,w,rfl,t▸DGet.r m,k (b.pair c) rw⟩
   | _=>cases e
noncomputable def p3(g:D->D->D->Option D)(pa pb pc:PF):PF:=λρ=>match pa ρ with
 | none=>none
 | some x=>match pb ρ with
  | none=>none
  | some y=>match pc ρ with
   | none=>none
   | some z=>g x y z
noncomputable def jaG(neg:Bool)(y x:D):Option D:=match x with
 | .dK _ ks l=>(kO y).bind λk=>some (.bl (neg != (Yk ks l k).isSome))
 | _=>none
theorem jdE{td ty:TE}{pa pb:PF}{neg:Bool}(i:PB R ty pa)(j:PB R td pb){σ:L2.St}{ρ:Rh}{Z:Zn}{H:Hp}{O:List Addr}{d:D}(z:Zd Z H)(s:Slots R Z H ρ σ O)(e:p2 (jaG neg) pa pb ρ=some d)
  {Q:VK}(k:∀{v:V}{Z':Zn}{H':Hp}{P:List Addr},Go Z H [] Z' H' P->Rep R Z' H' d v P->Q v H'):ty σ H λy H1=>td σ H1 λx H2=>∃ a o,x=.ref a/\DGet H2 a y o/\Q (.bl (neg != o.isSome)) H2:=by
 unfold p2 at e;cases e1:pa ρ with
 | none=>rw[e1] at e;cases e
 | some y =>
  rw[e1] at e;dsimp only at e;cases e2:pb ρ with
  | none=>rw[e2] at e;cases e
  | some x =>
   rw[e2] at e;dsimp only at e;refine i z s e1 λ{v B H1 C} b m=>?_;refine j b.wf.zd (b.slots z s) e2 λ{u E H2 F} c n=>?_;cases x with
   | dK o q l =>
    simp only[jaG] at e;cases e3:kO y with
    | none=>rw[e3] at e;cases e
    | some a =>
     rw[e3,L8] at e;cases e;obtain⟨p,G,I,rfl,f,g,h⟩:=n.dK_of;obtain⟨rfl,_⟩:=kX e3 m;cases ev:Yk q l a with
     | none =>
      refine⟨p,none,rfl,(qC g h).2 ev▸DGet.r f,k (b.pair c) ?_⟩;rw[ev];exact .bl_mk
     | some d =>
      obtain⟨w,P,t,A⟩:=(qC g h).1 d ev;refine⟨p,some w,rfl,t▸DGet.r f,k (b.pair c) ?_⟩;rw[ev];exact .bl_mk
   | _=>cases e
theorem jh1{td ty:TE}{pa pb:PF}(a:PB R ty pa)(b:PB R td pb):PP R (jj5 ty td) (p2 (jaG false) pa pb):=λz s e _ k=>by
 have:=jdE (neg:=false) a b z s e k;simpa [jj5] using this
theorem jcl(a:KA):∀{ks:List KA}{vs:List V},ks.length=vs.length->(((ks.map kaV).zip vs).any λkv=>decide (kv.1=kaV a))=decide (a∈ks)
 | [],vs,_=>by simp
 | k::ks,[],h=>by simp at h
 | k::ks,v::vs,h=>by
  rw[L9,X0,List.any_cons,jcl a (by simpa using h)];by_cases e:k=a
  ·subst e;simp
  ·have b:¬ (kaV k=kaV a):=λz=>e (jcz z);have c:¬ (a=k):=λz=>e z.symm;simp[b,c]
end
theorem jeQ(e:Room k X.A)(c:QB cl X a ta pa)(d:QB cl X b tb pb)(f:jiu b:=by exact λ_ _=>rfl):QB cl X (.Subscript a b pos) (jgx ta tb) (p2 Ko pa pb):=⟨jf4 (jjc e) c.sem d.sem f,jgz c.den d.den⟩
theorem jjB(e:Room k X.A)(c:QB cl X a ta pa)(d:QB cl X b tb pb)(f:behindInMarks .In b=false:=by with_unfolding_all rfl):QT cl X (.Compare a [.In] [b] pos) (L2.tB (jj5 ta tb)) (jp (p2 (jaG false) pa pb)) :=
 ⟨je9 (jio (jjc e) c.sem d.sem) f,KZ (PP.b (jh1 c.den d.den))⟩
@[simp] theorem p3_e:p3 g pa pb pc ρ=(pa ρ).bind λx=>(pb ρ).bind λy=>(pc ρ).bind λz=>g x y z:=by
 unfold p3;cases pa ρ with
 | none=>rfl
 | some x =>
  dsimp only[Option.bind];cases pb ρ with
  | none=>rfl
  | some y=>dsimp only;cases pc ρ<;>rfl
noncomputable def je5:D->Option (List KA×List D)
 | .dK true ks l=>some (ks,l)
 | _=>none
@[simp] theorem dkOf_dK(ks:List KA)(l:List D):je5 (.dK true ks l)=some (ks,l):=rfl
@[simp] theorem keyOf_int(i:Int):kO (.int i)=some (.int i):=rfl
@[simp] theorem keyOf_str(s:List Nat):kO (.str s)=some (.str s):=rfl
@[simp] theorem opDIx_e(o:Bool)(ks:List KA)(l:List D)(y:D):Ko (.dK o ks l) y=(kO y).bind λk=>Yk ks l k:=rfl
@[simp] theorem opDIn_e(neg o:Bool)(ks:List KA)(l:List D)(y:D):jaG neg y (.dK o ks l)=(kO y).bind λk=>some (.bl (neg != (Yk ks l k).isSome)):=rfl
theorem jgb{P:Program}{w:World}{K:PySem.W.Frag}{cl:Nat->Addr}{mg:Str->Option Value}{base:Heap}{k n:Nat}{f:Addr}{fd:FuncData}{ps:List Str}:FnOk P w K mg base CX0 k f fd ps (spP ⟨K,cl⟩ (λ_=>none) n) :=
 ⟨λa H Q E ⟨_,_,_,_,_,_,h,_⟩=>(nomatch h),λA outer s H args b a Q E _ _ _ _ ⟨_,_,_,_,_,_,h,_⟩=>(nomatch h)⟩
end QD
namespace PySem
open Sem (wp)
namespace F
end F
end PySem
namespace L2
open PySem PySem.Spec PyProof.Rows
end L2
namespace QD
open PySem L2 PySem.Spec PyProof.Rows
end QD
namespace QK
open PySem L2 QD PySem.Spec PyProof.Rows
end QK
namespace QD
open PySem L2 PySem.Spec PyProof.Rows
end QD
namespace L2
open PySem PySem.Spec PyProof.Rows
end L2
namespace QD
open PySem L2 PySem.Spec PyProof.Rows
structure QDs(cl:Nat->Addr)(X:Cx)(es:List Expr)(ta:TA)(f:FA):Prop where
 sem:PA X es ta
 den:DA ⟨X.K,cl⟩ ta f
end QD
namespace L2
open PySem PySem.Spec PyProof.Rows
end L2
namespace QD
open PySem L2 PySem.Spec PyProof.Rows
end QD
namespace L2
open PySem PySem.Spec PyProof.Rows
structure BlockOkC(X:Cx)(scope:Scope)(N':List Str)(ix:List (Option Nat)):Prop where
 kind:scope.kind=.function
 names:∀ y∈scope.names,y.2=.local->scope.names.lookup y.1=some .local
 cells:∀ y∈scope.names,y.2=.cell->scope.names.lookup y.1=some .cell
 uniq:∀ y∈scope.names,y.2=.free->scope.names.lookup y.1=some .free
 outer:∀ y∈scope.names,y.2=.free->X.env.kindOf y.1=some .cell \/ X.env.kindOf y.1=some .free
 nd:N'.Nodup
 len:ix.length=N'.length
 at_:∀(i j:Nat) (x:Str),ix[i]?=some (some j)->N'[i]?=some x->X.N[j]?=some x/\(x,NameKind.free)∈scope.names
 func:X.env.scope.kind=.function
end L2
namespace QD
open PySem L2 PySem.Spec PyProof.Rows
end QD
namespace L2
open PySem PySem.Spec PyProof.Rows
structure KD(P:Program)(w:World)(K:PySem.W.Frag)(a:Addr)(kvs:List (Key×V)):Prop where
 nm:(a==sysModules)=false
 dd:∀ h:Heap,K.In h->∃ vs,KV kvs vs/\h.DictOf (yd P w) a vs
noncomputable def jgo(kvs:List (Key×V))(ty:TE):TE:=λσ H Q=>ty σ H λy H1=>∃ k v,y=kV k/\Q6 kvs k=some v/\Q v H1
noncomputable def jbn(kvs:List (Key×V))(ty:TE):TE:=λσ H Q=>ty σ H λy H1=>∃ k,y=kV k/\Q ((Q6 kvs k).getD .non) H1
theorem jfw{X:Cx}{h:Heap}{vs:List (Key×Value)}(dd:h.DictOf (yd X.prog X.w) a vs):∃ o,h.get? a=some o/\o.cls=.type "dict"/\o.dict=none:=by
 obtain⟨c,_,_,d,b,_⟩:=dd;exact⟨c,d,b.1,b.2.1⟩
theorem jgQ(D:KD X.prog X.w X.K a kvs)(e:Gl X x)(f:X.mg x=some (.ref a))(hi:PE X i ty)(g:jiu i)(hd:(x==("__debug__" : Str))=false:=by decide):PE X (.Subscript (.Name x p) i pos) (jgo kvs ty):=by
 intro b s σ H Q I h;refine jce PySem.F.slot_dict_getitem.lookup g (qr I e f (thn (hi b s σ H _ I h) λu z ⟨y,j,d,l,k,v,m,n,q⟩=>?_) hd);subst m;obtain⟨r,rel,dd⟩:=D.dd _ d.kIn;obtain⟨A,t,c⟩:=RelO.some_of (v:=v) (o:=valueAt r k) (by rw[<- n];exact rel.val k);exact⟨dd.typeIs,wpAny_getItem_of (wM l) dd.mapOf t ⟨v,j,d.tok _,c,q⟩⟩
theorem jea{X:Cx}{c:List (Key×V)}(D:KD X.prog X.w X.K a c)(j:Gl X x)(l:X.mg x=some (.ref a))(n:PE X e ty)(m:M1 X (.Name x p) "get" apos e cpos)(hd:(x==("__debug__" : Str))=false:=by decide):PE X (.Call (.Attribute (.Name x p) "get" apos) [e] [] cpos) (jbn c ty):=by
 intro d s σ H Q I h;obtain⟨C,rel,dd⟩:=D.dd _ I.kIn;refine wpAny_Call_method m.base m.few m.line PySem.F.plainAttrs_dict PySem.F.slot_dict_get PySem.F.type_dict_get (qr I j l ?_ hd);refine⟨dd.typeIs,λb q=>?_,?_⟩
 ·cases q;obtain⟨o,r,_,t⟩:=jfw dd;exact⟨o,r,t⟩
 rw[m.trees];refine Calls.callWith_builtin rfl (Calls.evalArgs_plain (Calls.spliced_cons (thn (n d s σ H _ I h) λE G ⟨y,u,i,v,k,z,A⟩=>Calls.spliced_nil ?_)));subst z;obtain⟨B,f,g⟩:=D.dd _ i.kIn;refine call_meetsIn PySem.F.slot_dict_get g.typeIs PySem.F.entry_dict_get (PySem.F.args_dict_get_2 _ _) (meets_dict_get (yd X.prog X.w) a (wM v) D.nm) ⟨_,g.mapOf,_,u,i.tok _,?_,A⟩;exact(f.val k).getD rfl
noncomputable def jfa(w:World):List Str->List Tok->List Value->List DictEntry
 | x::xs,t::ts,v::vs=>⟨PyData.keyHash w.params x,.str x t,v⟩::jfa w xs ts vs
 | _,_,_=>[]
theorem QA:∀{xs:List Str}{ts:List Tok}{us:List Value},xs.length=ts.length->xs.length=us.length->Pairs (yd P w) (jfa w xs ts us) ((xs.map λx=>(Sum.inr x:Key)).zip us)
 | [],[],[],_,_=>.nil
 | x::xs,t::ts,u::us,a,b=>.cons (YI P w x t) rfl (QA (by simpa using a) (by simpa using b))
 | [],_::_,_,h,_=>by simp at h
 | [],[],_::_,_,h=>by simp at h
 | _::_,[],_,h,_=>by simp at h
 | _::_,_::_,[],_,h=>by simp at h
theorem wy:∀{xs:List Str}{ts:List Tok}{us:List Value},∀ q∈jfa w xs ts us,∃ k,(yd P w).is k q.key=true/\q.hash=(yd P w).hash k
 | x::xs,t::ts,u::us,q,h=>by
  rw[jfa] at h;rcases M9.mp h with rfl | h
  ·exact⟨.inr x,YI P w x t,rfl⟩
  ·exact wy q h
 | [],_,_,q,h=>by simp[jfa] at h
 | _::_,[],_,q,h=>by simp[jfa] at h
 | _::_,_::_,[],q,h=>by simp[jfa] at h
theorem je1:∀{ks:List Key}{vs:List V}{us:List Value},Vals vs us->KV (ks.zip vs) (ks.zip us)
 | [],_,_,_=>by simp[KV];exact .nil
 | k::ks,[],_,.nil=>by simp[KV];exact .nil
 | k::ks,v::vs,u::us,.cons a b=>by
  rw[X0,X0];exact .cons ⟨rfl,a⟩ (je1 b)
theorem jgN{K:PySem.W.Frag}{ks:List Key}{xs:List Str}{ts:List Tok}{us:List Value}{vs:List V}{c:Nat}(d:ks=xs.map λx=>(Sum.inr x:Key))(h:K.lookup a=some { cls:=.type "dict",data:=.dict (jfa w xs ts us).toArray c })
  (f:(a==sysModules)=false) (h1:xs.length=ts.length) (h2:xs.length=us.length) (g:Vals vs us) (i:xs.Nodup):KD P w K a (ks.zip vs):=by
 subst d;refine⟨f,λl j=>⟨(xs.map λx=>(Sum.inr x:Key)).zip us,je1 g,?_⟩⟩;refine⟨_,_,c,j a _ h,⟨rfl,rfl,rfl⟩,rfl,λq k=>wy q (by simpa using k),by simpa using QA h1 h2,?_⟩;have e:((xs.map λx=>(Sum.inr x:Key)).zip us).map (·.1)=xs.map λx=>(Sum.inr x:Key):=by
  rw[List.map_fst_zip];rw[L4];lia
 rw[e];exact List.Pairwise.map _ (λa b h z=>h (by cases z;rfl)) i
section
variable {prog:Program}{w:World}{A:Around}{E:Value->Shared->Prop}{s:Shared}
theorem jd7{j t:Addr}{n:Nat}{a:Array Value}{y:Value}{C:Value->Shared->Prop}(d:s.heap.IsTupleIter j t n)(e:s.heap.IsTuple t a)(f:a[n]?=some y)
  (go:∀ k,k.IsTupleIter j t (n+1)->Heap.SameBut j s.heap k->C y { s with heap:=k }):wpAny (model prog w) A (Builtin.SmallTypes.nextOf (.ref j)) C E s:=by
 obtain⟨l,c,g,b⟩:=id d;obtain⟨m,h,_,mt,i⟩:=e;delta Builtin.SmallTypes.nextOf;refine L5 (wpAny_callSpecial?_slot (name:=Str.ofString "__next__") d.typeIs F.slot_tuple_iterator_next (wpAny_call_entry F.slot_tuple_iterator_next d.typeIs F.entry_tuple_iterator_next ?_ (F.args_tuple_iterator_next_1 _)));show wpAny _ _ (field (.ref j) 0 >>= _) _ _ s;refine L5 (U9 c b (x:=.ref t) rfl ?_);show wpAny (model prog w) _ (if(Value.ref t==Value.none)=true then _ else _) _ _ s;rw[if_neg (by exact M8)];show wpAny _ _ (field (.ref j) 1 >>= _) _ _ s;refine L5 (U9 c b (x:=.int n 0) rfl ?_);show wpAny (model prog w) _ (seqItems? (.ref t) >>= _) _ _ s;refine L5 (wpAny_seqItems h i ?_);simp only[U1,f];refine L5 (wpAny_setField c b (by simp) (N1 ⟨y,rfl,N1 (go _ ⟨_,Heap.get?_update_self _ c (Obj.isFreed_of_fields (Obj.data_mapFields b _)),(Obj.cls_mapFields ..).trans g,?_⟩ (Heap.SameBut.update ..))⟩));rw[Obj.data_mapFields b];simp[rawInt]
variable {z TI TO j1 j2 l t:Addr}{m:Nat}{us vs:Array Value}{u v a b:Value}
theorem jeh{C:Value->Shared->Prop}(D:ZipApart z TI TO j1 j2 l t)(j:IsZip s.heap z TI TO .none)(qI:IsPair s.heap TI (.ref j1) (.ref j2))(W:IsPair s.heap TO a b)
  (X:s.heap.IsListIter j1 l m) (Y:s.heap.IsTupleIter j2 t m) (Z:s.heap.IsList l us) (w2:s.heap.IsTuple t vs) (eu:us[m]?=some u) (ev:vs[m]?=some v)
  (go:∀ k,IsZip k z TI TO (rawInt s.heap.objs.size)->IsPair k TO u v->k.IsListIter j1 l (m+1)->k.IsTupleIter j2 t (m+1)->IsPair k s.heap.objs.size u v->k.objs.size=s.heap.objs.size+1 ->
   (∀ c o,c≠z->c≠TO->c≠j1->c≠j2->s.heap.get? c=some o->k.get? c=some o)->C (.ref s.heap.objs.size) { s with heap:=k }) :
  wpAny (model prog w) A (Builtin.«zip.__next__» ⟨[.ref z],[]⟩) (λfin s'=>∃ v,fin=.done (.ret v)/\C v s') E s:=by
 show wpAny (model prog w) A (field (.ref z) 2 >>= _) _ _ _;refine L5 (U9 j rfl (x:=.bool false) rfl ?_);show wpAny (model prog w) A (field (.ref z) 3 >>= _) _ _ _;refine L5 (U9 j rfl (x:=.ref TI) rfl (L5 (wpAny_seqItems qI rfl ?_)));show wpAny (model prog w) A (Builtin.SmallTypes.ownedTupleIsFree (.ref z) >>= _) _ _ _;refine L5 ?_;delta Builtin.SmallTypes.ownedTupleIsFree;refine L5 (U9 j rfl (x:=.none) rfl (N1 ?_));simp only[if_true];refine L5 (wpAny_rule (L5 (U9 j rfl (x:=.ref TO) rfl (L5 (wpAny_setField_rec j (by simp) λk1 G f=>?_)))));replace G:IsZip k1 z TI TO .ellipsis:=G;refine L5 ?_;simp only[List.forIn_cons,List.forIn_nil,List.zipIdx_cons,List.zipIdx_nil];refine L5<|L5<|wpAny_onRaise ?_
 show wpAny _ _ (Builtin.SmallTypes.nextOf (.ref j1) >>= _) _ _ _;refine L5 (wpAny_nextOf_list_item (X.extBut f.extBut D.i1z) (Z.extBut f.extBut D.l1z) eu λk2 p1 h=>N1 ?_);have P:IsPair k2 TO a b:=h.extBut _ _ D.TOi1 (f.extBut _ _ D.TOz W);refine L5 (wpAny_seqItems P rfl (L5 (wpAny_updateSeq_pair P λk3 H i=>?_)));replace H:IsPair k3 TO u b:=H;refine L5 (wpAny_letGo (N1 (L5 (L5 (wpAny_onRaise ?_)))));show wpAny _ _ (Builtin.SmallTypes.nextOf (.ref j2) >>= _) _ _ _;refine L5 (jd7 (((Y.extBut f.extBut D.i2z).extBut h.extBut D.i12.symm).extBut i.extBut D.TOi2.symm) (((w2.extBut f.extBut D.l2z).extBut h.extBut D.l2i1).extBut i.extBut D.l2TO) ev λk4 p2 n=>N1 ?_);have Q:IsPair k4 TO u b:=n.extBut _ _ D.TOi2 H;refine L5 (wpAny_seqItems Q rfl (L5 (wpAny_updateSeq_pair Q λd r p=>?_)));replace r:IsPair d TO u v:=r;refine L5 (wpAny_letGo (N1 (N1 (L5 (wpAny_seqItems r rfl (L5 (wpAny_newTuple ?_)))))));have R:d.objs.size=s.heap.objs.size:=by rw[p.1,n.1,i.1,h.1,f.1]
 have S:IsZip d z TI TO .ellipsis:=p.extBut _ _ D.TOz.symm (n.extBut _ _ D.i2z.symm (i.extBut _ _ D.TOz.symm (h.extBut _ _ D.i1z.symm G)));have kp:∀ c o,c≠z->c≠TO->c≠j1->c≠j2->s.heap.get? c=some o->d.get? c=some o:=λc o g y I J e=>p.extBut _ _ y (n.extBut _ _ J (i.extBut _ _ y (h.extBut _ _ I (f.extBut _ _ g e))));have K:d.IsListIter j1 l (m+1):=((p1.extBut i.extBut D.TOi1.symm).extBut n.extBut D.i12).extBut p.extBut D.TOi1.symm;have L:d.IsTupleIter j2 t (m+1):=p2.extBut p.extBut D.TOi2.symm;have T:z < d.objs.size:=N5 S;show wpAny (model prog w) A (Builtin.SmallTypes.ownedTupleHandOut (.ref z) (.ref d.objs.size) >>= _) _ _ _;refine L5 ?_;delta Builtin.SmallTypes.ownedTupleHandOut;have z6:IsZip (d.push { cls:=.type "tuple",data:=.seq #[u,v] }) z TI TO .ellipsis:=M4 _ S;refine L5 (wpAny_setField_rec z6 (by simp) λk7 M N=>?_);replace M:IsZip k7 z TI TO (rawInt d.objs.size):=M;refine wpAny_setField_rec M (by simp) λq B O=>?_;replace B:IsZip q z TI TO (rawInt d.objs.size):=B;have F:∀ c o,c≠z->d.get? c=some o->q.get? c=some o:=λc o g e=>O.extBut _ _ g (N.extBut _ _ g (M4 _ e));have U:IsPair q d.objs.size u v:=O.extBut _ _ (Nat.ne_of_gt T) (N.extBut _ _ (Nat.ne_of_gt T) (X9 _ rfl));have V:q.objs.size=d.objs.size+1:=by rw[O.1,N.1,Heap.size_push]
 rw[R] at B U V;refine N1 ⟨_,rfl,?_⟩;show C (.ref d.objs.size) _;rw[R];obtain⟨x1,y1,r1⟩:=K;obtain⟨x2,y2,r2⟩:=L;exact go q B (F _ _ D.TOz r) ⟨x1,F _ _ D.i1z y1,r1⟩ ⟨x2,F _ _ D.i2z y2,r2⟩ U V λc o g y I J e=>F c o g (kp c o g y I J e)
theorem jho{C:PySem.Fin->Shared->Prop}(p:A.handled=none)(D:ZipApart z TI TO j1 j2 l t)(a:IsZip s.heap z TI TO .none)(qI:IsPair s.heap TI (.ref j1) (.ref j2))
  (q:s.heap.IsListIter j1 l m) (r:s.heap.IsList l us) (u:us[m]?=none)
  (go:∀ k e,(∀ c o,c≠z->c≠TO->c≠j1->c≠j2->s.heap.get? c=some o->k.get? c=some o)->(∃ o,k.get? e=some o/\o.cls=.type "StopIteration")->E (.ref e) { s with heap:=k }) :
  wpAny (model prog w) A (Builtin.«zip.__next__» ⟨[.ref z],[]⟩) C E s:=by
 show wpAny (model prog w) A (field (.ref z) 2 >>= _) _ _ _;refine L5 (U9 a rfl (x:=.bool false) rfl ?_);show wpAny (model prog w) A (field (.ref z) 3 >>= _) _ _ _;refine L5 (U9 a rfl (x:=.ref TI) rfl (L5 (wpAny_seqItems qI rfl ?_)));show wpAny (model prog w) A (Builtin.SmallTypes.ownedTupleIsFree (.ref z) >>= _) _ _ _;refine L5 ?_;delta Builtin.SmallTypes.ownedTupleIsFree;refine L5 (U9 a rfl (x:=.none) rfl (N1 ?_));simp only[if_true];refine L5 (wpAny_rule (L5 (U9 a rfl (x:=.ref TO) rfl (L5 (wpAny_setField_rec a (by simp) λv b d=>?_)))));replace b:IsZip v z TI TO .ellipsis:=b;refine L5 ?_;simp only[List.forIn_cons,List.forIn_nil,List.zipIdx_cons,List.zipIdx_nil];refine L5<|L5<|wpAny_onRaise ?_
 show wpAny _ _ (Builtin.SmallTypes.nextOf (.ref j1) >>= _) _ _ _;refine L5 (wpAny_nextOf_list_end p (q.extBut d.extBut D.i1z) (r.extBut d.extBut D.l1z) u λy e g B=>?_);obtain⟨F,f,h⟩:=B;have i:IsZip y z TI TO .ellipsis:=g _ _ D.i1z.symm b;have ne:e≠z:=λx=>by subst x;rw[i] at f;cases f;simp at h
 exact wpAny_setField_rec i (by simp) λG _ j=>go G e (λc o n _ H _ x=>j.extBut _ _ n (g _ _ H (d.extBut _ _ n x))) ⟨F,j.extBut _ _ ne f,h⟩
theorem jc6{C:Option Value->Shared->Prop}(D:ZipApart z TI TO j1 j2 l t)(d:IsZip s.heap z TI TO .none)(qI:IsPair s.heap TI (.ref j1) (.ref j2))(e:IsPair s.heap TO a b)
  (f:s.heap.IsListIter j1 l m) (g:s.heap.IsTupleIter j2 t m) (h:s.heap.IsList l us) (i:s.heap.IsTuple t vs) (j:us[m]?=some u) (n:vs[m]?=some v)
  (go:∀ k,IsZip k z TI TO (rawInt s.heap.objs.size)->IsPair k TO u v->k.IsListIter j1 l (m+1)->k.IsTupleIter j2 t (m+1)->IsPair k s.heap.objs.size u v->k.objs.size=s.heap.objs.size+1 ->
   (∀ c o,c≠z->c≠TO->c≠j1->c≠j2->s.heap.get? c=some o->k.get? c=some o)->C (some (.ref s.heap.objs.size)) { s with heap:=k }):wpAny (model prog w) A (pyNext (.ref z)) C E s:=by
 have ty:s.TypeIs (.ref z) "zip":=⟨_,d,rfl⟩;unfold pyNext;exact L5 (wpAny_attempt (wpAny_callSpecial?_slot (name:=Str.ofString "__next__") ty F.slot_zip_next (wpAny_call_entry F.slot_zip_next ty F.entry_zip_next
  (jeh D d qI e f g h i j n λk p q r x y B G=>N1 (go k p q r x y B G)) (F.args_zip_next_1 _))))
theorem jc0{C:Option Value->Shared->Prop}(d:A.handled=none)(D:ZipApart z TI TO j1 j2 l t)(a:IsZip s.heap z TI TO .none)(qI:IsPair s.heap TI (.ref j1) (.ref j2))
  (f:s.heap.IsListIter j1 l m) (g:s.heap.IsList l us) (h:us[m]?=none)
  (go:∀ k,(∀ c o,c≠z->c≠TO->c≠j1->c≠j2->s.heap.get? c=some o->k.get? c=some o)->C none { s with heap:=k }):wpAny (model prog w) A (pyNext (.ref z)) C E s:=by
 have ty:s.TypeIs (.ref z) "zip":=⟨_,a,rfl⟩;unfold pyNext;refine L5 (wpAny_attempt (wpAny_callSpecial?_slot (name:=Str.ofString "__next__") ty F.slot_zip_next (wpAny_call_entry F.slot_zip_next ty F.entry_zip_next (jho d D a qI f g h λk e kp i=>?_) (F.args_zip_next_1 _))));obtain⟨o,j,n⟩:=i;exact L5 (wpAny_isInstance (T:="StopIteration") (b:=true) ⟨o,j,n⟩ isSubtype_stop (N1 (go _ kp)))
end
noncomputable abbrev zlA(h:Heap)(l:Addr):Heap:=h.push { cls:=.type "list_iterator",data:=.fields #[.ref l,.int 0 0] }
noncomputable abbrev zlB(h:Heap)(l t:Addr):Heap:=(zlA h l).push { cls:=.type "tuple_iterator",data:=.fields #[.ref t,.int 0 0] }
noncomputable abbrev zlC(h:Heap)(l t:Addr):Heap:=(zlB h l t).push { cls:=.type "tuple",data:=.seq #[.ref h.objs.size,.ref (zlA h l).objs.size] }
noncomputable abbrev zlD(h:Heap)(l t:Addr):Heap:=(zlC h l t).push { cls:=.type "tuple",data:=.seq #[.none,.none] }
noncomputable abbrev zlE(h:Heap)(l t:Addr):Heap:=(zlD h l t).push { cls:=.type "zip",data:=.fields #[.none,.bool false,.bool false,.ref (zlB h l t).objs.size,.ref (zlC h l t).objs.size] }
theorem jeg(l t:Addr)(us vs:Array Value):Meets (Builtin.«zip.__new__» ⟨[.type "zip",.ref l,.ref t],[]⟩) (λ_ R s=>s.heap.IsList l us/\s.heap.IsTuple t vs/\R (.ok (.ret (.ref (zlD s.heap l t).objs.size))) { s with heap:=zlE s.heap l t }) :=
 .of_wp λprog w A R s h=>by
  obtain⟨a,g,d,b,os⟩:=s;obtain⟨e,f,h⟩:=h;have c:=sub_zip;have i:Heap.IsList (Shared.heap ⟨a,g,d,b,os⟩) l us:=e;have j:Heap.IsTuple (Shared.heap ⟨a.push { cls:=.type "list_iterator",data:=.fields #[.ref l,.int 0 0] },g,d,b,os⟩) t vs:=Heap.IsTuple.push f _
  wp_walk using wpAny_pyIter_list i,wpAny_pyIter_tuple j
  exact⟨_,rfl,h⟩
section
variable {prog:Program}{w:World}{A:Around}{E:Value->Shared->Prop}{s:Shared}
theorem jdG{l t:Addr}{us vs:Array Value}{C:Value->Shared->Prop}(h1:s.heap.IsList l us)(h2:s.heap.IsTuple t vs)
  (go:∀ k,IsZip k (s.heap.objs.size+4) (s.heap.objs.size+2) (s.heap.objs.size+3) .none->IsPair k (s.heap.objs.size+2) (.ref s.heap.objs.size) (.ref (s.heap.objs.size+1))->IsPair k (s.heap.objs.size+3) .none .none ->
   k.IsListIter s.heap.objs.size l 0->k.IsTupleIter (s.heap.objs.size+1) t 0->(∀ c o,s.heap.get? c=some o->k.get? c=some o)->C (.ref (s.heap.objs.size+4)) { s with heap:=k }) :
  wpAny (model prog w) A (call (.type "zip") [.ref l,.ref t]) C E s:=by
 refine callType_new F.called_zip (by decide) (F.typeCall_zip_2 _ _) (F.newCall_zip_2 _ _) (λobj=>F.args_object_init_3 obj _ _) F.entry_zip_new (jeg l t us vs) ⟨h1,h2,?_⟩;have a:(zlA s.heap l).objs.size=s.heap.objs.size+1:=Heap.size_push ..;have b:(zlB s.heap l t).objs.size=s.heap.objs.size+2:=by rw[Heap.size_push,a]
 have d:(zlC s.heap l t).objs.size=s.heap.objs.size+3:=by rw[Heap.size_push,b]
 have f:(zlD s.heap l t).objs.size=s.heap.objs.size+4:=by rw[Heap.size_push,d]
 have e:(zlE s.heap l t).get? (zlD s.heap l t).objs.size=some _:=X9 _ rfl;have g:(zlE s.heap l t).get? (zlC s.heap l t).objs.size=some _:=M4 _ (X9 _ rfl);have h:(zlE s.heap l t).get? (zlB s.heap l t).objs.size=some _:=M4 _ (M4 _ (X9 _ rfl));have i:(zlE s.heap l t).get? (zlA s.heap l).objs.size=some _:=M4 _ (M4 _ (M4 _ (X9 _ rfl)));have j:(zlE s.heap l t).get? s.heap.objs.size=some _:=M4 _ (M4 _ (M4 _ (M4 _ (X9 _ rfl))));show _/\_;rw[b,d,f] at e;rw[a,b] at h;rw[d] at g;rw[a] at i;rw[f];exact⟨⟨_,e,rfl⟩,go _ e h g ⟨_,j,rfl,rfl⟩ ⟨_,i,rfl,rfl⟩ λc o x=>M4 _ (M4 _ (M4 _ (M4 _ (M4 _ x))))⟩
end
noncomputable def Izt(K:PySem.W.Frag)(l t:Addr):It :=
 ⟨λi H=>∃ xs ys x y,SqL K H l xs/\SqT K H t ys/\xs[i]?=some x/\ys[i]?=some y,λi H x H'=>∃ p u v,(∀ xs,SqL K H l xs->xs[i]?=some u)/\(∀ ys,SqT K H t ys->ys[i]?=some v)/\x=.ref p/\H p=none/\H'=upd H p (.tup [u,v]),
  λi H=>∃ xs,SqL K H l xs/\xs.length<=i⟩
theorem jem{P:Program}{w:World}{K:PySem.W.Frag}{F:List Expr}{n:Nat}{pos:Pos}(z TI TO j1 j2 l t:Addr)(D:ZipApart z TI TO j1 j2 l t) :
  Turn P w K (.Tuple F n pos) (Izt K l t) [z,TI,TO,j1,j2] z (λi h=>IsZip h z TI TO .none/\IsPair h TI (.ref j1) (.ref j2)/\(∃ a b,IsPair h TO a b)/\h.IsListIter j1 l i/\h.IsTupleIter j2 t i) where
 mem:=by simp
 obj:=λi h st b p=>by
  obtain⟨g,j,⟨a,c,A⟩,⟨o4,r,_,d4⟩,⟨O,B,_,d5⟩⟩:=st;rcases(by simpa using p:b=z \/ b=TI \/ b=TO \/ b=j1 \/ b=j2) with q | q | q | q | q<;>subst q
  ·exact⟨_,g,λv q=>by cases q⟩
  ·exact⟨_,j,λv q=>by cases q⟩
  ·exact⟨_,A,λv q=>by cases q⟩
  ·exact⟨_,r,λv q=>by rw[d4] at q;cases q⟩
  ·exact⟨_,B,λv q=>by rw[d5] at q;cases q⟩
 keep:=λi h h' st k=>by
  obtain⟨g,j,⟨a,c,A⟩,r,⟨O,B,S⟩⟩:=st;exact⟨k z (by simp) _ g,k TI (by simp) _ j,⟨a,c,k TO (by simp) _ A⟩,r.at λo q=>k j1 (by simp) o q,⟨O,k j2 (by simp) _ B,S⟩⟩
 item:=by
  intro X U V Y hc i G s σ H E I Q st Z;subst U V Y;obtain⟨xs,ys,x,y,m,J,hx,hy⟩:=Z;obtain⟨L,C,p1,hz1⟩:=I.list m;obtain⟨its2,rv2,p2,hz2⟩:=I.tuple J;obtain⟨u,hu,ru⟩:=C.get hx;obtain⟨v,hv,rv⟩:=rv2.get hy;obtain⟨g,j,⟨a,c,A⟩,r,B⟩:=st;refine jc6 D g j A r B p1.isList p2 (u:=u) (v:=v) (by simpa using hu) (by simpa using hv) λhh a1 a2 a3 a4 a5 a6 R=>?_;refine⟨_,rfl,wpAny_letOwnedTupleGo_zip (s:={ s with heap:=hh }) a1 λM hz6 f=>?_⟩;replace f:Heap.SameBut z hh M:=f;have lt:∀{c o},s.heap.get? c=some o->c < s.heap.objs.size:=λe=>N5 e;have N:M.get? s.heap.objs.size=_:=(f.2 _ (Nat.ne_of_gt (lt g))).trans a5;have kk:∀ b o,b∉[z,TI,TO,j1,j2]->s.heap.get? b=some o->M.get? b=some o:=λb o p q=>by
   have d:b≠z/\b≠TI/\b≠TO/\b≠j1/\b≠j2:=by simpa using p
   exact(f.2 b d.1).trans (R b o d.1 d.2.2.1 d.2.2.2.1 d.2.2.2.2 q)
  have I1:=I.turnedNew (h':=M) (t':=s.toks) (wr:=[z,TI,TO,j1,j2]) (T:=s.heap.objs.size) (xs:=[x,y]) (its:=#[u,v]) kk Q (N3 _) ⟨⟨_,N,rfl,_,rfl⟩,_,N,rfl⟩ (.cons ru (.cons rv .nil)) (by show 2<=sizeLine;decide);have g5:M.IsTupleIter j2 t (i+1):=by
   obtain⟨O,e5,S⟩:=a4;exact⟨O,(f.2 j2 D.i2z).trans e5,S⟩
  refine⟨.ref s.heap.objs.size,_,I1,rfl,⟨_,x,y,(λzs hs=>by rw[I.list_inj hs m];exact hx),(λzs hs=>by rw[I.tuple_inj hs J];exact hy),rfl,I.hok.fresh (N3 _),rfl⟩,⟨hz6,(f.2 TI D.TIz).trans (R _ _ D.TIz D.TITO D.TIi1 D.TIi2 j),⟨_,_,(f.2 TO D.TOz).trans a2⟩,a3.at λo q=>(f.2 j1 D.i1z).trans q,g5⟩,λb p=>?_⟩;rw[jo]
  ·exact(Q b p).1
  ·intro q;have:b < s.heap.objs.size:=by
    obtain⟨_,h4',_⟩:=id r;obtain⟨_,h5',_⟩:=id B;rcases(by simpa using p:b=z \/ b=TI \/ b=TO \/ b=j1 \/ b=j2) with w | w | w | w | w<;>rw[w]
    ·exact lt g
    ·exact lt j
    ·exact lt A
    ·exact lt h4'
    ·exact lt h5'
   exact absurd this (by rw[q];exact Nat.lt_irrefl _)
 done:=by
  intro X U V Y hc i G s σ H E I Q st Z;subst U V Y;obtain⟨xs,m,hx⟩:=Z;obtain⟨L,C,p1,hz1⟩:=I.list m;obtain⟨g,j,⟨a,c,A⟩,r,B⟩:=st;have hl1:=C.length;exact jc0 (I.ok.hd hc) D g j r p1.isList (by simp;lia) λhh R=>⟨rfl,I.turnedL (t':=s.toks) (wr:=[z,TI,TO,j1,j2]) (λb o p q=>by
   have d:b≠z/\b≠TI/\b≠TO/\b≠j1/\b≠j2:=by simpa using p
   exact R b o d.1 d.2.2.1 d.2.2.2.1 d.2.2.2.2 q) Q⟩
 self:=λ_ _ _ _ _ st h=>wpAny_pyIter_zip st.1 h
noncomputable def jkQ(K:PySem.W.Frag)(tl:TA):TI:=λσ H R=>tl σ H λvs H1=>∃ a b xs ys,vs=[.ref a,.ref b]/\SqL K H1 a xs/\SqT K H1 b ys/\R (Izt K a b) H1
section
variable {X:Cx}
theorem jhI{f:List Expr}{n:Nat}{tpos p pos:Pos}{a b:Expr}{ta:TA}(E:Gl X "zip")(F:X.mg "zip" = none)(G:PA X [a,b] ta)(J:starEach [a,b] X.env=[(false,eval a X.env),(false,eval b X.env)]:=by rfl)(g:starEach [b] X.env=[(false,eval b X.env)]:=by rfl) :
  PI X (.Tuple f n tpos) (.Call (.Name "zip" p) [a,b] [] pos) (jkQ X.K ta):=by
 intro d s σ H R I h;refine Call_ (VY I E F (show bootBuiltins "zip" = some (.type "zip") by decide +kernel) (PyProof.Rows.callWith_type1 (thn (G pos d s σ H _ I h) λus c ⟨vs,y,i,L,M⟩=>?_) (by rw[J,g]) (by rw[g];rfl)));obtain⟨l1,t,xs,ys,rfl,w,x,q⟩:=M;obtain⟨u,v,rfl,N,O⟩:=L.two;cases N;cases O;obtain⟨A,P,j,Q⟩:=i.list w;obtain⟨B,S,k,T⟩:=i.tuple x;have l:l1 < c.heap.objs.size:=by
  obtain⟨o,_,e,_⟩:=j;exact N5 e
 have m:t < c.heap.objs.size:=by
  obtain⟨o,e,_⟩:=id k;exact N5 e
 refine jdG j.isList k λC D U V W Y Z=>?_;have I2:Inv X d σ y { c with heap:=C }:=i.kept (t':=c.toks) Z;refine PySem.wpAny_pyIter_zip (s:={ c with heap:=C }) D ?_;refine⟨c.heap.objs.size+4,[c.heap.objs.size+4,c.heap.objs.size+2,c.heap.objs.size+3,c.heap.objs.size,c.heap.objs.size+1],_,_,y,rfl,I2,jem _ _ _ _ _ l1 t (u1 _ l1 t l m),⟨D,U,⟨_,_,V⟩,W,Y⟩,λb hb=>?_,q⟩;have r:c.heap.objs.size<=b:=by
  rcases(by simpa using hb:b=c.heap.objs.size+4 \/ b=c.heap.objs.size+2 \/ b=c.heap.objs.size+3 \/ b=c.heap.objs.size \/ b=c.heap.objs.size+1) with z | z | z | z | z<;>rw[z]
  ·exact Nat.le_add_right _ 4
  ·exact Nat.le_add_right _ 2
  ·exact Nat.le_add_right _ 3
  ·exact N3 _
  ·exact Nat.le_add_right _ 1
 exact i.fpOk r (i.hok.fresh r)
end
end L2
namespace QD
open PySem L2 PySem.Spec PyProof.Rows
noncomputable def jhV(ks:List KA)(l:List D)(p:PF):PF:=λρ=>(p ρ).bind λy=>(kO y).bind λk=>Yk ks l k
noncomputable def jej(ks:List KA)(l:List D)(p:PF):PF:=λρ=>(p ρ).bind λy=>(kO y).bind λk=>some ((Yk ks l k).getD .non)
@[simp] theorem ji1:jhV ks l p ρ=(p ρ).bind λy=>(kO y).bind λk=>Yk ks l k:=rfl
@[simp] theorem jgg:jej ks l p ρ=(p ρ).bind λy=>(kO y).bind λk=>some ((Yk ks l k).getD .non):=rfl
theorem jic(b:∀(Z:Zn) (H:Hp),Reps R Z H l vs [])(f:ks.length=l.length)(h:PB R ty p):PB R (jgo ((ks.map kaV).zip vs) ty) (jhV ks l p):=by
 intro σ ρ Z H O d z s e Q k;rw[ji1] at e;cases e1:p ρ with
 | none=>rw[e1] at e;cases e
 | some y =>
  rw[e1,L8] at e;cases e2:kO y with
  | none=>rw[e2] at e;cases e
  | some c =>
   rw[e2,L8] at e;refine h z s e1 λ{v g i o} j m=>?_;obtain⟨rfl,_⟩:=kX e2 m;obtain⟨u,P,n,rd⟩:=(qC (a:=c) (b g i) f).1 d e;exact⟨kaV c,u,rfl,n,k j rd⟩
theorem jgM(g:∀(Z:Zn) (H:Hp),Reps R Z H l vs [])(i:ks.length=l.length)(h:PB R ty p):PB R (jbn ((ks.map kaV).zip vs) ty) (jej ks l p):=by
 intro σ ρ Z H O d z s e Q k;rw[jgg] at e;cases e1:p ρ with
 | none=>rw[e1] at e;cases e
 | some y =>
  rw[e1,L8] at e;cases e2:kO y with
  | none=>rw[e2] at e;cases e
  | some c =>
   rw[e2,L8] at e;refine h z s e1 λ{v j m q} b n=>?_;obtain⟨rfl,_⟩:=kX e2 n;refine⟨kaV c,rfl,?_⟩;have f:=qC (a:=c) (g j m) i;cases e3:Yk ks l c with
   | none =>
    rw[e3] at e;cases e;rw[f.2 e3];exact k b .non_mk
   | some x =>
    rw[e3] at e;cases e;obtain⟨u,P,o,rd⟩:=f.1 x e3;rw[o];exact k b rd
noncomputable def jep(p:PAf):PAf:=λρ=>match p ρ with
 | some [.lst _ l,.tup m]=>bif decide (l.length<=m.length) then some (Yv (fzs l) (fzs m)) else none
 | _=>none
theorem jf3(h:PPs R ta p):PIt R (jkQ R.K ta) (jep p):=by
 intro σ ρ Z H O xs z s e Q k;unfold jep at e;split at e
 ·rename_i o l m n;cases b:decide (l.length<=m.length) with
  | false=>rw[b] at e;cases e
  | true =>
   rw[b] at e;cases e;have b:=X5 b;refine h z s n λ{vs M H1 P1} g1 r1=>?_;obtain⟨v,v2,O1,O2,rfl,rfl,r2,B⟩:=r1.two_of;have N:=r2.freeze (Z':=λa=>M a \/ a∈O1++O2) (λa z=>.inl z) λa z=>.inr (List.mem_append_left _ z);have d:=B.freeze (Z':=λa=>M a \/ a∈O1++O2) (λa z=>.inl z) λa z=>.inr (U6 _ z);rw[show fz (.lst o l)=.lst false (fzs l) from rfl,Rep] at N;rw[show fz (.tup m)=.tup (fzs m) from rfl,Rep] at d;obtain⟨a,f,O',rfl,rs,S,rfl,_⟩:=N;obtain⟨a',c,rfl,T,C⟩:=d;refine⟨a,a',f,c,rfl,FL.sq S,T.sq,k g1.fz ?_⟩;intro U V r A zd i;have D:=(S.frame r A).sq;have g:=(T.frame r A).sq;have W:Reps R U V (fzs l) f []:=rs.frame r A λa E=>(nomatch E);have F:Reps R U V (fzs m) c []:=C.frame r A λa E=>(nomatch E);refine⟨λX=>⟨f,D,?_⟩,λx hx=>?_⟩
   ·rw[W.length];rw[zm] at X;have Y:(fzs l).length=l.length:=by rw[qp,L4]
    have a2:(fzs m).length=m.length:=by rw[qp,L4]
    rw[Y,a2] at X;rw[Y]
    lia
   obtain⟨y,y',hy,G,rfl⟩:=zM _ _ i x hx;obtain⟨u,hu,ru⟩:=W.item hy;obtain⟨u',j,I⟩:=F.item G;refine⟨⟨f,c,u,u',D,g,hu,j⟩,λw H3 J=>?_⟩;obtain⟨q,t,t',ht,L,rfl,hq,rfl⟩:=J;have n:=ht f D;rw[hu] at n;cases n;have e2:=L c g;rw[j] at e2;cases e2;exact⟨_,Go.newF (wf0 zd) hq,Rep.tupNew (wf0 zd) hq (.cons (O:=[]) (P:=[]) ru (.one I))⟩
 ·cases e
noncomputable def jj6:List Str->List Tok->List Value
 | x::xs,t::ts=>.str x t::jj6 xs ts
 | _,_=>[]
theorem xM:∀{xs:List Str}{ts:List Tok},xs.length=ts.length->Vals (xs.map V.str) (jj6 xs ts)
 | [],[],_=>.nil
 | x::xs,t::ts,h=>.cons ⟨t,rfl⟩ (xM (by simpa using h))
 | [],_::_,h=>by simp at h
 | _::_,[],h=>by simp at h
theorem jcm(ws:List (List Nat)):Reps R Z H (ws.map D.str) ((ws.map S).map V.str) []:=by
 induction ws with
 | nil=>exact .empty
 | cons w ws a=>exact .cons (O:=[]) (P:=[]) .str_mk a
theorem yb{K:PySem.W.Frag}{n:Nat}{sl:Array (Option Value)}{xs:List Str}{ts:List Tok}{ws:List (List Nat)}(c:ws.map S=xs)(h:K.lookup a=some ⟨.type "tuple",none,.seq (jj6 xs ts).toArray n,sl⟩)(d:xs.length=ts.length)(e:xs.length<=1000)(cl:Nat->Addr)(Z:Zn)(H:Hp):Rep ⟨K,cl⟩ Z H (.tup (ws.map D.str)) (.ref a) []:=by
 subst c;rw[Rep];have b:=xM d;refine⟨a,(ws.map S).map V.str,rfl,.inr ⟨_,_,n,h,rfl,rfl,?_,by simpa using b⟩,jcm ws⟩;have:=b.length;rw[L4] at this;show(jj6 (ws.map S) ts).toArray.size<=sizeLine;rw[N7,<- this];exact jeE e
theorem jes{cl:Nat->Addr}{X:Cx}{i:Expr}{ty:TE}{pi:PF}{pos p:Pos}{x:Str}{a:Addr}{ks:List KA}{l:List D}{vs:List V}(b:X.mg x=some (.ref a))(c:KD X.prog X.w X.K a ((ks.map kaV).zip vs))(d:∀(Z:Zn) (H:Hp),Reps ⟨X.K,cl⟩ Z H l vs [])(e:ks.length=l.length)(hi:QB cl X i ty pi)(f:jiu i:=by exact λ_ _=>rfl)(g:Gl X x:=by rfl)(hd:(x==("__debug__" : Str))=false:=by decide) :
  QB cl X (.Subscript (.Name x p) i pos) (jgo ((ks.map kaV).zip vs) ty) (jhV ks l pi):=⟨jgQ c g b hi.sem f hd,jic d e hi.den⟩
theorem jg7{cl:Nat->Addr}{X:Cx}{e:Expr}{te:TE}{pe:PF}{p apos cpos:Pos}{x:Str}{a:Addr}{ks:List KA}{l:List D}{vs:List V}(c:X.mg x=some (.ref a))(d:KD X.prog X.w X.K a ((ks.map kaV).zip vs))(f:∀(Z:Zn) (H:Hp),Reps ⟨X.K,cl⟩ Z H l vs [])(g:ks.length=l.length)(b:QB cl X e te pe)(m:M1 X (.Name x p) "get" apos e cpos:=by exact⟨rfl,rfl,rfl,rfl⟩)(h:Gl X x:=by rfl)(hd:(x==("__debug__" : Str))=false:=by decide) :
  QB cl X (.Call (.Attribute (.Name x p) "get" apos) [e] [] cpos) (jbn ((ks.map kaV).zip vs) te) (jej ks l pe):=⟨jea d h c b.sem m hd,jgM f g b.den⟩
theorem jfc(d:X.mg "zip" = none)(h:QPs cl X [a,b] tr pr)(e:Gl X "zip":=by rfl)(f:starEach [a,b] X.env=[(false,eval a X.env),(false,eval b X.env)]:=by rfl)(c:starEach [b] X.env=[(false,eval b X.env)]:=by rfl) :
  QI cl X (.Tuple elts n tpos) (.Call (.Name "zip" p) [a,b] [] pos) (jkQ X.K tr) (jep pr):=⟨jhI e d h.sem f c,jf3 h.den⟩
noncomputable def jiO:List D->Option (List D)
 | [.lst _ l,.tup m]=>bif decide (l.length<=m.length) then some (Yv (fzs l) (fzs m)) else none
 | _=>none
@[simp] theorem pZlt_e:jep p ρ=(p ρ).bind jiO:=by
 unfold jep;cases p ρ with
 | none=>rfl
 | some d =>
  match d with
  | []=>rfl
  | [x]=>cases x<;>rfl
  | [x,y]=>cases x<;>cases y<;>rfl
  | x::y::z::r=>cases x<;>cases y<;>rfl
end QD
namespace L2
open PySem PySem.Spec PyProof.Rows
noncomputable def jlj(lo c:Int)(n:Nat):It:=⟨λi _=>i < n,λi H x H'=>H'=H/\x=.int (lo+i*c),λi _=>n<=i⟩
theorem uD{P:Program}{w:World}{K:PySem.W.Frag}{tg:Expr}(a:Addr)(lo c:Int)(n:Nat):Turn P w K tg (jlj lo c n) [a] a (λi h=>IsRangeIter h a (lo+(i:Nat)*c) ((n:Int) - (i:Nat)) c) where
 mem:=by simp
 obj:=λi h st b d=>by
  have e:b=a:=by simpa using d
  subst e;exact⟨_,st,λv z=>by
   have D:Data.fields _=Data.cell v:=z;cases D⟩
 keep:=λi h l st k=>k a (by simp) _ st
 item:=by
  intro X m p q r i f s σ H E I j st u;subst m p q;obtain⟨x,y,F,A,B,C⟩:=j a (by simp);refine(Walks.range (prog:=X.prog) (w:=X.w) (I.ok.hd r) a lo c n).item i s _ _ u st λv l G J g L=>?_;obtain⟨t,rfl⟩:=J;exact⟨_,rfl,jcs (s:={ s with heap:=l,toks:=G }) (n:="range_iterator") g rfl rfl (by decide) ⟨.int (lo+i*c),H,I.turned (λb o d e=>L b o (by simpa using d) e) x y A B C,⟨t,rfl⟩,⟨rfl,rfl⟩,g,λb d=>(j b d).1⟩⟩
 done:=by
  intro X m p q r i f s σ H E I j st u;subst m p q;obtain⟨x,y,F,A,B,C⟩:=j a (by simp);exact wpAny_pyNext_range_end (I.ok.hd r) st (by have:n<=i:=u;lia) λl M=>⟨rfl,I.turned (t':=s.toks) (λb o d e=>M b o d e) x y A B C⟩
 self:=λ_ _ _ _ _ st h=>wpAny_pyIter_rangeiter st h
noncomputable def Ks(lo hi c:Int):Nat:=((hi - lo+(c - 1)) / c).toNat
theorem Qw{lo hi c:Int}(h:1<=c):Builtin.Range.rangeSize lo hi c=(Ks lo hi c:Int):=by
 unfold Builtin.Range.rangeSize Ks;rw[if_pos (by lia)];split
 ·have e:hi - lo+(c - 1)=(hi - lo - 1)+1*c:=by lia
  rw[e,Int.add_mul_ediv_right _ _ (by lia)];have:=Int.ediv_nonneg (show 0<=hi - lo - 1 by lia) (show 0<=c by lia)
  lia
 ·have:(hi - lo+(c - 1)) / c<=0:=by
   have:(hi - lo+(c - 1)) / c < 1:=Int.ediv_lt_of_lt_mul (by lia) (by lia)
   lia
  lia
theorem jjd{lo hi c:Int}(h1:-(2 ^ 60)<=lo)(h2:lo < 2 ^ 60)(g:-(2 ^ 60)<=hi)(h:hi < 2 ^ 60)(d:1<=c)(i:c < 2 ^ 60):Builtin.Range.small lo hi c=true:=by
 have e:=Qw (lo:=lo) (hi:=hi) d;have j:(Ks lo hi c:Int) < 2 ^ 62:=by
  unfold Ks;by_cases f:0<=hi - lo+(c - 1)
  ·have:=Int.ediv_le_self c f
   lia
  ·have:=Int.ediv_neg_of_neg_of_pos (a:=hi - lo+(c - 1)) (b:=c) (by lia) (by lia)
   lia
 unfold Builtin.Range.small;rw[e];simp only[Builtin.Range.rangeFitsLong,M6,Bool.or_eq_true,decide_eq_true_eq];refine⟨⟨⟨⟨⟨by lia,by lia⟩,by lia,by lia⟩,by lia,by lia⟩,by lia,by lia⟩,.inr ?_⟩;rw[if_pos (by lia)];simp only[M6,decide_eq_true_eq]
 lia
def ok3(i j c:Int):Prop:=(-(2 ^ 60)<=i/\i < 2 ^ 60)/\(-(2 ^ 60)<=j/\j < 2 ^ 60)/\1<=c/\c < 1048576
noncomputable def jgI(ta:TA):TI:=λσ H R=>ta σ H λvs H1=>∃ i j c:Int,vs=[.int i,.int j,.int c]/\ok3 i j c/\R (jlj i c (Ks i j c)) H1
theorem jcR(z:Gl X "range")(A:X.mg "range" = none)(B:PA X [a,b,c] ta)(C:starEach [a,b,c] X.env=[(false,eval a X.env),(false,eval b X.env),(false,eval c X.env)]:=by rfl)
  (l:starEach [b,c] X.env=[(false,eval b X.env),(false,eval c X.env)]:=by rfl):PI X tg (.Call (.Name "range" p) [a,b,c] [] pos) (jgI ta):=by
 intro f s σ H R I h;refine Call_ (VY I z A boot_range (PyProof.Rows.callWith_type1 (thn (B pos f s σ H _ I h) λM k ⟨N,x,D,E,u⟩=>?_) (by rw[C,l]) (by rw[l];rfl)));obtain⟨i,j,d,e,⟨⟨u,F⟩,⟨G,J⟩,y,O⟩,q⟩:=u;subst e;cases E with
 | cons r m =>
  cases m with
  | cons K m =>
   cases m with
   | cons v m =>
    cases m;obtain⟨t,rfl⟩:=r;obtain⟨n,rfl⟩:=K;obtain⟨g,rfl⟩:=v;refine call_range_3 (by lia) ?_ (.inl (PyProof.noPylong_small (by lia)));refine wpAny_pyIter_range (IsRange.new ..) (jjd u F G J y (by lia)) ?_;have w:Inv X f σ x { k with heap:=k.heap.push { cls:=.type "range",data:=.fields #[.int i t,.int j n,.int d g] } }:=D.kept (t':=k.toks) λb o e=>M4 _ e;refine⟨_,[(k.heap.push { cls:=.type "range",data:=.fields #[.int i t,.int j n,.int d g] }).objs.size],_,_,x,rfl,w.kept (t':=k.toks) λb o e=>M4 _ e,uD _ i d (Ks i j d),?_,λb L=>?_,q⟩
    ·show IsRangeIter _ _ (i+((0:Nat):Int)*d) ((Ks i j d:Int) - ((0:Nat):Int)) d;rw[<- Qw y,show i+((0:Nat):Int)*d=i by simp,show Builtin.Range.rangeSize i j d - ((0:Nat):Int)=Builtin.Range.rangeSize i j d by simp];exact X9 _ rfl
    ·have e:b=(k.heap.push { cls:=.type "range",data:=.fields #[.int i t,.int j n,.int d g] }).objs.size:=by simpa using L
     subst e;exact w.fpOk (N3 _) (w.hok.fresh (N3 _))
theorem wV:fillsNumberSlot (.type "tuple") "mul" = pure false :=
 PySem.fillsNumberSlot_seq (id:="tuple.__mul__") (r:=some (.builtin "tuple.__rmul__")) PySem.F.slot_tuple_mul.lookup (by decide +kernel) PySem.F.slot_tuple_rmul.lookup (by decide +kernel)
theorem ut:seqRepeat? (.type "tuple")=pure (some (.builtin "tuple.__mul__")):=by
 delta seqRepeat?
 rw[PySem.seqSlot_of (T:="tuple") (name:="__mul__") (id:="tuple.__mul__") PySem.F.slot_tuple_mul.lookup (by decide +kernel),PySem.seqSlot_of (T:="tuple") (name:="__rmul__") (id:="tuple.__rmul__") PySem.F.slot_tuple_rmul.lookup (by decide +kernel)];rfl
theorem jdi(a:Int)(t:Tok)(l:Addr)(b:Array Value)(n:Nat)(dd:Option Addr)(sl:Array (Option Value)) :
  Meets (Builtin.«int.__rmul__» ⟨[.int a t,.ref l],[]⟩) (λ_ R s=>s.heap.get? l=some { cls:=.type "tuple",dict:=dd,data:=.seq b n,slots:=sl }/\R (.ok (.ret Value.notImplemented)) s) :=
 .of_wp λprog w A R s h=>by
  rcases s with⟨c,d,e,f,os⟩;obtain⟨g,q⟩:=h
  wp_walk
  exact⟨_,rfl,q⟩
theorem jee(l:Addr)(a:Array Value)(n:Nat)(dd:Option Addr)(sl:Array (Option Value))(u:Tok) :
  Meets (Builtin.«tuple.__mul__» ⟨[.ref l,.int 1 u],[]⟩) (λ_ R s=>s.heap.get? l=some { cls:=.type "tuple",dict:=dd,data:=.seq a n,slots:=sl }/\R (.ok (.ret (.ref l))) s) :=
 .of_wp λprog w A R s h=>by
  rcases s with⟨c,d,e,f,os⟩;obtain⟨b,q⟩:=h;have g:=AutoSeq1.idx_int
  wp_walk using wpAny_loadPart' b
  exact⟨_,rfl,q⟩
theorem jc1(l:Addr)(a:Array Value)(n:Nat)(dd:Option Addr)(sl:Array (Option Value))(x:Int)(u:Tok)(v:2<=x)(h1:x<=1000)(b:¬ a.isEmpty=true)(f:a.size<=1000) :
  Meets (Builtin.«tuple.__mul__» ⟨[.ref l,.int x u],[]⟩) (λ_ R s=>s.heap.get? l=some { cls:=.type "tuple",dict:=dd,data:=.seq a n,slots:=sl }/\R (.ok (.ret (.ref s.heap.objs.size))) { s with heap:=s.heap.push { cls:=.type "tuple",data:=.seq ((List.replicate x.toNat a).foldl (·++·) #[]) } }) :=
 .of_wp λprog w A R s h=>by
  rcases s with⟨y,z,B,C,os⟩;obtain⟨e,q⟩:=h;have D:=AutoSeq1.idx_int;have E:(a.size:Int)*x<=1000*1000:=Int.mul_le_mul (by lia) (by lia) (by lia) (by lia);have g:¬ ((decide (x < -(2 ^ 63))||decide (x ≥ 2 ^ 63))=true):=by simp;lia
  have i:¬ ((a.isEmpty||x==1)=true):=by simp at b ⊢;exact⟨b,by lia⟩
  have j:¬ ((decide (x<=0)||a.isEmpty)=true):=by simp at b ⊢;exact⟨by lia,b⟩
  have m:¬ ((a.size:Int)*x > (2 ^ 63 - 1) / 8):=by lia
  wp_walk using wpAny_loadPart' e
  rw[if_neg g];refine L5 (wpAny_tupleItemsOf e rfl ?_);rw[if_neg i];show wpAny _ _ (if _ then _ else _) _ _ _;rw[if_neg j];show wpAny _ _ (if _ then _ else _) _ _ _;rw[if_neg m];show wpAny _ _ (if _ then _ else _) _ _ _;have o:¬ (Builtin.Tuple.tupleTooMany ((a.size:Int)*x)=true):=by
   unfold Builtin.Tuple.tupleTooMany;simp[sizeLine];lia
  rw[if_neg o];have p:¬ ((List.foldl (λx1 d=>x1++d) #[] (List.replicate x.toNat a)).size > sizeLine):=by
   have r:∀(k:Nat) (c:Array Value),((List.replicate k a).foldl (λx1 d=>x1++d) c).size=c.size+k*a.size:=by
    intro k
    induction k with
    | zero=>intro c;simp
    | succ k t=>intro c;rw[List.replicate_succ,X2,t,Array.size_append,Nat.succ_mul];lia
   rw[r];have F:x.toNat*a.size<=1000*1000:=Nat.mul_le_mul (by lia) f;have:(1000*1000:Nat)<=sizeLine:=by decide
   simp only[N7,List.length_nil]
   lia
  wp_walk
  exact⟨_,rfl,q⟩
theorem uQ(xs:List Value):∀(n:Nat) (acc:List Value),((List.replicate n xs.toArray).foldl (·++·) acc.toArray)=(acc++(List.replicate n xs).flatten).toArray
 | 0,acc=>by simp
 | n+1,acc=>by
  rw[List.replicate_succ,X2,show acc.toArray++xs.toArray=(acc++xs).toArray by simp,uQ xs n,List.replicate_succ,List.flatten_cons,List.append_assoc]
theorem uY(r:Vals xs us):∀ n:Nat,Vals (List.replicate n xs).flatten (List.replicate n us).flatten
 | 0=>.nil
 | n+1=>by
  rw[List.replicate_succ,List.replicate_succ,List.flatten_cons,List.flatten_cons];exact r.append (uY r n)
noncomputable def jgt(K:PySem.W.Frag):R2:=λx y H Q=>∃(a:Addr) (xs:List V) (n:Int),x=.ref a/\y=.int n/\SqT K H a xs/\xs≠[]/\xs.length<=1000/\1<=n/\n<=1000/\(n=1->Q (.ref a) H)/\(n≠1->∀ p,H p=none->Q (.ref p) (upd H p (.tup (List.replicate n.toNat xs).flatten)))
theorem jf1:OpR X (binaryOp .Mult) (jgt X.K):=by
 intro l s σ H x y v u Q I w A h;obtain⟨a,g,n,rfl,rfl,B,C,p,M,D,E,G⟩:=h;cases w;obtain⟨f,rfl⟩:=A;obtain⟨c,i,p1,_⟩:=I.tuple B;obtain⟨⟨cls,dd,data,j⟩,d,r,m,hd⟩:=id p1;simp only at r hd;subst r hd;refine wpAny_binaryOp_repeat_ref (T:="tuple") (U:="int") (by decide) ⟨_,d,rfl⟩ (λJ=>typeIs_int J n f) wV PySem.F.fills_int_mul PySem.F.slot_int_rmul ut PySem.F.slot_int_index.lookup
  (call_meets PySem.F.slot_int_rmul (typeIs_int s n f) PySem.F.entry_int_rmul (PySem.F.args_int_rmul_2 _ _) (jdi n f a c.toArray m dd j) ⟨d,rfl,⟨_,d,rfl⟩,?_⟩)
 by_cases t:n=1
 ·subst t;exact call_meets PySem.F.slot_tuple_mul ⟨_,d,rfl⟩ PySem.F.entry_tuple_mul (PySem.F.args_tuple_mul_2 _ _) (jee a c.toArray m dd j f) ⟨d,.ref a,H,I,rfl,E rfl⟩
 ·have e:=uQ c n.toNat [];have k:¬ c.toArray.isEmpty=true:=by
   simp;exact λz=>C (i.nil_iff.mp z)
  refine call_meets PySem.F.slot_tuple_mul ⟨_,d,rfl⟩ PySem.F.entry_tuple_mul (PySem.F.args_tuple_mul_2 _ _) (jc1 a c.toArray m dd j n f (by lia) D k (by rw[N7,<- i.length];exact p)) ⟨d,?_⟩;rw[show(#[]:Array Value)=([]:List Value).toArray from rfl,e,X7];refine⟨.ref s.heap.objs.size,_,I.laid (t':=s.toks) (o:=.tup (List.replicate n.toNat g).flatten) (λb N q=>M4 _ q) (N3 _) ?_,rfl,G t _ (I.hok.fresh (N3 _))⟩;refine⟨?_,_,uY i n.toNat,IsTupN.new _ _⟩;have L:n.toNat*g.length<=1000*1000:=Nat.mul_le_mul (by lia) p;have:((List.replicate n.toNat g).flatten).length=n.toNat*g.length:=by simp
  rw[this];exact U0 L (by decide)
noncomputable def jkV(neg:Bool)(kvs:List (Key×V))(ty:TE):TE:=λσ H Q=>ty σ H λy H1=>∃ k,y=kV k/\Q (.bl (neg != (Q6 kvs k).isSome)) H1
theorem jjf(D:KD X.prog X.w X.K a kvs)(d:Gl X x)(e:X.mg x=some (.ref a))(hi:PE X i ty)(hd:(x==("__debug__" : Str))=false:=by decide):PC X .In i (.Name x p) (jkV false kvs ty):=by
 intro b s σ H Q I h;refine thn (hi b s σ H _ I h) λm n ⟨y,f,c,g,k,j,l⟩=>qr c d e ?_ hd;subst j;obtain⟨o,rel,dd⟩:=D.dd _ c.kIn;refine wpAny_in_of (wM g) D.nm dd.mapOf ?_;rw[<- (rel.val k).isSome_eq];refine⟨.bl (Q6 kvs k).isSome,f,c.tok _,rfl,?_⟩;simpa using l
end L2
namespace QD
open PySem L2 PySem.Spec PyProof.Rows
noncomputable def jfW(lo c:Int)(n:Nat):List D:=(List.range n).map λ(i:Nat)=>D.int (lo+(i:Int)*c)
theorem jfK{lo c:Int}{n:Nat}:jhp R (jlj lo c n) Z H (jfW lo c n):=by
 intro d g h j zd i;refine⟨λb=>by show n<=i;simpa [jfW] using b,λx a=>?_⟩;unfold jfW at a;rw[List.getElem?_map] at a;by_cases b:i < n
 ·rw[List.getElem?_range b] at a;cases a;exact⟨b,λu k ⟨e,f⟩=>by subst e;subst f;exact⟨d,Go.id zd,.int_mk⟩⟩
 ·rw[List.getElem?_eq_none (by simpa using b)] at a;cases a
noncomputable def jg0(i j c:Int):Bool:=decide (i.natAbs < 2 ^ 60)&&decide (j.natAbs < 2 ^ 60)&&decide (1<=c)&&decide (c < 1048576)
theorem ji5(h:jg0 i j c=true):ok3 i j c:=by
 unfold jg0 at h;simp only[M6,decide_eq_true_eq] at h;unfold ok3
 lia
noncomputable def uU:List D->Option (List D)
 | [.int i,.int j,.int c]=>bif jg0 i j c then some (jfW i c (Ks i j c)) else none
 | _=>none
noncomputable def jd8(p:PAf):PAf:=λρ=>(p ρ).bind uU
@[simp] theorem jgj:jd8 p ρ=(p ρ).bind uU:=rfl
theorem jgX(h:PBs R ta p):PIt R (jgI ta) (jd8 p):=by
 intro σ ρ Z H O m z s e Q k;rw[jgj] at e;cases e1:p ρ with
 | none=>rw[e1] at e;cases e
 | some n =>
  rw[e1,L8] at e;unfold uU at e;split at e
  ·rename_i i j c;cases hs:jg0 i j c with
   | false=>rw[hs] at e;cases e
   | true =>
    rw[hs] at e;cases e;refine h z s e1 λ{v o q r} b a=>?_;rw[Reps] at a;obtain⟨u,t,O1,O2,rfl,rfl,d,f⟩:=a;obtain⟨w,x,O3,y,rfl,rfl,g,l⟩:=f.two_of;obtain⟨rfl,_⟩:=d.int_of;obtain⟨rfl,_⟩:=g.int_of;obtain⟨rfl,_⟩:=l.int_of;exact⟨i,j,c,rfl,ji5 hs,k b jfK⟩
  ·cases e
noncomputable def xX:D->D->Option D
 | .tup l,.int n=>bif frzs l&&!l.isEmpty&&decide (l.length<=1000)&&(decide (1<=n)&&decide (n<=1000)) then some (.tup (List.replicate n.toNat l).flatten) else none
 | _,_=>none
theorem zV(r:Reps R Z H l vs []):∀ n:Nat,Reps R Z H (List.replicate n l).flatten (List.replicate n vs).flatten []
 | 0=>.empty
 | n+1=>by
  rw[List.replicate_succ,List.replicate_succ,List.flatten_cons,List.flatten_cons];exact r.append (zV r n)
theorem jgR:BO R (jgt R.K) xX:=by
 intro Z H x y d v u O1 O2 z f i e Q k;cases x with
 | tup l =>
  cases y with
  | int n =>
   simp only[xX] at e;cases hl:frzs l&&!l.isEmpty&&decide (l.length<=1000)&&(decide (1<=n)&&decide (n<=1000)) with
   | false=>rw[hl] at e;cases e
   | true =>
    rw[hl] at e;cases e;simp only[M6,decide_eq_true_eq] at hl;obtain⟨p,g,rfl,j,a⟩:=f.tup_of;obtain⟨rfl,_⟩:=i.int_of;have m:=a.frozen hl.1.1.1;have c:g≠[]:=by
     intro o;have:=a.length;rw[o] at this;have q:l=[]:=List.eq_nil_of_length_eq_zero this.symm;rw[q] at hl;simp at hl
    refine⟨p,g,n,rfl,rfl,j,c,by rw[a.length];exact hl.1.2,hl.2.1,hl.2.2,λr=>?_,λ_ b h=>k (Go.newF (wf0 z) h) (Rep.tupNew (wf0 z) h (zV m n.toNat))⟩;subst r;have s:=a.nil hl.1.1.1;subst s;have:(List.replicate (1:Int).toNat l).flatten=l:=by simp
    rw[this] at k;exact k (Go.id z) f
  | _=>cases e
 | _=>cases y<;>cases e
noncomputable def jjW(neg:Bool)(ks:List KA)(l:List D)(p:PF):PF:=λρ=>(p ρ).bind λy=>(kO y).bind λk=>some (.bl (neg != (Yk ks l k).isSome))
@[simp] theorem jhU:jjW neg ks l p ρ=(p ρ).bind λy=>(kO y).bind λk=>some (.bl (neg != (Yk ks l k).isSome)):=rfl
theorem jhD(f:∀(Z:Zn) (H:Hp),Reps R Z H l vs [])(g:ks.length=l.length)(h:PB R ty p):PP R (jkV neg ((ks.map kaV).zip vs) ty) (jjW neg ks l p):=by
 intro σ ρ Z H O d z s e Q k;rw[jhU] at e;cases e1:p ρ with
 | none=>rw[e1] at e;cases e
 | some y =>
  rw[e1,L8] at e;cases e2:kO y with
  | none=>rw[e2] at e;cases e
  | some c =>
   rw[e2,L8] at e;cases e;refine h z s e1 λ{v i j q} m n=>?_;obtain⟨rfl,_⟩:=kX e2 n;refine⟨kaV c,rfl,?_⟩;have b:=qC (a:=c) (f i j) g;have:(Q6 ((ks.map kaV).zip vs) (kaV c)).isSome=(Yk ks l c).isSome:=by
    cases e3:Yk ks l c with
    | none=>rw[b.2 e3];rfl
    | some x =>
     obtain⟨u,P,o,_⟩:=b.1 x e3;rw[o];rfl
   rw[this];exact k m .bl_mk
noncomputable def jjU:List Int->List Tok->List Value
 | x::xs,t::ts=>.int x t::jjU xs ts
 | _,_=>[]
theorem xh:∀{xs:List Int}{ts:List Tok},xs.length=ts.length->Vals (xs.map V.int) (jjU xs ts)
 | [],[],_=>.nil
 | x::xs,t::ts,h=>.cons ⟨t,rfl⟩ (xh (by simpa using h))
 | [],_::_,h=>by simp at h
 | _::_,[],h=>by simp at h
theorem jb1(ns:List Int):Reps R Z H (ns.map D.int) (ns.map V.int) []:=by
 induction ns with
 | nil=>exact .empty
 | cons w b a=>exact .cons (O:=[]) (P:=[]) .int_mk a
theorem x9{K:PySem.W.Frag}{n:Nat}{sl:Array (Option Value)}{ns:List Int}{ts:List Tok}(h:K.lookup a=some ⟨.type "tuple",none,.seq (jjU ns ts).toArray n,sl⟩)(c:ns.length=ts.length)(d:ns.length<=1000)(cl:Nat->Addr)(Z:Zn)(H:Hp):Rep ⟨K,cl⟩ Z H (.tup (ns.map D.int)) (.ref a) []:=by
 rw[Rep];have b:=xh c;refine⟨a,ns.map V.int,rfl,.inr ⟨_,_,n,h,rfl,rfl,?_,by simpa using b⟩,jb1 ns⟩;have:=b.length;rw[L4] at this;show(jjU ns ts).toArray.size<=sizeLine;rw[N7,<- this];exact jeE d
theorem jf5(e:X.mg "range" = none)(h:QBs cl X [a,b,c] tr pr)(f:Gl X "range":=by rfl)(g:starEach [a,b,c] X.env=[(false,eval a X.env),(false,eval b X.env),(false,eval c X.env)]:=by rfl)(d:starEach [b,c] X.env=[(false,eval b X.env),(false,eval c X.env)]:=by rfl) :
  QI cl X tg (.Call (.Name "range" p) [a,b,c] [] pos) (jgI tr) (jd8 pr):=⟨jcR f e h.sem g d,jgX h.den⟩
theorem jjs(c:QB cl X a ta pa)(d:QB cl X b tb pb):QP cl X (.BinOp a .Mult b pos) (tOp (jgt X.K) ta tb) (p2 xX pa pb):=⟨xI jf1 c.sem d.sem,Qb jgR c.den d.den⟩
theorem jhR{cl:Nat->Addr}{X:Cx}{i:Expr}{ty:TE}{pi:PF}{pos p:Pos}{x:Str}{a:Addr}{ks:List KA}{l:List D}{vs:List V}(c:X.mg x=some (.ref a))(d:KD X.prog X.w X.K a ((ks.map kaV).zip vs))(e:∀(Z:Zn) (H:Hp),Reps ⟨X.K,cl⟩ Z H l vs [])(f:ks.length=l.length)(hi:QB cl X i ty pi)(g:Gl X x:=by rfl)(hd:(x==("__debug__" : Str))=false:=by decide)(h:behindInMarks .In (.Name x p)=false:=by with_unfolding_all rfl) :
  QT cl X (.Compare i [.In] [.Name x p] pos) (L2.tB (jkV false ((ks.map kaV).zip vs) ty)) (jp (jjW false ks l pi)):=⟨je9 (jjf d g c hi.sem hd) h,KZ (PP.b (jhD e f hi.den))⟩
@[simp] theorem mulT_e(l:List D)(n:Int):xX (.tup l) (.int n)=(bif frzs l&&!l.isEmpty&&decide (l.length<=1000)&&(decide (1<=n)&&decide (n<=1000)) then some (.tup (List.replicate n.toNat l).flatten) else none):=rfl
def PJ(R:RC)(i j:Nat)(ta:TA)(p:PAf):Prop:=∀{σ:L2.St}{ρ:Rh}{Z:Zn}{H:Hp}{O:List Addr}{ds:List D},Zd Z H->Slots R Z H ρ σ O->p ρ=some ds->∀{u:V},σ[i]?=some (some u) ->
 ∀{Q:List V->Hp->Prop},(∀{v1 v2:List V}{Z':Zn}{H':Hp},Go Z H [] Z' H' []->v1.length=j->Reps R Z' H' (ds.take j) v1 []->Reps R Z' H' (ds.drop j) v2 []->Q (v1++u::v2) H')->ta σ H Q
structure QJ(cl:Nat->Addr)(X:Cx)(i j:Nat)(es:List Expr)(ta:TA)(p:PAf):Prop where
 sem:PA X es ta
 den:PJ ⟨X.K,cl⟩ i j ta p
 n:∀ ρ ds,p ρ=some ds->ds.length+1=es.length/\j<=ds.length
noncomputable def oF(g:D->D->Option D):D->D->Option D:=λx y=>(g x y).bind λd=>bif frz d then some d else none
def DIt(R:RC)(wi:TI)(fi:FA):Prop:=∀{σ:L2.St}{ρ ρ':Rh}{Z:Zn}{H:Hp}{O:List Addr}{xs:List D},WF Z H O->Slots R Z H ρ σ O->fi ρ=some (xs,ρ') ->
 ∀{Q:It->Hp->Prop},(∀{J:It}{Z':Zn}{H':Hp}{O':List Addr},Go Z H O Z' H' O'->Slots R Z' H' ρ' σ O'->jhp R J Z' H' xs->Q J H')->wi σ H Q
structure QTE(cl:Nat->Addr)(X:Cx)(e:Expr)(tt:TT)(f:FT'):Prop where
 sem:PT X e tt
 den:DT ⟨X.K,cl⟩ tt f
structure QWE(cl:Nat->Addr)(X:Cx)(e:Expr)(tt:TT)(f:FT'):Prop where
 sem:PW X e tt
 den:DT ⟨X.K,cl⟩ tt f
structure QIE(cl:Nat->Addr)(X:Cx)(tg e:Expr)(wi:TI)(p:FA):Prop where
 sem:PI X tg e wi
 den:DIt ⟨X.K,cl⟩ wi p
end QD
namespace L2
open PySem PySem.Spec PyProof.Rows
end L2
namespace QD
open PySem L2 PySem.Spec PyProof.Rows
end QD
namespace QD
open PySem L2
theorem jq{n:Nat}(h:n<=100000):lim n=true:=X3 h
theorem jcy{α:Type}{l:List α}{i:Int}(a:0<=i)(h:i < l.length):atI l i=l[i.toNat]?:=by
 unfold atI ixN;rw[if_pos (by omega),if_pos (by omega)];rfl
theorem jdm{lo:Int}{n i:Nat}{x:D}(h:(Qe lo n)[i]?=some x):x=.int (lo+i)/\i < n:=by
 unfold Qe at h;rw[List.getElem?_map] at h;by_cases a:i < n
 ·rw[List.getElem?_range a] at h;cases h;exact⟨rfl,a⟩
 ·rw[List.getElem?_eq_none (by simpa using a)] at h;cases h
theorem Kn(lo:Int)(n:Nat):(Qe lo n).length=n:=by simp[Qe]
@[simp] theorem eq_ss(a b:List Nat):kn (.str a) (.str b)=some (.bl (a==b)):=rfl
@[simp] theorem jji(a b:List Nat):V1 (.str a) (.str b)=some (.bl (!(a==b))):=rfl
@[simp] theorem is_i(i:Int):YQ (.int i) .non=some (.bl false):=rfl
@[simp] theorem is_n:YQ .non .non=some (.bl true):=rfl
@[simp] theorem is_s(a:List Nat):YQ (.str a) .non=some (.bl false):=rfl
@[simp] theorem in_cs(neg:Bool)(c:Nat)(s:List Nat):zE neg (.str [c]) (.str s)=some (.bl (neg != decide (c∈s))):=rfl
@[simp] theorem neg_i(i:Int):jaH (.int i)=some (.int (-i)):=rfl
theorem Jo{a b:List Nat}(h:a.length+b.length<=100000):jQ (.str a) (.str b)=some (.str (a++b)):=by
 show(bif lim (a.length+b.length) then some (D.str (a++b)) else none)=_;rw[jq h];rfl
theorem jbT{a:List Nat}{n:Int}(h:a.length<=1000)(b:0<=n)(h1:n<=1000):qh (.str a) (.int n)=some (.str (List.replicate n.toNat a).flatten):=by
 show(bif decide (a.length<=1000)&&(decide (0<=n)&&decide (n<=1000)) then some (D.str (List.replicate n.toNat a).flatten) else none)=_;rw[X3 h,X3 b,X3 h1];rfl
theorem qj{a:List Nat}(h:a.length<=100000):kZ [.str a]=some (.int a.length):=by
 show(bif lim a.length then some (D.int a.length) else none)=_;rw[jq h];rfl
theorem jaD{s:List Nat}{i:Int}(a:s.length<=100000)(b:0<=i)(h:i < s.length):kW (.str s) (.int i)=some (.str [s.getD i.toNat 0]):=by
 show(bif lim s.length then(match atI s i with | some c=>some (D.str [c]) | none=>none) else none)=_;rw[jq a,jcy b h];have:i.toNat < s.length:=by omega
 simp[this]
theorem jab{α:Type}(xs:List α){k:Int}(h:0<=k):YU xs none (some k)=xs.take k.toNat:=by
 obtain⟨n,rfl⟩:∃ n:Nat,k=(n:Int):=⟨k.toNat,by omega⟩;rw[jfN];simp
theorem Vx{α:Type}(xs:List α){k:Int}(h:0<=k):YU xs (some k) none=xs.drop k.toNat:=by
 obtain⟨n,rfl⟩:∃ n:Nat,k=(n:Int):=⟨k.toNat,by omega⟩;rw[jbU];simp
theorem jj2{s:List Nat}{lo hi:Option Int}(a:s.length<=100000):jau lo hi (.str s)=some (.str (YU s lo hi)):=by
 show(bif lim s.length then some (D.str (YU s lo hi)) else none)=_;rw[jq a];rfl
theorem jlb{i:Int}(a:0<=i)(h:i < 2 ^ 200):jeN [.int i]=some (.str (zo i.toNat)):=by
 show(bif decide (0<=i)&&decide (i < 2 ^ 200) then some (D.str (zo i.toNat)) else none)=_;rw[X3 a,X3 h];rfl
@[simp] theorem str_s(s:List Nat):jeN [.str s]=some (.str s):=rfl
@[simp] theorem itemsOf_str(s:List Nat):K4 (.str s)=some (s.map λc=>D.str [c]):=rfl
@[simp] theorem fAll_lst(o:Bool)(l:List D):jjV [.lst o l]=(Jd l).bind λbs=>some (.bl (bs.all λb=>b)):=by
 show(match Jd l with | some ns=>some (D.bl (ns.all λb=>b)) | none=>none)=_;cases Jd l<;>rfl
theorem jkw{w:List Nat}(h:w≠[])(h1:w.length<=600)(h2:∀ c∈w,48<=c/\c<=57):jjT [.str w]=some (.int (NumText.digitsVal w:Nat)):=by
 have:jaW w=true:=by
  unfold jaW;simp[h,h1];exact λx a=>h2 x a
 show(bif jaW w then some (D.int (NumText.digitsVal w:Nat)) else none)=_;rw[this];rfl
theorem xx(w:List Nat)(l:List (List Nat)):ja1 (.str w) (l.map D.str)=true:=by
 unfold ja1;rw[M6];refine⟨rfl,List.all_eq_true.mpr λy a=>?_⟩;obtain⟨z,_,rfl⟩:=N0.mp a;rfl
theorem uJ(w:List Nat)(l:List (List Nat)):inL (.str w) (l.map D.str)=decide (w∈l):=by
 unfold inL;rw[Bool.eq_iff_iff,List.any_eq_true,decide_eq_true_eq];constructor
 ·rintro⟨y,a,e⟩;obtain⟨z,b,rfl⟩:=N0.mp a;have:z=w:=by
   have e:(z==w)=true:=e;exact eq_of_beq e
  exact this▸b
 ·intro h;exact⟨.str w,N0.mpr ⟨w,h,rfl⟩,by show(w==w)=true;simp⟩
mutual
theorem jcX:∀(n:Nat) (d:D),okE n d=true->eqD d d=true
 | n,.non,_=>rfl
 | n,.bl _,_=>by show(_==_)=true;simp
 | n,.int _,_=>by show(_==_)=true;simp
 | n,.str _,_=>by show(_==_)=true;simp
 | n+1,.tup l,h=>by rw[eqD];exact KU n l (by simpa [okE] using h)
 | n+1,.lst _ l,h=>by rw[eqD];exact KU n l (by simpa [okE] using h)
 | 0,.tup l,h=>by simp[okE] at h
 | 0,.lst _ l,h=>by simp[okE] at h
 | n,.dK _ _ _,h=>by cases n<;>simp[okE] at h
 | n,.dT _ _ _,h=>by cases n<;>simp[okE] at h
 | n,.ins _ _ _ _,h=>by cases n<;>simp[okE] at h
 | n,.dead,h=>by cases n<;>simp[okE] at h
 | n,.exc _ _,h=>by cases n<;>simp[okE] at h
theorem KU:∀(n:Nat) (l:List D),V0 n l=true->zY l l=true
 | n,[],_=>rfl
 | n,d::l,h=>by
  rw[V0,M6] at h;rw[zY,jcX n d h.1,KU n l h.2];rfl
end
theorem jdU{o o':Bool}{l m:List D}(h:V0 19 l=true)(h':V0 19 m=true):kn (.lst o l) (.lst o' m)=some (.bl (zY l m)):=by
 show(bif okE 20 (.lst o l)&&okE 20 (.lst o' m) then some (D.bl (zY l m)) else none)=_;show(bif V0 19 l&&V0 19 m then _ else _)=_;rw[h,h'];rfl
theorem Vs:∀{l:List D},(∀ d∈l,frz d=true)->frzs l=true
 | [],_=>rfl
 | d::l,h=>by rw[K6,h d (by simp),Vs λx a=>h x (by simp[a])];rfl
theorem je4:∀{l:List D},(∀ d∈l,fz d=d)->fzs l=l
 | [],_=>rfl
 | d::l,h=>by rw[jed,h d (by simp),je4 λx a=>h x (by simp[a])]
@[simp] theorem okE_int(n:Nat)(i:Int):okE n (.int i)=true:=by cases n<;>rfl
theorem u4{G:D->Rh->Option Rh}{p:PF}{Good:D->Prop}{P:Rh->Prop}:∀{xs:List D}(_:∀ x∈xs,∀ ρ,P ρ->∃ ρ1 y,G x ρ=some ρ1/\p ρ1=some y/\Good y/\P ρ1) {ρ:Rh}(_:P ρ),∃ ys,vQ G qT p xs ρ=some ys/\ys.length=xs.length/\∀ y∈ys,Good y
 | [],_,ρ,_=>⟨[],rfl,rfl,by simp⟩
 | x::xs,step,ρ,b=>by
  obtain⟨ρ1,y,c,d,e,p1⟩:=step x (by simp) ρ b;obtain⟨ys,f,g,h⟩:=u4 (xs:=xs) (λz a=>step z (by simp[a])) p1;refine⟨y::ys,?_,by simp[g],?_⟩
  ·rw[VB,c];simp[d,f]
  ·intro z a;rcases M9.mp a with rfl | a
   ·exact e
   ·exact h z a
theorem jae{α:Type}{f:α->D}{Q:α->Prop}:∀{ys:List D},(∀ y∈ys,∃ a,y=f a/\Q a)->∃ l:List α,ys=l.map f/\∀ a∈l,Q a
 | [],_=>⟨[],rfl,by simp⟩
 | y::ys,h=>by
  obtain⟨a,e,q⟩:=h y (by simp);obtain⟨l,c,d⟩:=jae (ys:=ys) λz g=>h z (by simp[g]);exact⟨a::l,by rw[e,c];rfl,λb i=>(M9.mp i).elim (λz=>z▸q) (d b)⟩
theorem jlZ{o:Bool}{l:List D}{lo hi:Option Int}(a:frzs l=true):jau lo hi (.lst o l)=some (.lst true (YU l lo hi)):=by
 show(bif frzs l then some (D.lst true (YU l lo hi)) else none)=_;rw[a];rfl
theorem jjP{o:Bool}{l:List D}{i:Int}(a:0<=i)(h:i < l.length):kW (.lst o l) (.int i)=l[i.toNat]?:=jcy a h
def Wd(w:List Nat):Prop:=w.length<=30/\∀ c∈w,c < 1114112
@[simp] theorem y4(l:List (List Nat)):fzs (l.map D.str)=l.map D.str:=by
 rw[qp,U4];rfl
@[simp] theorem jV(l:List (List Nat)):frzs (l.map D.str)=true:=by
 rw[zt,List.all_map,List.all_eq_true];intro x _;rfl
@[simp] theorem cleans_strs(l:List (List Nat)):yE (l.map D.str)=true:=by
 rw[ke,List.all_map,List.all_eq_true];intro x _;rfl
theorem JC{o:Bool}{l:List (List Nat)}{i:Int}(a:0<=i)(h:i < l.length):kW (.lst o (l.map D.str)) (.int i)=some (.str (l.getD i.toNat [])):=by
 rw[jjP a (by rw[L4];exact h),List.getElem?_map,List.getD_eq_getElem?_getD,X8 (by omega)];rfl
theorem getD_mem{α:Type}{l:List α}{i:Nat}{d:α}(h:i < l.length):l.getD i d∈l:=by
 rw[List.getD_eq_getElem?_getD,X8 h];exact List.getElem_mem h
theorem jdW{α β:Type}(f:α->β)(l:List α)(lo hi:Option Int):YU (l.map f) lo hi=(YU l lo hi).map f:=by
 unfold YU;rw[L4,List.map_take,List.map_drop]
theorem jgK(o:Bool)(l:List (List Nat))(lo hi:Option Int):jau lo hi (.lst o (l.map D.str))=some (.lst true ((YU l lo hi).map D.str)):=by
 rw[jlZ (jV l),jdW]
theorem YZ{o o':Bool}{a b:List (List Nat)}(h:a.length+b.length<=100000):jQ (.lst o (a.map D.str)) (.lst o' (b.map D.str))=some (.lst true ((a++b).map D.str)):=by
 show(bif lim ((a.map D.str).length+(b.map D.str).length)&&(frzs (a.map D.str)&&frzs (b.map D.str)) then some (D.lst true (a.map D.str++b.map D.str)) else none)=_;rw[jV,jV,L4,L4,jq h,List.map_append];rfl
theorem VC{G:D->Rh->Option Rh}{q:PTf}{p:PF}{α:Type}{l:List α}{en out:α->D}{b:α->Bool}(P:Rh->Prop)(step:∀ x∈l,∀ ρ,P ρ->∃ ρ1,G (en x) ρ=some ρ1/\q ρ1=some (b x)/\p ρ1=some (out x)/\P ρ1){ρ:Rh}(a:P ρ):vQ G q p (l.map en) ρ=some ((l.filter b).map out):=by
 induction l generalizing ρ with
 | nil=>rfl
 | cons x l c =>
  obtain⟨ρ1,d,e,f,p1⟩:=step x M3 ρ a;have:=c (λy g=>step y (M0 _ g)) p1;rw[L9,VB,d,L8,e,L8];cases hb:b x with
  | true=>simp[f,this,hb]
  | false=>simp[this,hb]
mutual
theorem jjl:∀(n:Nat) (d:D),okE n d=true->eqD (fz d) d=true
 | n,.non,_=>rfl
 | n,.bl _,_=>by show(_==_)=true;simp
 | n,.int _,_=>by show(_==_)=true;simp
 | n,.str _,_=>by show(_==_)=true;simp
 | n+1,.tup l,h=>by rw[fz,eqD];exact wZ n l (by simpa [okE] using h)
 | n+1,.lst _ l,h=>by rw[fz,eqD];exact wZ n l (by simpa [okE] using h)
 | 0,.tup l,h=>by simp[okE] at h
 | 0,.lst _ l,h=>by simp[okE] at h
 | n,.dK _ _ _,h=>by cases n<;>simp[okE] at h
 | n,.dT _ _ _,h=>by cases n<;>simp[okE] at h
 | n,.ins _ _ _ _,h=>by cases n<;>simp[okE] at h
 | n,.dead,h=>by cases n<;>simp[okE] at h
 | n,.exc _ _,h=>by cases n<;>simp[okE] at h
theorem wZ:∀(n:Nat) (l:List D),V0 n l=true->zY (fzs l) l=true
 | n,[],_=>rfl
 | n,d::l,h=>by
  rw[V0,M6] at h;rw[fzs,zY,jjl n d h.1,wZ n l h.2];rfl
end
mutual
theorem jjy:∀(n:Nat) (d e:D),okE n d=true->fz d=fz e->eqD d e=true
 | n,.non,e,_,h=>by cases e<;>simp[fz] at h;rfl
 | n,.bl _,e,_,h=>by cases e<;>simp[fz] at h;subst h;show(_==_)=true;simp
 | n,.int _,e,_,h=>by cases e<;>simp[fz] at h;subst h;show(_==_)=true;simp
 | n,.str _,e,_,h=>by cases e<;>simp[fz] at h;subst h;show(_==_)=true;simp
 | n+1,.tup l,e,h,q=>by
  cases e<;>simp[fz] at q;rw[eqD];exact uC n l _ (by simpa [okE] using h) q
 | n+1,.lst _ l,e,h,q=>by
  cases e<;>simp[fz] at q;rw[eqD];exact uC n l _ (by simpa [okE] using h) q
 | 0,.tup l,e,h,_=>by simp[okE] at h
 | 0,.lst _ l,e,h,_=>by simp[okE] at h
 | n,.dK _ _ _,e,h,_=>by cases n<;>simp[okE] at h
 | n,.dT _ _ _,e,h,_=>by cases n<;>simp[okE] at h
 | n,.ins _ _ _ _,e,h,_=>by cases n<;>simp[okE] at h
 | n,.dead,e,h,_=>by cases n<;>simp[okE] at h
 | n,.exc _ _,e,h,_=>by cases n<;>simp[okE] at h
theorem uC:∀(n:Nat) (l m:List D),V0 n l=true->fzs l=fzs m->zY l m=true
 | n,[],[],_,_=>rfl
 | n,[],_::_,_,q=>by simp[fzs] at q
 | n,_::_,[],_,q=>by simp[fzs] at q
 | n,d::l,e::m,h,q=>by
  rw[V0,M6] at h;rw[fzs,fzs] at q;injection q with q1 q2;rw[zY,jjy n d e h.1 q1,uC n l m h.2 q2];rfl
end
noncomputable def lkp{α:Type}(w:List Nat):List (List Nat×α)->Option α
 | []=>none
 | p::l=>if p.1=w then some p.2 else lkp w l
noncomputable def fnOf(S:List (List Nat×Int))(n:List Nat):Int:=(lkp n S).getD 0
noncomputable def wgo(c:Nat):List Nat->List Nat->List (List Nat)
 | cur,[]=>if cur=[] then [] else [cur]
 | cur,d::r=>if d=c then(if cur=[] then wgo c [] r else cur::wgo c [] r) else wgo c (cur++[d]) r
theorem KC(c:Nat):∀(p cur r:List Nat),c∉p->wgo c cur (p++r)=wgo c (cur++p) r
 | [],cur,r,_=>by simp
 | d::p,cur,r,h=>by
  rw[List.cons_append,wgo,if_neg (λz=>h (by simp[z])),KC c p (cur++[d]) r (λz=>h (by simp[z]))];simp
theorem uL(c:Nat):∀(L:List (List Nat)),(∀ p∈L,c∉p)->wgo c [] (w4 [c] L)=L.filter λw=>!(w==[])
 | [],_=>rfl
 | [p],h=>by
  have:=KC c p [] [] (h p (by simp));rw[N4,X7] at this;show wgo c [] p=_;rw[this,wgo];cases p with
  | nil=>rfl
  | cons a p=>rfl
 | p::q::L,h=>by
  have e:w4 [c] (p::q::L)=p++([c]++w4 [c] (q::L)):=by rw[w4];simp
  rw[e,KC c p [] _ (h p (by simp)),X7,List.cons_append,X7,wgo,if_pos rfl,uL c (q::L) λx b=>h x (by simp[b])];cases p with
  | nil=>rfl
  | cons a p=>rfl
theorem wl(a:List Nat)(c:Nat):(kB a [c]).filter (λw=>!(w==[]))=wgo c [] a:=by
 have e:∀ p∈kB a [c],c∉p:=by
  intro p b;unfold kB at b;obtain⟨x,f,rfl⟩:=N0.mp b;exact StrLaws.split_free (S a) c x f
 have g:w4 [c] (kB a [c])=a:=by
  have d:=jbs [c] (kB a [c]);have h:(kB a [c]).map S=Txt.split (S a) (S [c]):=by
   unfold kB;rw[U4]
   conv=>rhs;rw[<- List.map_id (Txt.split (S a) (S [c]))]
   exact List.map_congr_left λx _=>by
    show S x.cps.toList=x;apply PyProof.Rows.ext_toList;rw[vE]
  rw[h,StrLaws.join_split] at d;have:=congrArg (λx:Str=>x.cps.toList) d;simpa [vE] using this.symm
 rw[<- uL c _ e,g]
theorem uR(c:Nat):∀(n:Nat) (r:List Nat),wgo c [] (List.replicate n c++r)=wgo c [] r
 | 0,r=>by simp
 | n+1,r=>by rw[List.replicate_succ,List.cons_append,wgo,if_pos rfl,if_pos rfl,uR c n r]
theorem Q7(c:Nat)  (a:w≠[]) (b:c∉w) (n:Nat) (r:List Nat):wgo c [] (w++(List.replicate (n+1) c++r))=w::wgo c [] r:=by
 rw[KC c w [] _ b,X7,List.replicate_succ,List.cons_append,wgo,if_pos rfl,if_neg a,uR]
theorem jai(c:Nat)  (a:w≠[]) (b:c∉w) (n:Nat):wgo c [] (w++List.replicate n c)=[w]:=by
 cases n with
 | zero =>
  have:=KC c w [] [] b;simp only[N4,X7] at this;rw[List.replicate_zero,N4,this,wgo,if_neg a]
 | succ n =>
  have:=Q7 c a b n [];rw[N4] at this;rw[this];rfl
theorem jf6(m:Nat):zo m≠[]:=by
 intro h;have:=jdj m;unfold zo at h;rw[List.map_eq_nil_iff] at h;exact absurd h Nat.toDigits_ne_nil
variable {ρ:Rh}{fa fb fe:FE}{ft fu:FT'}{fr:FA}{p:PAf}{pi:PAf}{g:D->D->Option D}{gl:List D->Option D}{G:D->Rh->Option Rh}{f:FS}{m:List D->Option (D×D)}{mp:List D->Option D}{i j:Nat}
@[simp] theorem oF_e:oF g x y=(g x y).bind λd=>bif frz d then some d else none:=rfl
theorem jki:pV i ρ=(ρ[i]?).join:=by
 unfold pV;cases h:ρ[i]? with
 | none=>rfl
 | some o=>cases o<;>rfl
end QD
namespace L2
open PySem PySem.Spec PyProof.Rows
end L2
namespace QD
open PySem L2 PySem.Spec PyProof.Rows
end QD
namespace L2
open PySem PySem.Spec PyProof.Rows
section
open AutoSeq1 (wpAny_loadPart') in
end
end L2
namespace QD
open PySem L2 PySem.Spec PyProof.Rows
theorem jkF(h:pV i ρ=some d):ρ[i]?=some (some d):=by
 unfold pV at h;split at h
 ·rename_i x a;rw[a];rw[X6 h]
 ·cases h
end QD
namespace L2
open PySem PySem.Spec PyProof.Rows
end L2
namespace QD
open PySem L2 PySem.Spec PyProof.Rows
end QD
namespace L2
open PySem PySem.Spec PyProof.Rows
end L2
namespace QD
open PySem L2 PySem.Spec PyProof.Rows
end QD
namespace PySem
open Sem (wp)
namespace F
end F
end PySem
namespace L2
open PySem PySem.Spec PyProof.Rows
end L2
namespace QD
open PySem L2 PySem.Spec PyProof.Rows
noncomputable def pFz(p:PF):PF:=λρ=>(p ρ).bind λd=>some (fz d)
@[simp] theorem pFz_e:pFz p ρ=(p ρ).bind λd=>some (fz d):=rfl
theorem jj9(h:PP R te p):PB R te (pFz p):=by
 intro σ ρ Z H O d z s e Q k;unfold pFz at e;cases e1:p ρ with
 | none=>rw[e1] at e;cases e
 | some x =>
  rw[e1,L8] at e;cases e;refine h z s e1 λ{v b c P} g r=>?_;exact k (P:=[]) g.fz (r.freeze (Z':=λa=>b a \/ a∈P) (λa z=>.inl z) λa z=>.inr z)
theorem QP.fzb(h:QP cl X e te pe):QB cl X e te (pFz pe):=⟨h.sem,jj9 h.den⟩
end QD
namespace L2
open PySem PySem.Spec PyProof.Rows
end L2
namespace QD
open PySem L2 PySem.Spec PyProof.Rows
end QD
namespace L2
open PySem PySem.Spec PyProof.Rows
end L2
namespace QD
open PySem L2 PySem.Spec PyProof.Rows
theorem Vu:∀(ks:List KA) (ws:List V) (js:List KA) (us:List V),js.length=us.length->ks.length=ws.length->(js++ks).Nodup ->
  ((ks.map kaV).zip ws).foldl (λa kv=>ja0 a kv.1 kv.2) ((js.map kaV).zip us)=((js++ks).map kaV).zip (us++ws)
 | [],ws,js,us,_,b,_=>by
  cases ws with
  | nil=>simp
  | cons _ _=>simp at b
 | k::ks,[],js,us,_,b,_=>by simp at b
 | k::ks,w::ws,js,us,c,b,d=>by
  have f:¬ k∈js:=λz=>(X1.mp d).2.2 k z k (by simp) rfl;have e:ja0 ((js.map kaV).zip us) (kaV k) w=((js++[k]).map kaV).zip (us++[w]):=by
   unfold ja0;rw[jcl k c,X4 f,if_neg (by decide),List.map_append,List.zip_append (by rw[L4];exact c)];rfl
  rw[L9,X0,X2];show List.foldl _ (ja0 ((js.map kaV).zip us) (kaV k) w) _=_;rw[e,Vu ks ws (js++[k]) (us++[w]) (by simp[c]) (by simpa using b) (by simpa using d)];simp
end QD
namespace L2
open PySem PySem.Spec PyProof.Rows
end L2
namespace QD
open PySem L2 PySem.Spec PyProof.Rows
noncomputable abbrev Ln:=D->Option (D×(D->D))
def jlI(R:RC)(tb:TE)(i:Nat)(L:Ln):Prop:=∀{σ:L2.St}{ρ:Rh}{Z:Zn}{H:Hp}{O:List Addr}{d x:D}{k:D->D},Slots R Z H ρ σ O->ρ[i]?=some (some d)->L d=some (x,k) ->
 ∃ v A P B,O=A++P++B/\Rep R Z H x v P/\(∀{Q:VK},Q v H->tb σ H Q) /\
  ∀{Z':Zn}{H':Hp}{x':D}{P':List Addr},Rep R Z' H' x' v P'->(∀ a,Z a->Z' a)->(∀ a,Z a->H' a=H a)->(∀ a∈A,H' a=H a)->(∀ a∈B,H' a=H a)->Slots R Z' H' (ρ.set i (some (k x'))) σ (A++P'++B)
structure MtFact(K:PySem.W.Frag)(C:Addr)(x qual:Str)(st:Stmt)(f:Addr)(fd:FuncData)(ps:List Str):Prop where
 fn:Fun K x qual st f fd
 mt:Meth K C x f
 bd:Binds K fd ps []
structure QL(cl:Nat->Addr)(X:Cx)(e:Expr)(tb:TE)(i:Nat)(L:Ln):Prop where
 sem:PE X e tb
 den:jlI ⟨X.K,cl⟩ tb i L
theorem jbF(h:je5 d=some p):d=.dK true p.1 p.2:=by
 cases d with
 | dK o a l=>cases o with
  | true=>cases h;rfl
  | false=>cases h
 | _=>cases h
def jlJ(R:RC)(tk:TE)(pk:Rh->Option (List KA)):Prop:=∀{σ:L2.St}{ρ:Rh}{Z:Zn}{H:Hp}{O:List Addr}{k:List KA},Zd Z H->Slots R Z H ρ σ O->pk ρ=some k ->
 ∀{Q:VK},(∀{p:Addr}{Z':Zn}{H':Hp},Go Z H [] Z' H' []->Z' p->H' p=some (.tup ((k.map kaV).map kV))->Q (.ref p) H')->tk σ H Q
structure QK3(cl:Nat->Addr)(X:Cx)(e:Expr)(tk:TE)(pk:Rh->Option (List KA)):Prop where
 sem:PE X e tk
 den:jlJ ⟨X.K,cl⟩ tk pk
end QD
namespace L2
open PySem PySem.Spec PyProof.Rows
end L2
namespace QD
open PySem L2 PySem.Spec PyProof.Rows
namespace QK
end QK
end QD
namespace PySem
open Sem (wp)
end PySem
namespace L2
open PySem PySem.Spec PyProof.Rows
end L2
namespace QD
open PySem L2 PySem.Spec PyProof.Rows
section
variable {R:RC}{Z Z':Zn}{H H':Hp}{pm:List Nat}
def PK(R:RC)(te:TE)(pk:Rh->Option (List KA))(pv:PF):Prop:=∀{σ:L2.St}{ρ:Rh}{Z:Zn}{H:Hp}{O:List Addr}{c:List KA}{d:D},Zd Z H->Slots R Z H ρ σ O->pk ρ=some c->pv ρ=some d->frz d=true ->
 ∀{Q:VK},(∀{t b:Addr}{u:V}{Z':Zn}{H':Hp},Go Z H [] Z' H' []->Z' t->Z' b->H' t=some (.tup [.ref b,u])->H' b=some (.tup ((c.map kaV).map kV))->Rep R Z' H' d u []->Q (.ref t) H')->te σ H Q
structure KvAt(R:RC)(Z:Zn)(H:Hp)(ys:List (List KA×D))(vs:List V)(ps:List (List Key×Addr×V)):Prop where
 l:vs.length=ps.length
 i:∀(j:Nat) (v:V),vs[j]?=some v->∃ kv t,ps[j]?=some kv/\v=.ref t/\H t=some (.tup [.ref kv.2.1,kv.2.2])/\H kv.2.1=some (.tup (kv.1.map kV))
 k:ps.map (·.1)=ys.map λy=>y.1.map kaV
 r:Reps R Z H (ys.map (·.2)) (ps.map (·.2.2)) []
end
section
variable {cl:Nat->Addr}{pm:List Nat}{X:Cx}{tg iter elt:Expr}{ifs:List Expr}{wi:TI}{pi:PAf}{t:TG}{g:D->Rh->Option Rh}{te:TE}{pk:Rh->Option (List KA)}{pv:PF}{pos cpos p:Pos}
structure QKv(cl:Nat->Addr)(X:Cx)(e:Expr)(te:TE)(pk:Rh->Option (List KA))(pv:PF):Prop where
 sem:PE X e te
 den:PK ⟨X.K,cl⟩ te pk pv
end
end QD
namespace PySem
open PySem.W PyProof.Rows PySem.Calls
end PySem
set_option maxHeartbeats 4000000
namespace PySem
open PySem.W PyProof.Rows PySem.Calls
end PySem
namespace L2
open PySem PySem.Spec PyProof.Rows
end L2
namespace QD
open PySem L2 PySem.Spec PyProof.Rows
end QD
namespace PySem
open Sem (wp)
end PySem
namespace L2
open PySem PySem.Spec PyProof.Rows
end L2
namespace QD
open PySem L2 PySem.Spec PyProof.Rows
end QD
set_option maxHeartbeats 1000000
namespace PySem
namespace F
end F
end PySem
namespace L2
open PySem PySem.Spec PyProof.Rows
structure Z3(z TI TO j1 j2 j3 t l m:Addr):Prop where
 TIz:TI≠z
 TOz:TO≠z
 j1z:j1≠z
 j2z:j2≠z
 j3z:j3≠z
 TITO:TI≠TO
 TIj1:TI≠j1
 TIj2:TI≠j2
 TIj3:TI≠j3
 TOj1:TO≠j1
 TOj2:TO≠j2
 TOj3:TO≠j3
 j12:j1≠j2
 j13:j1≠j3
 j23:j2≠j3
 out:∀ x,x=t \/ x=l \/ x=m->x≠z/\x≠TO/\x≠j1/\x≠j2/\x≠j3
end L2
namespace PySem
namespace F
end F
end PySem
namespace L2
open PySem PySem.Spec PyProof.Rows
end L2
namespace QD
open PySem L2 PySem.Spec PyProof.Rows
end QD
namespace QD
open PySem L2
end QD
namespace L2
open PySem PySem.Spec PyProof.Rows
end L2
namespace QD
open PySem L2
end QD
namespace L2
open PySem PySem.Spec PyProof.Rows
end L2
namespace QD
open PySem L2 PySem.Spec PyProof.Rows
mutual
noncomputable def pln:D->Bool
 | .tup l=>jj0 l
 | .non=>true | .bl _=>true | .int _=>true | .str _=>true
 | .lst _ _=>false | .dK _ _ _=>false | .dT _ _ _=>false | .ins _ _ _ _=>false | .dead=>false | .exc _ _=>false
noncomputable def jj0:List D->Bool
 | []=>true
 | d::l=>pln d&&jj0 l
end
section
variable {R:RC}{Z Z':Zn}{H H':Hp}{pm:List Nat}
mutual
theorem Rep.cutA{a:Addr}(ha:∀ vs,¬ Rd H a (.tup vs))(hH:∀ b,b≠a->H' b=H b):∀{d:D}{v:V}{O:List Addr},pln d=true->Rep R Z H d v O->Rep R (λb=>Z b/\b≠a) H' d v O
 | .non,_,_,_,r=>by rw[Rep] at r ⊢;exact r
 | .bl _,_,_,_,r=>by rw[Rep] at r ⊢;exact r
 | .int _,_,_,_,r=>by rw[Rep] at r ⊢;exact r
 | .str _,_,_,_,r=>by rw[Rep] at r ⊢;exact r
 | .tup l,_,_,h,r=>by
  rw[pln] at h;rw[Rep] at r ⊢;obtain⟨p,vs,e,t,r⟩:=r;refine⟨p,vs,e,?_,Reps.cutA ha hH h r⟩;rcases t with⟨z,t⟩ | t
  ·have ne:p≠a:=λq=>ha vs (q▸t);exact .inl ⟨⟨z,ne⟩,Rd.agree (hH p ne) t⟩
  ·exact .inr t
 | .lst _ _,_,_,h,_=>by rw[pln] at h;cases h
 | .dK _ _ _,_,_,h,_=>by rw[pln] at h;cases h
 | .dT _ _ _,_,_,h,_=>by rw[pln] at h;cases h
 | .ins _ _ _ _,_,_,h,_=>by rw[pln] at h;cases h
 | .dead,_,_,h,_=>by rw[pln] at h;cases h
 | .exc _ _,_,_,h,_=>by rw[pln] at h;cases h
theorem Reps.cutA{a:Addr}(ha:∀ vs,¬ Rd H a (.tup vs))(hH:∀ b,b≠a->H' b=H b):∀{l:List D}{vs:List V}{O:List Addr},jj0 l=true->Reps R Z H l vs O->Reps R (λb=>Z b/\b≠a) H' l vs O
 | [],_,_,_,r=>by rw[Reps] at r ⊢;exact r
 | d::l,_,_,h,r=>by
  rw[jj0,M6] at h;rw[Reps] at r ⊢;obtain⟨v,vs',O1,O2,e1,e2,r1,r2⟩:=r;exact⟨v,vs',O1,O2,e1,e2,Rep.cutA ha hH h.1 r1,Reps.cutA ha hH h.2 r2⟩
end
end
end QD
namespace PySem
open Sem (wp)
namespace F
end F
end PySem
namespace L2
open PySem PySem.Spec PyProof.Rows
end L2
namespace QD
open PySem L2 PySem.Spec PyProof.Rows
end QD
namespace L2
open PySem PySem.Spec PyProof.Rows
end L2
namespace QD
open PySem L2 PySem.Spec PyProof.Rows
def yY(K:PySem.W.Frag)(mg:Str->Option Value)(x:Str)(st:Stmt)(ps:List Str):Prop:=∃ f fd,FnFact K mg x x st f fd ps
def jlz(K:PySem.W.Frag)(C:Addr)(x qual:Str)(st:Stmt)(ps:List Str):Prop:=∃ f fd,MtFact K C x qual st f fd ps
def OkF(P:Program)(w:World)(K:PySem.W.Frag)(mg:Str->Option Value)(x:Str)(st:Stmt)(k:Nat)(ps:List Str)(sp:Sp):Prop:=∃ f fd,FnFact K mg x x st f fd ps/\∀ base,FnOk P w K mg base CX0 k f fd ps sp
section
variable {K:PySem.W.Frag}{mg:Str->Option Value}{h:Heap}{x qual:Str}{st:Stmt}{ps:List Str}{a C:Addr}{od an:Option Addr}{sl:Array (Option Value)}{oc kV dc pm cd ct:Value}
theorem hasF(X:K.In h)(G:h.Ns mainGlobals mg)(e:PySem.W.nsIn K mainGlobals x=some (some (.ref a)))(b:K.lookup a=some ⟨oc,od,.func (PySem.W.fnOf x x (ql st) (y9 st) (jj st) .none kV dc pm an cd ct),sl⟩)(c:PySem.W.codeIn K cd x=true)(d:PySem.W.keepIn K (.ref a)=true)
  (f:∀(kV doc pm:Value) (an:Option Addr) (cdv ct:Value) (us:List Value),us.length=ps.length->bindArgs (PySem.W.fnOf x x (ql st) (y9 st) (jj st) .none kV doc pm an cdv ct) ⟨us,[]⟩=pure (ps.zip us)):yY K mg x st ps:=⟨_,_,ww b c d,PySem.W.mg_of X G e,(ww b c d).binds f⟩
theorem hasM(e:PySem.W.findIn K (.ref C) x=some (some (.ref a)))(f:PySem.W.isFn K (.ref a)=true)(c:K.lookup a=some ⟨oc,od,.func (PySem.W.fnOf x qual (ql st) (y9 st) (jj st) .none kV dc pm an cd ct),sl⟩)(d:PySem.W.codeIn K cd qual=true)(b:PySem.W.keepIn K (.ref a)=true)
  (g:∀(kV doc pm:Value) (an:Option Addr) (cdv ct:Value) (us:List Value),us.length=ps.length->bindArgs (PySem.W.fnOf x qual (ql st) (y9 st) (jj st) .none kV doc pm an cdv ct) ⟨us,[]⟩=pure (ps.zip us)):jlz K C x qual st ps:=⟨_,_,ww c d b,⟨e,f,b⟩,(ww c d b).binds g⟩
end
theorem fsc{N ps:List Str}{h:Scope}(a:h.kind=.function:=by rfl)(b:h.isCoroutine=false:=by rfl)(c:h.isGenerator=false:=by rfl)(d:N.Nodup:=by decide +kernel)(e:N.take ps.length=ps:=by rfl)
  (f:∀ x∈ps,h.names.lookup x=some .local \/ h.names.lookup x=some .cell:=by decide +kernel) (g:∀ y∈h.names,y.2≠.free:=by decide +kernel):FnScope N ps h:=⟨a,b,c,d,e,f,g⟩
theorem bkF{N ps:List Str}{a:Scope}(_:FnScope N ps a){X:Cx}{scope:Scope}{ix:List (Option Nat)}(N':List Str)(h1:X.env.scope=a:=by rfl)(h2:X.N=N:=by rfl)(h:zy a N scope N' ix=true:=by decide +kernel):BlockOk X scope N' ix:=jgu a N h1 h2 h
section
variable {cl:Nat->Addr}{X:Cx}{pos:Pos}{x:Str}{scope:Scope}{N':List Str}{i:Nat}
theorem qS{j}{l:List Nat}(h:x=S l:=by decide +kernel):QP cl X (.Constant (.str x) j pos) (tC (.str x)) (pC (.str l)):=jkJ l h
theorem cgN(a:N'.Nodup:=by decide +kernel)(hi:N'[i]?=some x:=by rfl)(b:∀ C s H fp,Loc (yD X scope N' C s H fp).env.scope x:=by first | exact λ_ _ _ _=>.inl rfl | exact λ_ _ _ _=>.inr rfl)
  (c:∀ C s H fp,(yD X scope N' C s H fp).fn x=true \/ (yD X scope N' C s H fp).env.scope.names.lookup x=some .local:=by first | exact λ_ _ _ _=>.inl rfl | exact λ_ _ _ _=>.inr rfl) :
  ∀ C s H fp,QG cl [] (yD X scope N' C s H fp) (.Name x pos) (zS i) (jB [] i):=λC s H fp=>yR a hi (b C s H fp) (c C s H fp)
theorem jjQ:∀ C s H fp,QIf cl (yD X scope N' C s H fp) [] (λ_ H Q=>Q true H) qT:=λ_ _ _ _=>jcZ
theorem qI{i:Int}{j}:QB cl X (.Constant (.int i) j pos) (tC (.int i)) (pC (.int i)):=QP.bb jgJ
end
end QD
namespace L2
open PySem PySem.Spec PyProof.Rows
end L2
namespace QD
open PySem L2 PySem.Spec PyProof.Rows
end QD
namespace L2
open PySem PySem.Spec PyProof.Rows
theorem Vals.takeD:∀(k:Nat),Vals xs us->Vals (xs.take k) (us.take k)/\Vals (xs.drop k) (us.drop k):=by
 intro k
 induction k generalizing xs us with
 | zero=>intro r;exact⟨by rw[List.take_zero,List.take_zero];exact .nil,r⟩
 | succ k a =>
  intro r;cases r with
  | nil=>exact⟨.nil,.nil⟩
  | cons h t=>exact⟨.cons h (a t).1,(a t).2⟩
def uq:V->List V->Hp->VK->Prop:=λx vs H Q=>∃ l xs y i,x=.ref l/\vs=[.int i,y]/\H l=some (.lst xs)/\0<=i/\i<=(xs.length:Int)/\xs.length < sizeLine/\Q .non (upd H l (.lst (xs.take i.toNat++y::xs.drop i.toNat)))
theorem jbZ:MtM X "list.insert" uq:=by
 intro f s σ H x C v D Q I k m h;obtain⟨l,E,y,i,rfl,rfl,g,G,J,K,q⟩:=h;cases k;cases m with
 | @cons a b L bs o p =>
  obtain⟨u,rfl,w⟩:=Vals.one p;obtain⟨t,rfl⟩:=o;obtain⟨z,c,n,r,M,e⟩:=I.lstM g;have d:¬ (!Builtin.List.listFitsIndex i)=true:=by
   have N:=sizeLine_eq;simp[Builtin.List.listFitsIndex]
   lia
  refine call_meets F.slot_list_insert ⟨_,e,rfl⟩ F.entry_list_insert (F.args_list_insert_3 _ _ _) (AutoSeq1.list_insert_list_int_val_1 l c.toArray n i t u d (by rw[N7];lia)) ⟨e,?_⟩;have j:=Vals.takeD i.toNat r;refine⟨.non,_,I.lset (its':=c.take i.toNat++u::c.drop i.toNat) g e ?_ (j.1.append (.cons w j.2)) ?_,rfl,q⟩
  ·have A:¬ i < 0:=by lia
   simp only[A,if_false];have B:min i.toNat c.toArray.size=i.toNat:=by rw[N7];lia
   rw[B];apply Array.ext';simp;exact List.take_of_length_le (by rw[List.length_drop];exact N3 _)
  ·rw[N8,M7,List.length_take,List.length_drop]
   lia
end L2
namespace QD
open PySem L2 PySem.Spec PyProof.Rows
section
variable {R:RC}{Z Z':Zn}{H H':Hp}{pm:List Nat}
theorem uM{y:D}{n:Int}(h:Ql y=some n):y=.int n:=by
 cases y with
 | int i=>cases h;rfl
 | _=>cases h
theorem ui{n:Nat}{j:Int}(a:0<=j)(h1:j.toNat < n):ixN n j=some j.toNat:=by
 unfold ixN;rw[if_pos a,if_pos (by lia)]
theorem jcj{i:Nat}{ρ:Rh}{t:D}(h:pV i ρ=some t):ρ[i]?=some (some t):=by
 rw[jki] at h;cases q:ρ[i]? with
 | none=>rw[q] at h;cases h
 | some o=>cases o with
  | none=>rw[q] at h;cases h
  | some a=>rw[q] at h;cases h;rfl
noncomputable def jfJ(i:Nat)(pk p:PF):FS:=λρ=>(pk ρ).bind λy=>(Ql y).bind λn=>(p ρ).bind λd=>match ρ[i]? with
 | some (some (.lst true l))=>bif decide (0<=n)&&decide (n<=(l.length:Int))&&(lim l.length&&(frzs l&&frz d)) then some (.nx (ρ.set i (some (.lst true (l.take n.toNat++d::l.drop n.toNat))))) else none
 | _=>none
theorem jhQ{i:Nat}{tk te:TE}{pk p:PF}(hk:PB R tk pk)(h:PP R te p):DS R pm (zq (tBM R.K "list" uq (V7 i) (vd tk (vd te K9)))) (jfJ i pk p):=by
 intro σ ρ Z H O o w s e D' k;unfold jfJ at e;cases e1:pk ρ with
 | none=>rw[e1] at e;cases e
 | some y =>
 rw[e1,L8] at e;cases q1:Ql y with
 | none=>rw[q1] at e;cases e
 | some n =>
 rw[q1,L8] at e;cases uM q1;cases e2:p ρ with
 | none=>rw[e2] at e;cases e
 | some d =>
 rw[e2,L8] at e;split at e
 ·rename_i l U;cases hg:decide (0<=n)&&decide (n<=(l.length:Int))&&(lim l.length&&(frzs l&&frz d)) with
  | false=>rw[hg] at e;cases e
  | true =>
   rw[hg] at e;cases e;simp only[M6,decide_eq_true_eq] at hg;obtain⟨⟨F,G⟩,q,fl,fd⟩:=hg;obtain⟨A,P,B,rfl,k1,k2,_⟩:=s.put (M5.mp U).1;obtain⟨v,V,r⟩:=k1 _ U;rw[Rep] at r;obtain⟨a,f,O',rfl,E,I,rfl⟩:=r;cases E.nil fl;refine⟨.ref a,V,.inl ⟨rfl,f,SqL.of I⟩,?_⟩;refine hk w.zd s e1 λ{u0 W J P0} b r0=>?_;obtain⟨rfl,_⟩:=r0.int_of;have s1:=b.slots w.zd s;refine h b.wf.zd s1 e2 λ{u L m P2} j X=>?_;cases X.nil fd;have t:J a=some (.lst f):=by rw[b.same a (by rw[I];exact λz=>(nomatch z))];exact I
   have M:m a=some (.lst f):=by rw[j.same a (by rw[t];exact λz=>(nomatch z))];exact t
   have x:Go Z H (A++[a]++B) W J (A++[a]++B):=by simpa using b.widen w
   have N:Go W J (A++[a]++B) L m (A++[a]++B):=by simpa using j.widen x.wf
   have Y:=x.trans N;have Q:=Y.wf;have C:=j.reps b.wf.zd (b.reps w.zd E);refine⟨a,f,u,n,rfl,rfl,M,F,by rw[E.length];exact G,by rw[E.length];exact uN q,?_⟩;have nd:=Q.nd;simp only[X1,N6,List.nodup_cons,M9] at nd;obtain⟨⟨nA,⟨na,nO⟩,S⟩,nB,T⟩:=nd;have D:∀ c,L c->upd m a (.lst (f.take n.toNat++u::f.drop n.toNat)) c=m c:=λc z=>jo λe=>Q.nz a (by simp) (e▸z);have r3:Rep R L (upd m a (.lst (f.take n.toNat++u::f.drop n.toNat))) (.lst true (l.take n.toNat++d::l.drop n.toNat)) (.ref a) [a]:=by
    rw[Rep];refine⟨a,_,[],rfl,?_,jA,rfl⟩;have hr:=(C.take n.toNat).append (Reps.cons X (C.drop n.toNat));exact hr.frame (λ_ z=>z) D λc g=>(nomatch g)
   have sA:∀ c,c∈A->upd m a (.lst (f.take n.toNat++u::f.drop n.toNat)) c=H c:=λc g=>by
    rw[jo λe=>S c g a (.inl rfl) e,j.same c (by rw[b.same c (w.od c (by simp[g]))];exact w.od c (by simp[g]))];exact b.same c (w.od c (by simp[g]))
   have sB:∀ c,c∈B->upd m a (.lst (f.take n.toNat++u::f.drop n.toNat)) c=H c:=λc g=>by
    rw[jo λe=>T a (.inr (.inl rfl)) c g e.symm,j.same c (by rw[b.same c (w.od c (by simp[g]))];exact w.od c (by simp[g]))];exact b.same c (w.od c (by simp[g]))
   have s3:=k2 r3 (λc z=>j.zz c (b.zz c z)) (λc z=>by rw[D c (j.zz c (b.zz c z)),j.same c (by rw[b.same c (w.zd c z)];exact w.zd c z)];exact b.same c (w.zd c z)) sA sB;rw[qF V] at s3;exact k (Y.trans (Go.put Q (by simp))) s3 (Keep.refl _ _)
 ·cases e
theorem jby{i:Nat}{pk p:PF}{ρ:Rh}{l:List D}{n:Int}{d:D}(a:pV i ρ=some (.lst true l))(h1:pk ρ=some (.int n))(h2:p ρ=some d)(z:0<=n)(e:n.toNat<=l.length)(b:lim l.length=true)(c:frzs l=true)(fd:frz d=true) :
  jfJ i pk p ρ=some (.nx (ρ.set i (some (.lst true (l.take n.toNat++d::l.drop n.toNat))))):=by
 unfold jfJ;rw[h1,L8,show Ql (.int n)=some n from rfl,L8,h2,L8,jcj a];dsimp only;rw[X3 z,X3 (by lia),b,c,fd];rfl
end
section
variable {cl:Nat->Addr}{pm:List Nat}{X:Cx}{e f j1 j2:Expr}{te tf t1 t2:TE}{pe pf p1 p2:PF}{tu:TS}{fe:FS}{pos:Pos}
theorem jeO{i:Nat}{x:Str}{a apos cpos:Pos}(n:QB cl X (.Name x a) (V7 i) (pV i))(l:QB cl X e te pe)(h:QP cl X f tf pf)(c:attributeBase (.Name x a) "insert" X.env (eval (.Name x a) X.env)=eval (.Name x a) X.env:=by rfl)
  (g:((backTo cpos (starEach [e,f] X.env)).all (λx=>!x.1)&&(backToKw cpos (keywordEach [] X.env)).all (λx=>x.1.isSome)
   && decide ([e,f].length+([]:List Keyword).length+(if([]:List Keyword).isEmpty then 0 else 1) < 30))=true:=by rfl)
  (d:(apos.endLine==cpos.line)=true:=by rfl) (m:starEach [e,f] X.env=(false,eval e X.env)::starEach [f] X.env:=by rfl) (j:starEach [f] X.env=(false,eval f X.env)::starEach [] X.env:=by rfl) (b:(backTo cpos (starEach [f] X.env)).any (·.1)=false:=by rfl)
  (k:swapsWith (.Call (.Attribute (.Name x a) "insert" apos) [e,f] [] cpos) none pos.line X.env=pure false:=by rfl) :
  QS cl pm X (.Expr (.Call (.Attribute (.Name x a) "insert" apos) [e,f] [] cpos) pos) (zq (tBM X.K "list" uq (V7 i) (vd te (vd tf K9)))) (jfJ i pe pf) :=
 ⟨zj (jcr PySem.F.plainAttrs_list PySem.F.slot_list_insert PySem.F.type_list_insert jbZ n.sem (yS l.sem (yS h.sem Yc j) m) c g d m b) k,jhQ l.den h.den⟩
end
end QD
namespace PySem
open L2 PyProof.Rows
end PySem
namespace L2
open PySem PySem.Spec PyProof.Rows
end L2
namespace QD
open PySem L2 PySem.Spec PyProof.Rows
end QD
namespace QX
open PySem PySem.Spec L2 QD PyProof.Rows
def x0(C e:Addr):Heap->Prop:=λh=>∃ t,h.get? e=some (wH C t)
def x1(C e dx:Addr):Heap->Prop:=λh=>∃ t,h.get? e=some { wH C t with dict:=some dx }
theorem Qt{P:Program}{w:World}{H:Hp}{h:Heap}{e:Addr}{o:Obj}{φ:Heap->Prop}(a:h.get? e=some o)(p:φ h)(st:∀ h1 h2:Heap,φ h1->(∀ o,h1.get? e=some o->h2.get? e=some o)->φ h2):ObjOk P w H h e (.ext φ):=⟨p,⟨o,a⟩,st⟩
theorem jjh(C e:Addr)(h1 h2:Heap):x0 C e h1->(∀ o,h1.get? e=some o->h2.get? e=some o)->x0 C e h2:=λ⟨t,q⟩ k=>⟨t,k _ q⟩
theorem jll(C e dx:Addr)(h1 h2:Heap):x1 C e dx h1->(∀ o,h1.get? e=some o->h2.get? e=some o)->x1 C e dx h2:=λ⟨t,q⟩ k=>⟨t,k _ q⟩
theorem jgh(C e dx:Addr)(h1 h2:Heap):xo C e dx h1->(∀ o,h1.get? e=some o->h2.get? e=some o)->xo C e dx h2:=λ⟨o,a,q,r⟩ k=>⟨o,a,k _ q,r⟩
theorem jcw{H:Hp}{a:Addr}{o:HO}(h:H a=some o):upd H a o=H:=by
 funext b
 unfold upd;split
 ·rename_i e;rw[e,h]
 ·rfl
theorem vty:typeOf (.type "ValueError")=pure (.type "type"):=by rfl
theorem vcl(K:PySem.W.Frag):PySem.W.findCls K (.type "ValueError") (.type "type") "__init__" = some (.val (.builtin "ValueError.__init__")):=by rfl
theorem vst:Manifest.isStub "ValueError" = false:=by decide +kernel
theorem vbo:bootBuiltins "ValueError" = some (.type "ValueError"):=by decide +kernel
theorem vha:PySem.W.handedIn (.builtin "ValueError.__init__")=true:=by decide +kernel
section
variable {X:Cx}{a1 a2 o value:Expr}{t:TA}{ta tv:TE}{f:Str}{p ap pos pos':Pos}
noncomputable def jeP(K:PySem.W.Frag)(t:TA):TS:=λD σ H=>t σ H λvs H1=>∃ e u C,vs=[.ref e,u]/\H1 e=some (.ext (x0 C e))/\XC K C/\D.nx σ H1
theorem jdb{pl:Sem Bool}(y:PA X [a1,a2] t)(A:X.mg "ValueError" = none)(B:Gl X "ValueError":=by rfl)
  (E:swapsWith (.Call (.Attribute (.Name "ValueError" p) "__init__" ap) [a1,a2] [] pos) none pos'.line X.env=pure false:=by rfl)
  (g:starEach [a1,a2] X.env=(false,eval a1 X.env)::starEach [a2] X.env:=by rfl) (i:(backTo pos (starEach [a2] X.env)).any (·.1)=false:=by rfl)
  (F:eval (.Call (.Attribute (.Name "ValueError" p) "__init__" ap) [a1,a2] [] pos) X.env=(do
   let ov <- eval (.Name "ValueError" p) X.env
   standAt ap.atName
   let (f,first) <- holding [ov] (getMethod ov "__init__" pl)
   callWith pos f first (backTo pos (starEach [a1,a2] X.env)) (backToKw pos (keywordEach [] X.env))):=by rfl) :
  PS X (.Expr (.Call (.Attribute (.Name "ValueError" p) "__init__" ap) [a1,a2] [] pos) pos') (jeP X.K t):=by
 intro a s σ H D I h;refine wpAny_Expr_any ?_ I.quiet E;refine PySem.W.methodCall_KW (pl:=pl) (VY (u:=.type "ValueError") I B A vbo ?_) F;obtain⟨m,fr⟩:=I.fr;have d:=vcl X.K;refine PySem.W.method_type (K:=X.K) (T:="ValueError") (name:="__init__") (v:=.builtin "ValueError.__init__") fr I.mod.kin vty vst d vha ?_;have G:=I.tok (s.toks+1);refine callWith_builtin1 (thn (y pos a _ σ H _ G h) λV J ⟨Y,L,j,r,e,u,C,M,k,c,q⟩=>?_) g i;subst M;cases r with
 | cons N O =>
  cases O with
  | cons Z P =>
   cases P;obtain rfl:=N;obtain⟨⟨t0,Q⟩,_⟩:=j.hok e _ k;obtain⟨h1,g1,d1,l,R⟩:=J;refine jku j.kIn c.cls Q λn S kp d=>?_;have w:=j.write (x:=e) (e:=e) (o:=.ext (x0 C e)) (h':=n) (t':=l) (by rw[k];exact True.intro) (.inl rfl) (λb u U z=>kp b u U z) ⟨_,d⟩ (Qt d ⟨S,d⟩ (jjh C e));rw[jcw k] at w;exact⟨σ,L,w,q⟩
noncomputable def jiQ(K:PySem.W.Frag)(ta tv:TE)(f:Str):TS:=λD σ H=>tv σ H λy H1=>ta σ H1 λx H2=>∃ e C,x=.ref e/\H2 e=some (.ext (x0 C e))/\XC K C/\QC K C f /\
 ∀ dx,H2 dx=none->D.nx σ (upd (upd H2 dx (.xd [(f,y)])) e (.ext (x1 C e dx)))
theorem jfh(E:PE X o ta)(F:PE X value tv)(G:swapsWith value (some (.Attribute o f pos')) pos.line X.env=pure false:=by rfl):PS X (.Assign [.Attribute o f pos'] value pos) (jiQ X.K ta tv f):=by
 intro g s σ H D I h;refine plainObj_wpAny_Assign_Attribute (thn (F g s σ H _ I h) λu J ⟨y,L,M,N,q⟩=>thn (E g J σ L _ M q) λO P ⟨x,Q,j,R,e,C,ex,p,c,n,S⟩=>?_) G;subst ex;obtain rfl:O=Value.ref e:=R;obtain⟨⟨T,t⟩,_⟩:=j.hok e _ p;obtain⟨d,g2,d2,t2,U⟩:=P;refine jlP j.kIn c.cls c.sa n t λk v l ns kp=>?_;obtain⟨od,V,W,i,r⟩:=id ns;have Y:=(Heap.get?_some_iff.mp i).2;have lt:=N5 t;have ne:e≠d.objs.size:=N9 lt;have Z:∀ b u,d.get? b=some u->(d.push od).get? b=some u:=λb u z=>M4 _ z;have w:(d.push od).get? d.objs.size=some od:=X9 _ Y;have I3:=j.laid (a:=d.objs.size) (o:=.xd [(f,y)]) (h':=d.push od) (t':=v) Z (N3 _) ⟨_,⟨od,V,W,w,r⟩,λz=>by
  by_cases q:z=f
  ·subst q;rw[if_pos rfl];simp only[List.lookup,beq_self_eq_true];exact N
  ·rw[if_neg q];have:(z==f)=false:=U5.mpr q;simp only[List.lookup,this];exact True.intro⟩
 have m:upd Q d.objs.size (.xd [(f,y)]) e=some (.ext (x0 C e)):=by rw[jo ne];exact p
 have I4:=I3.write (x:=e) (e:=e) (o:=.ext (x1 C e d.objs.size)) (h':=k) (t':=v) (by rw[m];exact True.intro) (.inl rfl) (λb u hb z=>by
  by_cases A:b=d.objs.size
  ·subst A;rw[show u=od from X6 (z.symm.trans w)];exact i
  ·obtain⟨z1,z3⟩:=Heap.get?_some_iff.mp z;refine kp b u hb (Heap.get?_some_iff.mpr ⟨?_,z3⟩);have B:(d.objs.push od)[b]?=some u:=z1;rw[Array.getElem?_push,if_neg A] at B;exact B) ⟨_,l⟩ (Qt l ⟨T,l⟩ (jll C e _))
 exact⟨σ,_,I4,S _ (j.hok.fresh (N3 _))⟩
end
noncomputable def xQ(K:PySem.W.Frag):Sp:=λvs H Q _=>∃ e u p C,vs=[.ref e,u,p]/\H e=some (.ext (x0 C e))/\XC K C/\QC K C "place" /\
 ∀ dx,H dx=none->Q .non (upd (upd H dx (.xd [("place",p)])) e (.ext (x1 C e dx)))
noncomputable def CXr(P:Program)(w:World):CXT:=λouter H s E e s'=>∃ a C dx T H',e=.ref a/\s'.os=s.os/\AllBare s'.gens/\Un (frs outer) [] H H' s.heap s'.heap/\HOk P w H' s'.heap /\
 H' T=none/\s.heap.objs.size<=T/\s.heap.objs.size<=a/\Fly a (.ref C) (some dx) T .none s'.heap/\H' a=some (.ext (xo C a dx))/\E e none H'
theorem Fly.xo{e C dx T:Addr}{a:Value}{h:Heap}(f:Fly e (.ref C) (some dx) T a h):QD.xo C e dx h:=by
 obtain⟨b,c,j,k,d,g,hd,i,_⟩:=f;exact⟨b,c,d,g,hd,i⟩
theorem Fly.at{e T:Addr}{cl a:Value}{dx:Option Addr}{h:Heap}(f:Fly e cl dx T a h):∃ o,h.get? e=some o:=let ⟨o,_,_,_,he,_⟩:=f;⟨o,he⟩
theorem Fly.atT{e T:Addr}{cl a:Value}{dx:Option Addr}{h:Heap}(f:Fly e cl dx T a h):∃ o,h.get? T=some o:=let ⟨_,_,o,_,_,_,_,_,_,_,hT,_⟩:=f;⟨o,hT⟩
theorem uf{P:Program}{w:World}{H:Hp}{h h':Heap}{fs xs:List Addr}{e:Addr}{φ ψ:Heap->Prop}(ok:HOk P w H h)(l:H e=some (.ext φ))(k:Kp fs xs h h')(m:∀ b∈fs,H b=none)(n:∀ b∈xs,b≠e->H b=none)
  (new:ObjOk P w (upd H e (.ext ψ)) h' e (.ext ψ)):HOk P w (upd H e (.ext ψ)) h':=λb u q=>by
 by_cases j:b=e
 ·subst j;rw[jA] at q;cases q;exact new
 ·rw[jo j] at q;have a:∀ c y,H c=some (.own y)->c≠e:=λc y r z=>by rw[z,l] at r;cases r
  have f:∀ c g,H c=some (.tup g)->c≠e:=λc g r z=>by rw[z,l] at r;cases r
  refine(ok b u q).stay (λc v i r=>?_) (λc r=>by rw[jo (a c b r)];exact r) λc g r=>by rw[jo (f c g r)];exact r
  have d:c≠e/\H c≠none:=by
   rcases i with rfl | i
   ·exact⟨j,λz=>by rw[q] at z;cases z⟩
   ·exact⟨a c b i,λz=>by rw[i] at z;cases z⟩
  exact k.keep c v r (λz=>d.2 (m c z)) λz=>d.2 (n c z d.1)
theorem jeD{fs fs' xs:List Addr}{j H:Hp}{a h h':Heap}{e:Addr}{φ ψ:Heap->Prop}(u:Un fs [] j H a h)(d:H e=some (.ext φ))(t:a.get? e=none)(k:Kp fs' xs h h')(l:∀ b∈fs',b∈fs \/ a.get? b=none)(f:∀ b∈xs,a.get? b=none)
  (at_:∃ o,h'.get? e=some o):Un fs [] j (upd H e (.ext ψ)) a h' where
 keep:=λb o q n m z=>by
  have:=u.keep b o q n m z;exact k.keep b o this (λy=>(l b y).elim m λy=>by rw[q] at y;cases y) λy=>by have:=f b y;rw[q] at this;cases this
 slot:=λb o q n m z=>by
  obtain⟨p,r⟩:=u.slot b o q n m z;by_cases y:b∈fs'
  ·obtain⟨c,g⟩:=k.slot b _ r y;exact⟨c,g⟩
  ·exact⟨p,k.keep b _ r y λy=>by have:=f b y;rw[q] at this;cases this⟩
 free:=λb o q n z=>by
  have r:=u.free b o q n z;rw[jo (λy=>by rw[y,d] at r;cases r)];exact r
 there:=λb o q z=>by
  obtain⟨v,r⟩:=u.there b o q z;have nx:b∉xs:=λy=>by have:=f b y;rw[q] at this;cases this
  by_cases y:b∈fs'
  ·obtain⟨c,g⟩:=k.slot b _ r y;exact⟨_,g⟩
  ·exact⟨_,k.keep b _ r y nx⟩
 tups:=λb i q=>by
  have r:=u.tups b i q;rw[jo (λy=>by rw[y,d] at r;cases r)];exact r
 frzs:=λb o i q=>by
  have r:=u.frzs b o i q;rw[jo (λy=>by rw[y,d] at r;cases r)];exact r
 tbls:=λb s q=>by
  obtain⟨m,r⟩:=u.tbls b s q;exact⟨m,by rw[jo (λy=>by rw[y,d] at r;cases r)];exact r⟩
structure Lv(X:Cx)(E:XK):Prop where
 st:X.stack=X.env::X.outer
 fr:X.env.frame=some X.env.locals
 ex:X.ex=[]
 xe:∀ e s',wpAny (model X.prog X.w) X.A (leaving X.env e) (λ_ s''=>CXr X.prog X.w X.outer X.H₀ X.s₀ E e s'') (λ_ _=>False) s'->X.xe e s'
section
variable {X:Cx}{pins:List (Addr×Obj)}{σ:L2.St}{H:Hp}{s:Shared}{E:XK}
theorem jbk(I:L2.Inv X pins σ H s)(l:Lv X E):∀ b∈QX.fms (X.env::X.outer),H b=none/\(b∈X.fs \/ X.s₀.heap.get? b=none):=λb c=>by
 have a:b∈frs X.stack:=by rw[l.st];exact c
 refine⟨I.stkFree b a,?_⟩;rcases M9.mp (I.stkSub b a) with z | z
 ·rw[z];exact .inr (Heap.get?_none_of_le I.ok.above)
 ·exact .inl z
theorem jln(l:Lv X E):xl (CXr X.prog X.w) X E:=by
 intro p σ H s e r I h;obtain⟨a,C,dx,T,B,rfl,os,bare,un,hok,D,t,d,u,i,q⟩:=h;have m:=I.call' (ch:=[]) os un hok bare (λb z=>absurd z (by simp));have v:=jbk m l;have sz:X.s₀.heap.objs.size<=s.heap.objs.size:=I.sz;obtain⟨J,F⟩:=u.atT;have lt:T < r.heap.objs.size:=N5 F;have n:X.s₀.heap.objs.size<=r.heap.objs.size:=U0 (U0 sz t) (Nat.le_of_lt lt);refine l.xe _ _ (jaq (base:=X.base) (by rw[I.ok.frames,l.st]) (by rw[<- l.st];exact m.stack) l.fr u λK G k f j=>?_);have x:=m.base;rw[l.ex] at x;have y:∀ b∈[a,T],X.s₀.heap.get? b=none:=λb c=>by
  rcases M9.mp c with z | z
  ·rw[z];exact Heap.get?_none_of_le (U0 sz d)
  ·rw[N2.mp z];exact Heap.get?_none_of_le (U0 sz t)
 have A:=jeD (ψ:=QD.xo C a dx) x i (y a (by simp)) k (λb c=>(v b c).2) y j.at
 have g:=uf (ψ:=QD.xo C a dx) hok i k (λb c=>(v b c).1) (λb c ne=>by
  rcases M9.mp c with z | z
  ·exact absurd z ne
  ·rw[N2.mp z];exact D) (let ⟨o,he⟩:=j.at;Qt he j.xo (jgh C a dx))
 rw[jcw i] at A g;exact⟨a,C,dx,G,B,rfl,os.trans I.os,bare,A,g,hok.fresh f,U0 n f,U0 sz d,j,i,q⟩
theorem jhX{e C dx:Addr}(l:Lv X E)(I:L2.Inv X pins σ H s)(d:H e=some (.ext (x1 C e dx)))(h:X.s₀.heap.objs.size<=e)(q:E (.ref e) none (upd H e (.ext (xo C e dx)))):X.xe (.ref e) s:=by
 obtain⟨⟨r,i⟩,_⟩:=I.hok e _ d;have j:=jbk I l;refine l.xe _ _ (ul (base:=X.base) (vs:=#[.ref r,.none,.none,.none,.bool false,.none]) (by rw[I.ok.frames,l.st]) (by rw[<- l.st];exact I.stack) l.fr i rfl rfl λt T k a m=>?_);have n:=I.base;rw[l.ex] at n;have f:Fly e (.ref C) (some dx) T .none t:=m;have p:∀ b∈[e],X.s₀.heap.get? b=none:=λb c=>by rw[N2.mp c];exact Heap.get?_none_of_le h
 have u:=jeD (ψ:=QD.xo C e dx) n d (p e (by simp)) k (λb c=>(j b c).2) p m.at
 have g:=uf (ψ:=QD.xo C e dx) I.hok d k (λb c=>(j b c).1) (λb c ne=>absurd (N2.mp c) ne) (let ⟨o,d⟩:=f.at;Qt d f.xo (jgh C e dx));have ne:T≠e:=λz=>absurd (N5 i) (Nat.not_lt.mpr (z▸a));exact⟨e,C,dx,T,_,rfl,I.os,I.bare,u,g,by rw[jo ne];exact I.hok.fresh a,U0 I.sz a,h,f,jA,q⟩
end
theorem Qx{prog:Program}{w:World}{A:Around}{E:Value->Shared->Prop}{s:Shared}{env:Env}{K:PySem.W.Frag}{x:Sem Value}{Q:Flow->Shared->Prop}(f:A.handled=none)
  (h:wpAny (model prog w) A x (λv s1=>∃ e C dx t0,v=.ref e/\K.In s1.heap/\zX K C=true/\s1.heap.get? e=some { wH C t0 with dict:=some dx }/\E (.ref e) s1) E s):wpAny (model prog w) A (raiseStmt env (some x) none) Q E s:=by
 unfold raiseStmt;refine L5 (wpAny_mono h (λv s1 i=>?_) λ_ _ x=>x);obtain⟨e,C,dx,t0,rfl,X,j,b,k⟩:=i;unfold wH at b;obtain⟨n,g,d,o,os⟩:=s1;obtain⟨nm,p,N,bs,l,q,sub,r,m,dd,t,u,y,z,B,c,T⟩:=KK X j;have a:(Value.ref C::l).contains (.type "BaseException")=true:=by rw[List.contains_cons,yK T];rfl
 repeat (first | with_reducible refine wpAny_loadPart_at b ?_ | with_reducible refine wpAny_loadPart_at c ?_ | (with_reducible refine wpAny_isSubtype_exc c ?_;rw[a]) | wp_step)
 exact wpAny_raiseNew_none f k
structure XR(K:PySem.W.Frag)(C f:Addr):Prop extends XC K C where
 init:PySem.W.findIn K (.ref C) "__init__" = some (some (.ref f))
 fn:PySem.W.isFn K (.ref f)=true
 pl:QC K C "place"
 kp:PySem.W.keepIn K (.ref C)=true
section
variable {X:Cx}{pins:List (Addr×Obj)}{σ:L2.St}{H:Hp}{s:Shared}{k:Nat}{f C:Addr}{fd:FuncData}
theorem ja7{u p:V}{us:List Value}(c:XR X.K C f)(F:FnOk X.prog X.w X.K X.mg X.base CX0 k f fd ["self","words","place"] (xQ X.K))(G:Room (k+1) X.A)(J:Binds X.K fd ["self","words","place"] [])(I:L2.Inv X pins σ H s)(r:Vals [u,p] us){E:Value->Shared->Prop} :
  wpAny (model X.prog X.w) X.A (call (.ref C) us) (λv s'=>∃ e dx,v=.ref e/\s.heap.objs.size<=e/\H e=none/\H dx=none/\dx≠e/\L2.Inv X pins σ (upd (upd H dx (.xd [("place",p)])) e (.ext (x1 C e dx))) s') E s:=by
 have q:=r.length;obtain⟨R,g,d,t,os⟩:=s;refine jc8 I.kIn c.cls c.init c.fn (λl e m x=>?_) (by rw[<- q];exact(by decide:2<=sizeLine));obtain⟨y,L,_,_⟩:=x.there;have h:l.get? e=some (wH C y):=L;have M:H e=none:=I.hok.fresh m;have n:=I.laid (a:=e) (o:=.ext (x0 C e)) (h':=l) (t':=t) x.keeps m (Qt h ⟨y,h⟩ (jjh C e));have N:Vals (V.ref e::[u,p]) (Value.ref e::us):=.cons rfl r;have i:(Value.ref e::us++[]).length=["self","words","place"].length:=by
  rw[N4,M7,<- q];rfl
 refine wpAny_call (codeAny_mono (F.run _ X.stack _ _ ⟨Value.ref e::us,[]⟩ (Value.ref e::us++[]) [V.ref e,u,p] (λv B=>v=.non/\∃ dx,upd H e (.ext (x0 C e)) dx=none/\B=upd (upd (upd H e (.ext (x0 C e))) dx (.xd [("place",p)])) e (.ext (x1 C e dx))) E0 (G.make C us [])
  (n.env0.make C us []) (J _ (Value.ref e::us) n.kIn i) (by rw[N4];exact N) ⟨e,u,p,C,rfl,jA,c.toXC,c.pl,λdx hd=>⟨rfl,dx,hd,rfl⟩⟩) λr s' j=>?_)
 cases r with
 | error e=>exact False.elim j
 | ok O =>
  cases O with
  | ret S =>
   obtain⟨v,B,D,P,rfl,dx,hd,rfl⟩:=n.after j;have ne:dx≠e:=λz=>by rw[z,jA] at hd;cases hd
   refine⟨P,e,dx,rfl,m,M,by rw[jo ne] at hd;exact hd,ne,?_⟩;have Q:upd (upd (upd H e (.ext (x0 C e))) dx (.xd [("place",p)])) e (.ext (x1 C e dx))=upd (upd H dx (.xd [("place",p)])) e (.ext (x1 C e dx)):=by
    funext b
    unfold upd;by_cases z:b=e
    ·rw[if_pos z,if_pos z]
    ·rw[if_neg z,if_neg z,if_neg z]
   rw[Q] at D;exact D
  | next=>exact False.elim j
  | brk=>exact False.elim j
  | cont=>exact False.elim j
variable {E:XK}{x:Str}{np cpos pos:Pos}{a1 a2:Expr}{t:TA}
noncomputable def jb9(C:Addr)(E:XK)(t:TA):TS:=λ_ σ H=>t σ H λvs H1=>∃ u p,vs=[u,p]/\∀ e dx,H1 e=none->H1 dx=none->dx≠e->E (.ref e) none (upd (upd H1 dx (.xd [("place",p)])) e (.ext (xo C e dx)))
theorem jdK(l:Lv X E)(c:XR X.K C f)(F:FnOk X.prog X.w X.K X.mg X.base CX0 k f fd ["self","words","place"] (xQ X.K))(z:Room (k+1) X.A)(B:Binds X.K fd ["self","words","place"] [])(G:X.mg x=some (.ref C))
  (J:PA X [a1,a2] t) (L:X.calm=true:=by rfl) (M:Gl X x:=by rfl) (d:(x==("__debug__" : Str))=false:=by decide) (N:starEach [a1,a2] X.env=(false,eval a1 X.env)::starEach [a2] X.env:=by rfl) (g:(backTo cpos (starEach [a2] X.env)).any (·.1)=false:=by rfl) :
  PS X (.Raise (some (.Call (.Name x np) [a1,a2] [] cpos)) none pos) (jb9 C E t):=by
 intro a s σ H D I h;rw[arm_exec_Raise];have go:wpAny (model X.prog X.w) X.A (eval (.Call (.Name x np) [a1,a2] [] cpos) X.env) (λv b=>∃ e C dx i,v=.ref e/\X.K.In b.heap/\zX X.K C=true/\b.heap.get? e=some { wH C i with dict:=some dx }/\X.xe (.ref e) b) X.xe s:=by
  refine wpAny_Call_Name_kw (qr I M G ?_ d);refine PySem.W.callWith_K (h₀:=X.base) I.ok.mod.kin c.kp (thn (J cpos a s σ H _ I h) λT b ⟨U,V,j,r,u,p,m,q⟩=>⟨j.kIn,?_⟩) N g;subst m;refine thn (ja7 c F z B j r) λv Y ⟨e,dx,m,O,P,Q,ne,n⟩=>?_;subst m;obtain⟨⟨i,R⟩,_⟩:=n.hok e _ jA;refine⟨e,C,dx,i,rfl,n.kIn,c.cls,R,jhX l n jA (U0 j.sz O) ?_⟩;rw[jgn];exact q e dx P Q ne
 have y:=I.ok.hd L
 first
  | exact L5 (wpAny_standAt (Qx y (L5 (wpAny_mono go (λv S o=>L5 (wpAny_standAt (N1 o))) λ_ _ x=>x))))
  | (simp only[evalOpt,Option.map];exact L5 (wpAny_standAt (Qx y (L5 (wpAny_mono go (λv S o=>L5 (wpAny_standAt (N1 o))) λ_ _ x=>x)))))
end
noncomputable abbrev inX(X:Cx)(e:Value):Cx:={ X with A:=X.A.mark (some e),calm:=false,xe:=λ_ _=>False }
section
variable {X:Cx}{pins:List (Addr×Obj)}{σ:L2.St}{H H1:Hp}{s s1:Shared}{e:Value}
theorem jey(I:L2.Inv X pins σ H s):L2.Inv (inX X e) pins σ H s :=
 ⟨⟨I.ok.mod,I.ok.kind,I.ok.glob,I.ok.blt,I.ok.above,I.ok.inj,I.ok.has,I.ok.cab,λz=>absurd (show false=true from z) (by decide),I.ok.frames,I.ok.stk,I.ok.exf,I.ok.bs,I.ok.bsz,I.ok.noex,I.ok.exfs,I.ok.funs,I.ok.frf⟩,
  I.os,I.bare,I.base,I.loc,I.cell,I.free,I.freeC,I.pin,I.hok,I.len⟩
theorem jgs(hd:X.calm=true->X.A.handled=none)(I:L2.Inv (inX X e) pins σ H s):L2.Inv X pins σ H s :=
 ⟨⟨I.ok.mod,I.ok.kind,I.ok.glob,I.ok.blt,I.ok.above,I.ok.inj,I.ok.has,I.ok.cab,hd,I.ok.frames,I.ok.stk,I.ok.exf,I.ok.bs,I.ok.bsz,I.ok.noex,I.ok.exfs,I.ok.funs,I.ok.frf⟩,
  I.os,I.bare,I.base,I.loc,I.cell,I.free,I.freeC,I.pin,I.hok,I.len⟩
theorem ud{a C dx T:Addr}{h':Heap}(e:L2.Inv X pins σ H1 s1)(I:L2.Inv X pins σ H s)(h:H a=some (.ext (QD.xo C a dx)))(k:Kp (frs X.stack) [a,T] s.heap h')(m:H T=none)(f:s1.heap.objs.size<=T)(t:s1.heap.objs.size<=a)(x:QD.xo C a dx h') :
  L2.Inv X pins σ H { s with heap:=h' }:=by
 have at_:∃ o,h'.get? a=some o:=let ⟨o,_,q,_⟩:=x;⟨o,q⟩
 have i:HOk X.prog X.w H h':=by
  have:=uf (ψ:=QD.xo C a dx) I.hok h k (λb d=>I.stkFree b d) (λb d ne=>by
   rcases M9.mp d with z | z
   ·exact absurd z ne
   ·rw[N2.mp z];exact m) (let ⟨o,he⟩:=at_;Qt he x (jgh C a dx))
  rwa [jcw h] at this
 have u:∀ b,H b=none->b≠a:=λb n z=>by rw[z,h] at n;cases n
 refine I.call' (s':={ s with heap:=h' }) (ch:=[T]) rfl ⟨λb o q n d g=>?_,λb o q n d g=>?_,λb o q n _=>n,λb o q g=>?_,λ_ _ q=>q,λ_ _ _ q=>q,λ_ D q=>⟨#[],by rw[q];simp⟩⟩ i I.bare λb d=>?_
 ·exact k.keep b o q d λz=>by
   rcases M9.mp z with z | z
   ·exact u b n z
   ·exact g z
 ·exact k.slot b o q d
 ·by_cases j:b∈frs X.stack
  ·obtain⟨E,r⟩:=k.slot b o q j;exact⟨_,r⟩
  ·by_cases l:b=a
   ·rw[l];exact at_
   ·exact⟨o,k.keep b o q j λz=>by
     rcases M9.mp z with z | z
     ·exact l z
     ·exact g z⟩
 ·rw[N2.mp d];refine⟨.inr (U0 e.sz f),Nat.ne_of_gt (U7 e.lt f),λy c q=>?_,λp A=>?_⟩
  ·obtain⟨v,o,B,_⟩:=e.cell y c q;exact N9 (U7 (N5 B) f)
  ·exact N9 (U7 (N5 (e.pin p A).1) f)
theorem jgP{M:Model}{A:Around}{E:Value->Shared->Prop}{j:Nat}{n:Str}{pos:Pos}{Q:Unit->Shared->Prop}(I:L2.Inv X pins σ H s)(L:X.N.Nodup)(O:X.N[j]?=some n)(P:X.env.scope.names.lookup n=some .local)
  (h:∀ s',L2.Inv X pins (σ.set j none) H s'->Q () s'):wpAny M A (do bindName X.env n .none;unbindBehindTheSuite X.env n pos) Q E s:=by
 obtain⟨m,J,R⟩:=id I.loc;have d:(X.env.scope.kind==.class||(X.env.scope.kind==.module&&X.env.locals != X.env.globals))=false:=by rw[I.ok.kind];rfl
 obtain⟨oL,_,_,S,_⟩:=id J;refine wpAny_nameGoes_keeps P J d λT v x a=>h _ ?_;have B:∀ b o,X.s₀.heap.get? b=some o->b≠X.env.locals:=λb o z=>N9 (U7 (N5 z) I.ok.above);have C:HOk X.prog X.w H T:=λb U q=>(I.hok b U q).stay (λc w' d V=>(a.2 c (by
  rintro rfl;rcases d with rfl | d
  ·rw[I.free] at q;cases q
  ·rw[I.free] at d;cases d)).trans V) (λ_ q=>q) λ_ _ q=>q
 refine⟨I.ok,I.os,I.bare,⟨λb o z D F f=>(a.2 b (B b o z)).trans (I.base.keep b o z D F f),λb o z D F f=>?_,I.base.free,λb o z f=>?_,I.base.tups,I.base.frzs,I.base.tbls⟩,⟨_,x,λi y W K l Y=>?_⟩,λy c q=>?_,I.free,I.freeC,λp Z=>?_,C,by simpa using I.len⟩
 ·obtain⟨sl,r⟩:=I.base.slot b o z D F f;exact⟨sl,(a.2 b (B b o z)).trans r⟩
 ·obtain⟨o',r⟩:=I.base.there b o z f;exact⟨o',(a.2 b (B b o z)).trans r⟩
 ·have ne:i≠j:=λz=>by
   rw[z,List.getElem?_set] at l;simp at l
  rw[List.getElem?_set,if_neg (Ne.symm ne)] at l;have ny:y≠n:=λz=>ne (zc L K (z▸O));obtain⟨u,r,lk⟩:=R i y W K l Y;refine⟨u,r,?_⟩;rcases lk with⟨g,e⟩ | ⟨g,c,e,t⟩
  ·exact .inl ⟨g,(if_neg ny).trans e⟩
  ·refine .inr ⟨g,c,e,?_⟩;obtain⟨o,k,G⟩:=t;exact⟨o,(a.2 c (I.cne y c e)).trans k,G⟩
 ·obtain⟨v,o,k,G⟩:=I.cell y c q;exact⟨v,o,(a.2 c (I.cne y c q)).trans k,G⟩
 ·obtain⟨g,e,t,k⟩:=I.pin p Z;exact⟨(a.2 p.1 t).trans g,e,t,k⟩
variable {k:Nat}{f:Addr}{fd:FuncData}{ps:List Str}{sp:Sp}{x n z D:Str}{p pos pos' cpos np hp ap vp nn:Pos}{es:List Expr}{a1:Expr}{t:TA}{CD:Addr}{i j:Nat}
end
def NewX(R:RC)(H:Hp)(Z':Zn)(H':Hp)(c:Nat)(p:Int)(a:Addr):Prop:=∃ dx,H a=none/\H dx=none/\Z' a/\Z' dx/\H' a=some (.ext (QD.xo (R.cls c) a dx))/\H' dx=some (.xd [("place",.int p)])
noncomputable abbrev FX:=Rh->Option (Nat×Int)
noncomputable def spR(R:RC)(m:List D->Option (Nat×Int))(n:Nat):Sp:=λvs H _ E=>∃ Z ds c p,Zd Z H/\ds.length=n/\Reps R Z H ds vs []/\m ds=some (c,p)/\∀{a:Addr}{Z':Zn}{H':Hp},Go Z H [] Z' H' []->NewX R H Z' H' c p a->E (.ref a) none H'
def DX(R:RC)(E:XK)(ts:TS)(x:FX):Prop:=∀{σ:L2.St}{ρ:Rh}{Z:Zn}{H:Hp}{O:List Addr}{c:Nat}{p:Int},WF Z H O->Slots R Z H ρ σ O->x ρ=some (c,p) ->
 (∀{a:Addr}{Z':Zn}{H':Hp},Go Z H O Z' H' []->NewX R H Z' H' c p a->E (.ref a) none H')->∀ D':Ends,ts D' σ H
section
variable {R:RC}{Z Z' Z'':Zn}{H H' H'':Hp}{O O':List Addr}{c:Nat}{p:Int}{a:Addr}{E:XK}{pm:List Nat}{ts tu:TS}
theorem NewX.back(g:Go Z H O Z' H' O')(n:NewX R H' Z'' H'' c p a):NewX R H Z'' H'' c p a:=by
 obtain⟨dx,b,d,r⟩:=n;exact⟨dx,Classical.byContradiction λz=>g.dm a z b,Classical.byContradiction λz=>g.dm dx z d,r⟩
theorem NewX.rep(n:NewX R H Z' H' c p a):Rep R Z' H' (.exc c p) (.ref a) []:=by
 obtain⟨dx,_,_,b,d,e,f⟩:=n;rw[Rep];exact⟨a,dx,rfl,b,d,e,f,rfl⟩
theorem jgi{m:List D->Option (Nat×Int)}{n:Nat}{vs:List V}{Q:VK}(h:spR R m n vs H Q E):vs.length=n:=by
 obtain⟨Z,b,_,_,z,a,r,_⟩:=h;rw[r.length,a]
noncomputable def fnR(n:Nat)(x:FX):List D->Option (Nat×Int):=λds=>x (ds.map some++List.replicate (n - ds.length) none)
theorem jgl{N:List Str}{x:FX}{vs:List V}{Q:VK}{n:Nat}(b:DX R E ts x)(h:spR R (fnR N.length x) n vs H Q E)(D':Ends):ts D' (L2.start N vs) H:=by
 obtain⟨Z,a,c,p,z,d,r,e,k⟩:=h;have s:Slots R Z H (a.map some++List.replicate (N.length - a.length) none) (L2.start N vs) []:=by
  have q:=VE r (VN (R:=R) (Z:=Z) (H:=H) (N.length - a.length));unfold L2.start;rw[r.length];exact q
 exact b (wf0 z) s e (λg n=>k g n) D'
noncomputable def xN:FX:=λ_=>none
theorem jca:DX R E ts xN:=λ_ _ e=>nomatch e
noncomputable def V2(c:Nat)(pr:PAf):FX:=λρ=>match pr ρ with
 | some [_,.int p]=>some (c,p)
 | _=>none
theorem jef{t:TA}{pr:PAf}(h:PPs R t pr):DX R E (jb9 (R.cls c) E t) (V2 c pr):=by
 intro σ ρ Z H O C p w s e k D;unfold V2 at e;split at e
 ·rename_i F G q;cases e;refine h w.zd s q λ{I r b J} u f=>?_;rw[Reps] at f;obtain⟨v,x,O1,O2,rfl,rfl,K,g⟩:=f;rw[Reps] at g;obtain⟨L,i,O3,M,rfl,rfl,y,j⟩:=g;rw[Reps] at j;obtain⟨rfl,rfl⟩:=j;obtain⟨rfl,rfl⟩:=y.int_of;refine⟨v,_,rfl,λe dx l m ne=>?_⟩;have d:=(u.widen w);have n:=d.trans (Go.newF (o:=.xd [("place",.int p)]) d.wf m);have z:upd b dx (.xd [("place",.int p)]) e=none:=by rw[jo (Ne.symm ne)];exact l
  have A:=n.trans (Go.newF (o:=.ext (QD.xo (R.cls c) e dx)) n.wf z);have B:NewX R b (λa=>(r a \/ a=dx) \/ a=e) (upd (upd b dx (.xd [("place",.int p)])) e (.ext (QD.xo (R.cls c) e dx))) c p e :=
   ⟨dx,l,m,.inr rfl,.inl (.inr rfl),jA,by rw[jo ne,jA]⟩
  exact k A.to0 (B.back d)
 ·cases e
noncomputable def Qa(x1:FX)(f:FS)(x2:FX):FX:=λρ=>match x1 ρ with
 | some r=>some r
 | none=>match f ρ with
  | some (.nx ρ1)=>x2 ρ1
  | _=>none
theorem jiz{x1 b:FX}{f:FS}(h1:DX R E ts x1)(d:DS R pm ts f)(h2:DX R E tu b):DX R E (jhw ts tu) (Qa x1 f b):=by
 intro σ ρ Z H O c p w s e k g;unfold Qa at e;split at e
 ·rename_i r h;cases e;exact h1 w s h k _
 ·split at e
  ·rename_i m i;refine d w s i λ{o q t O1} a j _=>?_;exact h2 a.wf j e (λl n=>k (a.trans l) (n.back a)) g
  ·cases e
noncomputable def xIf(q:PTf)(xa xb:FX):FX:=λρ=>match q ρ with
 | none=>none
 | some b=>bif b then xa ρ else xb ρ
theorem jkP{tc:TT}{q:PTf}{f h:FX}(j:PTt R tc q)(l:DX R E ts f)(m:DX R E tu h):DX R E (jiL tc ts tu) (xIf q f h):=by
 intro σ ρ Z H O c p w s e k i;unfold xIf at e;cases e1:q ρ with
 | none=>rw[e1] at e;cases e
 | some b =>
  rw[e1] at e;refine j w.zd s e1 λ{o r} d=>?_;have a:Go Z H O o r O:=by simpa using d.widen w
  cases b with
  | true=>exact jeL (l a.wf (d.slots w.zd s) e (λg n=>k (a.trans g) (n.back a)) i)
  | false=>exact jev (m a.wf (d.slots w.zd s) e (λg n=>k (a.trans g) (n.back a)) i)
noncomputable def KY(g:D->Rh->Option Rh)(f:FS)(x:FX):List D->FX
 | [],_=>none
 | d::l,ρ=>match g d ρ with
  | none=>none
  | some ρ1=>match x ρ1 with
   | some r=>some r
   | none=>match f ρ1 with
    | some (.nx ρ2)=>KY g f x l ρ2
    | some (.ct ρ2)=>KY g f x l ρ2
    | _=>none
noncomputable def jhr(p:PAf)(g:D->Rh->Option Rh)(f:FS)(x:FX):FX:=λρ=>match p ρ with
 | none=>none
 | some xs=>KY g f x xs ρ
theorem jin{wi:TI}{tg:TG}{tb:TS}{N:PAf}{g:D->Rh->Option Rh}{f:FS}{x:FX}(hi:PIt R wi N)(hg:PGt R pm tg g)(hf:DS R pm tb f)(hx:DX R E tb x):DX R E (jjb wi tg tb) (jhr N g f x):=by
 intro σ ρ Z H O c p w s e k D';unfold jhr at e;cases e1:N ρ with
 | none=>rw[e1] at e;cases e
 | some h =>
  rw[e1] at e;dsimp only at e;refine hi w.zd s e1 λ{J y L} V it=>?_;have l:Go Z H O y L O:=by simpa using V.widen w
  refine⟨λi m W A=>m=h.length - i/\i<=h.length/\∃ M B C,Go y L O B A C/\Slots R B A M W C/\KY g f x (h.drop i) M=some (c,p),
   ⟨h.length,rfl,U8 _,ρ,y,O,Go.refl l.wf,V.slots w.zd s,e⟩,?_⟩
  rintro i m W A ⟨rfl,hi',M,B,C,t,s1,b⟩;have P:=it (Z1:=B) (H1:=A) t.zz (λa z=>t.zH l.wf a z) t.wf.zd i;by_cases F:i < h.length
  ·right
   have G:h[i]?=some h[i]:=by simp[F]
   obtain⟨go,yl⟩:=P.2 _ G;rw[Vl G] at b;unfold KY at b;cases e3:g h[i] M with
   | none=>rw[e3] at b;cases b
   | some X =>
    rw[e3] at b;dsimp only at b;refine⟨go,λY o=>∃ j q O2,Go y L O q o O2/\Slots R q o j Y O2/\KY g f x (h.drop (i+1)) j=some (c,p),λY o ⟨j,q,O2,a1,a2,a4⟩=>⟨h.length - (i+1),by omega,rfl,F,j,q,O2,a1,a2,a4⟩,λu o hy=>?_⟩;obtain⟨q,g2,r2⟩:=yl u o hy;have I:Go B A C q o C:=by simpa using g2.widen t.wf
    refine hg r2 (g2.slots t.wf.zd s1) e3 λ{σ3 O3} sub nd s3 k3=>?_;have v:Go y L O q o O3:=(t.trans I).drop sub (nd I.wf.nd);cases e4:x X with
    | some r =>
     rw[e4] at b;cases b;exact hx v.wf s3 e4 (λK n=>k (l.trans (v.trans K)) (n.back (l.trans v))) _
    | none =>
     rw[e4] at b;dsimp only at b;cases e5:f X with
     | none=>rw[e5] at b;cases b
     | some o1 =>
      rw[e5] at b;refine hf v.wf s3 e5 ?_;cases o1 with
      | nx j=>exact λ{σ4 Q H4 S} K T k4=>⟨j,Q,S,v.trans K,T,b⟩
      | ct j=>exact λ{σ4 Q H4 S} K T k4=>⟨j,Q,S,v.trans K,T,b⟩
      | bk j=>cases b
      | rt d j=>cases b
  ·have U:i=h.length:=by omega
   rw[U,List.drop_length] at b;cases b
noncomputable def zh(m:List D->Option (Nat×Int))(pr:PAf):FX:=λρ=>match pr ρ with
 | none=>none
 | some ds=>m (fzs ds)
theorem je2{m:List D->Option (Nat×Int)}{n:Nat}{ds:List D}{vs:List V}{P:List Addr}{Q:VK}(w:WF Z H O)(r:Reps R Z H ds vs P)(j:ds.length=n)(e:m (fzs ds)=some (c,p))
  (k:∀{a:Addr}{Z':Zn}{H':Hp},Go Z H [] Z' H' []->NewX R H Z' H' c p a->E (.ref a) none H'):spR R m n (vs++[]) H Q E:=by
 have l:=w.zd;have o:Zd (λa=>Z a \/ a∈P) H:=λa h=>h.elim (l a) (r.dom a);refine⟨λa=>Z a \/ a∈P,fzs ds,c,p,o,by rw[ur];exact j,by rw[N4];exact r.freeze (λa z=>.inl z) λa z=>.inr z,e,λ{a Z' H'} d n=>?_⟩;have f:Go Z H [] (λa=>Z' a/\(a∉P \/ Z a)) H' []:=by
  refine⟨⟨d.wf.nd,λa h q=>d.wf.nz a h q.1,d.wf.od,λa q=>d.wf.zd a q.1⟩,λa z=>⟨d.zz a (.inl z),.inr z⟩,d.fr,λa z=>?_,d.sub,d.dm⟩;rcases d.zn a z.1 with q | q | q
  ·rcases q with q | q
   ·exact .inl q
   ·exact .inl (z.2.resolve_left λy=>y q)
  ·exact .inr (.inl q)
  ·exact .inr (.inr q)
 obtain⟨dx,g,i,s,t,u⟩:=n;refine k (Z':=λb=>Z' b/\(b∉P \/ Z b)) f ⟨dx,g,i,⟨s,.inl λy=>r.dom a y g⟩,⟨t,.inl λy=>r.dom dx y i⟩,u⟩
theorem jaA{m:List D->Option (Nat×Int)}{n:Nat}{t:TA}{pr:PAf}(h:PBs R t pr)(b:∀ ρ ds,pr ρ=some ds->ds.length=n):DX R E (jjr (Qf (spR R m n) [] E t)) (zh m pr):=by
 intro σ ρ Z H O c p w s e k l;unfold zh at e;cases e1:pr ρ with
 | none=>rw[e1] at e;cases e
 | some ds =>
  rw[e1] at e;refine h w.zd s e1 λ{o d f q} i j=>?_;have a:Go Z H O d f O:=by simpa using i.widen w
  exact je2 a.wf j (b ρ ds e1) e λg n=>k (a.trans (g.widen a.wf)).to0 (n.back a)
end
section
variable {P:Program}{w:World}{K:PySem.W.Frag}{mg:Str->Option Value}{base:Heap}{N ps:List Str}{k n:Nat}{fa:Addr}{fd:FuncData}{x qual:Str}{fst:Stmt}{cl:Nat->Addr}{xs:FX}
theorem jg3{b:Scope}{a:Value}{A:Around}{outer:List Env}{s:Shared}{H:Hp}{E:XK}:Lv (uT (CXr P w) P w K mg base N qual b fa a A outer s H E) E :=
 ⟨rfl,rfl,rfl,λe c h=>wpAny_mono h (λ_ _ z=>z) λ_ _ z=>False.elim z⟩
theorem jiA(F:Fun K x qual fst fa fd)(d:FnScope N ps (jj fst))(e:ps.length=n)
  (a:∀(cdv:Value) (A:Around) (outer:List Env) (s:Shared) (H:Hp) (E:XK),Room k (A.deeper (envOfC qual (jj fst) s.heap.objs.size fa cdv)) ->
   ∃ ts,PSs (uT (CXr P w) P w K mg base N qual (jj fst) fa cdv A outer s H E) (y9 fst) ts/\DX ⟨K,cl⟩ E ts xs):FnOk P w K mg base (CXr P w) (k+1) fa fd ps (spR ⟨K,cl⟩ (fnR N.length xs) n):=by
 obtain⟨m,od,kV,f,o,p,cdv,ct,g,rfl,i,b⟩:=F.ex;refine jjJ i b d (λj H Q E h=>by rw[jgi h,e]) λA outer s H j Q E l c=>?_;obtain⟨t,h,q⟩:=a cdv A outer s H E l;exact⟨t,h,jgl q c _⟩
end
section
variable {X:Cx}{pins:List (Addr×Obj)}{σ:L2.St}{H:Hp}{s:Shared}
theorem jcn{a C dx:Addr}{fs:List (Str×V)}(I:L2.Inv X pins σ H s)(h1:H a=some (.ext (QD.xo C a dx)))(h2:H dx=some (.xd fs)):∃(ox od:Obj) (mA:Str->Option Value),PySem.W.InstAt s.heap a ox C (some od)/\(∀ name,PySem.W.lookIn name od=some (mA name))/\∀ f,RelO (fs.lookup f) (mA f):=by
 obtain⟨⟨o,i,b,c,d,e⟩,_⟩:=I.hok a _ h1;obtain⟨mA,ns,r⟩:=I.hok dx _ h2;obtain⟨od,g,h⟩:=jcv ns;refine⟨o,od,mA,⟨b,c,?_,?_⟩,h,r⟩
 ·unfold PySem.W.notCls;rw[e]
 ·rw[d];exact g
def jj4(K:PySem.W.Frag):List V->Hp->VK->Prop:=λvs H Q=>∃(a C dx:Addr) (fs:List (Str×V)) (u:V) (b:Bool),vs=[.ref a,u]/\H a=some (.ext (QD.xo C a dx))/\H dx=some (.xd fs)/\XC K C/\(∀ cv,RelV u cv->jcP K cv=true/\PySem.W.subIn K (.ref C) cv=some b)/\Q (.bl b) H
theorem u9:CallR X (.builtin "isinstance") (jj4 X.K):=by
 intro d s σ H o p Q I r q;obtain⟨a,C,dx,fs,u,b,rfl,e,f,c,g,q⟩:=q;cases r with
 | cons h i =>
  cases i with
  | cons j k =>
   cases k;obtain rfl:=h;obtain⟨t,od,v,J,_,_⟩:=jcn I e f;obtain⟨l,m⟩:=g _ j;exact xis I.kIn c J l m λn=>⟨.bl b,H,I.tok n,rfl,q⟩
noncomputable def jeW(K:PySem.W.Frag)(ta:TE):TE:=λσ H Q=>ta σ H λx H1=>∃(a C dx:Addr) (v:V),x=.ref a/\H1 a=some (.ext (QD.xo C a dx))/\H1 dx=some (.xd [("place",v)])/\XC K C/\QC K C "place"/\Q v H1
theorem jdO{e:Expr}{ta:TE}{pos:Pos}(j:PE X e ta)(k:attributeBase e "place" X.env (eval e X.env)=eval e X.env:=by rfl):PE X (.Attribute e "place" pos) (jeW X.K ta):=by
 intro b s σ H Q I h;refine jfg k (thn (j b s σ H _ I h) λD l ⟨x,m,f,o,a,C,dx,v,ex,p,w,c,n,q⟩=>?_);subst ex;obtain rfl:=o;obtain⟨E,od,y,J,z,r⟩:=jcn f p w;have A:RelO (some v) (y "place"):=by have:=r "place";simpa [List.lookup] using this
 obtain⟨u,B,i⟩:=RelO.some_of A;obtain⟨h,g,d,t,os⟩:=l;have hd:PySem.W.hasDictIn X.K C=true:=by
  have q:=c.cls;unfold zX at q;unfold PySem.W.hasDictIn PySem.W.clsIn;split at q
  ·rename_i e;split at q
   ·simp only[M6] at q;rw[e];exact q.1.1.2
   ·cases q
  ·cases q
 exact jlU f.kIn c.cls J c.ga c.gn (PySem.W.findObj_own hd n rfl (by rw[z,B])) (jbx i) ⟨v,m,f.tok _,i,q⟩
noncomputable def jlo(i n:Nat):TE:=λσ H Q=>∃ l:List Nat,σ[i]?=some (some (.str (S l)))/\l.length<=n/\(∀ c∈l,c < 16 ^ 8)/\∀ y,Q (.str y) H
theorem jjN{i:Nat}{x a b:Str}{j1 j2 p1 p2 p3 p4 pos}(j:X.N[i]?=some x:=by rfl)(k:Vis X.env.scope x:=by first | exact Or.inl rfl | exact Or.inr (Or.inl rfl))(A:a.length<=1000:=by decide +kernel)(B:b.length<=1000:=by decide +kernel)(hd:(x==("__debug__" : Str))=false:=by decide)(d:(x==("__classdict__" : Str))=false:=by decide) :
  PE X (.JoinedStr [.Constant (.str a) j1 p1,.FormattedValue (.Name x p2) 114 none p3,.Constant (.str b) j2 p4] pos) (jlo i 1000):=by
 intro c s σ H Q I h;obtain⟨l,m,C,n,q⟩:=h;have D:sizeLine=16777216:=by decide
 have g:(reprText (S l)).length<=10002:=by
  refine U0 (PySem.StrLaws.reprText_len (S l) (by simpa [S] using n)) ?_;have:(S l).length=l.length:=qE ..;omega
 have o:(Str.empty:Str).length=0:=rfl;refine wpAny_JoinedStr ?_;refine Calls.Constant_str ⟨a,_,rfl,by rw[strLen_append];omega,?_⟩;refine wpAny_FormattedValue_repr (thn (wb (X:=X) (i:=i) (pos:=p2) j k hd d c _ σ H (λv e=>v=.str (S l)/\e=H) (I.tok _) ⟨_,m,rfl,rfl⟩) λu E ⟨v,e,p,r,f,w⟩=>?_);subst f w;obtain⟨t,rfl⟩:=r;refine pyReprObj_str ?_ (by omega);refine formatField_str (λy z=>⟨_,y,rfl,by rw[strLen_append,strLen_append];omega,?_⟩) (by omega);refine Calls.Constant_str ⟨b,_,rfl,by rw[strLen_append,strLen_append,strLen_append];omega,?_⟩;refine⟨by rw[strLen_append,strLen_append,strLen_append];omega,?_⟩;exact⟨.str _,e,p.tok (z+1+1),⟨_,rfl⟩,q _⟩
end
section
variable {cl:Nat->Addr}{X:Cx}{e:Expr}{te:TE}{pe:PF}{pos p q:Pos}{K:PySem.W.Frag}
noncomputable def jac(l:List Bool)(pa:PF):PF:=λρ=>match pa ρ with
 | some (.exc c _)=>(l[c]?).map .bl
 | _=>none
theorem jeR{R:RC}{u:V}{ta:TE}{pa:PF}{l:List Bool}(h:PB R ta pa)(g:∀ c b,l[c]?=some b->XC R.K (R.cls c)/\∀ cv,RelV u cv->jcP R.K cv=true/\PySem.W.subIn R.K (.ref (R.cls c)) cv=some b) :
  PP R (tCB (jj4 R.K) (vd ta (vd (tC u) K9))) (jac l pa):=by
 intro σ ρ Z H O d z s e Q k;unfold jac at e;split at e
 ·rename_i c n i;obtain⟨b,j,rfl⟩:=Option.map_eq_some_iff.mp e;obtain⟨m,o⟩:=g c b j;refine h z s i λ{v t w x} p f=>?_;rw[Rep] at f;obtain⟨a,dx,rfl,y,A,q,r,_⟩:=f;exact⟨a,R.cls c,dx,_,u,b,rfl,q,r,m,o,k p .bl_mk⟩
 ·cases e
def V6(K:PySem.W.Frag)(cl:Nat->Addr)(u:V)(l:List Bool):Prop:=∀ c b,l[c]?=some b->XC K (cl c)/\∀ cv,RelV u cv->jcP K cv=true/\PySem.W.subIn K (.ref (cl c)) cv=some b
theorem xg{x:Str}{D:Addr}{l:List Bool}(g:X.mg "isinstance" = none)(i:X.mg x=some (.ref D))(j:V6 X.K cl (.ref D) l)(h:QB cl X e te pe)(k:Gl X "isinstance":=by rfl)(a:Gl X x:=by rfl)(b:(x==("__debug__" : Str))=false:=by decide)
  (f:starEach [e,.Name x q] X.env=(false,eval e X.env)::starEach [.Name x q] X.env:=by rfl) (c:starEach [.Name x q] X.env=(false,eval (.Name x q) X.env)::starEach [] X.env:=by rfl) (d:(backTo pos (starEach [.Name x q] X.env)).any (·.1)=false:=by rfl) :
  QP cl X (.Call (.Name "isinstance" p) [e,.Name x q] [] pos) (tCB (jj4 X.K) (vd te (vd (tC (.ref D)) K9))) (jac l pe) :=
 ⟨Ki u9 k g (by decide +kernel) (yS h.sem (yS (ze a i rfl b) Yc c) f) (by decide) (by decide) f d,jeR h.den j⟩
theorem jij{x:Str}{T:String}{l:List Bool}(i:X.mg "isinstance" = none)(j:X.mg x=none)(k:bootBuiltins x=some (.type T))(m:V6 X.K cl (.ty T) l)(h:QB cl X e te pe)(n:Gl X "isinstance":=by rfl)(a:Gl X x:=by rfl)(b:x≠"__name__":=by decide)(c:(x==("__debug__" : Str))=false:=by decide)
  (g:starEach [e,.Name x q] X.env=(false,eval e X.env)::starEach [.Name x q] X.env:=by rfl) (d:starEach [.Name x q] X.env=(false,eval (.Name x q) X.env)::starEach [] X.env:=by rfl) (f:(backTo pos (starEach [.Name x q] X.env)).any (·.1)=false:=by rfl) :
  QP cl X (.Call (.Name "isinstance" p) [e,.Name x q] [] pos) (tCB (jj4 X.K) (vd te (vd (tC (.ty T)) K9))) (jac l pe) :=
 ⟨Ki u9 n i (by decide +kernel) (yS h.sem (yS (jb4 a j k rfl b c) Yc d) g) (by decide) (by decide) g f,jeR h.den m⟩
noncomputable def QF(n:Nat)(pa:PF):PF:=λρ=>match pa ρ with
 | some (.exc c i)=>bif decide (c < n) then some (.int i) else none
 | _=>none
theorem wO{n:Nat}(f:∀ c,c < n->XC X.K (cl c)/\QC X.K (cl c) "place")(h:QB cl X e te pe)(g:attributeBase e "place" X.env (eval e X.env)=eval e X.env:=by rfl):QP cl X (.Attribute e "place" pos) (jeW X.K te) (QF n pe):=by
 refine⟨jdO h.sem g,?_⟩;intro σ ρ Z H O d z s e Q k;unfold QF at e;split at e
 ·rename_i c i j;cases hn:decide (c < n) with
  | false=>rw[hn] at e;cases e
  | true =>
   rw[hn] at e;cases e;obtain⟨l,m⟩:=f c (X5 hn);refine h.den z s j λ{v r t u} o b=>?_;rw[Rep] at b;obtain⟨a,dx,rfl,w,x,p,q,_⟩:=b;exact⟨a,cl c,dx,_,rfl,p,q,l,m,k o .int_mk⟩
 ·cases e
noncomputable def jj7(i:Nat):PF:=λρ=>match ρ[i]? with
 | some (some (.str l))=>bif decide (l.length<=1000)&&l.all (λc=>decide (c < 1000)) then some .dead else none
 | _=>none
theorem jld{i:Nat}{x a b:Str}{j1 j2 p1 p2 p3 p4}(h:X.N[i]?=some x:=by rfl)(j:Vis X.env.scope x:=by first | exact Or.inl rfl | exact Or.inr (Or.inl rfl))(m:a.length<=1000:=by decide +kernel)(n:b.length<=1000:=by decide +kernel)(hd:(x==("__debug__" : Str))=false:=by decide)(f:(x==("__classdict__" : Str))=false:=by decide) :
  QP cl X (.JoinedStr [.Constant (.str a) j1 p1,.FormattedValue (.Name x p2) 114 none p3,.Constant (.str b) j2 p4] pos) (jlo i 1000) (jj7 i):=by
 refine⟨jjN h j m n hd f,?_⟩;intro σ ρ Z H O d z s e Q k;unfold jj7 at e;split at e
 ·rename_i l g;cases hn:(decide (l.length<=1000)&&l.all λc=>decide (c < 1000)) with
  | false=>rw[hn] at e;cases e
  | true =>
   rw[hn] at e;cases e;rw[M6] at hn;obtain⟨A,P,B,rfl,o,_⟩:=s.put (M5.mp g).1;obtain⟨v,p,r⟩:=o _ g;obtain⟨rfl,_⟩:=r.str_of;refine⟨l,p,X5 hn.1,λc q=>Nat.lt_trans (X5 (List.all_eq_true.mp hn.2 c q)) (by decide),λy=>k (P:=[]) (Go.id z) (by rw[Rep])⟩
 ·cases e
end
section
variable {R:RC}{Z:Zn}{H:Hp}
theorem VP:∀{ρ:Rh}{σ:L2.St}{O:List Addr}{j:Nat}{y:Option V},Slots R Z H ρ σ O->ρ[j]?=some none->Slots R Z H ρ (σ.set j y) O
 | [],_,_,_,_,_,e=>by simp at e
 | none::ρ,_,_,0,y,h,_=>by
  obtain⟨s,a,rfl,r⟩:=h;exact⟨y,a,rfl,r⟩
 | some d::ρ,_,_,0,_,_,e=>by simp at e
 | none::ρ,_,_,j+1,y,h,e=>by
  obtain⟨s,a,rfl,r⟩:=h;exact⟨s,_,rfl,VP r (by simpa using e)⟩
 | some d::ρ,_,_,j+1,y,h,e=>by
  obtain⟨v,a,O1,O2,rfl,rfl,b,c⟩:=h;exact⟨v,_,O1,O2,rfl,rfl,b,VP c (by simpa using e)⟩
variable {cl:Nat->Addr}{X:Cx}{k n nc i j:Nat}{f CD:Addr}{fd:FuncData}{ps:List Str}{m:List D->Option (Nat×Int)}{pm:List Nat}{x nm z D qual:Str}{st:Stmt}{p pos pos' cpos np hp ap vp nn:Pos}{es:List Expr}{a1:Expr}{t:TA}{pr:PAf}
end
section
variable (cl:Nat->Addr)(pm:List Nat)(X:Cx)(E:XK)
structure QX1(st:Stmt)(ts:TS)(f:FS)(x:FX):Prop where
 sem:PS X st ts
 den:DS ⟨X.K,cl⟩ pm ts f
 dx:DX ⟨X.K,cl⟩ E ts x
structure QXs(st:List Stmt)(ts:TS)(f:FS)(x:FX):Prop where
 sem:PSs X st ts
 den:DS ⟨X.K,cl⟩ pm ts f
 dx:DX ⟨X.K,cl⟩ E ts x
end
section
variable {cl:Nat->Addr}{pm:List Nat}{X:Cx}{E:XK}{st:Stmt}{rest a b:List Stmt}{ts tu:TS}{f g:FS}{x y:FX}{pos:Pos}
theorem qx(h:QS cl pm X st ts f):QX1 cl pm X E st ts f xN:=⟨h.sem,h.den,jca⟩
theorem jbv(h:QSs cl pm X a ts f):QXs cl pm X E a ts f xN:=⟨h.sem,h.den,jca⟩
theorem Qy(h:QX1 cl pm X E st ts f x):QXs cl pm X E [st] ts f x:=⟨zk h.sem,h.den,h.dx⟩
theorem Yu(h:QX1 cl pm X E st ts f x)(k:QXs cl pm X E rest tu g y):QXs cl pm X E (st::rest) (jhw ts tu) (jD f g) (Qa x f y):=⟨zN h.sem k.sem,jeZ h.den k.den,jiz h.dx h.den k.dx⟩
theorem jgv{c:Expr}{tc:TT}{q:PTf}(e:QT cl X c tc q)(h:QXs cl pm X E a ts f x)(i:QXs cl pm X E b tu g y):QX1 cl pm X E (.If c a b pos) (jiL tc ts tu) (sIf (dPT q) f g) (xIf q x y):=⟨jhH e.sem h.sem i.sem,jjG (PTt.d e.den) h.den i.den,jkP e.den h.dx i.dx⟩
theorem jiH{tg iter:Expr}{wi:TI}{pi:PAf}{t:TG}{b:D->Rh->Option Rh}{body:List Stmt}(hp:PassesOwn (model X.prog X.w) X.A X.env X.xe)(d:X.calm=true)(hi:QI cl X tg iter wi pi)(c:QG cl pm X tg t b)(a:QXs cl pm X E body ts f x)(e:∀ x,foldedSetIterable iter X.env x=pure x:=by intro _;rfl) :
  QX1 cl pm X E (.For tg iter body [] pos) (jjb wi t ts) (zZ pi b f) (jhr pi b f x):=⟨jeC hp d hi.sem c.sem a.sem e,jeU hi.den c.den a.den,jin hi.den c.den a.den a.dx⟩
theorem jiG:DS ⟨X.K,cl⟩ pm ts kY:=by intro _ _ _ _ _ _ _ _ e;cases e
variable {k n c:Nat}{fa:Addr}{fd:FuncData}{z qual:Str}{np cpos:Pos}{a1 a2:Expr}{es:List Expr}{t:TA}{pr:PAf}{ps:List Str}{m:List D->Option (Nat×Int)}{fst:Stmt}{p:Pos}
theorem uP(l:Lv X E)(r:XR X.K (cl c) fa)(F:FnOk X.prog X.w X.K X.mg X.base CX0 k fa fd ["self","words","place"] (xQ X.K))(e:Room (k+1) X.A)(f:Binds X.K fd ["self","words","place"] [])(g:X.mg z=some (.ref (cl c)))
  (d:QPs cl X [a1,a2] t pr) (h:X.calm=true:=by rfl) (i:Gl X z:=by rfl) (a:(z==("__debug__" : Str))=false:=by decide) (j:starEach [a1,a2] X.env=(false,eval a1 X.env)::starEach [a2] X.env:=by rfl) (b:(backTo cpos (starEach [a2] X.env)).any (·.1)=false:=by rfl) :
  QX1 cl pm X E (.Raise (some (.Call (.Name z np) [a1,a2] [] cpos)) none pos) (jb9 (cl c) E t) kY (V2 c pr):=⟨jdK l r F e f g d.sem h i a j b,jiG,jef (R:=⟨X.K,cl⟩) d.den⟩
theorem jie(l:Lv X E)(F:FnFact X.K X.mg z qual fst fa fd ps)(G:FnOk X.prog X.w X.K X.mg X.base (CXr X.prog X.w) k fa fd ps (spR ⟨X.K,cl⟩ m n))(d:Room k X.A)(a:QBs cl X (a1::es) t pr)(e:(a1::es).length=n:=by rfl)(f:Gl X z:=by rfl)(b:(z==("__debug__" : Str))=false:=by decide)
  (g:starEach (a1::es) X.env=(false,eval a1 X.env)::starEach es X.env:=by rfl) (c:(backTo cpos (starEach es X.env)).any (·.1)=false:=by rfl):QX1 cl pm X E (.Return (some (.Call (.Name z p) (a1::es) [] cpos)) pos) (jjr (Qf (spR ⟨X.K,cl⟩ m n) [] E t)) kY (zh m pr) :=
 ⟨jeA (jbu G d f F.mgf F.fn.kp F.bd .nil (jln l) a.sem b g c),jiG,jaA a.den λρ h q=>(a.n ρ h q).trans e⟩
theorem jaN{P:Program}{w:World}{K:PySem.W.Frag}{mg:Str->Option Value}{base:Heap}{N:List Str}{b:Scope}{a:Value}{A:Around}{outer:List Env}{s:Shared}{H:Hp} :
  PassesOwn (model P w) (uT (CXr P w) P w K mg base N qual b fa a A outer s H E).A (uT (CXr P w) P w K mg base N qual b fa a A outer s H E).env (uT (CXr P w) P w K mg base N qual b fa a A outer s H E).xe:=PassesOwn.leaving
end
theorem jgC{P:Program}{w:World}{K:PySem.W.Frag}{mg:Str->Option Value}{base:Heap}{x qual:Str}{st:Stmt}{f:Addr}{fd:FuncData}(F:Fun K x qual st f fd)(S:FnScope ["self","words","place"] ["self","words","place"] (jj st))
  (h:∀(cdv:Value) (A:Around) (outer:List Env) (s:Shared) (H:Hp) (E:XK),PSs (uT CX0 P w K mg base ["self","words","place"] qual (jj st) f cdv A outer s H E).nox (y9 st) (jhw (jeP K (vd (V7 0) (vd (V7 1) K9))) (jiQ K (V7 0) (V7 2) "place"))) :
  FnOk P w K mg base CX0 1 f fd ["self","words","place"] (xQ K):=by
 refine F.ok S (λb H Q E h=>by obtain⟨_,_,_,_,rfl,_⟩:=h;rfl) λcdv A outer s H b Q E g d=>⟨_,h cdv A outer s H E,?_⟩;obtain⟨e,u,p,C,rfl,a,c,n,q⟩:=d;exact⟨_,rfl,_,rfl,e,u,C,rfl,a,c,_,rfl,_,rfl,e,C,rfl,a,c,n,λdx hd=>q dx hd⟩
theorem jeH{P:Program}{w:World}{K:PySem.W.Frag}{mg:Str->Option Value}{base:Heap}{N ps:List Str}{k n:Nat}{fa:Addr}{fd:FuncData}{x qual:Str}{fst:Stmt}{cl:Nat->Addr}{xs:FX}(F:Fun K x qual fst fa fd)(b:FnScope N ps (jj fst))(c:ps.length=n)
  (a:∀(cdv:Value) (A:Around) (outer:List Env) (s:Shared) (H:Hp) (E:XK),Room k (A.deeper (envOfC qual (jj fst) s.heap.objs.size fa cdv)) ->
   ∃ ts f,QXs cl [] (uT (CXr P w) P w K mg base N qual (jj fst) fa cdv A outer s H E) E (y9 fst) ts f xs):FnOk P w K mg base (CXr P w) (k+1) fa fd ps (spR ⟨K,cl⟩ (fnR N.length xs) n) :=
 jiA F b c λcdv A outer s H E d=>let ⟨ts,_,q⟩:=a cdv A outer s H E d;⟨ts,q.sem,q.dx⟩
def Ini(P:Program)(w:World)(K:PySem.W.Frag)(mg:Str->Option Value)(C f:Addr):Prop:=XR K C f/\∃ fd,Binds K fd ["self","words","place"] []/\∀ base,FnOk P w K mg base CX0 1 f fd ["self","words","place"] (xQ K)
theorem jdD{K:PySem.W.Frag}{cl:Nat->Addr}{u:V}{b:Bool}(h:XC K (cl 0))(k:∀ cv,RelV u cv->jcP K cv=true/\PySem.W.subIn K (.ref (cl 0)) cv=some b):V6 K cl u [b]:=by
 intro c b' e
 match c,e with
 | 0,e=>cases e;exact⟨h,k⟩
theorem lt1{p:Nat->Prop}(h:p 0):∀ c,c < 1->p c:=λc a=>by
 obtain rfl:c=0:=by omega
 exact h
theorem jjv{K:PySem.W.Frag}{nm q:Str}{C N:Addr}{bs bm:List Value}{sn:List Str}{sub:List Value}{ab:Bool}{col:Option Bool}{dd:Option Addr}{k0 k1 k2 k3 k5:Option Value}
  (h:K.lookup C=some (excClassObj nm q C N bs bm true sn sub ab col dd k0 k1 k2 k3 k5 "ValueError.__new__")) (t:V8 bm=true):zX K C=true:=by
 unfold zX;rw[h];simp[t]
theorem Qn{K:PySem.W.Frag}{C:Addr}{od:Option Addr}{cd:ClassData}{sl:Array (Option Value)}(h:K.lookup C=some ⟨.type "type",od,.cls cd,sl⟩):jcP K (.ref C)=true:=by
 have a:PySem.W.clsIn K C=some cd:=by unfold PySem.W.clsIn;rw[h]
 have b:PySem.W.typeIn K (.ref C)=some (.type "type"):=by
  show(K.lookup C).map (·.cls)=_;rw[h];rfl
 show((PySem.W.clsIn K C).isSome&&PySem.W.typeIn K (.ref C)==some (.type "type"))=true;rw[a,b];rfl
theorem jlG{K:PySem.W.Frag}:jcP K (.type "ValueError")=true:=by rfl
section
variable {P:Program}{w:World}{K:PySem.W.Frag}{mg:Str->Option Value}{base:Heap}{CX:CXT}{k:Nat}{f:Addr}{fd:FuncData}{ps:List Str}{sp sp':Sp}
theorem jkr(F:FnOk P w K mg base CX0 k f fd ps sp):FnOk P w K mg base CX k f fd ps sp :=
 ⟨F.len,λA outer s H args a b Q E c d g i j=>codeAny_mono (F.run A outer s H args a b Q E c d g i j) λr m h=>by
  cases r with
  | error e=>exact False.elim h
  | ok l =>
   cases l with
   | ret u=>exact h
   | next=>exact False.elim h
   | brk=>exact False.elim h
   | cont=>exact False.elim h⟩
theorem jkA(F:FnOk P w K mg base CX k f fd ps sp)(G:FnOk P w K mg base CX k f fd ps sp'):FnOk P w K mg base CX k f fd ps (λvs H Q E=>sp vs H Q E \/ sp' vs H Q E) :=
 ⟨λvs H Q E h=>h.elim (F.len vs H Q E) (G.len vs H Q E),λA outer s H args a vs Q E b c d e g=>g.elim (F.run A outer s H args a vs Q E b c d e) (G.run A outer s H args a vs Q E b c d e)⟩
end
noncomputable def jjS(R:RC)(m:List D->Option D)(x:List D->Option (Nat×Int))(n:Nat):Sp:=λvs H Q E=>spP R m n vs H Q E \/ spR R x n vs H Q E
theorem jgY{P:Program}{w:World}{K:PySem.W.Frag}{mg:Str->Option Value}{base:Heap}{k n:Nat}{f:Addr}{fd:FuncData}{ps:List Str}{cl:Nat->Addr}{m:List D->Option D}{x:List D->Option (Nat×Int)}
  (F:FnOk P w K mg base CX0 k f fd ps (spP ⟨K,cl⟩ m n)) (G:FnOk P w K mg base (CXr P w) k f fd ps (spR ⟨K,cl⟩ x n)):FnOk P w K mg base (CXr P w) k f fd ps (jjS ⟨K,cl⟩ m x n):=jkA (jkr F) G
section
variable {X:Cx}{pins:List (Addr×Obj)}{σ:L2.St}{H H1:Hp}{s s1:Shared}{e:Value}
variable {k:Nat}{f:Addr}{fd:FuncData}{ps:List Str}{sp:Sp}{x n z D y:Str}{yp p pos pos' cpos np hp ap vp nn:Pos}{es:List Expr}{a1:Expr}{t:TA}{CD:Addr}{i j l:Nat}
noncomputable def jff(sp:Sp)(l i j:Nat)(K:PySem.W.Frag)(CD:Addr)(t:TA):TS:=λD σ H=>t σ H λvs H1=>sp vs H1 (λv H2=>D.nx (σ.set l (some v)) H2) λe _ H2=>∃ a C dx,e=.ref a/\H2 a=some (.ext (QD.xo C a dx))/\XC K C/\PySem.W.subIn K (.ref C) (.ref CD)=some true /\
 D.nx (((σ.set j (some (.ref a))).set i (some (.ref a))).set j none) H2
theorem jfo(F:FnOk X.prog X.w X.K X.mg X.base (CXr X.prog X.w) k f fd ps sp)(hr:Room k X.A)(hk:PySem.W.keepIn X.K (.ref f)=true)(hb:Binds X.K fd ps [])(hm:X.mg z=some (.ref f))(hD:X.mg D=some (.ref CD))(cD:XC X.K CD)
  (V:X.N.Nodup) (ha:PA X (a1::es) t) (hxe:∀ e s',X.xe e s'->False:=by exact λ_ _ h=>h) (d:X.stack=X.env::X.outer:=by rfl) (hfr:X.env.frame=some X.env.locals:=by rfl) (hi:X.N[i]?=some x:=by rfl) (Y:X.N[j]?=some n:=by rfl)
  (hx:X.env.scope.names.lookup x=some .local:=by rfl) (Z:X.env.scope.names.lookup n=some .local:=by rfl) (hg:Gl X z:=by rfl) (hgD:Gl X D:=by rfl)
  (hdb:(z==("__debug__" : Str))=false:=by decide) (hdD:(D==("__debug__" : Str))=false:=by decide) (hdn:(n==("__debug__" : Str))=false:=by decide) (hcn:(n==("__classdict__" : Str))=false:=by decide)
  (he:starEach (a1::es) X.env=(false,eval a1 X.env)::starEach es X.env:=by rfl) (hpl:(backTo cpos (starEach es X.env)).any (·.1)=false:=by rfl)
  (hs:swapsWith (.Call (.Name z p) (a1::es) [] cpos) (some (.Name y yp)) pos'.line X.env=pure false:=by rfl) (hy:X.N[l]?=some y:=by rfl) (O:X.env.scope.names.lookup y=some .local:=by rfl) (hs2:swapsWith (.Name n vp) (some (.Name x ap)) nn.line X.env=pure false:=by rfl) :
  PS X (.Try [.Assign [.Name y yp] (.Call (.Name z p) (a1::es) [] cpos) pos'] [.ExceptHandler (some (.Name D np)) (some n) [.Assign [.Name x ap] (.Name n vp) nn] hp] [] [] pos) (jff sp l i j X.K CD t):=by
 intro g s σ H DD I h;refine wpAny_Try_except (wpAny_execs_cons (wpAny_Assign_Name ?_ hs));refine wpAny_Call_Name_kw (qr I hg hm ?_ hdb);refine PySem.W.callWith_K (h₀:=X.base) I.ok.mod.kin hk (wpAny_mono (ha cpos g s σ H _ I h) (λus s1 J=>?_) (λ_ _ z=>(hxe _ _ z).elim)) he hpl;obtain⟨vs,H1,m,r,q⟩:=J;refine⟨m.kIn,?_⟩;have hl:(us++[]).length=ps.length:=by rw[N4,<- r.length];exact F.len _ _ _ _ q
 refine wpAny_call (codeAny_mono (F.run X.A X.stack s1 H1 ⟨us,[]⟩ (us++[]) vs _ _ hr m.env0 (hb s1 us m.kIn hl) (by rw[N4];exact r) q) λr s' J=>?_);cases r with
 | ok fl =>
  cases fl with
  | ret u =>
   obtain⟨v,P,I',rv,q'⟩:=m.after J;exact Vn I' V hy (.inl O) rv (λs2 Q=>wpAny_execs_nil (wpAny_execs_nil ⟨_,P,Q,q'⟩)) (.inr O)
  | next=>exact False.elim J
  | brk=>exact False.elim J
  | cont=>exact False.elim J
 | error e =>
  obtain⟨a,C,dx,T,P,rfl,os,bare,un,hok,hT,le,L,fl,M,a',C',dx',ea,ha2,c,sb,q'⟩:=J;cases ea;have Q:=m.call' (ch:=[]) os un hok bare (λb z=>absurd z (by simp));have stk:=Q.stack;rw[d] at stk;refine xj (base:=X.base) (by rw[Q.ok.frames,d]) stk hfr fl λh3 T3 k3 R f3=>?_;have I3:=ud m Q M (by rw[d];exact k3) hT le L f3.xo;have S:P T3=none:=hok.fresh R;obtain⟨oT,eT⟩:=fl.atT;have B:s1.heap.objs.size<=T3:=U0 le (U0 (Nat.le_of_lt (N5 eT)) R);have E:=I3.stack;rw[d] at E;refine jjX (s:={ s' with heap:=h3 }) (base:=X.base) (outer:=X.env::X.outer) f3 E λh4 k4 f4 sz4=>?_;have U:=ud m I3 M (by rw[d];exact k4.mono (by simp)) S B L f4.xo;refine wpAny_handleBy_cons (codeAny_handlers_test ?_) (by intro q;cases q);have J4:=jey (e:=.ref a) U;refine qr (X:=inX X (.ref a)) J4 hgD hD ?_ hdD;obtain⟨⟨o,ws,e1,e2,e3⟩,_⟩:=U.hok a _ ha2;refine jju U.kIn c cD e1 e2 sb ?_;refine codeAny_handlers_suite_as ?_;have G:=U.stack;rw[d] at G;refine jjX (s:={ s' with heap:=h4 }) (base:=X.base) (outer:=X.env::X.outer) f4 G λh5 k5 f5 sz5=>?_;have I5:=ud m U M (by rw[d];exact k5.mono (by simp)) S B L f5.xo;refine Vn (X:=inX X (.ref a)) (i:=j) (x:=n) (v:=.ref a) (jey (e:=.ref a) I5) V Y (.inl Z) rfl (λs6 I6=>?_) (.inr Z);have hjl:j < σ.length:=by rw[I.len];exact(M5.mp Y).1
  have go:=zk (jer (X:=inX X (.ref a)) (i:=i) (x:=x) (pos':=ap) (pos:=nn) V hi (.inl hx) (wb (X:=inX X (.ref a)) (i:=j) (pos:=vp) Y (.inl Z) hdn hcn) hs2 (.inr hx)) g s6 (σ.set j (some (.ref a))) P { nx:=λσ7 H7=>σ7=(σ.set j (some (.ref a))).set i (some (.ref a))/\H7=P,rt:=λ_ _=>False } I6 ⟨.ref a,by simp[hjl],rfl,rfl⟩;refine wpAny_mono go (λfl7 s7 h7=>?_) λ_ _ z=>False.elim z;cases fl7 with
  | next =>
   obtain⟨σ7,H7,I7,rfl,rfl⟩:=h7;exact jgP (jgs I.ok.hd I7) V Y Z λs8 I8=>⟨_,_,I8,q'⟩
  | ret u=>obtain⟨_,_,_,_,_,z⟩:=h7;exact False.elim z
  | brk=>obtain⟨_,_,_,z⟩:=h7;exact False.elim z
  | cont=>obtain⟨_,_,_,z⟩:=h7;exact False.elim z
end
theorem ji3{R:RC}{m:List D->Option D}{n:Nat}{ds:List D}{d:D}{vs:List V}{e:List Addr}{Z1:Zn}{H1:Hp}{Q:VK}{E:XK}(z:Zd Z1 H1)(g:Reps R Z1 H1 ds vs e)(l:ds.length=n)(o:m (fzs ds)=some d)(f:(frzs ds||vf d)=true)
  (k:∀{v:V}{Z':Zn}{H':Hp}{P:List Addr},Go Z1 H1 [] Z' H' P->Rep R Z' H' d v P->Q v H'):spP R m n (vs++[]) H1 Q E:=by
 have p:=z;have r:Zd (λa=>Z1 a \/ a∈e) H1:=λa h=>h.elim (p a) (g.dom a);refine⟨λa=>Z1 a \/ a∈e,fzs ds,d,r,by rw[ur];exact l,by rw[N4];exact g.freeze (λa z=>.inl z) λa z=>.inr z,o,λ{v Z' H' P} b j=>?_⟩;rw[Bool.or_eq_true] at f;rcases f with f | f
 ·cases g.nil f;have c:Go Z1 H1 [] Z' H' P:=⟨b.wf,λa z=>b.zz a (.inl z),b.fr,λa z=>(b.zn a z).imp (λq=>q.resolve_right (λq=>(nomatch q))) id,b.sub,b.dm⟩;exact k (c) j
 ·have c:Go Z1 H1 [] (λa=>Z' a/\(a∉e \/ Z1 a)) H' P:=by
   refine⟨⟨b.wf.nd,λa h q=>b.wf.nz a h q.1,b.wf.od,λa q=>b.wf.zd a q.1⟩,λa z=>⟨b.zz a (.inl z),.inr z⟩,b.fr,λa z=>?_,b.sub,b.dm⟩;rcases b.zn a z.1 with(q | q) | q
   ·exact .inl q
   ·exact .inl (z.2.resolve_left λn=>n q)
   ·exact .inr q
  have s:Rep R (λa=>Z' a/\(a∉e \/ Z1 a)) H' d v P:=by
   refine j.thaw (λa t u w=>⟨u,?_⟩) f;by_cases i:a∈e
   ·exact absurd (Rd.agree (b.same a (g.dom a i)).symm w) (g.notTup a i t)
   ·exact .inl i
  exact k (c) s
noncomputable def jaF(m0:List D->Option D)(m:List D->Option (Nat×Int))(n l i j:Nat)(pr:PAf):FS:=λρ=>match pr ρ with
 | none=>none
 | some ds=>match m (fzs ds) with
  | some (c,p)=>bif decide (c < n)&&decide (i < ρ.length)&&decide (j < ρ.length)&&decide (i≠j) then some (.nx ((ρ.set i (some (.exc c p))).set j none)) else none
  | none=>match m0 (fzs ds) with
   | some d=>bif (frzs ds||vf d)&&decide (l < ρ.length) then some (.nx (ρ.set l (some d))) else none
   | none=>none
section
variable {R:RC}
theorem jfE{m0:List D->Option D}{m:List D->Option (Nat×Int)}{n nc i j l:Nat}{CD:Addr}{pm:List Nat}{t:TA}{pr:PAf}(h:PBs R t pr)(hn:∀ ρ ds,pr ρ=some ds->ds.length=n)(hc:∀ c,c < nc->XC R.K (R.cls c)/\PySem.W.subIn R.K (.ref (R.cls c)) (.ref CD)=some true)(hi:i∉pm)(hj:j∉pm)(hl:l∉pm) :
  DS R pm (jff (jjS R m0 m n) l i j R.K CD t) (jaF m0 m nc l i j pr):=by
 intro σ ρ Z H O o w s e T k;unfold jaF at e;cases e1:pr ρ with
 | none=>rw[e1] at e;cases e
 | some ds =>
  rw[e1] at e;dsimp only at e;cases e2:m (fzs ds) with
  | none =>
   rw[e2] at e;dsimp only at e;cases e3:m0 (fzs ds) with
   | none=>rw[e3] at e;cases e
   | some d =>
    rw[e3] at e;dsimp only at e;cases f:((frzs ds||vf d)&&decide (l < ρ.length)) with
    | false=>rw[f] at e;cases e
    | true =>
     rw[f] at e;cases e;rw[M6] at f;have U:=X5 f.2;refine h w.zd s e1 λ{vs V X P1} I Y=>.inl ?_;have u:Go Z H O V X O:=by simpa using I.widen w
     have:=ji3 (E:=E0) (Q:=λv G=>T.nx (σ.set l (some v)) G) u.wf.zd Y (hn ρ ds e1) e3 f.1 λ{v J L P} g r=>?_
     ·rw[N4] at this;exact this
     ·have M:Go Z H O J L (P++O):=u.trans (g.widen u.wf);have s2:Slots R J L ρ σ O:=g.slots u.wf.zd (I.slots w.zd s);obtain⟨A,P0,B,N,_,k2,_⟩:=s2.put U;have s3:=k2 r (λ_ z=>z) (λ_ _=>rfl) (λ_ _=>rfl) (λ_ _=>rfl);have nd:=M.wf.nd;rw[N] at nd;refine k (M.drop (O'':=A++P++B) (λb q=>?_) ?_) s3 (Keep.set hl)
      ·rw[N];simp at q ⊢;rcases q with z | z | z<;>simp[z]
      ·simp only[X1,N6] at nd ⊢;exact⟨⟨nd.2.1.1.1,nd.1,λa x b q e=>nd.2.2 b q a (.inl (.inl x)) e.symm⟩,nd.2.1.2.1,λa x b q e=>x.elim (λz=>nd.2.1.2.2 a (.inl z) b q e) λz=>nd.2.2 a z b (.inr q) e⟩
  | some cp =>
   obtain⟨c,p⟩:=cp;rw[e2] at e;dsimp only at e;cases f:(decide (c < nc)&&decide (i < ρ.length)&&decide (j < ρ.length)&&decide (i≠j)) with
   | false=>rw[f] at e;cases e
   | true =>
    rw[f] at e;cases e;simp only[M6,decide_eq_true_eq] at f;obtain⟨⟨⟨b1,U⟩,b3⟩,b4⟩:=f;obtain⟨xc,sb⟩:=hc c b1;refine h w.zd s e1 λ{vs V X P1} I Y=>.inr ?_;have u:Go Z H O V X O:=by simpa using I.widen w
    have:=je2 (E:=λe _ G=>∃ a C dx,e=.ref a/\G a=some (.ext (QD.xo C a dx))/\XC R.K C/\PySem.W.subIn R.K (.ref C) (.ref CD)=some true/\T.nx (((σ.set j (some (.ref a))).set i (some (.ref a))).set j none) G) (Q:=λv G=>T.nx (σ.set l (some v)) G) u.wf Y (hn ρ ds e1) e2 λ{a J L} g nw=>?_
    ·rw[N4] at this;exact this
    ·have rp:=nw.rep;obtain⟨dx,_,_,_,_,x,_⟩:=nw;refine⟨a,_,dx,rfl,x,xc,sb,?_⟩;have M:Go Z H O J L O:=u.trans (by simpa using g.widen u.wf);have s2:Slots R J L ρ σ O:=g.slots u.wf.zd (I.slots w.zd s);obtain⟨A,P,B,N,_,k2,_⟩:=s2.put U;have s3:=k2 rp (λ_ z=>z) (λ_ _=>rfl) (λ_ _=>rfl) (λ_ _=>rfl);obtain⟨A',P',B',S,_,_,k4⟩:=s3.put (i:=j) (by simpa using b3);have s5:=VP (j:=j) (y:=none) k4 (by rw[List.getElem?_set_self (by simpa using b3)]);have es:((σ.set j (some (.ref a))).set i (some (.ref a))).set j none=(σ.set i (some (.ref a))).set j none:=by
      rw[List.set_comm _ _ (Ne.symm b4),List.set_set]
     rw[es];have nd:=M.wf.nd;have F:(A'++P'++B').Nodup:=by
      rw[<- S];rw[N] at nd;simp only[X1,N6,N4] at nd ⊢;exact⟨nd.1.1,nd.2.1,λa x b f=>nd.2.2 a (.inl x) b f⟩
     refine k (M.drop (O'':=A'++B') (λb f=>?_) ?_) s5 ((Keep.set hi).trans (Keep.set hj))
     ·have:b∈A'++P'++B':=by simp at f ⊢;rcases f with z | z<;>simp[z]
      rw[<- S] at this;rw[N];simp at this ⊢;rcases this with z | z<;>simp[z]
     ·simp only[X1,N6] at F ⊢;exact⟨F.1.1,F.2.1,λa x b f=>F.2.2 a (.inl x) b f⟩
end
section
variable {R:RC}
variable {cl:Nat->Addr}{X:Cx}{k n nc i j l:Nat}{f CD:Addr}{fd:FuncData}{ps:List Str}{m0:List D->Option D}{m:List D->Option (Nat×Int)}{pm:List Nat}{x nm z D qual y:Str}{st:Stmt}{yp p pos pos' cpos np hp ap vp nn:Pos}{es:List Expr}{a1:Expr}{t:TA}{pr:PAf}
theorem jfS(F:FnFact X.K X.mg z qual st f fd ps)(G:FnOk X.prog X.w X.K X.mg X.base (CXr X.prog X.w) k f fd ps (jjS ⟨X.K,cl⟩ m0 m n))(M:Room k X.A)(O:X.mg D=some (.ref CD))(P:XC X.K CD)(Q:∀ c,c < nc->XC X.K (cl c)/\PySem.W.subIn X.K (.ref (cl c)) (.ref CD)=some true)
  (R:X.N.Nodup) (b:QBs cl X (a1::es) t pr) (S:(a1::es).length=n:=by rfl) (d:∀ e s',X.xe e s'->False:=by exact λ_ _ h=>h) (g:X.stack=X.env::X.outer:=by rfl) (o:X.env.frame=some X.env.locals:=by rfl) (hi:X.N[i]?=some x:=by rfl) (T:X.N[j]?=some nm:=by rfl)
  (U:X.env.scope.names.lookup x=some .local:=by rfl) (r:X.env.scope.names.lookup nm=some .local:=by rfl) (V:Gl X z:=by rfl) (s:Gl X D:=by rfl)
  (u:(z==("__debug__" : Str))=false:=by decide) (v:(D==("__debug__" : Str))=false:=by decide) (B:(nm==("__debug__" : Str))=false:=by decide) (C:(nm==("__classdict__" : Str))=false:=by decide)
  (Y:starEach (a1::es) X.env=(false,eval a1 X.env)::starEach es X.env:=by rfl) (E:(backTo cpos (starEach es X.env)).any (·.1)=false:=by rfl)
  (Z:swapsWith (.Call (.Name z p) (a1::es) [] cpos) (some (.Name y yp)) pos'.line X.env=pure false:=by rfl) (hy:X.N[l]?=some y:=by rfl) (H:X.env.scope.names.lookup y=some .local:=by rfl) (I:swapsWith (.Name nm vp) (some (.Name x ap)) nn.line X.env=pure false:=by rfl) (J:i∉pm:=by decide) (L:j∉pm:=by decide) (a:l∉pm:=by decide) :
  QS cl pm X (.Try [.Assign [.Name y yp] (.Call (.Name z p) (a1::es) [] cpos) pos'] [.ExceptHandler (some (.Name D np)) (some nm) [.Assign [.Name x ap] (.Name nm vp) nn] hp] [] [] pos) (jff (jjS ⟨X.K,cl⟩ m0 m n) l i j X.K CD t) (jaF m0 m nc l i j pr) :=
 ⟨jfo G M F.fn.kp F.bd F.mgf O P R b.sem d g o hi T U r V s u v B C Y E Z hy H I,jfE b.den (λρ ds q=>(b.n ρ ds q).trans S) Q J L a⟩
end
end QX
namespace QD
open PySem L2 PySem.Spec PyProof.Rows
section
variable {R:RC}{Z Z':Zn}{H H':Hp}{pm:List Nat}
noncomputable def xt:D->D->Option D
 | .lst true l,.int n=>bif frzs l&&decide (l.length<=1000)&&(decide (0<=n)&&decide (n<=1000)) then some (.lst true (List.replicate n.toNat l).flatten) else none
 | _,_=>none
@[simp] theorem mulL_e(l:List D)(n:Int):xt (.lst true l) (.int n)=(bif frzs l&&decide (l.length<=1000)&&(decide (0<=n)&&decide (n<=1000)) then some (.lst true (List.replicate n.toNat l).flatten) else none):=rfl
theorem jfi:BO R jlc xt:=by
 intro Z H x y d v u O1 O2 z a h e Q k;cases x with
 | lst o l =>
  cases o with
  | false=>cases y<;>cases e
  | true =>
  cases y with
  | int n =>
   simp only[xt] at e;cases hl:frzs l&&decide (l.length<=1000)&&(decide (0<=n)&&decide (n<=1000)) with
   | false=>rw[hl] at e;cases e
   | true =>
    rw[hl] at e;cases e;simp only[M6,decide_eq_true_eq] at hl;rw[Rep] at a;obtain⟨p,c,q,rfl,f,i,rfl⟩:=a;obtain⟨rfl,_⟩:=h.int_of;have j:=f.frozen hl.1.1;have m:c.length*n.toNat<=1000*1000:=Nat.mul_le_mul (by rw[f.length];exact hl.1.2) (by omega);exact⟨p,n,c,rfl,rfl,i,by omega,by omega,U0 m (by decide),λb g=>k (Go.newO (wf0 z) g) (Rep.lstNew (wf0 z) g (zV j n.toNat))⟩
  | _=>cases e
 | _=>cases y<;>cases e
noncomputable def jam(i:Nat)(pk:PF):FS:=λρ=>(pk ρ).bind λy=>(Ql y).bind λn=>match ρ[i]? with
 | some (some (.lst true l))=>bif decide (0<=n)&&decide (n < (l.length:Int))&&(lim l.length&&frzs l) then some (.nx (ρ.set i (some (.lst true (l.take n.toNat++l.drop (n.toNat+1)))))) else none
 | _=>none
theorem jgr{i:Nat}{tk:TE}{pk:PF}(S:PB R tk pk):DS R pm (zq (tBM R.K "list" jbN (V7 i) (vd tk K9))) (jam i pk):=by
 intro σ ρ Z H O o w s e D' k;unfold jam at e;cases e1:pk ρ with
 | none=>rw[e1] at e;cases e
 | some y =>
 rw[e1,L8] at e;cases q1:Ql y with
 | none=>rw[q1] at e;cases e
 | some n =>
 rw[q1,L8] at e;cases uM q1;split at e
 ·rename_i l L;cases hg:decide (0<=n)&&decide (n < (l.length:Int))&&(lim l.length&&frzs l) with
  | false=>rw[hg] at e;cases e
  | true =>
   rw[hg] at e;cases e;simp only[M6,decide_eq_true_eq] at hg;obtain⟨⟨q,t⟩,h,T⟩:=hg;obtain⟨A,P,B,rfl,U,V,_⟩:=s.put (M5.mp L).1;obtain⟨v,M,r⟩:=U _ L;rw[Rep] at r;obtain⟨a,b,O',rfl,p,u,rfl⟩:=r;cases p.nil T;refine⟨.ref a,M,.inl ⟨rfl,b,SqL.of u⟩,?_⟩;refine S w.zd s e1 λ{u0 x f P0} d W=>?_;obtain⟨rfl,_⟩:=W.int_of;have s1:=d.slots w.zd s;have C:f a=some (.lst b):=by rw[d.same a (by rw[u];exact λz=>(nomatch z))];exact u
   have N:Go Z H (A++[a]++B) x f (A++[a]++B):=by simpa using d.widen w
   have D:=N.wf;have j:=d.reps w.zd p;have E:n.toNat < b.length:=by rw[p.length];omega
   have F:l.length < 2 ^ 62:=U7 (uN h) (by decide);have G:seqIndex? n b.length=some n.toNat:=by
    unfold seqIndex?
    have X:¬ n < 0:=by omega
    have Y:n < (b.length:Int):=by rw[p.length];exact t
    simp[X,Y,q]
   refine⟨a,b,n,n.toNat,b[n.toNat],rfl,rfl,C,by omega,by omega,G,X8 E,?_⟩;rw[List.eraseIdx_eq_take_drop_succ];have nd:=D.nd;simp only[X1,N6,List.nodup_cons,M9] at nd;obtain⟨⟨nA,⟨na,nO⟩,I⟩,nB,J⟩:=nd;have m:∀ c,x c->upd f a (.lst (b.take n.toNat++b.drop (n.toNat+1))) c=f c:=λc z=>jo λe=>D.nz a (by simp) (e▸z);have r3:Rep R x (upd f a (.lst (b.take n.toNat++b.drop (n.toNat+1)))) (.lst true (l.take n.toNat++l.drop (n.toNat+1))) (.ref a) [a]:=by
    rw[Rep];refine⟨a,_,[],rfl,?_,jA,rfl⟩;have hr:=(j.take n.toNat).append (j.drop (n.toNat+1));exact hr.frame (λ_ z=>z) m λc g=>(nomatch g)
   have sA:∀ c,c∈A->upd f a (.lst (b.take n.toNat++b.drop (n.toNat+1))) c=H c:=λc g=>by
    rw[jo λe=>I c g a (.inl rfl) e];exact d.same c (w.od c (by simp[g]))
   have sB:∀ c,c∈B->upd f a (.lst (b.take n.toNat++b.drop (n.toNat+1))) c=H c:=λc g=>by
    rw[jo λe=>J a (.inr (.inl rfl)) c g e.symm];exact d.same c (w.od c (by simp[g]))
   have Q:=V r3 (λc z=>d.zz c z) (λc z=>by rw[m c (d.zz c z)];exact d.same c (w.zd c z)) sA sB;rw[qF M] at Q;exact k (N.trans (Go.put D (by simp))) Q (Keep.refl _ _)
 ·cases e
noncomputable abbrev PrF:=Rh->Option (List KA×List D)
noncomputable def prN:PrF:=λ_=>some ([],[])
noncomputable def prC(pk pv:PF)(f:PrF):PrF:=λρ=>(pk ρ).bind λx=>(kO x).bind λa=>(pv ρ).bind λd=>(f ρ).bind λq=>bif frz d then some (a::q.1,d::q.2) else none
@[simp] theorem prN_e{ρ:Rh}:prN ρ=some ([],[]):=rfl
@[simp] theorem jk5{pk pv:PF}{f:PrF}{ρ:Rh}:prC pk pv f ρ=(pk ρ).bind λx=>(kO x).bind λa=>(pv ρ).bind λd=>(f ρ).bind λq=>bif frz d then some (a::q.1,d::q.2) else none:=rfl
def PRs(R:RC)(trs:List (TE×TE))(f:PrF):Prop:=∀{σ:L2.St}{ρ:Rh}{Z:Zn}{H:Hp}{O:List Addr}{q:List KA×List D},Zd Z H->Slots R Z H ρ σ O->f ρ=some q ->
 ∀{Q:List (V×V)->Hp->Prop},(∀{vs:List V}{Z':Zn}{H':Hp},Go Z H [] Z' H' []->Reps R Z' H' q.2 vs []->q.1.length=q.2.length->Q (((q.1.map kaV).zip vs).map λkv=>(kV kv.1,kv.2)) H')->jaf trs σ H Q
theorem jgm:PRs R [] prN:=by
 intro σ ρ Z H O q z s e Q k;cases e;exact k (Go.id z) .empty rfl
theorem jdH{tk tv:TE}{pk pv:PF}{b:List (TE×TE)}{f:PrF}(m:PB R tk pk)(n:PB R tv pv)(o:PRs R b f):PRs R ((tk,tv)::b) (prC pk pv f):=by
 intro σ ρ Z H O q z s e Q k;rw[jk5] at e;cases e1:pk ρ with
 | none=>rw[e1] at e;cases e
 | some x =>
 rw[e1,L8] at e;cases e2:kO x with
 | none=>rw[e2] at e;cases e
 | some a =>
 rw[e2,L8] at e;cases e3:pv ρ with
 | none=>rw[e3] at e;cases e
 | some y =>
 rw[e3,L8] at e;cases e4:f ρ with
 | none=>rw[e4] at e;cases e
 | some B =>
 rw[e4,L8] at e;cases hy:frz y with
 | false=>rw[hy] at e;cases e
 | true =>
  rw[hy] at e;cases e;refine m z s e1 λ{v C D E} c p=>?_;have h:=c.slots z s;refine n c.wf.zd h e3 λ{u F G I} d i=>?_;have r:=d.slots c.wf.zd h;refine o d.wf.zd r e4 λ{j Z3 t} l w A=>?_;obtain⟨rfl,_⟩:=kX e2 p;cases i.nil hy;have g:Go Z H [] Z3 t []:=(c.trans d).trans l;exact k (vs:=u::j) g (Reps.cons (l.rep d.wf.zd i) w) (by simp[A])
noncomputable def K5(f:PrF):PF:=λρ=>(f ρ).bind λq=>bif decide q.1.Nodup&&decide (q.1.length<=15) then some (.dK true q.1 q.2) else none
@[simp] theorem jgk{f:PrF}{ρ:Rh}:K5 f ρ=(f ρ).bind λq=>bif decide q.1.Nodup&&decide (q.1.length<=15) then some (.dK true q.1 q.2) else none:=rfl
theorem jg8{i:List (TE×TE)}{f:PrF}(v:PRs R i f):PP R (jf0 i) (K5 f):=by
 intro σ ρ Z H O d z s e Q k;rw[jgk] at e;cases e1:f ρ with
 | none=>rw[e1] at e;cases e
 | some q =>
  rw[e1,L8] at e;cases a:decide q.1.Nodup&&decide (q.1.length<=15) with
  | false=>rw[a] at e;cases e
  | true =>
   rw[a] at e;cases e;simp only[M6,decide_eq_true_eq] at a;intro p w;have j:Go Z H [] Z (upd H p (.dK [])) [p]:=Go.newO (wf0 z) w;have x:=j.slots z s;refine v j.wf.zd x e1 λ{c l g} r t u=>?_;have m:g p=some (.dK []):=by rw[r.fr p (by rw[jA];exact λz=>nomatch z) (λh=>nomatch h),jA]
   have y:WF Z (upd H p (.dK [])) ([p]++[]++[]):=by simpa using j.wf
   have n:Go Z (upd H p (.dK [])) [p] l g [p]:=by simpa using Go.frame y r
   have A:J3 [] ((q.1.map kaV).zip c)=(q.1.map kaV).zip c:=by
    have:=Vu q.1 c [] [] rfl (by rw[t.length];exact u) (by simpa using a.1);simpa [J3] using this
   have B:Go l g [p] l (upd g p (.dK ((q.1.map kaV).zip c))) [p]:=Go.put n.wf (by simp);have o:∀ b,l b->upd g p (.dK ((q.1.map kaV).zip c)) b=g b:=λb C=>jo λq=>n.wf.nz p (by simp) (q▸C);refine⟨m,_,rfl,by rw[List.length_zip,L4];omega,?_⟩;rw[A];refine k ((j.trans n).trans B) ?_;rw[Rep];exact⟨p,c,[],rfl,t.frame (λ_ z=>z) o λb a=>(nomatch a),u,jA,rfl⟩
def jgV:V->List V->Hp->VK->Prop:=λx vs H Q=>∃ a b kvs more,x=.ref a/\vs=[.ref b]/\a≠b/\H a=some (.dK kvs)/\H b=some (.dK more)/\kvs.length+more.length<=1000/\Q .non (upd H a (.dK (J3 kvs more)))
theorem jgB{X:Cx}:MtR X "dict.update" jgV:=by
 intro g s σ H x E v G Q I m n h;obtain⟨a,b,d,c,rfl,rfl,ne,i,o,J,q⟩:=h;cases m;obtain⟨u,rfl,p⟩:=n.one;cases p;obtain⟨K,r,t,j,k⟩:=jfB I.hok i;obtain⟨L,y,z,l,A⟩:=jfB I.hok o;refine call_meetsIn PySem.F.slot_dict_update k.typeIs PySem.F.entry_dict_update (PySem.F.args_dict_update_2 _ _) (meets_dict_update (yd X.prog X.w) a b ne y)
  ⟨t,z,k,A,by rw[<- j.length,<- l.length,sizeLine_eq];omega,λB e _ C=>⟨.non,_,?_,rfl,q⟩⟩
 have f:(J3 d c).length<=sizeLine:=by
  have M:=qM c d;rw[sizeLine_eq];omega
 have D:∃ q,B.get? a=some q:=let ⟨q,_,_,hq,_⟩:=e;⟨q,hq⟩
 exact jcC I (by rw[i];exact True.intro) C D (jeX f r (l.merge j) e)
noncomputable def jdr(i:Nat)(p:PF):FS:=λρ=>(p ρ).bind λy=>(je5 y).bind λq2=>(pV i ρ).bind λx=>(je5 x).bind λq=>bif decide (q.1++q2.1).Nodup&&(frzs q.2&&frzs q2.2)&&decide (q.1.length+q2.1.length<=1000) then some (.nx (ρ.set i (some (.dK true (q.1++q2.1) (q.2++q2.2))))) else none
@[simp] theorem jg5{i:Nat}{p:PF}{ρ:Rh}:jdr i p ρ=(p ρ).bind λy=>(je5 y).bind λq2=>(pV i ρ).bind λx=>(je5 x).bind λq=>bif decide (q.1++q2.1).Nodup&&(frzs q.2&&frzs q2.2)&&decide (q.1.length+q2.1.length<=1000) then some (.nx (ρ.set i (some (.dK true (q.1++q2.1) (q.2++q2.2))))) else none:=rfl
theorem jfm{i:Nat}{te:TE}{p:PF}(h:PP R te p):DS R pm (zq (tBM R.K "dict" jgV (V7 i) (vd te K9))) (jdr i p):=by
 intro σ ρ Z H O o w s e D' k;rw[jg5] at e;cases e0:p ρ with
 | none=>rw[e0] at e;cases e
 | some y =>
 rw[e0,L8] at e;cases e2:je5 y with
 | none=>rw[e2] at e;cases e
 | some N =>
 rw[e2,L8] at e;cases e1:pV i ρ with
 | none=>rw[e1] at e;cases e
 | some t =>
 rw[e1,L8] at e;cases e3:je5 t with
 | none=>rw[e3] at e;cases e
 | some q =>
 rw[e3,L8] at e;cases hg:decide (q.1++N.1).Nodup&&(frzs q.2&&frzs N.2)&&decide (q.1.length+N.1.length<=1000) with
 | false=>rw[hg] at e;cases e
 | true =>
  rw[hg] at e;cases e;simp only[M6,decide_eq_true_eq] at hg;obtain⟨⟨F,fl,G⟩,x⟩:=hg;cases jbF e3;cases jbF e2;obtain⟨f,l⟩:=q;obtain⟨d,l2⟩:=N;have S:=jkF e1;dsimp only at S fl G F x ⊢;obtain⟨A,P,B,rfl,k1,I,_⟩:=s.put (M5.mp S).1;obtain⟨v,ev,r⟩:=k1 _ S;rw[Rep] at r;obtain⟨a,j,O',rfl,Q,J,L,rfl⟩:=r;have L:H a=some (.dK ((f.map kaV).zip j)):=L;cases Q.nil fl;refine⟨.ref a,ev,.inr (.inr (.inl ⟨rfl,.inl ⟨_,L⟩⟩)),?_⟩;refine h w.zd s e0 λ{u T C P1} D r1=>?_;rw[Rep] at r1;obtain⟨b,m,O2,rfl,n,g,U,rfl⟩:=r1;have U:C b=some (.dK ((d.map kaV).zip m)):=U;cases n.nil G;have gW:=D.widen w;have V:=gW.wf.nd;have ab:a≠b:=by intro e;subst e;simp at V
  have gw:Go Z H (A++[a]++B) T C (A++[a]++B):=gW.dropL;have W:=gw.wf;have X:C a=some (.dK ((f.map kaV).zip j)):=by rw[D.same a (by rw[L];exact λz=>(nomatch z))];exact L
  have Y:=D.reps w.zd Q;have lz:((f.map kaV).zip j).length=f.length:=by have:=Q.length;rw[List.length_zip,L4,this];omega
  have lz2:((d.map kaV).zip m).length=d.length:=by have:=n.length;dsimp only at this g;rw[List.length_zip,L4,this];omega
  refine⟨a,b,_,_,rfl,rfl,ab,X,U,by rw[lz,lz2];exact x,?_⟩;have em:J3 ((f.map kaV).zip j) ((d.map kaV).zip m)=((f++d).map kaV).zip (j++m):=Vu d m f j (by rw[Q.length];exact J) (by rw[n.length];exact g) F;rw[em];have nd:=W.nd;simp only[X1,N6,List.nodup_cons,M9] at nd;obtain⟨⟨nA,⟨na,nO⟩,nAO⟩,nB,nAB⟩:=nd;have M:∀ c,T c->upd C a (.dK (((f++d).map kaV).zip (j++m))) c=C c:=λc z=>jo λe=>W.nz a (by simp) (e▸z);have r3:Rep R T (upd C a (.dK (((f++d).map kaV).zip (j++m)))) (.dK true (f++d) (l++l2)) (.ref a) [a]:=by
   rw[Rep];exact⟨a,_,[],rfl,(Y.append n).frame (λ_ z=>z) M λc E=>(nomatch E),by simp[J,g],jA,rfl⟩
  have sA:∀ c,c∈A->upd C a (.dK (((f++d).map kaV).zip (j++m))) c=H c:=λc E=>by
   rw[jo λe=>nAO c E a (.inl rfl) e];exact D.same c (w.od c (by simp[E]))
  have sB:∀ c,c∈B->upd C a (.dK (((f++d).map kaV).zip (j++m))) c=H c:=λc E=>by
   rw[jo λe=>nAB a (.inr (.inl rfl)) c E e.symm];exact D.same c (w.od c (by simp[E]))
  have s3:=I r3 (λc z=>D.zz c z) (λc z=>by rw[M c (D.zz c z)];exact D.same c (w.zd c z)) sA sB;rw[qF ev] at s3;exact k (gw.trans (Go.put W (by simp))) s3 (Keep.refl _ _)
end
section
variable {cl:Nat->Addr}{pm:List Nat}{X:Cx}{a b e:Expr}{ta tb te:TE}{pa pb pe:PF}{pos:Pos}
theorem jjK(c:QB cl X a ta pa)(d:QB cl X b tb pb):QP cl X (.BinOp a .Mult b pos) (tOp jlc ta tb) (p2 xt pa pb):=⟨xI jih c.sem d.sem,Qb jfi c.den d.den⟩
structure QPr(cl:Nat->Addr)(X:Cx)(pos:Pos)(keys:List (Option Expr))(values:List Expr)(trs:List (TE×TE))(f:PrF):Prop where
 sem:L2.PPs X pos keys values trs
 den:PRs ⟨X.K,cl⟩ trs f
theorem wY:QPr cl X pos [] [] [] prN:=⟨L2.pps_nil,jgm⟩
theorem ka{ks:List (Option Expr)}{vs:List Expr}{c:List (TE×TE)}{f:PrF}(d:QB cl X a ta pa)(e:QB cl X b tb pb)(h:QPr cl X pos ks vs c f):QPr cl X pos (some a::ks) (b::vs) ((ta,tb)::c) (prC pa pb f) :=
 ⟨L2.pps_cons d.sem e.sem h.sem,jdH d.den e.den h.den⟩
theorem jbw{ks:List (Option Expr)}{vs:List Expr}{a:List (TE×TE)}{f:PrF}(h:QPr cl X pos ks vs a f)(b:ks.all (·.isSome)=true:=by rfl)(e:ks.length=vs.length:=by rfl)(d:(!ks.isEmpty)=true:=by rfl)(c:decide (ks.length<=15)=true:=by rfl) :
  QP cl X (.Dict ks vs pos) (jf0 a) (K5 f):=⟨jhe h.sem b e (by intro z;rw[z] at d;cases d) (X5 c),jg8 (R:=⟨X.K,cl⟩) h.den⟩
theorem jfl{i:Nat}{x:Str}{a apos cpos:Pos}(k:QB cl X (.Name x a) (V7 i) (pV i))(h:QB cl X e te pe)(c:attributeBase (.Name x a) "pop" X.env (eval (.Name x a) X.env)=eval (.Name x a) X.env:=by rfl)
  (f:((backTo cpos (starEach [e] X.env)).all (λx=>!x.1)&&(backToKw cpos (keywordEach [] X.env)).all (λx=>x.1.isSome)
   && decide ([e].length+([]:List Keyword).length+(if([]:List Keyword).isEmpty then 0 else 1) < 30))=true:=by rfl)
  (d:(apos.endLine==cpos.line)=true:=by rfl) (j:starEach [e] X.env=(false,eval e X.env)::starEach [] X.env:=by rfl) (b:(backTo cpos (starEach [] X.env)).any (·.1)=false:=by rfl)
  (g:swapsWith (.Call (.Attribute (.Name x a) "pop" apos) [e] [] cpos) none pos.line X.env=pure false:=by rfl) :
  QS cl pm X (.Expr (.Call (.Attribute (.Name x a) "pop" apos) [e] [] cpos) pos) (zq (tBM X.K "list" jbN (V7 i) (vd te K9))) (jam i pe) :=
 ⟨zj (jcr PySem.F.plainAttrs_list PySem.F.slot_list_pop PySem.F.type_list_pop jdq k.sem (yS h.sem Yc j) c f d j b) g,jgr h.den⟩
theorem jgc{i:Nat}{x:Str}{a apos cpos:Pos}(k:QB cl X (.Name x a) (V7 i) (pV i))(h:QP cl X e te pe)(c:attributeBase (.Name x a) "update" X.env (eval (.Name x a) X.env)=eval (.Name x a) X.env:=by rfl)
  (f:((backTo cpos (starEach [e] X.env)).all (λx=>!x.1)&&(backToKw cpos (keywordEach [] X.env)).all (λx=>x.1.isSome)
   && decide ([e].length+([]:List Keyword).length+(if([]:List Keyword).isEmpty then 0 else 1) < 30))=true:=by rfl)
  (d:(apos.endLine==cpos.line)=true:=by rfl) (j:starEach [e] X.env=(false,eval e X.env)::starEach [] X.env:=by rfl) (b:(backTo cpos (starEach [] X.env)).any (·.1)=false:=by rfl)
  (g:swapsWith (.Call (.Attribute (.Name x a) "update" apos) [e] [] cpos) none pos.line X.env=pure false:=by rfl) :
  QS cl pm X (.Expr (.Call (.Attribute (.Name x a) "update" apos) [e] [] cpos) pos) (zq (tBM X.K "dict" jgV (V7 i) (vd te K9))) (jdr i pe) :=
 ⟨zj (jcr PySem.F.plainAttrs_dict PySem.F.slot_dict_update PySem.F.type_dict_update jgB k.sem (yS h.sem Yc j) c f d j b) g,jfm (R:=⟨X.K,cl⟩) h.den⟩
end
end QD
namespace QX
open PySem PySem.Spec L2 QD PyProof.Rows
def OkB(P:Program)(w:World)(K:PySem.W.Frag)(mg:Str->Option Value)(x:Str)(st:Stmt)(k:Nat)(ps:List Str)(sp sp':Sp):Prop:=∃ f fd,FnFact K mg x x st f fd ps/\∀ base,FnOk P w K mg base CX0 k f fd ps sp/\FnOk P w K mg base (CXr P w) k f fd ps sp'
end QX
namespace K04
open PySem L2 QD QX
noncomputable def top(i:Nat):Stmt:=PySem.Challenge.pw_tranchefall_k04_bad_rows.main.body.getD i (.Pass ⟨0,0,0,0⟩)
noncomputable abbrev JM:Stmt:=top 15
noncomputable abbrev JX:List Str:=["row"]
theorem Kq:FnScope ["row"] JX (jj JM):=fsc
noncomputable abbrev JH:Stmt:=top 16
noncomputable abbrev JJ:List Str:=["word","signs"]
theorem KH:FnScope ["word","signs"] JJ (jj JH):=fsc
noncomputable abbrev vq:Stmt:=top 24
noncomputable abbrev vC:List Str:=["first","many"]
theorem Jl:FnScope ["first","many","ends"] vC (jj vq):=fsc
noncomputable abbrev vP:Stmt:=top 28
noncomputable abbrev vY:List Str:=["_law_script","_law_k"]
theorem Qg:FnScope ["_law_script","_law_k"] vY (jj vP):=fsc
noncomputable abbrev qG:Stmt:=top 29
noncomputable abbrev qm:List Str:=["_law_cell","_law_k"]
theorem VU:FnScope ["_law_cell","_law_k","_law_factor"] qm (jj qG):=fsc
noncomputable abbrev vN:Stmt:=top 30
noncomputable abbrev vX:List Str:=["_law_n"]
theorem kM:FnScope ["_law_n","_law_some"] vX (jj vN):=fsc
noncomputable abbrev vv:Stmt:=top 31
noncomputable abbrev vz:List Str:=[]
theorem JF:FnScope ["_law_heads"] vz (jj vv):=fsc
noncomputable abbrev v9:Stmt:=top 32
noncomputable abbrev vT:List Str:=["_law_n","_law_size"]
theorem yJ:FnScope ["_law_n","_law_size","_law_word","_law_k"] vT (jj v9):=fsc
noncomputable abbrev kK:Stmt:=top 34
noncomputable abbrev kA:List Str:=["_law_word"]
theorem vV:FnScope ["_law_word","_law_value","_law_sign"] kA (jj kK):=fsc
noncomputable abbrev JL:Stmt:=top 36
noncomputable abbrev JW:List Str:=["_law_n","_law_least","_law_greatest"]
theorem uB:FnScope ["_law_n","_law_least","_law_greatest"] JW (jj JL):=fsc
noncomputable abbrev kI:Stmt:=top 39
noncomputable abbrev ko:List Str:=["_law_words","_law_n"]
theorem yH:FnScope ["_law_words","_law_n","_law_row","_law_word"] ko (jj kI):=fsc
noncomputable abbrev yQ:Stmt:=top 41
noncomputable abbrev yP:List Str:=["_law_caught","_law_which","_law_place"]
theorem yh:FnScope ["_law_caught","_law_which","_law_place","_law_kinds"] yP (jj yQ):=fsc
noncomputable abbrev qN:Stmt:=top 45
noncomputable abbrev qP:List Str:=["_law_head","_law_many"]
theorem VT:FnScope ["_law_head","_law_many","_law_shapes"] qP (jj qN):=fsc
noncomputable abbrev Vf:Stmt:=top 17
noncomputable abbrev Y5:List Str:=["word"]
theorem jap:FnScope ["word"] Y5 (jj Vf):=fsc
noncomputable abbrev qu:Stmt:=top 18
noncomputable abbrev qA:List Str:=["word"]
theorem xm:FnScope ["word"] qA (jj qu):=fsc
noncomputable abbrev v5:Stmt:=top 33
noncomputable abbrev vO:List Str:=["_law_word"]
theorem J8:FnScope ["_law_word","_law_sign"] vO (jj v5):=fsc
noncomputable abbrev vR:Stmt:=top 35
noncomputable abbrev vM:List Str:=["_law_n"]
theorem jI:FnScope ["_law_n","_law_size","_law_way","_law_rest","_law_word","_law_some","_law_at"] vM (jj vR):=fsc
noncomputable abbrev kL:Stmt:=top 42
noncomputable abbrev kE:List Str:=["_law_n"]
theorem v8:FnScope ["_law_n","_law_some"] kE (jj kL):=fsc
noncomputable abbrev vA:Stmt:=top 43
noncomputable abbrev vw:List Str:=["_law_words","_law_n"]
theorem y3:FnScope ["_law_words","_law_n","_law_some","_law_at"] vw (jj vA):=fsc
noncomputable abbrev JK:Stmt:=top 26
noncomputable abbrev JR:List Str:=["word","kind"]
theorem K7:FnScope ["word","kind","number"] JR (jj JK):=fsc
noncomputable abbrev vD:Stmt:=top 37
noncomputable abbrev vo:List Str:=["_law_cell","_law_many"]
theorem Jv:FnScope ["_law_cell","_law_many"] vo (jj vD):=fsc
noncomputable abbrev kq:Stmt:=top 44
noncomputable abbrev kH:List Str:=["_law_words","_law_way","_law_at","_law_n"]
theorem yG:FnScope ["_law_words","_law_way","_law_at","_law_n","_law_some","_law_word","_law_spot"] kH (jj kq):=fsc
noncomputable abbrev kF:Stmt:=top 46
noncomputable abbrev kt:List Str:=["_law_words"]
theorem yF:FnScope ["_law_words","_law_shape_here","_law_told","_law_sort","_law_word","_law_number_here"] kt (jj kF):=fsc
noncomputable abbrev JY:Stmt:=top 25
noncomputable abbrev JQ:List Str:=["words","kinds","place"]
theorem yg:FnScope ["words","kinds","place","told","word","kind","value"] JQ (jj JY):=fsc
noncomputable abbrev kx:Stmt:=top 38
noncomputable abbrev kG:List Str:=["_law_n","_law_one","_law_two","_law_three","_law_cell"]
theorem v7:FnScope ["_law_n","_law_one","_law_two","_law_three","_law_cell","_law_way","_law_x","_law_y"] kG (jj kx):=fsc
noncomputable abbrev Kl:Stmt:=top 23
noncomputable abbrev Kh:List Str:=["row","place"]
theorem YW:FnScope ["row","place","words"] Kh (jj Kl):=fsc
noncomputable abbrev JV:Stmt:=top 40
noncomputable abbrev qf:List Str:=["_law_found","_law_due"]
theorem YD:FnScope ["_law_found","_law_due","_law_one","_law_two"] qf (jj JV):=fsc
noncomputable abbrev qL:Stmt:=top 47
noncomputable abbrev qv:List Str:=["_law_words","_law_gaps"]
theorem yW:FnScope ["_law_words","_law_gaps","_law_place","_law_due","_law_caught","_law_found","e"] qv (jj qL):=fsc
noncomputable abbrev wA:Stmt:=top 48
noncomputable abbrev jdC:List Str:=["_law_script"]
theorem JB:FnScope ["_law_script","_law_k","_law_n","_law_one","_law_two","_law_three","_law_gaps","_law_bad","_law_words"] jdC (jj wA):=fsc
noncomputable def ks_NAME_COUNTS:List KA:=[.str [101,97,116],.str [115,104,97,114,101]]
noncomputable def yq:List D:=[.tup [.int 1,.int 6],.tup [.int 2,.int 6]]
noncomputable def ks_FORMS:List KA:=[.str [112,111,111,108],.str [99,108,97,105,109],.str [112,111,116],.str [111,114,100,101,114],.str [112,97,114,116],.str [112,97,121],.str [114,101,112,97,121],.str [102,105,108,108],.str [108,101,110,100],.str [98,97,99,107],.str [114,101,115,116],.str [108,111,111,107],.str [103,117,97,114,100]]
noncomputable def w8:List D:=[.tup [.str [110,97,109,101]],.tup [.str [110,97,109,101],.str [99,111,105,110,115],.str [99,111,105,110,115]],.tup [.str [110,97,109,101],.str [99,111,105,110,115]],.tup [.str [110,97,109,101]],.tup [.str [110,97,109,101],.str [116,101,110,116,104,115]],.tup [.str [110,97,109,101]],.tup [.str [110,97,109,101]],.tup [.str [110,97,109,101]],.tup [.str [110,97,109,101],.str [99,111,105,110,115]],.tup [.str [110,97,109,101]],.tup [.str [110,97,109,101]],.tup [.str [110,97,109,101],.str [100,97,121,115],.str [110,97,109,101]],.tup [.str [110,97,109,101],.str [110,97,109,101]]]
noncomputable def JO:D:=.tup [.str [112,111,111,108],.str [99,108,97,105,109],.str [112,111,116],.str [101,97,116],.str [111,114,100,101,114],.str [112,97,114,116],.str [112,97,121],.str [115,104,97,114,101],.str [114,101,112,97,121],.str [102,105,108,108],.str [108,101,110,100],.str [98,97,99,107],.str [114,101,115,116],.str [108,111,111,107],.str [103,117,97,114,100],.str [100,101,98,116],.str [111,110],.str [108,97,116,101],.str [101,97,114,108,121],.str [113,117,105,116]]
noncomputable def ks_GREATEST:List KA:=[.str [99,111,105,110,115],.str [116,101,110,116,104,115],.str [100,97,121,115],.str [100,97,121],.str [98,121]]
noncomputable def VJ:List D:=[.int 1000000000000,.int 10,.int 9,.int 60,.int 30]
noncomputable def Vt:FS:=(yj (dP (VO (jdg (pBM "str" QZ (pV 0) (jb (pC (.str [32])) pN))) (jB [] 0) (jp (p2 V1 (pV 0) (pC (.str [])))) (pF (pV 0)) [none])))
noncomputable def kh:List D->Option D:=fnP 1 Vt
noncomputable def Vy:FS:=(yj (dP (pCB jjV (jb (VO (jdg (pV 0)) (jB [] 0) qT (p2 (zE false) (pV 0) (pV 1)) [none,some 1]) pN))))
noncomputable def qk:List D->Option D:=fnP 2 Vy
noncomputable def yy:FS:=(jD (sIf (dPT (jp (jjW false ks_NAME_COUNTS yq (pV 0)))) (jD (yw (dP (pF (jhV ks_NAME_COUNTS yq (pV 0)))) (jB [] 2))
 (yj (dP (pIf (jp (Vo jdy jdy (p2 kW (pV 2) (pC (.int 0))) (pV 1) (p2 kW (pV 2) (pC (.int 1))))) (p2 xX (jhv (jb (pC (.str [110,97,109,101])) pN)) (pV 1)) (pC .non)))))
 jF)
 (yj (dP (pF (jej ks_FORMS w8 (pV 0))))))
noncomputable def jN:List D->Option D:=fnP 3 yy
noncomputable def vS:FS:=(jD (sIf (dPT (jp (p2 jdM (pV 1) (pCB kZ (jb (pV 0) pN))))) (yj (dP (pF (p2 kW (pV 0) (pV 1)))))
 jF)
 (yj (dP (pC (.int 0)))))
noncomputable def jE:List D->Option D:=fnP 2 vS
noncomputable def Yx:FS:=(jD (yw (dP (p2 jQ (pC (.int 91343852333181432387730302044767688731)) (p2 qh (p2 qh (pC (.int 7919000003)) (pV 1)) (pV 1)))) (jB [] 2))
 (yj (dP (p2 yA (p2 qh (pV 0) (pV 2)) (pC (.int 170141183460469231731687303715884105727))))))
noncomputable def jT:List D->Option D:=fnP 3 Yx
noncomputable def qY:FS:=(jD (yw (dP (pC (.str [32,33,34,35,36,38,39,40,41,42,43,44,45,46,47,48,49,50,51,52,53,54,55,56,57,58,59,60,61,62,63,64,65,66,67,68,69,70,71,72,73,74,75,76,77,78,79,80,81,82,83,84,85,86,87,88,89,90,91,92,93,94,95,96]))) (jB [] 1))
 (jD (yw (dP (p2 jQ (pV 1) (pC (.str [97,98,99,100,101,102,103,104,105,106,107,108,109,110,111,112,113,114,115,116,117,118,119,120,121,122,123,124,125,126])))) (jB [] 1))
 (yj (dP (pF (p2 kW (pV 1) (p2 yA (pV 0) (pC (.int 94)))))))))
noncomputable def vZ:List D->Option D:=fnP 2 qY
noncomputable def kS:FS:=(jD (yw (dP (pC (.str [112,111,111,108,32,99,108,97,105,109,32,112,111,116,32,101,97,116,32,111,114,100,101,114,32,112,97,114,116,32,112,97,121,32,115,104,97,114,101,32,114,101,112,97,121,32,102,105,108,108,32,108,101,110,100,32,98,97,99,107,32,114,101,115,116,32,108,111,111,107,32,103,117,97,114,100,32,100,101,98,116,32,111,110,32,108,97,116,101,32,101,97,114,108,121,32,113,117,105,116]))) (jB [] 0))
 (yj (dP (pBM "str" QZ (pV 0) (jb (pC (.str [32])) pN)))))
noncomputable def yz:List D->Option D:=fnP 1 kS
noncomputable def km:FS:=(jD (yw (dP (p2 jQ (pV 2) (p2 kW (pC (.str [97,98,99,100,101,102,103,104,105,106,107,108,109,110,111,112,113,114,115,116,117,118,119,120,121,122])) (p2 yA (pV 0) (pC (.int 26)))))) (jB [] 2))
 (yw (dP (p2 qK (pV 0) (pC (.int 26)))) (jB [] 0)))
noncomputable def qV:FS:=(jD (yw (dP (pC (.str []))) (jB [] 2))
 (jD (zZ (zI (jb (pV 1) pN)) (jB [] 3) km)
 (yj (dP (pF (pV 2))))))
noncomputable def y8:List D->Option D:=fnP 4 qV
noncomputable def jZ:FS:=(jD (sIf (dPT (jp (p2 (zE true) (pV 2) (pC (.str [48,49,50,51,52,53,54,55,56,57]))))) (yj (dP (p1 jaH (pC (.int 1)))))
 jF)
 (yw (dP (p2 jQ (p2 qh (pV 1) (pC (.int 10))) (pBM "str" jdp (pC (.str [48,49,50,51,52,53,54,55,56,57])) (jb (pV 2) pN)))) (jB [] 1)))
noncomputable def yB:FS:=(jD (sIf (dPT (qOr (jp (p2 jdM (pCB kZ (jb (pV 0) pN)) (pC (.int 1)))) (jp (p2 jht (pCB kZ (jb (pV 0) pN)) (pC (.int 13)))))) (yj (dP (p1 jaH (pC (.int 1)))))
 jF)
 (jD (sIf (dPT (jcT (jp (p2 jht (pCB kZ (jb (pV 0) pN)) (pC (.int 1)))) (jp (p2 kn (p2 kW (pV 0) (pC (.int 0))) (pC (.str [48])))))) (yj (dP (p1 jaH (pC (.int 1)))))
 jF)
 (jD (yw (dP (pC (.int 0))) (jB [] 1))
 (jD (zZ (pIt (pF (pV 0))) (jB [] 2) jZ)
 (yj (dP (pF (pV 1))))))))
noncomputable def jH:List D->Option D:=fnP 3 yB
noncomputable def k9:FS:=(jD (sIf (dPT (jp (p2 kn (p2 yA (pV 0) (pC (.int 3))) (pC (.int 0))))) (yj (dP (pF (p2 kW (vL (jb (pF (pV 1)) (jb (pF (pV 2)) pN))) (p2 yA (p2 qK (pV 0) (pC (.int 3))) (pC (.int 2)))))))
 jF)
 (yj (dP (p2 jQ (pV 1) (p2 yA (p2 qK (pV 0) (pC (.int 3))) (p2 jQ (p2 Jg (pV 2) (pV 1)) (pC (.int 1))))))))
noncomputable def yx:List D->Option D:=fnP 3 k9
noncomputable def yf:FS:=(jD (yw (dP (p2 qK (pV 1) (pC (.int 3)))) (jB [] 1))
 (yw (dP (p2 jQ (p2 jQ (pV 2) (pV 3)) (p2 qh (pC (.str [32])) (p2 jQ (pC (.int 1)) (p2 yA (pV 1) (pC (.int 3))))))) (jB [] 2)))
noncomputable def yV:FS:=(jD (yw (dP (p2 qh (pC (.str [32])) (p2 yA (pV 1) (pC (.int 3))))) (jB [] 2))
 (jD (zZ (pIt (pF (pV 0))) (jB [] 3) yf)
 (jD (sIf (dPT (jp (p2 kn (p2 yA (p2 qK (pV 1) (pC (.int 3))) (pC (.int 2))) (pC (.int 0))))) (yw (dP (pBM "str" K3 (pV 2) pN)) (jB [] 2))
 jF)
 (yj (dP (pF (pV 2)))))))
noncomputable def ya:List D->Option D:=fnP 4 yV
noncomputable def vJ:FS:=(jD (sIf (dPT (qOr (jp (p2 YQ (pV 0) (pC .non))) (qOr (uI (jp (jac [true] (pV 0)))) (uI (jp (jac [true] (pV 0))))))) (yj (dP (pC (.bl false))))
 jF)
 (jD (yw (dP (vL (jb (jac [true] (pV 0)) (jb (jac [false] (pV 0)) (jb (jac [false] (pV 0)) pN))))) (jB [] 3))
 (jD (yw (dP (p2 jQ (pV 3) (vL (jb (jac [false] (pV 0)) (jb (jac [false] (pV 0)) pN))))) (jB [] 3))
 (jD (yw (dP (p2 jQ (pV 3) (vL (jb (jac [false] (pV 0)) (jb (jac [false] (pV 0)) pN))))) (jB [] 3))
 (jD (sIf (dPT (jp (p2 V1 (pV 3) (VO (zI (jb (pC (.int 7)) pN)) (jB [] 0) qT (p2 kn (pV 0) (pV 1)) [none,some 1])))) (yj (dP (pC (.bl false))))
 jF)
 (jD (sIf (dPT (qOr (uI (jp (xD "int" (QF 1 (pV 0))))) (jp (xD "bool" (QF 1 (pV 0)))))) (yj (dP (pC (.bl false))))
 jF)
 (yj (dP (p2 kn (QF 1 (pV 0)) (pV 2))))))))))
noncomputable def yO:List D->Option D:=fnP 4 vJ
noncomputable def vm:FS:=(jD (sIf (dPT (jp (p2 (zE false) (pV 0) (vL (jb (pC (.str [112,111,111,108])) (jb (pC (.str [111,114,100,101,114])) (jb (pC (.str [112,97,121])) (jb (pC (.str [114,101,112,97,121])) (jb (pC (.str [102,105,108,108])) (jb (pC (.str [98,97,99,107])) (jb (pC (.str [114,101,115,116])) pN))))))))))) (yj (dP (vL (jb (vL (jb (pC (.str [110,97,109,101])) pN)) pN))))
 jF)
 (jD (sIf (dPT (qOr (jcT (jp (p2 kn (pV 0) (pC (.str [101,97,116])))) (jp (p2 jdM (pV 1) (pC (.int 7))))) (jcT (jp (p2 kn (pV 0) (pC (.str [115,104,97,114,101])))) (jcT (jp (p2 jht (pV 1) (pC (.int 1)))) (jp (p2 jdM (pV 1) (pC (.int 7)))))))) (yj (dP (vL (jb (p2 xt (vL (jb (pC (.str [110,97,109,101])) pN)) (pV 1)) pN))))
 jF)
 (jD (yw (dP (K5 (prC (pC (.str [99,108,97,105,109])) (pFz (vL (jb (pC (.str [110,97,109,101])) (jb (pC (.str [99,111,105,110,115])) (jb (pC (.str [99,111,105,110,115])) pN))))) (prC (pC (.str [112,111,116])) (pFz (vL (jb (pC (.str [110,97,109,101])) (jb (pC (.str [99,111,105,110,115])) pN)))) (prC (pC (.str [108,101,110,100])) (pFz (vL (jb (pC (.str [110,97,109,101])) (jb (pC (.str [99,111,105,110,115])) pN)))) prN))))) (jB [] 2))
 (jD (jdr 2 (K5 (prC (pC (.str [112,97,114,116])) (pFz (vL (jb (pC (.str [110,97,109,101])) (jb (pC (.str [116,101,110,116,104,115])) pN)))) (prC (pC (.str [108,111,111,107])) (pFz (vL (jb (pC (.str [110,97,109,101])) (jb (pC (.str [100,97,121,115])) (jb (pC (.str [110,97,109,101])) pN))))) (prC (pC (.str [103,117,97,114,100])) (pFz (vL (jb (pC (.str [110,97,109,101])) (jb (pC (.str [110,97,109,101])) pN)))) prN)))))
 (jD (sIf (dPT (jp (p2 (jaG false) (pV 0) (pV 2)))) (yj (dP (vL (jb (pF (p2 Ko (pV 2) (pV 0))) pN))))
 jF)
 (yj (dP (vL pN))))))))
noncomputable def jS:List D->Option D:=fnP 3 vm
noncomputable def Jp:FS:=(jD (sIf (dPT (uI (jp (Vo jdy jdy (pC (.int 1)) (pCB kZ (jb (pV 0) pN)) (pC (.int 8)))))) (yj (dP (pC (.bl false))))
 jF)
 (yj (dP (jcS (jz qk (jb (pV 0) (jb (pC (.str [97,98,99,100,101,102,103,104,105,106,107,108,109,110,111,112,113,114,115,116,117,118,119,120,121,122])) pN))) (p2 (zE true) (pV 0) (pC JO))))))
noncomputable def qe:List D->Option D:=fnP 1 Jp
noncomputable def yC:FS:=(jD (sIf (dPT (qOr (uI (jp (Vo jdy jdy (pC (.int 1)) (pCB kZ (jb (pV 0) pN)) (pC (.int 13))))) (uI (jp (jz qk (jb (pV 0) (jb (pC (.str [48,49,50,51,52,53,54,55,56,57])) pN))))))) (yj (dP (pC .non)))
 jF)
 (jD (sIf (dPT (jcT (jp (p2 kn (p2 kW (pV 0) (pC (.int 0))) (pC (.str [48])))) (jp (p2 V1 (pV 0) (pC (.str [48])))))) (yj (dP (pC .non)))
 jF)
 (yj (dP (pCB jjT (jb (pV 0) pN))))))
noncomputable def yn:List D->Option D:=fnP 1 yC
noncomputable def yi:FS:=(sIf (dPT (jp (p2 (zE true) (pV 1) (pC (.str [97,98,99,100,101,102,103,104,105,106,107,108,109,110,111,112,113,114,115,116,117,118,119,120,121,122]))))) (yj (dP (pC (.bl false))))
 jF)
noncomputable def yr:FS:=(jD (sIf (dPT (qOr (jp (p2 jdM (pCB kZ (jb (pV 0) pN)) (pC (.int 1)))) (qOr (jp (p2 jht (pCB kZ (jb (pV 0) pN)) (pC (.int 8)))) (jp (p2 (zE false) (pV 0) (jz yz pN)))))) (yj (dP (pC (.bl false))))
 jF)
 (jD (zZ (pIt (pF (pV 0))) (jB [] 1) yi)
 (yj (dP (pC (.bl true))))))
noncomputable def j8:List D->Option D:=fnP 2 yr
noncomputable def j9:FS:=(jD (yw (dP (p2 jQ (pC (.int 1)) (p2 yA (pV 0) (pC (.int 8))))) (jB [] 1))
 (jD (yw (dP (p2 yA (p2 qK (pV 0) (pC (.int 8))) (pC (.int 4)))) (jB [] 2))
 (jD (yw (dP (p2 qK (pV 0) (pC (.int 32)))) (jB [] 3))
 (jD (yw (dP (jz y8 (jb (pV 3) (jb (pV 1) pN)))) (jB [] 4))
 (jD (sIf (dPT (jp (p2 kn (pV 2) (pC (.int 0))))) (jD (yw (dP (vL (jb (pC (.str [120])) (jb (pC (.str [120,120])) (jb (pC (.str [120,121])) (jb (pC (.str [121,120])) (jb (pC (.str [112,111,111,108,115])) (jb (pC (.str [111,110,99,101])) (jb (pC (.str [97])) (jb (pC (.str [122])) (jb (pC (.str [97,97,97,97,97,97,97,97])) (jb (pC (.str [97,97,97,97,97,97,97,98])) (jb (pC (.str [98,97,97,97,97,97,97,97])) (jb (pC (.str [97,97,97,97,98,97,97,97])) pN)))))))))))))) (jB [] 5))
 (yw (dP (pF (p2 kW (pV 5) (p2 yA (pV 3) (pC (.int 12)))))) (jB [] 4)))
 jF)
 (jD (sIf (dPT (jp (p2 kn (pV 2) (pC (.int 1))))) (jD (yw (dP (p2 yA (p2 qK (pV 3) (pC (.int 26))) (pV 1))) (jB [] 6))
 (yw (dP (p2 jQ (p2 jQ (p2 qh (pC (.str [109])) (pV 6)) (jz y8 (jb (pV 3) (jb (pC (.int 1)) pN)))) (p2 qh (pC (.str [109])) (p2 Jg (p2 Jg (pV 1) (pC (.int 1))) (pV 6))))) (jB [] 4)))
 jF)
 (jD (sIf (dPT (jp (p2 (zE false) (pV 4) (jz yz pN)))) (yw (dP (p2 jQ (pV 4) (pC (.str [113])))) (jB [] 4))
 jF)
 (yj (dP (pF (pV 4)))))))))))
noncomputable def jG:List D->Option D:=fnP 7 j9
noncomputable def Jq:FS:=(jD (yw (dP (p2 jQ (jz yz pN) (vL (jb (pC (.str [61])) (jb (pC (.str [120])) (jb (pC (.str [95])) (jb (pC (.str [48,48])) (jb (pC (.str [48,49])) (jb (pC (.str [48,48,48,55])) (jb (pC (.str [45,49])) (jb (pC (.str [43,51])) (jb (pC (.str [49,120])) (jb (pC (.str [120,49])) (jb (pC (.str [97])) (jb (pC (.str [65,98])) (jb (pC (.str [97,95,98])) pN)))))))))))))))) (jB [] 1))
 (jD (yw (dP (p2 jQ (pV 1) (vL (jb (pC (.str [97,98,99,100,101,102,103,104])) (jb (pC (.str [97,98,99,100,101,102,103,104,105])) (jb (pC (.str [48])) (jb (pC (.str [49])) (jb (pC (.str [57])) (jb (pC (.str [49,48])) (jb (pC (.str [49,49])) (jb (pC (.str [53])) (jb (pC (.str [49,46,48])) (jb (pC (.str [49,48,48,48,48,48,48,48,48,48,48,48,48])) pN))))))))))))) (jB [] 1))
 (jD (yw (dP (p2 jQ (pV 1) (vL (jb (pC (.str [49,48,48,48,48,48,48,48,48,48,48,48,49])) (jb (p2 qh (pC (.str [57])) (pC (.int 13))) (jb (p2 qh (pC (.str [57])) (pC (.int 14))) (jb (pC (.str [112,111,111,108,115])) (jb (pC (.str [80,111,111,108])) pN)))))))) (jB [] 1))
 (yj (dP (pF (p2 kW (pV 1) (p2 yA (pV 0) (pC (.int 48))))))))))
noncomputable def yT:List D->Option D:=fnP 2 Jq
noncomputable def vx:FS:=(jD (yw (dP (pCB jas (jb (pV 0) pN))) (jB [] 2))
 (jD (yw (dP (VO (zI (jb (pCB kZ (jb (pV 2) pN)) pN)) (jB [] 0) (jp (p2 jjY (jz jH (jb (p2 kW (pV 1) (pV 0)) pN)) (pC (.int 0)))) (pF (pV 0)) [none,some 2])) (jB [] 3))
 (jD (sIf (dPT (jp (p2 V1 (pV 3) (vL pN)))) (yw (dP (pF (p2 kW (vL (jb (pC (.str [48])) (jb (pC (.str [49])) (jb (pC (.str [57])) (jb (pC (.str [49,48])) (jb (pC (.str [49,49])) (jb (pC (.str [49,48,48,48,48,48,48,48,48,48,48,48,48])) (jb (pC (.str [49,48,48,48,48,48,48,48,48,48,48,48,49])) pN)))))))) (p2 yA (pV 1) (pC (.int 7)))))) (gIx [] 2 (p2 kW (pV 3) (p2 yA (p2 qK (pV 1) (pC (.int 7))) (pCB kZ (jb (pV 3) pN))))))
 jF)
 (yj (dMv 2)))))
noncomputable def yL:List D->Option D:=fnP 4 vx
noncomputable def yX:FS:=(jD (sIf (dPT (jp (p2 kn (pV 1) (pC (.str [110,97,109,101]))))) (yj (dP (pIf (jp (jz qe (jb (pV 0) pN))) (pF (pV 0)) (pC .non))))
 jF)
 (jD (yw (dP (jz yn (jb (pV 0) pN))) (jB [] 2))
 (jD (sIf (dPT (qOr (jp (p2 YQ (pV 2) (pC .non))) (uI (jp (Vo jdy jdy (pC (.int 1)) (pV 2) (jhV ks_GREATEST VJ (pV 1))))))) (yj (dP (pC .non)))
 jF)
 (yj (dP (pF (pV 2)))))))
noncomputable def j4:List D->Option D:=fnP 3 yX
noncomputable def kQ:FS:=(yj (dP (VO (zI (jb (pV 1) pN)) (jB [] 0) qT (jz jG (jb (jz jT (jb (pV 1) (jb (p2 jQ (pC (.int 10)) (pV 0)) pN))) pN)) [none,some 0])))
noncomputable def yM:List D->Option D:=fnP 2 kQ
noncomputable def jX:FS:=(jD (yw (dP (pCB jas (jb (pV 0) pN))) (jB [] 4))
 (jD (sIf (dPT (jp (p2 kn (pV 1) (pC (.int 0))))) (yj (dP (jz yL (jb (pV 0) (jb (pV 3) pN)))))
 jF)
 (jD (sIf (dPT (jp (p2 kn (pV 1) (pC (.int 1))))) (jD (jfJ 4 (p2 yA (pV 2) (p2 jQ (pCB kZ (jb (pV 4) pN)) (pC (.int 1)))) (jz yT (jb (pV 3) pN)))
 (yj (dMv 4)))
 jF)
 (jD (yw (dP (p2 yA (pV 2) (pCB kZ (jb (pV 4) pN)))) (jB [] 2))
 (jD (yw (dP (pF (p2 kW (pV 4) (pV 2)))) (jB [] 5))
 (jD (yw (dP (p2 yA (pV 3) (p2 jQ (pCB kZ (jb (pV 5) pN)) (pC (.int 1))))) (jB [] 6))
 (jD (sIf (dPT (jp (p2 kn (pV 1) (pC (.int 2))))) (yw (dP (jz yT (jb (pV 3) pN))) (gIx [] 4 (pV 2)))
 jF)
 (jD (sIf (dPT (jp (p2 kn (pV 1) (pC (.int 3))))) (jam 4 (pV 2))
 jF)
 (jD (sIf (dPT (jp (p2 kn (pV 1) (pC (.int 4))))) (yw (dP (p2 jQ (p2 jQ (pSl (pV 5) oN (oS (pV 6))) (jz vZ (jb (p2 jQ (pC (.int 1)) (p2 yA (p2 qK (pV 3) (pC (.int 40))) (pC (.int 93)))) pN))) (pSl (pV 5) (oS (pV 6)) oN))) (gIx [] 4 (pV 2)))
 jF)
 (jD (sIf (dPT (jp (p2 kn (pV 1) (pC (.int 5))))) (yw (dP (p2 jQ (pSl (pV 5) oN (oS (pV 6))) (pSl (pV 5) (oS (p2 jQ (pV 6) (pC (.int 1)))) oN))) (gIx [] 4 (pV 2)))
 jF)
 (jD (sIf (dPT (jp (p2 kn (pV 1) (pC (.int 6))))) (jD (yw (dP (pF (p2 kW (pV 4) (p2 Jg (pV 2) (pC (.int 1)))))) (gIx [] 4 (pV 2)))
 (yw (dP (pF (pV 5))) (gIx [] 4 (p2 Jg (pV 2) (pC (.int 1))))))
 jF)
 (jD (sIf (dPT (jp (p2 kn (pV 1) (pC (.int 7))))) (jfJ 4 (pV 2) (pF (pV 5)))
 jF)
 (yj (dP (VO (jdg (pV 4)) (jB [] 0) (jp (p2 V1 (pV 0) (pC (.str [])))) (pF (pV 0)) [none])))))))))))))))
noncomputable def jP:List D->Option D:=fnP 7 jX
noncomputable def jC:FS:=(sIf (dPT (jp (p2 kn (pV 3) (pC (.str [110,97,109,101]))))) (jD (sIf (dPT (uI (jp (jz j8 (jb (pV 4) pN))))) (yj (dP (vL pN)))
 jF)
 (jdX 2 (pF (pV 4))))
 (jD (yw (dP (jz jH (jb (pV 4) pN))) (jB [] 5))
 (jD (sIf (dPT (qOr (jp (p2 jdM (pV 5) (pC (.int 1)))) (jp (p2 jht (pV 5) (p2 Ko (K5 (prC (pC (.str [99,111,105,110,115])) (p2 Vk (pC (.int 10)) (pC (.int 12))) (prC (pC (.str [116,101,110,116,104,115])) (pC (.int 10)) (prC (pC (.str [100,97,121,115])) (pC (.int 9)) prN)))) (pV 3)))))) (yj (dP (vL pN)))
 jF)
 (jdX 2 (pF (pV 5))))))
noncomputable def jv:FS:=(jD (sIf (dPT (qOr (jp (p2 V1 (pCB kZ (jb (pV 1) pN)) (p2 Jg (pCB kZ (jb (pV 0) pN)) (pC (.int 1))))) (jp (p2 kn (pV 1) (vL pN))))) (yj (dP (vL pN)))
 jF)
 (jD (yw (dP (vL (jb (pF (p2 kW (pV 0) (pC (.int 0)))) pN))) (jB [] 2))
 (jD (zZ (jhh (jb (pF (pV 1)) (jb (pSl (pV 0) (oS (pC (.int 1))) oN) pN))) (gT 2 (gC (jB [] 3) (gC (jB [] 4) gN))) jC)
 (sFz 2 (yj (dP (vL (jb (pF (pV 2)) pN))))))))
noncomputable def yk:FS:=(jD (sIf (dPT (jp (p2 kn (pV 0) (vL pN)))) (yj (dP (vL (jb (pC .non) pN))))
 jF)
 (jD (zZ (pIt (jz jS (jb (p2 kW (pV 0) (pC (.int 0))) (jb (p2 Jg (pCB kZ (jb (pV 0) pN)) (pC (.int 1))) pN)))) (jB [] 1) jv)
 (yj (dP (vL pN)))))
noncomputable def jY:List D->Option D:=fnP 6 yk
noncomputable def kJ:FS:=(jD (yw (dP (jz j4 (jb (pV 4) (jb (pV 5) pN)))) (jB [] 6))
 (jD (sIf (dPT (jp (p2 YQ (pV 6) (pC .non)))) kY
 jF)
 (jdX 3 (pF (pV 6)))))
noncomputable def VH:FS:=(jD (sIf (dPT (qOr (jp (p2 YQ (pV 1) (pC .non))) (jp (p2 V1 (pCB kZ (jb (pV 1) pN)) (p2 Jg (pCB kZ (jb (pV 0) pN)) (pC (.int 1))))))) kY
 jF)
 (jD (yw (dP (vL (jb (pF (p2 kW (pV 0) (pC (.int 0)))) pN))) (jB [] 3))
 (jD (zZ (jep (jb (pSl (pV 0) (oS (pC (.int 1))) oN) (jb (pF (pV 1)) pN))) (gT 2 (gC (jB [] 4) (gC (jB [] 5) gN))) kJ)
 (yj (dMv 3)))))
noncomputable def JG:List D->Option D:=fnP 7 VH
noncomputable def kj:FS:=(jD (yw (dP (jz j4 (jb (pV 4) (jb (pV 5) pN)))) (jB [] 6))
 (jD (sIf (dPT (jp (p2 YQ (pV 6) (pC .non)))) kY jF)
 (jdX 3 (pF (pV 6)))))
noncomputable def vh:FX:=(Qa xN (yw (dP (jz j4 (jb (pV 4) (jb (pV 5) pN)))) (jB [] 6))
 (Qa (xIf (jp (p2 YQ (pV 6) (pC .non))) (V2 0 (jb (jj7 4) (jb (pF (pV 2)) pN))) xN) (sIf (dPT (jp (p2 YQ (pV 6) (pC .non)))) kY jF)
 xN))
noncomputable def jaR:FS:=(jD (sIf (dPT (qOr (jp (p2 YQ (pV 1) (pC .non))) (jp (p2 V1 (pCB kZ (jb (pV 1) pN)) (p2 Jg (pCB kZ (jb (pV 0) pN)) (pC (.int 1))))))) kY jF)
 (jD (yw (dP (vL (jb (pF (p2 kW (pV 0) (pC (.int 0)))) pN))) (jB [] 3))
 (jD (zZ (jep (jb (pSl (pV 0) (oS (pC (.int 1))) oN) (jb (pF (pV 1)) pN))) (gT 2 (gC (jB [] 4) (gC (jB [] 5) gN))) kj)
 (yj (dMv 3)))))
noncomputable def kg:FX:=(Qa (xIf (qOr (jp (p2 YQ (pV 1) (pC .non))) (jp (p2 V1 (pCB kZ (jb (pV 1) pN)) (p2 Jg (pCB kZ (jb (pV 0) pN)) (pC (.int 1)))))) (V2 0 (jb (pC (.str [116,104,101,32,114,111,119,32,104,97,115,32,110,111,32,102,111,114,109,32,116,104,97,116,32,97,32,114,111,119,32,109,97,121,32,104,97,118,101])) (jb (pF (pV 2)) pN))) xN) (sIf (dPT (qOr (jp (p2 YQ (pV 1) (pC .non))) (jp (p2 V1 (pCB kZ (jb (pV 1) pN)) (p2 Jg (pCB kZ (jb (pV 0) pN)) (pC (.int 1))))))) kY jF)
 (Qa xN (yw (dP (vL (jb (pF (p2 kW (pV 0) (pC (.int 0)))) pN))) (jB [] 3))
 (Qa (jhr (jep (jb (pSl (pV 0) (oS (pC (.int 1))) oN) (jb (pF (pV 1)) pN))) (gT 2 (gC (jB [] 4) (gC (jB [] 5) gN))) kj vh) (zZ (jep (jb (pSl (pV 0) (oS (pC (.int 1))) oN) (jb (pF (pV 1)) pN))) (gT 2 (gC (jB [] 4) (gC (jB [] 5) gN))) kj)
 xN)))
noncomputable def ye:List D->Option (Nat×Int):=fnR 7 kg
noncomputable def j0:FS:=(jD (yw (dP (p2 yA (pV 0) (pC (.int 15)))) (jB [] 5))
 (jD (yw (dP (jz jG (jb (pV 1) pN))) (jB [] 6))
 (jD (yw (dP (jz jG (jb (pV 2) pN))) (jB [] 7))
 (jD (sIf (dPT (jp (p2 jdM (pV 5) (pC (.int 7))))) (yj (dP (vL (jb (pF (p2 kW (vL (jb (pC (.str [112,111,111,108])) (jb (pC (.str [111,114,100,101,114])) (jb (pC (.str [112,97,121])) (jb (pC (.str [114,101,112,97,121])) (jb (pC (.str [102,105,108,108])) (jb (pC (.str [98,97,99,107])) (jb (pC (.str [114,101,115,116])) pN)))))))) (pV 5))) (jb (pF (pV 6)) pN)))))
 jF)
 (jD (sIf (dPT (jp (p2 kn (pV 5) (pC (.int 7))))) (yj (dP (vL (jb (pC (.str [99,108,97,105,109])) (jb (pF (pV 6)) (jb (jz yx (jb (pV 2) (jb (pC (.int 1)) (jb (p2 Vk (pC (.int 10)) (pC (.int 12))) pN)))) (jb (jz yx (jb (pV 3) (jb (pC (.int 1)) (jb (p2 Vk (pC (.int 10)) (pC (.int 12))) pN)))) pN)))))))
 jF)
 (jD (sIf (dPT (jp (p2 jdM (pV 5) (pC (.int 10))))) (yj (dP (vL (jb (pF (p2 kW (vL (jb (pC (.str [112,111,116])) (jb (pC (.str [108,101,110,100])) pN))) (p2 Jg (pV 5) (pC (.int 8))))) (jb (pF (pV 6)) (jb (jz yx (jb (pV 2) (jb (pC (.int 1)) (jb (p2 Vk (pC (.int 10)) (pC (.int 12))) pN)))) pN))))))
 jF)
 (jD (sIf (dPT (jp (p2 kn (pV 5) (pC (.int 10))))) (yj (dP (vL (jb (pC (.str [112,97,114,116])) (jb (pF (pV 6)) (jb (jz yx (jb (pV 2) (jb (pC (.int 1)) (jb (pC (.int 10)) pN)))) pN))))))
 jF)
 (jD (sIf (dPT (jp (p2 kn (pV 5) (pC (.int 11))))) (yj (dP (vL (jb (pC (.str [108,111,111,107])) (jb (pF (pV 6)) (jb (jz yx (jb (pV 3) (jb (pC (.int 1)) (jb (pC (.int 9)) pN)))) (jb (pF (pV 7)) pN)))))))
 jF)
 (jD (sIf (dPT (jp (p2 kn (pV 5) (pC (.int 12))))) (yj (dP (vL (jb (pC (.str [103,117,97,114,100])) (jb (pF (pV 6)) (jb (pF (pV 7)) pN))))))
 jF)
 (jD (sIf (dPT (jp (p2 kn (pV 5) (pC (.int 13))))) (yj (dP (p2 jQ (vL (jb (pC (.str [101,97,116])) pN)) (jz yM (jb (pV 4) (jb (p2 jQ (pC (.int 1)) (p2 yA (p2 qK (pV 0) (pC (.int 15))) (pC (.int 6)))) pN))))))
 jF)
 (yj (dP (p2 jQ (vL (jb (pC (.str [115,104,97,114,101])) pN)) (jz yM (jb (pV 4) (jb (p2 jQ (pC (.int 2)) (p2 yA (p2 qK (pV 0) (pC (.int 15))) (pC (.int 5)))) pN))))))))))))))))
noncomputable def jO:List D->Option D:=fnP 8 j0
noncomputable def Kf:FS:=(jD (yw (dP (jz kh (jb (pV 0) pN))) (jB [] 2))
 (jD (sIf (dPT (jp (p2 kn (pCB kZ (jb (pV 2) pN)) (pC (.int 0))))) (yj (dP (pC .non)))
 jF)
 (yj (dP (jz JG (jb (pV 2) (jb (jz jN (jb (p2 kW (pV 2) (pC (.int 0))) (jb (p2 Jg (pCB kZ (jb (pV 2) pN)) (pC (.int 1))) pN))) (jb (pV 1) pN))))))))
noncomputable def YY:List D->Option D:=fnP 3 Kf
noncomputable def jdY:FS:=(jD (yw (dP (jz kh (jb (pV 0) pN))) (jB [] 2))
 (jD (sIf (dPT (jp (p2 kn (pCB kZ (jb (pV 2) pN)) (pC (.int 0))))) (yj (dP (pC .non))) jF)
 kY))
noncomputable def qX:FX:=(Qa xN (yw (dP (jz kh (jb (pV 0) pN))) (jB [] 2))
 (Qa (xIf (jp (p2 kn (pCB kZ (jb (pV 2) pN)) (pC (.int 0)))) xN xN) (sIf (dPT (jp (p2 kn (pCB kZ (jb (pV 2) pN)) (pC (.int 0))))) (yj (dP (pC .non))) jF)
 (zh ye (jb (pV 2) (jb (jz jN (jb (p2 kW (pV 2) (pC (.int 0))) (jb (p2 Jg (pCB kZ (jb (pV 2) pN)) (pC (.int 1))) pN))) (jb (pV 1) pN))))))
noncomputable def yZ:List D->Option (Nat×Int):=fnR 3 qX
noncomputable def ku(vn:List D->Option D):FS:=(sIf (dPT (uI (jp (jz vn (jb (pV 2) (jb (pV 3) pN)))))) (yj (dP (pC (.bl false))))
 jF)
noncomputable def kf(vn:List D->Option D):FS:=(jD (sIf (dPT (qOr (jp (xD "list" (pV 1))) (jp (xD "tuple" (pV 1))))) (jD (sIf (dPT (jp (p2 V1 (xD "list" (pV 1)) (xD "list" (pV 0))))) (yj (dP (pC (.bl false))))
 jF)
 (jD (sIf (dPT (jp (p2 V1 (xD "tuple" (pV 1)) (xD "tuple" (pV 0))))) (yj (dP (pC (.bl false))))
 jF)
 (jD (sIf (dPT (jp (p2 V1 (pCB kZ (jb (pV 0) pN)) (pCB kZ (jb (pV 1) pN))))) (yj (dP (pC (.bl false))))
 jF)
 (jD (zZ (jhh (jb (pF (pV 0)) (jb (pF (pV 1)) pN))) (gT 2 (gC (jB [] 2) (gC (jB [] 3) gN))) (ku vn))
 (yj (dP (pC (.bl true))))))))
 jF)
 (jD (sIf (dPT (jp (p2 YQ (pV 1) (pC .non)))) (yj (dP (p2 YQ (pV 0) (pC .non))))
 jF)
 (jD (sIf (dPT (jp (xD "str" (pV 1)))) (yj (dP (jcS (xD "str" (pV 0)) (p2 kn (pV 0) (pV 1)))))
 jF)
 (yj (dP (jcS (xD "int" (pV 0)) (jcS (jhu (xD "bool" (pV 0))) (p2 kn (pV 0) (pV 1)))))))))
noncomputable def j6:Nat->List D->Option D
 | 0=>λ_=>none
 | n+1=>fnP 4 (kf (j6 n))
noncomputable def vn:List D->Option D:=j6 8
noncomputable def qo:FS:=(jD (yw (dP (p2 jQ (pC (.int 1)) (p2 yA (p2 qK (pV 1) (p2 Vk (pC (.int 10)) (pC (.int 9)))) (pC (.int 400))))) (jB [] 2))
 (jD (yw (dP (jz jY (jb (pV 0) pN))) (jB [] 3))
 (jD (yw (dP (pC .non)) (jB [] 4))
 (jD (yw (dP (pC .non)) (jB [] 5))
 (jD (jaF YY yZ 1 5 4 6 (jb (jz ya (jb (pV 0) (jb (pV 1) pN))) (jb (pV 2) pN)))
 (jD (sIf (dPT (jp (p2 kn (pCB kZ (jb (pV 3) pN)) (pC (.int 1))))) (yj (dP (jcS (p2 YQ (pV 4) (pC .non)) (jz vn (jb (pV 5) (jb (p2 kW (pV 3) (pC (.int 0))) pN))))))
 jF)
 (yj (dP (jz yO (jb (pV 4) (jb (pC (.int 0)) (jb (pV 2) pN))))))))))))
noncomputable def kl:List D->Option D:=fnP 7 qo
noncomputable def zB:FS:=(jD (yw (dP (jz jT (jb (jz jE (jb (pV 0) (jb (pV 1) pN))) (jb (pC (.int 1)) pN)))) (jB [] 2))
 (jD (yw (dP (jz jT (jb (jz jE (jb (pV 0) (jb (p2 jQ (pV 1) (pC (.int 1))) pN))) (jb (pC (.int 2)) pN)))) (jB [] 3))
 (jD (yw (dP (jz jT (jb (jz jE (jb (pV 0) (jb (p2 jQ (pV 1) (pC (.int 2))) pN))) (jb (pC (.int 3)) pN)))) (jB [] 4))
 (jD (yw (dP (jz jT (jb (jz jE (jb (pV 0) (jb (p2 jQ (pV 1) (pC (.int 3))) pN))) (jb (pC (.int 4)) pN)))) (jB [] 5))
 (jD (yw (dP (jz jT (jb (jz jE (jb (pV 0) (jb (p2 jQ (pV 1) (pC (.int 4))) pN))) (jb (pC (.int 5)) pN)))) (jB [] 6))
 (jD (yw (dP (jz jT (jb (jz jE (jb (pV 0) (jb (p2 jQ (pV 1) (pC (.int 4))) pN))) (jb (pC (.int 6)) pN)))) (jB [] 7))
 (jD (yw (dP (VO (jdg (jz jO (jb (pV 2) (jb (pV 3) (jb (pV 4) (jb (pV 5) (jb (jz jE (jb (pV 0) (jb (p2 jQ (pV 1) (pC (.int 3))) pN))) pN))))))) (jB [] 0) qT (pCB jeN (jb (pV 0) pN)) [none])) (jB [] 8))
 (jD (yw (dP (jz jP (jb (pV 8) (jb (p2 yA (pV 7) (pC (.int 8))) (jb (p2 yA (p2 qK (pV 7) (pC (.int 8))) (pC (.int 1000))) (jb (jz jT (jb (jz jE (jb (pV 0) (jb (p2 jQ (pV 1) (pC (.int 3))) pN))) (jb (pC (.int 7)) pN))) pN)))))) (jB [] 8))
 (sIf (dPT (uI (jp (jz kl (jb (pV 8) (jb (pV 6) pN)))))) (yj (dP (pC (.bl false))))
 jF)))))))))
noncomputable def jgS:FS:=(jD (zZ (jd8 (jb (pC (.int 0)) (jb (pCB jlX (jb (pC (.int 1)) (jb (pCB kZ (jb (pV 0) pN)) pN))) (jb (pC (.int 5)) pN)))) (jB [] 1) zB)
 (yj (dP (pC (.bl true)))))
noncomputable def jax:List D->Option D:=fnP 9 jgS
noncomputable abbrev jeM:Stmt:=jfv (top 1) 0
theorem jfI:FnScope ["self","words","place"] ["self","words","place"] (jj jeM):=fsc
structure Txt(P:Program)(w:World)(K:PySem.W.Frag)(mg:Str->Option Value)(cl:Nat->Addr)(jh:Addr)(b_NAME_COUNTS_0:Addr)(b_NAME_COUNTS_1:Addr)(jy:Addr)(b_FORMS_0:Addr)(b_FORMS_1:Addr)(b_FORMS_2:Addr)(b_FORMS_3:Addr)(b_FORMS_4:Addr)(b_FORMS_5:Addr)(b_FORMS_6:Addr)(b_FORMS_7:Addr)(b_FORMS_8:Addr)(b_FORMS_9:Addr)(b_FORMS_10:Addr)(b_FORMS_11:Addr)(b_FORMS_12:Addr)(t_LONGEST_NAME:Tok)(jl:Addr)(t_LETTERS:Tok)(t_LONGEST_NUMBER:Tok)(t_FIGURES:Tok)(jk:Addr)(jU:Addr)(x_DealError:Addr)(x_Unfinished:Addr)(x_Misplaced:Addr)(x_NoName:Addr)(x_Twice:Addr)(x_TooMany:Addr)(x_Unguarded:Addr):Prop where
 c_NAME_COUNTS:mg "NAME_COUNTS" = some (.ref jh)
 k_NAME_COUNTS:KD P w K jh ((ks_NAME_COUNTS.map kaV).zip [.ref b_NAME_COUNTS_0,.ref b_NAME_COUNTS_1])
 r_NAME_COUNTS:∀(cl:Nat->Addr) (Z:Zn) (H:Hp),Reps ⟨K,cl⟩ Z H yq [.ref b_NAME_COUNTS_0,.ref b_NAME_COUNTS_1] []
 c_FORMS:mg "FORMS" = some (.ref jy)
 k_FORMS:KD P w K jy ((ks_FORMS.map kaV).zip [.ref b_FORMS_0,.ref b_FORMS_1,.ref b_FORMS_2,.ref b_FORMS_3,.ref b_FORMS_4,.ref b_FORMS_5,.ref b_FORMS_6,.ref b_FORMS_7,.ref b_FORMS_8,.ref b_FORMS_9,.ref b_FORMS_10,.ref b_FORMS_11,.ref b_FORMS_12])
 r_FORMS:∀(cl:Nat->Addr) (Z:Zn) (H:Hp),Reps ⟨K,cl⟩ Z H w8 [.ref b_FORMS_0,.ref b_FORMS_1,.ref b_FORMS_2,.ref b_FORMS_3,.ref b_FORMS_4,.ref b_FORMS_5,.ref b_FORMS_6,.ref b_FORMS_7,.ref b_FORMS_8,.ref b_FORMS_9,.ref b_FORMS_10,.ref b_FORMS_11,.ref b_FORMS_12] []
 c_LONGEST_NAME:mg "LONGEST_NAME" = some (.int 8 t_LONGEST_NAME)
 c_KEYWORDS:mg "KEYWORDS" = some (.ref jl)
 r_KEYWORDS:∀(cl:Nat->Addr) (Z:Zn) (H:Hp),Rep ⟨K,cl⟩ Z H JO (.ref jl) []
 c_LETTERS:mg "LETTERS" = some (.str "abcdefghijklmnopqrstuvwxyz" t_LETTERS)
 c_LONGEST_NUMBER:mg "LONGEST_NUMBER" = some (.int 13 t_LONGEST_NUMBER)
 c_FIGURES:mg "FIGURES" = some (.str "0123456789" t_FIGURES)
 c_GREATEST:mg "GREATEST" = some (.ref jk)
 k_GREATEST:KD P w K jk ((ks_GREATEST.map kaV).zip [.int 1000000000000,.int 10,.int 9,.int 60,.int 30])
 r_GREATEST:∀(cl:Nat->Addr) (Z:Zn) (H:Hp),Reps ⟨K,cl⟩ Z H VJ [.int 1000000000000,.int 10,.int 9,.int 60,.int 30] []
 n_ValueError:mg "ValueError" = none
 n_all:mg "all" = none
 n_bool:mg "bool" = none
 n_int:mg "int" = none
 n_isinstance:mg "isinstance" = none
 n_len:mg "len" = none
 n_list:mg "list" = none
 n_max:mg "max" = none
 n_range:mg "range" = none
 n_str:mg "str" = none
 n_tuple:mg "tuple" = none
 n_zip:mg "zip" = none
 g_DealError:mg "DealError" = some (.ref x_DealError)
 g_Unfinished:mg "Unfinished" = some (.ref x_Unfinished)
 g_Misplaced:mg "Misplaced" = some (.ref x_Misplaced)
 g_BadRow:mg "BadRow" = some (.ref (cl 0))
 g_NoName:mg "NoName" = some (.ref x_NoName)
 g_Twice:mg "Twice" = some (.ref x_Twice)
 g_TooMany:mg "TooMany" = some (.ref x_TooMany)
 g_Unguarded:mg "Unguarded" = some (.ref x_Unguarded)
 ini:Ini P w K mg (cl 0) jU
 XD:XC K x_DealError
 sub0:∀ c,c < 1->XC K (cl c)/\PySem.W.subIn K (.ref (cl c)) (.ref x_DealError)=some true
 pl0:∀ c,c < 1->XC K (cl c)/\QC K (cl c) "place"
 i_DealError:V6 K cl (.ref x_DealError) [true]
 i_Unfinished:V6 K cl (.ref x_Unfinished) [false]
 i_Misplaced:V6 K cl (.ref x_Misplaced) [false]
 i_BadRow:V6 K cl (.ref (cl 0)) [true]
 i_NoName:V6 K cl (.ref x_NoName) [false]
 i_Twice:V6 K cl (.ref x_Twice) [false]
 i_TooMany:V6 K cl (.ref x_TooMany) [false]
 i_Unguarded:V6 K cl (.ref x_Unguarded) [false]
 i_ValueError:V6 K cl (.ty "ValueError") [true]
section
variable (P:Program)(w:World)(K:PySem.W.Frag)(mg:Str->Option Value)(cl:Nat->Addr)
noncomputable abbrev QH:Prop:=OkF P w K mg "words_in" JM 1 JX (spP ⟨K,cl⟩ kh 1)
noncomputable abbrev Vz:Prop:=OkF P w K mg "has_only" JH 1 JJ (spP ⟨K,cl⟩ qk 2)
noncomputable abbrev J2:Prop:=OkF P w K mg "kinds_behind" vq 1 vC (spP ⟨K,cl⟩ jN 2)
noncomputable abbrev Vg:Prop:=OkF P w K mg "_law_cell_at" vP 1 vY (spP ⟨K,cl⟩ jE 2)
noncomputable abbrev YH:Prop:=OkF P w K mg "_law_mixed" qG 1 qm (spP ⟨K,cl⟩ jT 2)
noncomputable abbrev Y2:Prop:=OkF P w K mg "_law_sign_by" vN 1 vX (spP ⟨K,cl⟩ vZ 1)
noncomputable abbrev vy:Prop:=OkF P w K mg "_law_keywords" vv 1 vz (spP ⟨K,cl⟩ yz 0)
noncomputable abbrev Y7:Prop:=OkF P w K mg "_law_letters" v9 1 vT (spP ⟨K,cl⟩ y8 2)
noncomputable abbrev JA:Prop:=OkF P w K mg "_law_number" kK 1 kA (spP ⟨K,cl⟩ jH 1)
noncomputable abbrev Qs:Prop:=OkF P w K mg "_law_from" JL 1 JW (spP ⟨K,cl⟩ yx 3)
noncomputable abbrev VS:Prop:=OkF P w K mg "_law_spaced" kI 1 ko (spP ⟨K,cl⟩ ya 2)
noncomputable abbrev Jb:Prop:=OkF P w K mg "_law_is_refused" yQ 1 yP (spP ⟨K,cl⟩ yO 3)
noncomputable abbrev KI:Prop:=OkF P w K mg "_law_shape" qN 1 qP (spP ⟨K,cl⟩ jS 2)
noncomputable abbrev xz:Prop:=OkF P w K mg "is_name" Vf 2 Y5 (spP ⟨K,cl⟩ qe 1)
noncomputable abbrev KS:Prop:=OkF P w K mg "number_in" qu 2 qA (spP ⟨K,cl⟩ yn 1)
noncomputable abbrev Vd:Prop:=OkF P w K mg "_law_is_name" v5 2 vO (spP ⟨K,cl⟩ j8 1)
noncomputable abbrev qD:Prop:=OkF P w K mg "_law_name_by" vR 2 vM (spP ⟨K,cl⟩ jG 1)
noncomputable abbrev V3:Prop:=OkF P w K mg "_law_odd_by" kL 2 kE (spP ⟨K,cl⟩ yT 1)
noncomputable abbrev Yj:Prop:=OkF P w K mg "_law_at_bound" vA 2 vw (spP ⟨K,cl⟩ yL 2)
noncomputable abbrev Qr:Prop:=OkF P w K mg "value_in" JK 3 JR (spP ⟨K,cl⟩ j4 2)
noncomputable abbrev JZ:Prop:=OkF P w K mg "_law_names_by" vD 3 vo (spP ⟨K,cl⟩ yM 2)
noncomputable abbrev VQ:Prop:=OkF P w K mg "_law_spoilt" kq 3 kH (spP ⟨K,cl⟩ jP 4)
noncomputable abbrev VR:Prop:=OkF P w K mg "_law_judged" kF 3 kt (spP ⟨K,cl⟩ jY 1)
noncomputable abbrev QV:Prop:=OkB P w K mg "row_told" JY 4 JQ (spP ⟨K,cl⟩ JG 3) (spR ⟨K,cl⟩ ye 3)
noncomputable abbrev VW:Prop:=OkF P w K mg "_law_row_by" kx 4 kG (spP ⟨K,cl⟩ jO 5)
noncomputable abbrev jad:Prop:=OkB P w K mg "row_of" Kl 5 Kh (spP ⟨K,cl⟩ YY 2) (spR ⟨K,cl⟩ yZ 2)
noncomputable abbrev Qz:Prop:=OkF P w K mg "_law_same" JV 8 qf (spP ⟨K,cl⟩ vn 2)
noncomputable abbrev Kv:Prop:=OkF P w K mg "_law_holds" qL 9 qv (spP ⟨K,cl⟩ kl 2)
noncomputable abbrev jk2:Prop:=OkF P w K mg "law" wA 10 jdC (spP ⟨K,cl⟩ jax 1)
end
section
variable {P:Program}{w:World}{K:PySem.W.Frag}{mg:Str->Option Value}{cl:Nat->Addr}{jh:Addr}{b_NAME_COUNTS_0:Addr}{b_NAME_COUNTS_1:Addr}{jy:Addr}{b_FORMS_0:Addr}{b_FORMS_1:Addr}{b_FORMS_2:Addr}{b_FORMS_3:Addr}{b_FORMS_4:Addr}{b_FORMS_5:Addr}{b_FORMS_6:Addr}{b_FORMS_7:Addr}{b_FORMS_8:Addr}{b_FORMS_9:Addr}{b_FORMS_10:Addr}{b_FORMS_11:Addr}{b_FORMS_12:Addr}{t_LONGEST_NAME:Tok}{jl:Addr}{t_LETTERS:Tok}{t_LONGEST_NUMBER:Tok}{t_FIGURES:Tok}{jk:Addr}{jU:Addr}{x_DealError:Addr}{x_Unfinished:Addr}{x_Misplaced:Addr}{x_NoName:Addr}{x_Twice:Addr}{x_TooMany:Addr}{x_Unguarded:Addr}
theorem wU(T:Txt P w K mg cl jh b_NAME_COUNTS_0 b_NAME_COUNTS_1 jy b_FORMS_0 b_FORMS_1 b_FORMS_2 b_FORMS_3 b_FORMS_4 b_FORMS_5 b_FORMS_6 b_FORMS_7 b_FORMS_8 b_FORMS_9 b_FORMS_10 b_FORMS_11 b_FORMS_12 t_LONGEST_NAME jl t_LETTERS t_LONGEST_NUMBER t_FIGURES jk jU x_DealError x_Unfinished x_Misplaced x_NoName x_Twice x_TooMany x_Unguarded):yY K mg "words_in" JM JX->QH P w K mg cl:=by
 intro a;obtain⟨_,_,F⟩:=a;exact⟨_,_,F,λbase=>y0 F.fn Kq rfl λb A outer s H E c=>⟨_,show QSs _ _ _ _ _ Vt from
  (jg (jn (QP.d (KF (bkF Kq ["word"]) rfl (Q9 (QP.bb (jka PySem.F.plainAttrs_str PySem.F.slot_str_split PySem.F.type_str_split jag uW (ja 0) (jc (QP.bb qS) ji)))) cgN (λ_ _ _ _=>(zK (jr (QK.c_ne (K:=K) rfl c) (ja 0) (QP.bb qS)))) (λ_ _ _ _=>(QB.f (ja 0)))))))⟩⟩
theorem uv(T:Txt P w K mg cl jh b_NAME_COUNTS_0 b_NAME_COUNTS_1 jy b_FORMS_0 b_FORMS_1 b_FORMS_2 b_FORMS_3 b_FORMS_4 b_FORMS_5 b_FORMS_6 b_FORMS_7 b_FORMS_8 b_FORMS_9 b_FORMS_10 b_FORMS_11 b_FORMS_12 t_LONGEST_NAME jl t_LETTERS t_LONGEST_NUMBER t_FIGURES jk jU x_DealError x_Unfinished x_Misplaced x_NoName x_Twice x_TooMany x_Unguarded):yY K mg "has_only" JH JJ->Vz P w K mg cl:=by
 intro a;obtain⟨_,_,F⟩:=a;exact⟨_,_,F,λbase=>y0 F.fn KH rfl λb A outer s H E c=>⟨_,show QSs _ _ _ _ _ Vy from
  (jg (jn (QP.d (ux (jdA rfl) jjL T.n_all jbI (jc (QP.bb (KF (bkF KH ["sign","signs"]) rfl (Q9 (ja 0)) cgN jjQ (λ_ _ _ _=>(xr (QK.c_in (K:=K) rfl (by with_unfolding_all rfl)) (ja 0) (ja 1))))) ji)))))⟩⟩
theorem KM(T:Txt P w K mg cl jh b_NAME_COUNTS_0 b_NAME_COUNTS_1 jy b_FORMS_0 b_FORMS_1 b_FORMS_2 b_FORMS_3 b_FORMS_4 b_FORMS_5 b_FORMS_6 b_FORMS_7 b_FORMS_8 b_FORMS_9 b_FORMS_10 b_FORMS_11 b_FORMS_12 t_LONGEST_NAME jl t_LETTERS t_LONGEST_NUMBER t_FIGURES jk jU x_DealError x_Unfinished x_Misplaced x_NoName x_Twice x_TooMany x_Unguarded):yY K mg "kinds_behind" vq vC->J2 P w K mg cl:=by
 intro a;obtain⟨_,_,F⟩:=a;exact⟨_,_,F,λbase=>y0 F.fn Jl rfl λb A outer s H E c=>⟨_,show QSs _ _ _ _ _ yy from
  (je (jJ (jhR T.c_NAME_COUNTS T.k_NAME_COUNTS (T.r_NAME_COUNTS cl) rfl (ja 0)) (je (ju Jl.nd (QP.d (QB.f (jes T.c_NAME_COUNTS T.k_NAME_COUNTS (T.r_NAME_COUNTS cl) rfl (ja 0)))))
  (jg (jn (QP.d (jlv (Kk jeq jeq (Kj (ja 2) qI) (ja 1) (Kj (ja 2) qI)) (jjs (QP.bb (jkh (jf qS jx))) (ja 1)) qW)))))
  jm)
  (jg (jn (QP.d (QB.f (jg7 T.c_FORMS T.k_FORMS (T.r_FORMS cl) rfl (ja 0)))))))⟩⟩
theorem Qc(T:Txt P w K mg cl jh b_NAME_COUNTS_0 b_NAME_COUNTS_1 jy b_FORMS_0 b_FORMS_1 b_FORMS_2 b_FORMS_3 b_FORMS_4 b_FORMS_5 b_FORMS_6 b_FORMS_7 b_FORMS_8 b_FORMS_9 b_FORMS_10 b_FORMS_11 b_FORMS_12 t_LONGEST_NAME jl t_LETTERS t_LONGEST_NUMBER t_FIGURES jk jU x_DealError x_Unfinished x_Misplaced x_NoName x_Twice x_TooMany x_Unguarded):yY K mg "_law_cell_at" vP vY->Vg P w K mg cl:=by
 intro a;obtain⟨_,_,F⟩:=a;exact⟨_,_,F,λbase=>y0 F.fn Qg rfl λb A outer s H E c=>⟨_,show QSs _ _ _ _ _ vS from
  (je (jJ (jr jex (ja 1) (QP.bb (vc T.n_len (jc (ja 0) ji)))) (jg (jn (QP.d (QB.f (Kj (ja 0) (ja 1))))))
  jm)
  (jg (jn (QP.d jgJ))))⟩⟩
theorem xH(T:Txt P w K mg cl jh b_NAME_COUNTS_0 b_NAME_COUNTS_1 jy b_FORMS_0 b_FORMS_1 b_FORMS_2 b_FORMS_3 b_FORMS_4 b_FORMS_5 b_FORMS_6 b_FORMS_7 b_FORMS_8 b_FORMS_9 b_FORMS_10 b_FORMS_11 b_FORMS_12 t_LONGEST_NAME jl t_LETTERS t_LONGEST_NUMBER t_FIGURES jk jU x_DealError x_Unfinished x_Misplaced x_NoName x_Twice x_TooMany x_Unguarded):yY K mg "_law_mixed" qG qm->YH P w K mg cl:=by
 intro a;obtain⟨_,_,F⟩:=a;exact⟨_,_,F,λbase=>y0 F.fn VU rfl λb A outer s H E c=>⟨_,show QSs _ _ _ _ _ Yx from
  (je (ju VU.nd (QP.d (yu qI (QP.bb (Qo (QP.bb (Qo qI (ja 1))) (ja 1))))))
  (jg (jn (QP.d (vG (QP.bb (Qo (ja 0) (ja 2))) qI)))))⟩⟩
theorem Qk(T:Txt P w K mg cl jh b_NAME_COUNTS_0 b_NAME_COUNTS_1 jy b_FORMS_0 b_FORMS_1 b_FORMS_2 b_FORMS_3 b_FORMS_4 b_FORMS_5 b_FORMS_6 b_FORMS_7 b_FORMS_8 b_FORMS_9 b_FORMS_10 b_FORMS_11 b_FORMS_12 t_LONGEST_NAME jl t_LETTERS t_LONGEST_NUMBER t_FIGURES jk jU x_DealError x_Unfinished x_Misplaced x_NoName x_Twice x_TooMany x_Unguarded):yY K mg "_law_sign_by" vN vX->Y2 P w K mg cl:=by
 intro a;obtain⟨_,_,F⟩:=a;exact⟨_,_,F,λbase=>y0 F.fn kM rfl λb A outer s H E c=>⟨_,show QSs _ _ _ _ _ qY from
  (je (ju kM.nd (QP.d qS))
  (je (ju kM.nd (QP.d (yu (ja 1) (QP.bb qS))))
  (jg (jn (QP.d (QB.f (Kj (ja 1) (QP.bb (vG (ja 0) qI)))))))))⟩⟩
theorem KG(T:Txt P w K mg cl jh b_NAME_COUNTS_0 b_NAME_COUNTS_1 jy b_FORMS_0 b_FORMS_1 b_FORMS_2 b_FORMS_3 b_FORMS_4 b_FORMS_5 b_FORMS_6 b_FORMS_7 b_FORMS_8 b_FORMS_9 b_FORMS_10 b_FORMS_11 b_FORMS_12 t_LONGEST_NAME jl t_LETTERS t_LONGEST_NUMBER t_FIGURES jk jU x_DealError x_Unfinished x_Misplaced x_NoName x_Twice x_TooMany x_Unguarded):yY K mg "_law_keywords" vv vz->vy P w K mg cl:=by
 intro a;obtain⟨_,_,F⟩:=a;exact⟨_,_,F,λbase=>y0 F.fn JF rfl λb A outer s H E c=>⟨_,show QSs _ _ _ _ _ kS from
  (je (ju JF.nd (QP.d qS))
  (jg (jn (QP.d (jka PySem.F.plainAttrs_str PySem.F.slot_str_split PySem.F.type_str_split jag uW (ja 0) (jc (QP.bb qS) ji))))))⟩⟩
theorem Qi(T:Txt P w K mg cl jh b_NAME_COUNTS_0 b_NAME_COUNTS_1 jy b_FORMS_0 b_FORMS_1 b_FORMS_2 b_FORMS_3 b_FORMS_4 b_FORMS_5 b_FORMS_6 b_FORMS_7 b_FORMS_8 b_FORMS_9 b_FORMS_10 b_FORMS_11 b_FORMS_12 t_LONGEST_NAME jl t_LETTERS t_LONGEST_NUMBER t_FIGURES jk jU x_DealError x_Unfinished x_Misplaced x_NoName x_Twice x_TooMany x_Unguarded):yY K mg "_law_letters" v9 vT->Y7 P w K mg cl:=by
 intro a;obtain⟨_,_,F⟩:=a;exact⟨_,_,F,λbase=>y0 F.fn yJ rfl λb A outer s H E c=>⟨_,show QSs _ _ _ _ _ qV from
  (je (ju yJ.nd (QP.d qS))
  (je (Y1 PassesOwn.never rfl (zi T.n_range (jc (ja 1) ji)) (yR yJ.nd)
  (je (ju yJ.nd (QP.d (yu (ja 2) (Kj (QP.bb qS) (QP.bb (vG (ja 0) qI))))))
  (jg (ju yJ.nd (QP.d (Vm (ja 0) qI))))))
  (jg (jn (QP.d (QB.f (ja 2)))))))⟩⟩
theorem zv(T:Txt P w K mg cl jh b_NAME_COUNTS_0 b_NAME_COUNTS_1 jy b_FORMS_0 b_FORMS_1 b_FORMS_2 b_FORMS_3 b_FORMS_4 b_FORMS_5 b_FORMS_6 b_FORMS_7 b_FORMS_8 b_FORMS_9 b_FORMS_10 b_FORMS_11 b_FORMS_12 t_LONGEST_NAME jl t_LETTERS t_LONGEST_NUMBER t_FIGURES jk jU x_DealError x_Unfinished x_Misplaced x_NoName x_Twice x_TooMany x_Unguarded):yY K mg "_law_number" kK kA->JA P w K mg cl:=by
 intro a;obtain⟨_,_,F⟩:=a;exact⟨_,_,F,λbase=>y0 F.fn vV rfl λb A outer s H E c=>⟨_,show QSs _ _ _ _ _ yB from
  (je (jJ (QW.t (Y0 (jr jex (QP.bb (vc T.n_len (jc (ja 0) ji))) qI) (qZ (jr ji0 (QP.bb (vc T.n_len (jc (ja 0) ji))) qI)))) (jg (jn (QP.d (jfx qI))))
  jm)
  (je (jJ (QW.t (xC (jr ji0 (QP.bb (vc T.n_len (jc (ja 0) ji))) qI) (Q8 (jr (c_eq c) (Kj (ja 0) qI) (QP.bb qS))))) (jg (jn (QP.d (jfx qI))))
  jm)
  (je (ju vV.nd (QP.d jgJ))
  (je (Y1 PassesOwn.never rfl (jaj (QB.f (ja 0))) (yR vV.nd)
  (je (jJ (jr (uE (by with_unfolding_all rfl)) (ja 2) (QP.bb qS)) (jg (jn (QP.d (jfx qI))))
  jm)
  (jg (ju vV.nd (QP.d (yu (QP.bb (Qo (ja 1) qI)) (QP.bb (jka PySem.F.plainAttrs_str PySem.F.slot_str_find PySem.F.type_str_find jhg jgd (QP.bb qS) (jc (ja 2) ji)))))))))
  (jg (jn (QP.d (QB.f (ja 1)))))))))⟩⟩
theorem wX(T:Txt P w K mg cl jh b_NAME_COUNTS_0 b_NAME_COUNTS_1 jy b_FORMS_0 b_FORMS_1 b_FORMS_2 b_FORMS_3 b_FORMS_4 b_FORMS_5 b_FORMS_6 b_FORMS_7 b_FORMS_8 b_FORMS_9 b_FORMS_10 b_FORMS_11 b_FORMS_12 t_LONGEST_NAME jl t_LETTERS t_LONGEST_NUMBER t_FIGURES jk jU x_DealError x_Unfinished x_Misplaced x_NoName x_Twice x_TooMany x_Unguarded):yY K mg "_law_from" JL JW->Qs P w K mg cl:=by
 intro a;obtain⟨_,_,F⟩:=a;exact⟨_,_,F,λbase=>y0 F.fn uB rfl λb A outer s H E c=>⟨_,show QSs _ _ _ _ _ k9 from
  (je (jJ (jr (c_eq c) (QP.bb (vG (ja 0) qI)) qI) (jg (jn (QP.d (QB.f (Kj (QP.bb (yc (jf (QB.f (ja 1)) (jf (QB.f (ja 2)) jx)))) (QP.bb (vG (QP.bb (Vm (ja 0) qI)) qI)))))))
  jm)
  (jg (jn (QP.d (yu (ja 1) (QP.bb (vG (QP.bb (Vm (ja 0) qI)) (QP.bb (yu (QP.bb (Kc (ja 2) (ja 1))) qI)))))))))⟩⟩
theorem zL(T:Txt P w K mg cl jh b_NAME_COUNTS_0 b_NAME_COUNTS_1 jy b_FORMS_0 b_FORMS_1 b_FORMS_2 b_FORMS_3 b_FORMS_4 b_FORMS_5 b_FORMS_6 b_FORMS_7 b_FORMS_8 b_FORMS_9 b_FORMS_10 b_FORMS_11 b_FORMS_12 t_LONGEST_NAME jl t_LETTERS t_LONGEST_NUMBER t_FIGURES jk jU x_DealError x_Unfinished x_Misplaced x_NoName x_Twice x_TooMany x_Unguarded):yY K mg "_law_spaced" kI ko->VS P w K mg cl:=by
 intro a;obtain⟨_,_,F⟩:=a;exact⟨_,_,F,λbase=>y0 F.fn yH rfl λb A outer s H E c=>⟨_,show QSs _ _ _ _ _ yV from
  (je (ju yH.nd (QP.d (Qo (QP.bb qS) (QP.bb (vG (ja 1) qI)))))
  (je (Y1 PassesOwn.never rfl (jaj (QB.f (ja 0))) (yR yH.nd)
  (je (ju yH.nd (QP.d (Vm (ja 1) qI)))
  (jg (ju yH.nd (QP.d (yu (QP.bb (yu (ja 2) (ja 3))) (QP.bb (Qo (QP.bb qS) (QP.bb (yu qI (QP.bb (vG (ja 1) qI))))))))))))
  (je (jJ (jr (c_eq c) (QP.bb (vG (QP.bb (Vm (ja 1) qI)) qI)) qI) (jg (ju yH.nd (QP.d (jkk PySem.F.plainAttrs_str PySem.F.slot_str_rstrip PySem.F.type_str_rstrip jb2 jb3 (ja 2)))))
  jm)
  (jg (jn (QP.d (QB.f (ja 2))))))))⟩⟩
theorem VM(T:Txt P w K mg cl jh b_NAME_COUNTS_0 b_NAME_COUNTS_1 jy b_FORMS_0 b_FORMS_1 b_FORMS_2 b_FORMS_3 b_FORMS_4 b_FORMS_5 b_FORMS_6 b_FORMS_7 b_FORMS_8 b_FORMS_9 b_FORMS_10 b_FORMS_11 b_FORMS_12 t_LONGEST_NAME jl t_LETTERS t_LONGEST_NUMBER t_FIGURES jk jU x_DealError x_Unfinished x_Misplaced x_NoName x_Twice x_TooMany x_Unguarded):yY K mg "_law_is_refused" yQ yP->Jb P w K mg cl:=by
 intro b;obtain⟨_,_,F⟩:=b;exact⟨_,_,F,λbase=>y0 F.fn yh rfl λc A outer s H E a=>⟨_,show QSs _ _ _ _ _ vJ from
  (je (jJ (QW.t (Y0 (jr jd6 (ja 0) (QP.bb qW)) (Y0 (Yd (Ja (QP.bb (jij T.n_isinstance T.n_ValueError vbo T.i_ValueError (ja 0))))) (qZ (Yd (Ja (QP.bb (xg T.n_isinstance T.g_DealError T.i_DealError (ja 0))))))))) (jg (jn (QP.d uZ)))
  jm)
  (je (ju yh.nd (QP.d (yc (jf (xg T.n_isinstance T.g_BadRow T.i_BadRow (ja 0)) (jf (xg T.n_isinstance T.g_Misplaced T.i_Misplaced (ja 0)) (jf (xg T.n_isinstance T.g_Unfinished T.i_Unfinished (ja 0)) jx))))))
  (je (ju yh.nd (QP.d (yu (ja 3) (QP.bb (yc (jf (xg T.n_isinstance T.g_Twice T.i_Twice (ja 0)) (jf (xg T.n_isinstance T.g_NoName T.i_NoName (ja 0)) jx)))))))
  (je (ju yh.nd (QP.d (yu (ja 3) (QP.bb (yc (jf (xg T.n_isinstance T.g_Unguarded T.i_Unguarded (ja 0)) (jf (xg T.n_isinstance T.g_TooMany T.i_TooMany (ja 0)) jx)))))))
  (je (jJ (jr (c_ne a) (ja 3) (QP.bb (KF (bkF yh ["_law_k","_law_which"]) rfl (QI.b' (zi T.n_range (jc qI ji))) cgN jjQ (λ_ _ _ _=>(xr (QK.c_eq (K:=K) rfl a) (ja 0) (ja 1)))))) (jg (jn (QP.d uZ)))
  jm)
  (je (jJ (QW.t (Y0 (Yd (Ja (QP.bb (Ka (T:="int") (by decide) T.n_isinstance T.n_int Ky (QP.bb (wO T.pl0 (ja 0))))))) (qZ (Ja (QP.bb (Ka (T:="bool") (by decide) T.n_isinstance T.n_bool Qq (QP.bb (wO T.pl0 (ja 0))))))))) (jg (jn (QP.d uZ)))
  jm)
  (jg (jn (QP.d (xr (c_eq a) (QP.bb (wO T.pl0 (ja 0))) (ja 2)))))))))))⟩⟩
theorem wv(T:Txt P w K mg cl jh b_NAME_COUNTS_0 b_NAME_COUNTS_1 jy b_FORMS_0 b_FORMS_1 b_FORMS_2 b_FORMS_3 b_FORMS_4 b_FORMS_5 b_FORMS_6 b_FORMS_7 b_FORMS_8 b_FORMS_9 b_FORMS_10 b_FORMS_11 b_FORMS_12 t_LONGEST_NAME jl t_LETTERS t_LONGEST_NUMBER t_FIGURES jk jU x_DealError x_Unfinished x_Misplaced x_NoName x_Twice x_TooMany x_Unguarded):yY K mg "_law_shape" qN qP->KI P w K mg cl:=by
 intro b;obtain⟨_,_,F⟩:=b;exact⟨_,_,F,λbase=>y0 F.fn VT rfl λc A outer s H E a=>⟨_,show QSs _ _ _ _ _ vm from
  (je (jJ (jr (c_in (by with_unfolding_all rfl)) (ja 0) (QP.bb (yc (jf qS (jf qS (jf qS (jf qS (jf qS (jf qS (jf qS jx)))))))))) (jg (jn (QP.d (yc (jf (yc (jf qS jx)) jx)))))
  jm)
  (je (jJ (QW.t (Y0 (QW.t (xC (jr (c_eq a) (ja 0) (QP.bb qS)) (Q8 (jr jex (ja 1) qI)))) (qZ (QW.t (xC (jr (c_eq a) (ja 0) (QP.bb qS)) (xC (jr ji0 (ja 1) qI) (Q8 (jr jex (ja 1) qI)))))))) (jg (jn (QP.d (yc (jf (jjK (QP.bb (yc (jf qS jx))) (ja 1)) jx)))))
  jm)
  (je (ju VT.nd (QP.d (jbw (ka (QP.bb qS) (QP.fzb (yc (jf qS (jf qS (jf qS jx))))) (ka (QP.bb qS) (QP.fzb (yc (jf qS (jf qS jx)))) (ka (QP.bb qS) (QP.fzb (yc (jf qS (jf qS jx)))) wY))))))
  (je (jgc (ja 2) (jbw (ka (QP.bb qS) (QP.fzb (yc (jf qS (jf qS jx)))) (ka (QP.bb qS) (QP.fzb (yc (jf qS (jf qS (jf qS jx))))) (ka (QP.bb qS) (QP.fzb (yc (jf qS (jf qS jx)))) wY)))))
  (je (jJ (jjB a (ja 0) (ja 2)) (jg (jn (QP.d (yc (jf (QB.f (jeQ a (ja 2) (ja 0))) jx)))))
  jm)
  (jg (jn (QP.d (yc jx)))))))))⟩⟩
theorem jaU(T:Txt P w K mg cl jh b_NAME_COUNTS_0 b_NAME_COUNTS_1 jy b_FORMS_0 b_FORMS_1 b_FORMS_2 b_FORMS_3 b_FORMS_4 b_FORMS_5 b_FORMS_6 b_FORMS_7 b_FORMS_8 b_FORMS_9 b_FORMS_10 b_FORMS_11 b_FORMS_12 t_LONGEST_NAME jl t_LETTERS t_LONGEST_NUMBER t_FIGURES jk jU x_DealError x_Unfinished x_Misplaced x_NoName x_Twice x_TooMany x_Unguarded):yY K mg "is_name" Vf Y5->Vz P w K mg cl->xz P w K mg cl:=by
 intro a b;obtain⟨_,_,F⟩:=a;obtain⟨_,_,c,e⟩:=b;exact⟨_,_,F,λbase=>y0 F.fn jap rfl λf A outer s H E g=>⟨_,show QSs _ _ _ _ _ Jp from
  (je (jJ (Yd (Kk jeq jeq qI (QP.bb (vc T.n_len (jc (ja 0) ji))) (QP.bb (jls T.c_LONGEST_NAME)))) (jg (jn (QP.d uZ)))
  jm)
  (jg (jn (QP.d (jb7 (QP.bb (jw c (e _) (g.mono (by decide)) (jc (ja 0) (jc (QP.bb (jlr [97,98,99,100,101,102,103,104,105,106,107,108,109,110,111,112,113,114,115,116,117,118,119,120,121,122] T.c_LETTERS (by decide +kernel))) ji)))) (jc7 (xr (uE (by with_unfolding_all rfl)) (ja 0) (QP.bb (jlY JO T.c_KEYWORDS (T.r_KEYWORDS cl))))))))))⟩⟩
theorem wo(T:Txt P w K mg cl jh b_NAME_COUNTS_0 b_NAME_COUNTS_1 jy b_FORMS_0 b_FORMS_1 b_FORMS_2 b_FORMS_3 b_FORMS_4 b_FORMS_5 b_FORMS_6 b_FORMS_7 b_FORMS_8 b_FORMS_9 b_FORMS_10 b_FORMS_11 b_FORMS_12 t_LONGEST_NAME jl t_LETTERS t_LONGEST_NUMBER t_FIGURES jk jU x_DealError x_Unfinished x_Misplaced x_NoName x_Twice x_TooMany x_Unguarded):yY K mg "number_in" qu qA->Vz P w K mg cl->KS P w K mg cl:=by
 intro b c;obtain⟨_,_,F⟩:=b;obtain⟨_,_,e,f⟩:=c;exact⟨_,_,F,λbase=>y0 F.fn xm rfl λg A outer s H E a=>⟨_,show QSs _ _ _ _ _ yC from
  (je (jJ (QW.t (Y0 (Yd (Kk jeq jeq qI (QP.bb (vc T.n_len (jc (ja 0) ji))) (QP.bb (jls T.c_LONGEST_NUMBER)))) (qZ (Yd (Ja (QP.bb (jw e (f _) (a.mono (by decide)) (jc (ja 0) (jc (QP.bb (jlr [48,49,50,51,52,53,54,55,56,57] T.c_FIGURES (by decide +kernel))) ji))))))))) (jg (jn (QP.d qW)))
  jm)
  (je (jJ (QW.t (xC (jr (c_eq a) (Kj (ja 0) qI) (QP.bb qS)) (Q8 (jr (c_ne a) (ja 0) (QP.bb qS))))) (jg (jn (QP.d qW)))
  jm)
  (jg (jn (QP.d (zu jbl jiC T.n_int Ky (jc (ja 0) ji)))))))⟩⟩
theorem Qh(T:Txt P w K mg cl jh b_NAME_COUNTS_0 b_NAME_COUNTS_1 jy b_FORMS_0 b_FORMS_1 b_FORMS_2 b_FORMS_3 b_FORMS_4 b_FORMS_5 b_FORMS_6 b_FORMS_7 b_FORMS_8 b_FORMS_9 b_FORMS_10 b_FORMS_11 b_FORMS_12 t_LONGEST_NAME jl t_LETTERS t_LONGEST_NUMBER t_FIGURES jk jU x_DealError x_Unfinished x_Misplaced x_NoName x_Twice x_TooMany x_Unguarded):yY K mg "_law_is_name" v5 vO->vy P w K mg cl->Vd P w K mg cl:=by
 intro a b;obtain⟨_,_,F⟩:=a;obtain⟨_,_,c,e⟩:=b;exact⟨_,_,F,λbase=>y0 F.fn J8 rfl λg A outer s H E h=>⟨_,show QSs _ _ _ _ _ yr from
  (je (jJ (QW.t (Y0 (jr jex (QP.bb (vc T.n_len (jc (ja 0) ji))) qI) (Y0 (jr ji0 (QP.bb (vc T.n_len (jc (ja 0) ji))) qI) (qZ (jr (c_in (by with_unfolding_all rfl)) (ja 0) (QP.bb (uH c (e _) (h.mono (by decide))))))))) (jg (jn (QP.d uZ)))
  jm)
  (je (Y1 PassesOwn.never rfl (jaj (QB.f (ja 0))) (yR J8.nd)
  (jg (jJ (jr (uE (by with_unfolding_all rfl)) (ja 1) (QP.bb qS)) (jg (jn (QP.d uZ)))
  jm)))
  (jg (jn (QP.d uZ)))))⟩⟩
theorem Qp(T:Txt P w K mg cl jh b_NAME_COUNTS_0 b_NAME_COUNTS_1 jy b_FORMS_0 b_FORMS_1 b_FORMS_2 b_FORMS_3 b_FORMS_4 b_FORMS_5 b_FORMS_6 b_FORMS_7 b_FORMS_8 b_FORMS_9 b_FORMS_10 b_FORMS_11 b_FORMS_12 t_LONGEST_NAME jl t_LETTERS t_LONGEST_NUMBER t_FIGURES jk jU x_DealError x_Unfinished x_Misplaced x_NoName x_Twice x_TooMany x_Unguarded):yY K mg "_law_name_by" vR vM->vy P w K mg cl->Y7 P w K mg cl->qD P w K mg cl:=by
 intro e g h;obtain⟨_,_,F⟩:=e;obtain⟨_,_,i,j⟩:=g;obtain⟨_,_,b,c⟩:=h;exact⟨_,_,F,λbase=>y0 F.fn jI rfl λk A outer s H E a=>⟨_,show QSs _ _ _ _ _ j9 from
  (je (ju jI.nd (QP.d (yu qI (QP.bb (vG (ja 0) qI)))))
  (je (ju jI.nd (QP.d (vG (QP.bb (Vm (ja 0) qI)) qI)))
  (je (ju jI.nd (QP.d (Vm (ja 0) qI)))
  (je (ju jI.nd (QP.d (jw b (c _) (a.mono (by decide)) (jc (ja 3) (jc (ja 1) ji)))))
  (je (jJ (jr (c_eq a) (ja 2) qI) (je (ju jI.nd (QP.d (yc (jf qS (jf qS (jf qS (jf qS (jf qS (jf qS (jf qS (jf qS (jf qS (jf qS (jf qS (jf qS jx)))))))))))))))
  (jg (ju jI.nd (QP.d (QB.f (Kj (ja 5) (QP.bb (vG (ja 3) qI))))))))
  jm)
  (je (jJ (jr (c_eq a) (ja 2) qI) (je (ju jI.nd (QP.d (vG (QP.bb (Vm (ja 3) qI)) (ja 1))))
  (jg (ju jI.nd (QP.d (yu (QP.bb (yu (QP.bb (Qo (QP.bb qS) (ja 6))) (QP.bb (jw b (c _) (a.mono (by decide)) (jc (ja 3) (jc qI ji)))))) (QP.bb (Qo (QP.bb qS) (QP.bb (Kc (QP.bb (Kc (ja 1) qI)) (ja 6))))))))))
  jm)
  (je (jJ (jr (c_in (by with_unfolding_all rfl)) (ja 4) (QP.bb (uH i (j _) (a.mono (by decide))))) (jg (ju jI.nd (QP.d (yu (ja 4) (QP.bb qS)))))
  jm)
  (jg (jn (QP.d (QB.f (ja 4))))))))))))⟩⟩
theorem zJ(T:Txt P w K mg cl jh b_NAME_COUNTS_0 b_NAME_COUNTS_1 jy b_FORMS_0 b_FORMS_1 b_FORMS_2 b_FORMS_3 b_FORMS_4 b_FORMS_5 b_FORMS_6 b_FORMS_7 b_FORMS_8 b_FORMS_9 b_FORMS_10 b_FORMS_11 b_FORMS_12 t_LONGEST_NAME jl t_LETTERS t_LONGEST_NUMBER t_FIGURES jk jU x_DealError x_Unfinished x_Misplaced x_NoName x_Twice x_TooMany x_Unguarded):yY K mg "_law_odd_by" kL kE->vy P w K mg cl->V3 P w K mg cl:=by
 intro a b;obtain⟨_,_,F⟩:=a;obtain⟨_,_,c,e⟩:=b;exact⟨_,_,F,λbase=>y0 F.fn v8 rfl λg A outer s H E h=>⟨_,show QSs _ _ _ _ _ Jq from
  (je (ju v8.nd (QP.d (yu (QP.bb (uH c (e _) (h.mono (by decide)))) (QP.bb (yc (jf qS (jf qS (jf qS (jf qS (jf qS (jf qS (jf qS (jf qS (jf qS (jf qS (jf qS (jf qS (jf qS jx))))))))))))))))))
  (je (ju v8.nd (QP.d (yu (ja 1) (QP.bb (yc (jf qS (jf qS (jf qS (jf qS (jf qS (jf qS (jf qS (jf qS (jf qS (jf qS jx)))))))))))))))
  (je (ju v8.nd (QP.d (yu (ja 1) (QP.bb (yc (jf qS (jf (Qo (QP.bb qS) qI) (jf (Qo (QP.bb qS) qI) (jf qS (jf qS jx))))))))))
  (jg (jn (QP.d (QB.f (Kj (ja 1) (QP.bb (vG (ja 0) qI))))))))))⟩⟩
theorem K0(T:Txt P w K mg cl jh b_NAME_COUNTS_0 b_NAME_COUNTS_1 jy b_FORMS_0 b_FORMS_1 b_FORMS_2 b_FORMS_3 b_FORMS_4 b_FORMS_5 b_FORMS_6 b_FORMS_7 b_FORMS_8 b_FORMS_9 b_FORMS_10 b_FORMS_11 b_FORMS_12 t_LONGEST_NAME jl t_LETTERS t_LONGEST_NUMBER t_FIGURES jk jU x_DealError x_Unfinished x_Misplaced x_NoName x_Twice x_TooMany x_Unguarded):yY K mg "_law_at_bound" vA vw->JA P w K mg cl->Yj P w K mg cl:=by
 intro b c;obtain⟨_,_,F⟩:=b;obtain⟨_,_,e,g⟩:=c;exact⟨_,_,F,λbase=>y0 F.fn y3 rfl λh A outer s H E a=>⟨_,show QSs _ _ _ _ _ vx from
  (je (ju y3.nd (QP.d (zu V5 jbG T.n_list qg (jc (ja 0) ji))))
  (je (KP (bkF y3 ["_law_k","_law_some"]) rfl (QI.b' (zi T.n_range (jc (QP.bb (vc T.n_len (jc (ja 2) ji))) ji))) cgN (λ_ _ _ _=>(zK (jr jlH (QP.bb (QK.call (K:=K) rfl e (g _) (a.mono (by decide)) (jc (QK.ix (K:=K) rfl (ja 1) (ja 0)) ji))) qI))) (λ_ _ _ _=>(QB.f (ja 0))) y3.nd)
  (je (jJ (jr (c_ne a) (ja 3) (QP.bb (yc jx))) (jg (JI (ja 2) (Kj (ja 3) (QP.bb (vG (QP.bb (Vm (ja 1) qI)) (QP.bb (vc T.n_len (jc (ja 3) ji)))))) (QP.d (QB.f (Kj (QP.bb (yc (jf qS (jf qS (jf qS (jf qS (jf qS (jf qS (jf qS jx))))))))) (QP.bb (vG (ja 1) qI)))))))
  jm)
  (jg (jn (jjO 2))))))⟩⟩
theorem uc(T:Txt P w K mg cl jh b_NAME_COUNTS_0 b_NAME_COUNTS_1 jy b_FORMS_0 b_FORMS_1 b_FORMS_2 b_FORMS_3 b_FORMS_4 b_FORMS_5 b_FORMS_6 b_FORMS_7 b_FORMS_8 b_FORMS_9 b_FORMS_10 b_FORMS_11 b_FORMS_12 t_LONGEST_NAME jl t_LETTERS t_LONGEST_NUMBER t_FIGURES jk jU x_DealError x_Unfinished x_Misplaced x_NoName x_Twice x_TooMany x_Unguarded):yY K mg "value_in" JK JR->xz P w K mg cl->KS P w K mg cl->Qr P w K mg cl:=by
 intro c e g;obtain⟨_,_,F⟩:=c;obtain⟨_,_,a,h⟩:=e;obtain⟨_,_,i,j⟩:=g;exact⟨_,_,F,λbase=>y0 F.fn K7 rfl λk A outer s H E b=>⟨_,show QSs _ _ _ _ _ yX from
  (je (jJ (jr (c_eq b) (ja 1) (QP.bb qS)) (jg (jn (QP.d (jlv (Ja (QP.bb (jw a (h _) (b.mono (by decide)) (jc (ja 0) ji)))) (QB.f (ja 0)) qW))))
  jm)
  (je (ju K7.nd (QP.d (jw i (j _) (b.mono (by decide)) (jc (ja 0) ji))))
  (je (jJ (QW.t (Y0 (jr jd6 (ja 2) (QP.bb qW)) (qZ (Yd (Kk jeq jeq qI (ja 2) (jes T.c_GREATEST T.k_GREATEST (T.r_GREATEST cl) rfl (ja 1))))))) (jg (jn (QP.d qW)))
  jm)
  (jg (jn (QP.d (QB.f (ja 2))))))))⟩⟩
theorem KJ(T:Txt P w K mg cl jh b_NAME_COUNTS_0 b_NAME_COUNTS_1 jy b_FORMS_0 b_FORMS_1 b_FORMS_2 b_FORMS_3 b_FORMS_4 b_FORMS_5 b_FORMS_6 b_FORMS_7 b_FORMS_8 b_FORMS_9 b_FORMS_10 b_FORMS_11 b_FORMS_12 t_LONGEST_NAME jl t_LETTERS t_LONGEST_NUMBER t_FIGURES jk jU x_DealError x_Unfinished x_Misplaced x_NoName x_Twice x_TooMany x_Unguarded):yY K mg "_law_names_by" vD vo->YH P w K mg cl->qD P w K mg cl->JZ P w K mg cl:=by
 intro b c e;obtain⟨_,_,F⟩:=b;obtain⟨_,_,f,g⟩:=c;obtain⟨_,_,h,i⟩:=e;exact⟨_,_,F,λbase=>y0 F.fn Jv rfl λj A outer s H E a=>⟨_,show QSs _ _ _ _ _ kQ from
  (jg (jn (QP.d (KF (bkF Jv ["_law_k","_law_cell"]) rfl (QI.b' (zi T.n_range (jc (ja 1) ji))) cgN jjQ (λ_ _ _ _=>(QK.call (K:=K) rfl h (i _) (a.mono (by decide)) (jc (QP.bb (QK.call (K:=K) rfl f (g _) (a.mono (by decide)) (jc (ja 1) (jc (QP.bb (QK.add (K:=K) rfl qI (ja 0))) ji)))) ji)))))))⟩⟩
theorem zQ(T:Txt P w K mg cl jh b_NAME_COUNTS_0 b_NAME_COUNTS_1 jy b_FORMS_0 b_FORMS_1 b_FORMS_2 b_FORMS_3 b_FORMS_4 b_FORMS_5 b_FORMS_6 b_FORMS_7 b_FORMS_8 b_FORMS_9 b_FORMS_10 b_FORMS_11 b_FORMS_12 t_LONGEST_NAME jl t_LETTERS t_LONGEST_NUMBER t_FIGURES jk jU x_DealError x_Unfinished x_Misplaced x_NoName x_Twice x_TooMany x_Unguarded):yY K mg "_law_spoilt" kq kH->Yj P w K mg cl->V3 P w K mg cl->Y2 P w K mg cl->VQ P w K mg cl:=by
 intro e g h i;obtain⟨_,_,F⟩:=e;obtain⟨_,_,j,k⟩:=g;obtain⟨_,_,b,c⟩:=h;obtain⟨_,_,l,m⟩:=i;exact⟨_,_,F,λbase=>y0 F.fn yG rfl λn A outer s H E a=>⟨_,show QSs _ _ _ _ _ jX from
  (je (ju yG.nd (QP.d (zu V5 jbG T.n_list qg (jc (ja 0) ji))))
  (je (jJ (jr (c_eq a) (ja 1) qI) (jg (jn (QP.d (jw j (k _) (a.mono (by decide)) (jc (ja 0) (jc (ja 3) ji))))))
  jm)
  (je (jJ (jr (c_eq a) (ja 1) qI) (je (jeO (ja 4) (QP.bb (vG (ja 2) (QP.bb (yu (QP.bb (vc T.n_len (jc (ja 4) ji))) qI)))) (jw b (c _) (a.mono (by decide)) (jc (ja 3) ji)))
  (jg (jn (jjO 4))))
  jm)
  (je (ju yG.nd (QP.d (vG (ja 2) (QP.bb (vc T.n_len (jc (ja 4) ji))))))
  (je (ju yG.nd (QP.d (QB.f (Kj (ja 4) (ja 2)))))
  (je (ju yG.nd (QP.d (vG (ja 3) (QP.bb (yu (QP.bb (vc T.n_len (jc (ja 5) ji))) qI)))))
  (je (jJ (jr (c_eq a) (ja 1) qI) (jg (JI (ja 4) (ja 2) (QP.d (jw b (c _) (a.mono (by decide)) (jc (ja 3) ji)))))
  jm)
  (je (jJ (jr (c_eq a) (ja 1) qI) (jg (jfl (ja 4) (ja 2)))
  jm)
  (je (jJ (jr (c_eq a) (ja 1) qI) (jg (JI (ja 4) (ja 2) (QP.d (yu (QP.bb (yu (QP.bb (jfA (ja 5) YM (Yr (ja 6)))) (QP.bb (jw l (m _) (a.mono (by decide)) (jc (QP.bb (yu qI (QP.bb (vG (QP.bb (Vm (ja 3) qI)) qI)))) ji))))) (QP.bb (jfA (ja 5) (Yr (ja 6)) YM))))))
  jm)
  (je (jJ (jr (c_eq a) (ja 1) qI) (jg (JI (ja 4) (ja 2) (QP.d (yu (QP.bb (jfA (ja 5) YM (Yr (ja 6)))) (QP.bb (jfA (ja 5) (Yr (QP.bb (yu (ja 6) qI))) YM))))))
  jm)
  (je (jJ (jr (c_eq a) (ja 1) qI) (je (JI (ja 4) (ja 2) (QP.d (QB.f (Kj (ja 4) (QP.bb (Kc (ja 2) qI))))))
  (jg (JI (ja 4) (QP.bb (Kc (ja 2) qI)) (QP.d (QB.f (ja 5))))))
  jm)
  (je (jJ (jr (c_eq a) (ja 1) qI) (jg (jeO (ja 4) (ja 2) (QB.f (ja 5))))
  jm)
  (jg (jn (QP.d (KF (bkF yG ["_law_part"]) rfl (Q9 (ja 4)) cgN (λ_ _ _ _=>(zK (jr (QK.c_ne (K:=K) rfl a) (ja 0) (QP.bb qS)))) (λ_ _ _ _=>(QB.f (ja 0)))))))))))))))))))⟩⟩
theorem zf(T:Txt P w K mg cl jh b_NAME_COUNTS_0 b_NAME_COUNTS_1 jy b_FORMS_0 b_FORMS_1 b_FORMS_2 b_FORMS_3 b_FORMS_4 b_FORMS_5 b_FORMS_6 b_FORMS_7 b_FORMS_8 b_FORMS_9 b_FORMS_10 b_FORMS_11 b_FORMS_12 t_LONGEST_NAME jl t_LETTERS t_LONGEST_NUMBER t_FIGURES jk jU x_DealError x_Unfinished x_Misplaced x_NoName x_Twice x_TooMany x_Unguarded):yY K mg "_law_judged" kF kt->Vd P w K mg cl->JA P w K mg cl->KI P w K mg cl->VR P w K mg cl:=by
 intro b c e g;obtain⟨_,_,F⟩:=b;obtain⟨_,_,h,i⟩:=c;obtain⟨_,_,j,k⟩:=e;obtain⟨_,_,l,m⟩:=g;exact⟨_,_,F,λbase=>y0 F.fn yF rfl λn A outer s H E a=>⟨_,show QSs _ _ _ _ _ yk from
  (je (jJ (jr (c_eq a) (ja 0) (QP.bb (yc jx))) (jg (jn (QP.d (yc (jf qW jx)))))
  jm)
  (je (Y1 PassesOwn.never rfl (jaj (jw l (m _) (a.mono (by decide)) (jc (Kj (ja 0) qI) (jc (QP.bb (Kc (QP.bb (vc T.n_len (jc (ja 0) ji))) qI)) ji)))) (yR yF.nd)
  (je (jJ (QW.t (Y0 (jr (c_ne a) (QP.bb (vc T.n_len (jc (ja 1) ji))) (QP.bb (Kc (QP.bb (vc T.n_len (jc (ja 0) ji))) qI))) (qZ (jr (c_eq a) (ja 1) (QP.bb (yc jx)))))) (jg (jn (QP.d (yc jx))))
  jm)
  (je (ju yF.nd (QP.d (yc (jf (QB.f (Kj (ja 0) qI)) jx))))
  (je (Y1 PassesOwn.never rfl (je6 T.n_zip (jf (QB.f (ja 1)) (jf (jfA (ja 0) (Yr qI) YM) jx))) (uX rfl (kr (yR yF.nd) (kr (yR yF.nd) zp)))
  (jg (jJ (jr (c_eq a) (ja 3) (QP.bb qS)) (je (jJ (Yd (Ja (QP.bb (jw h (i _) (a.mono (by decide)) (jc (ja 4) ji))))) (jg (jn (QP.d (yc jx))))
  jm)
  (jg (jah (ja 2) (QB.f (ja 4)))))
  (je (ju yF.nd (QP.d (jw j (k _) (a.mono (by decide)) (jc (ja 4) ji))))
  (je (jJ (QW.t (Y0 (jr jex (ja 5) qI) (qZ (jr ji0 (ja 5) (jeQ a (QP.bb (jbw (ka (QP.bb qS) (QP.bb (jbA qI qI)) (ka (QP.bb qS) qI (ka (QP.bb qS) qI wY))))) (ja 3)))))) (jg (jn (QP.d (yc jx))))
  jm)
  (jg (jah (ja 2) (QB.f (ja 5)))))))))
  (jg (QS.fz 2 (jn (QP.d (yc (jf (QB.f (ja 2)) jx))))))))))
  (jg (jn (QP.d (yc jx))))))⟩⟩
theorem uF(T:Txt P w K mg cl jh b_NAME_COUNTS_0 b_NAME_COUNTS_1 jy b_FORMS_0 b_FORMS_1 b_FORMS_2 b_FORMS_3 b_FORMS_4 b_FORMS_5 b_FORMS_6 b_FORMS_7 b_FORMS_8 b_FORMS_9 b_FORMS_10 b_FORMS_11 b_FORMS_12 t_LONGEST_NAME jl t_LETTERS t_LONGEST_NUMBER t_FIGURES jk jU x_DealError x_Unfinished x_Misplaced x_NoName x_Twice x_TooMany x_Unguarded):yY K mg "row_told" JY JQ->Qr P w K mg cl->QV P w K mg cl:=by
 obtain⟨c,j,e,g⟩:=T.ini;intro k l;obtain⟨_,_,F⟩:=k;obtain⟨_,_,h,i⟩:=l;exact⟨_,_,F,λbase=>⟨y0 F.fn yg rfl λb A outer s H E a=>⟨_,show QSs _ _ _ _ _ VH from
  (je (jJ (QW.t (Y0 (jr jd6 (ja 1) (QP.bb qW)) (qZ (jr (c_ne a) (QP.bb (vc T.n_len (jc (ja 1) ji))) (QP.bb (Kc (QP.bb (vc T.n_len (jc (ja 0) ji))) qI)))))) (jg uO)
  jm)
  (je (ju yg.nd (QP.d (yc (jf (QB.f (Kj (ja 0) qI)) jx))))
  (je (Y1 PassesOwn.never rfl (jfc T.n_zip (jf (jfA (ja 0) (Yr qI) YM) (jf (QB.f (ja 1)) jx))) (uX rfl (kr (yR yg.nd) (kr (yR yg.nd) zp)))
  (je (ju yg.nd (QP.d (jw h (i _) (a.mono (by decide)) (jc (ja 4) (jc (ja 5) ji)))))
  (je (jJ (jr jd6 (ja 6) (QP.bb qW)) (jg uO)
  jm)
  (jg (jah (ja 3) (QB.f (ja 6)))))))
  (jg (jn (jjO 3))))))⟩,jeH F.fn yg rfl λb A outer s H E a=>⟨_,_,show QXs _ _ _ _ _ _ jaR kg from
  (Yu (jgv (QW.t (Y0 (jr jd6 (ja 1) (QP.bb qW)) (qZ (jr (c_ne a) (QP.bb (vc T.n_len (jc (ja 1) ji))) (QP.bb (Kc (QP.bb (vc T.n_len (jc (ja 0) ji))) qI)))))) (Qy (uP jg3 c (g _) (a.mono (by decide)) e T.g_BadRow (jf qS (jf (QB.f (ja 2)) jx))))
  (jbv jm))
  (Yu (qx (ju yg.nd (QP.d (yc (jf (QB.f (Kj (ja 0) qI)) jx)))))
  (Yu (jiH jaN rfl (jfc T.n_zip (jf (jfA (ja 0) (Yr qI) YM) (jf (QB.f (ja 1)) jx))) (uX rfl (kr (yR yg.nd) (kr (yR yg.nd) zp)))
  (Yu (qx (ju yg.nd (QP.d (jw h (i _) (a.mono (by decide)) (jc (ja 4) (jc (ja 5) ji))))))
  (Yu (jgv (jr jd6 (ja 6) (QP.bb qW)) (Qy (uP jg3 c (g _) (a.mono (by decide)) e T.g_BadRow (jf jld (jf (QB.f (ja 2)) jx))))
  (jbv jm))
  (Qy (qx (jah (ja 3) (QB.f (ja 6))))))))
  (Qy (qx (jn (jjO 3)))))))⟩⟩⟩
theorem zx(T:Txt P w K mg cl jh b_NAME_COUNTS_0 b_NAME_COUNTS_1 jy b_FORMS_0 b_FORMS_1 b_FORMS_2 b_FORMS_3 b_FORMS_4 b_FORMS_5 b_FORMS_6 b_FORMS_7 b_FORMS_8 b_FORMS_9 b_FORMS_10 b_FORMS_11 b_FORMS_12 t_LONGEST_NAME jl t_LETTERS t_LONGEST_NUMBER t_FIGURES jk jU x_DealError x_Unfinished x_Misplaced x_NoName x_Twice x_TooMany x_Unguarded):yY K mg "_law_row_by" kx kG->Qs P w K mg cl->qD P w K mg cl->JZ P w K mg cl->VW P w K mg cl:=by
 intro j k l m;obtain⟨_,_,F⟩:=j;obtain⟨_,_,b,c⟩:=k;obtain⟨_,_,e,g⟩:=l;obtain⟨_,_,h,i⟩:=m;exact⟨_,_,F,λbase=>y0 F.fn v7 rfl λn A outer s H E a=>⟨_,show QSs _ _ _ _ _ j0 from
  (je (ju v7.nd (QP.d (vG (ja 0) qI)))
  (je (ju v7.nd (QP.d (jw e (g _) (a.mono (by decide)) (jc (ja 1) ji))))
  (je (ju v7.nd (QP.d (jw e (g _) (a.mono (by decide)) (jc (ja 2) ji))))
  (je (jJ (jr jex (ja 5) qI) (jg (jn (QP.d (yc (jf (QB.f (Kj (QP.bb (yc (jf qS (jf qS (jf qS (jf qS (jf qS (jf qS (jf qS jx))))))))) (ja 5))) (jf (QB.f (ja 6)) jx))))))
  jm)
  (je (jJ (jr (c_eq a) (ja 5) qI) (jg (jn (QP.d (yc (jf qS (jf (QB.f (ja 6)) (jf (jw b (c _) (a.mono (by decide)) (jc (ja 2) (jc qI (jc (QP.bb (jbA qI qI)) ji)))) (jf (jw b (c _) (a.mono (by decide)) (jc (ja 3) (jc qI (jc (QP.bb (jbA qI qI)) ji)))) jx))))))))
  jm)
  (je (jJ (jr jex (ja 5) qI) (jg (jn (QP.d (yc (jf (QB.f (Kj (QP.bb (yc (jf qS (jf qS jx)))) (QP.bb (Kc (ja 5) qI)))) (jf (QB.f (ja 6)) (jf (jw b (c _) (a.mono (by decide)) (jc (ja 2) (jc qI (jc (QP.bb (jbA qI qI)) ji)))) jx)))))))
  jm)
  (je (jJ (jr (c_eq a) (ja 5) qI) (jg (jn (QP.d (yc (jf qS (jf (QB.f (ja 6)) (jf (jw b (c _) (a.mono (by decide)) (jc (ja 2) (jc qI (jc qI ji)))) jx)))))))
  jm)
  (je (jJ (jr (c_eq a) (ja 5) qI) (jg (jn (QP.d (yc (jf qS (jf (QB.f (ja 6)) (jf (jw b (c _) (a.mono (by decide)) (jc (ja 3) (jc qI (jc qI ji)))) (jf (QB.f (ja 7)) jx))))))))
  jm)
  (je (jJ (jr (c_eq a) (ja 5) qI) (jg (jn (QP.d (yc (jf qS (jf (QB.f (ja 6)) (jf (QB.f (ja 7)) jx)))))))
  jm)
  (je (jJ (jr (c_eq a) (ja 5) qI) (jg (jn (QP.d (yu (QP.bb (yc (jf qS jx))) (QP.bb (jw h (i _) (a.mono (by decide)) (jc (ja 4) (jc (QP.bb (yu qI (QP.bb (vG (QP.bb (Vm (ja 0) qI)) qI)))) ji))))))))
  jm)
  (jg (jn (QP.d (yu (QP.bb (yc (jf qS jx))) (QP.bb (jw h (i _) (a.mono (by decide)) (jc (ja 4) (jc (QP.bb (yu qI (QP.bb (vG (QP.bb (Vm (ja 0) qI)) qI)))) ji))))))))))))))))))⟩⟩
theorem jbt(T:Txt P w K mg cl jh b_NAME_COUNTS_0 b_NAME_COUNTS_1 jy b_FORMS_0 b_FORMS_1 b_FORMS_2 b_FORMS_3 b_FORMS_4 b_FORMS_5 b_FORMS_6 b_FORMS_7 b_FORMS_8 b_FORMS_9 b_FORMS_10 b_FORMS_11 b_FORMS_12 t_LONGEST_NAME jl t_LETTERS t_LONGEST_NUMBER t_FIGURES jk jU x_DealError x_Unfinished x_Misplaced x_NoName x_Twice x_TooMany x_Unguarded):yY K mg "row_of" Kl Kh->J2 P w K mg cl->QV P w K mg cl->QH P w K mg cl->jad P w K mg cl:=by
 obtain⟨o,j,p,q⟩:=T.ini;intro k l m n;obtain⟨_,_,F⟩:=k;obtain⟨_,_,c,e⟩:=l;obtain⟨_,_,f,g⟩:=m;obtain⟨_,_,h,i⟩:=n;exact⟨_,_,F,λbase=>⟨y0 F.fn YW rfl λb A outer s H E a=>⟨_,show QSs _ _ _ _ _ Kf from
  (je (ju YW.nd (QP.d (jw h (i _) (a.mono (by decide)) (jc (ja 0) ji))))
  (je (jJ (jr (c_eq a) (QP.bb (vc T.n_len (jc (ja 2) ji))) qI) (jg (jn (QP.d qW)))
  jm)
  (jg (jn (QP.d (jw f (g _).1 (a.mono (by decide)) (jc (ja 2) (jc (QP.bb (jw c (e _) (a.mono (by decide)) (jc (Kj (ja 2) qI) (jc (QP.bb (Kc (QP.bb (vc T.n_len (jc (ja 2) ji))) qI)) ji)))) (jc (ja 1) ji)))))))))⟩,jeH F.fn YW rfl λb A outer s H E a=>⟨_,_,show QXs _ _ _ _ _ _ jdY qX from
  (Yu (qx (ju YW.nd (QP.d (jw h (i _) (a.mono (by decide)) (jc (ja 0) ji)))))
  (Yu (jgv (jr (c_eq a) (QP.bb (vc T.n_len (jc (ja 2) ji))) qI) (Qy (qx (jn (QP.d qW))))
  (jbv jm))
  (Qy (jie jg3 f (g _).2 (a.mono (by decide)) (jc (ja 2) (jc (QP.bb (jw c (e _) (a.mono (by decide)) (jc (Kj (ja 2) qI) (jc (QP.bb (Kc (QP.bb (vc T.n_len (jc (ja 2) ji))) qI)) ji)))) (jc (ja 1) ji)))))))⟩⟩⟩
theorem wL(T:Txt P w K mg cl jh b_NAME_COUNTS_0 b_NAME_COUNTS_1 jy b_FORMS_0 b_FORMS_1 b_FORMS_2 b_FORMS_3 b_FORMS_4 b_FORMS_5 b_FORMS_6 b_FORMS_7 b_FORMS_8 b_FORMS_9 b_FORMS_10 b_FORMS_11 b_FORMS_12 t_LONGEST_NAME jl t_LETTERS t_LONGEST_NUMBER t_FIGURES jk jU x_DealError x_Unfinished x_Misplaced x_NoName x_Twice x_TooMany x_Unguarded):yY K mg "_law_same" JV qf->Qz P w K mg cl:=by
 intro b;obtain⟨_,_,F⟩:=b;exact⟨_,_,F,λbase=>by
  have key:∀ n,FnOk P w K mg base CX0 (0+n) _ _ qf (spP ⟨K,cl⟩ (j6 n) 2):=λn=>by
   induction n with
   | zero=>exact jgb
   | succ n c =>
    have e:=F;exact y0 F.fn YD rfl λg A outer s H E a=>⟨_,show QSs _ _ _ _ _ (kf (j6 n)) from
    (je (jJ (QW.t (Y0 (Ja (QP.bb (Ka (T:="list") (by decide) T.n_isinstance T.n_list qg (ja 1)))) (qZ (Ja (QP.bb (Ka (T:="tuple") (by decide) T.n_isinstance T.n_tuple Ys (ja 1))))))) (je (jJ (jr (c_ne a) (QP.bb (Ka (T:="list") (by decide) T.n_isinstance T.n_list qg (ja 1))) (QP.bb (Ka (T:="list") (by decide) T.n_isinstance T.n_list qg (ja 0)))) (jg (jn (QP.d uZ)))
    jm)
    (je (jJ (jr (c_ne a) (QP.bb (Ka (T:="tuple") (by decide) T.n_isinstance T.n_tuple Ys (ja 1))) (QP.bb (Ka (T:="tuple") (by decide) T.n_isinstance T.n_tuple Ys (ja 0)))) (jg (jn (QP.d uZ)))
    jm)
    (je (jJ (jr (c_ne a) (QP.bb (vc T.n_len (jc (ja 0) ji))) (QP.bb (vc T.n_len (jc (ja 1) ji)))) (jg (jn (QP.d uZ)))
    jm)
    (je (Y1 PassesOwn.never rfl (je6 T.n_zip (jf (QB.f (ja 0)) (jf (QB.f (ja 1)) jx))) (uX rfl (kr (yR YD.nd) (kr (yR YD.nd) zp)))
    (jg (jJ (Yd (Ja (QP.bb (jw e c (a.mono (by first | exact N3 _ | exact U0 (by decide) (Nat.le_add_right _ _))) (jc (ja 2) (jc (ja 3) ji)))))) (jg (jn (QP.d uZ)))
    jm)))
    (jg (jn (QP.d uZ)))))))
    jm)
    (je (jJ (jr jd6 (ja 1) (QP.bb qW)) (jg (jn (QP.d (xr jd6 (ja 0) (QP.bb qW)))))
    jm)
    (je (jJ (Ja (QP.bb (Ka (T:="str") (by decide) T.n_isinstance T.n_str Kw (ja 1)))) (jg (jn (QP.d (jb7 (QP.bb (Ka (T:="str") (by decide) T.n_isinstance T.n_str Kw (ja 0))) (jc7 (xr (c_eq a) (ja 0) (ja 1)))))))
    jm)
    (jg (jn (QP.d (jb7 (QP.bb (Ka (T:="int") (by decide) T.n_isinstance T.n_int Ky (ja 0))) (jb7 (QP.bb (jkc (QP.bb (Ka (T:="bool") (by decide) T.n_isinstance T.n_bool Qq (ja 0))))) (jc7 (xr (c_eq a) (ja 0) (ja 1)))))))))))⟩
  exact key 8⟩
theorem wB(T:Txt P w K mg cl jh b_NAME_COUNTS_0 b_NAME_COUNTS_1 jy b_FORMS_0 b_FORMS_1 b_FORMS_2 b_FORMS_3 b_FORMS_4 b_FORMS_5 b_FORMS_6 b_FORMS_7 b_FORMS_8 b_FORMS_9 b_FORMS_10 b_FORMS_11 b_FORMS_12 t_LONGEST_NAME jl t_LETTERS t_LONGEST_NUMBER t_FIGURES jk jU x_DealError x_Unfinished x_Misplaced x_NoName x_Twice x_TooMany x_Unguarded):yY K mg "_law_holds" qL qv->Jb P w K mg cl->VR P w K mg cl->Qz P w K mg cl->VS P w K mg cl->jad P w K mg cl->Kv P w K mg cl:=by
 intro e f g h i j;obtain⟨_,_,F⟩:=e;obtain⟨_,_,k,l⟩:=f;obtain⟨_,_,m,n⟩:=g;obtain⟨_,_,o,p⟩:=h;obtain⟨_,_,q,r⟩:=i;obtain⟨_,_,b,c⟩:=j;exact⟨_,_,F,λbase=>y0 F.fn yW rfl λt A outer s H E a=>⟨_,show QSs _ _ _ _ _ qo from
  (je (ju yW.nd (QP.d (yu qI (QP.bb (vG (QP.bb (Vm (ja 1) (QP.bb (jbA qI qI)))) qI)))))
  (je (ju yW.nd (QP.d (jw m (n _) (a.mono (by decide)) (jc (ja 0) ji))))
  (je (ju yW.nd (QP.d qW))
  (je (ju yW.nd (QP.d qW))
  (je (jfS b (jgY (c _).1 (c _).2) (a.mono (by decide)) T.g_DealError T.XD T.sub0 yW.nd (jc (QP.bb (jw q (r _) (a.mono (by decide)) (jc (ja 0) (jc (ja 1) ji)))) (jc (ja 2) ji)))
  (je (jJ (jr (c_eq a) (QP.bb (vc T.n_len (jc (ja 3) ji))) qI) (jg (jn (QP.d (jb7 (QP.bb (xr jd6 (ja 4) (QP.bb qW))) (jc7 (jw o (p _) (a.mono (by decide)) (jc (ja 5) (jc (Kj (ja 3) qI) ji))))))))
  jm)
  (jg (jn (QP.d (jw k (l _) (a.mono (by decide)) (jc (ja 4) (jc qI (jc (ja 2) ji)))))))))))))⟩⟩
theorem jjD(T:Txt P w K mg cl jh b_NAME_COUNTS_0 b_NAME_COUNTS_1 jy b_FORMS_0 b_FORMS_1 b_FORMS_2 b_FORMS_3 b_FORMS_4 b_FORMS_5 b_FORMS_6 b_FORMS_7 b_FORMS_8 b_FORMS_9 b_FORMS_10 b_FORMS_11 b_FORMS_12 t_LONGEST_NAME jl t_LETTERS t_LONGEST_NUMBER t_FIGURES jk jU x_DealError x_Unfinished x_Misplaced x_NoName x_Twice x_TooMany x_Unguarded):yY K mg "law" wA jdC->Vg P w K mg cl->Kv P w K mg cl->YH P w K mg cl->VW P w K mg cl->VQ P w K mg cl->jk2 P w K mg cl:=by
 intro g h i j k l;obtain⟨_,_,F⟩:=g;obtain⟨_,_,b,c⟩:=h;obtain⟨_,_,m,n⟩:=i;obtain⟨_,_,e,f⟩:=j;obtain⟨_,_,o,p⟩:=k;obtain⟨_,_,q,r⟩:=l;exact⟨_,_,F,λbase=>y0 F.fn JB rfl λt A outer s H E a=>⟨_,show QSs _ _ _ _ _ jgS from
  (je (Y1 PassesOwn.never rfl (jf5 T.n_range (jc qI (jc (QP.bb (ux (ja5 rfl) jky T.n_max ja3 (jc qI (jc (QP.bb (vc T.n_len (jc (ja 0) ji))) ji)))) (jc qI ji)))) (yR JB.nd)
  (je (ju JB.nd (QP.d (jw e (f _) (a.mono (by decide)) (jc (QP.bb (jw b (c _) (a.mono (by decide)) (jc (ja 0) (jc (ja 1) ji)))) (jc qI ji)))))
  (je (ju JB.nd (QP.d (jw e (f _) (a.mono (by decide)) (jc (QP.bb (jw b (c _) (a.mono (by decide)) (jc (ja 0) (jc (QP.bb (yu (ja 1) qI)) ji)))) (jc qI ji)))))
  (je (ju JB.nd (QP.d (jw e (f _) (a.mono (by decide)) (jc (QP.bb (jw b (c _) (a.mono (by decide)) (jc (ja 0) (jc (QP.bb (yu (ja 1) qI)) ji)))) (jc qI ji)))))
  (je (ju JB.nd (QP.d (jw e (f _) (a.mono (by decide)) (jc (QP.bb (jw b (c _) (a.mono (by decide)) (jc (ja 0) (jc (QP.bb (yu (ja 1) qI)) ji)))) (jc qI ji)))))
  (je (ju JB.nd (QP.d (jw e (f _) (a.mono (by decide)) (jc (QP.bb (jw b (c _) (a.mono (by decide)) (jc (ja 0) (jc (QP.bb (yu (ja 1) qI)) ji)))) (jc qI ji)))))
  (je (ju JB.nd (QP.d (jw e (f _) (a.mono (by decide)) (jc (QP.bb (jw b (c _) (a.mono (by decide)) (jc (ja 0) (jc (QP.bb (yu (ja 1) qI)) ji)))) (jc qI ji)))))
  (je (KP (bkF JB ["_law_part"]) rfl (Q9 (QP.bb (jw o (p _) (a.mono (by decide)) (jc (ja 2) (jc (ja 3) (jc (ja 4) (jc (ja 5) (jc (QP.bb (jw b (c _) (a.mono (by decide)) (jc (ja 0) (jc (QP.bb (yu (ja 1) qI)) ji)))) ji)))))))) cgN jjQ (λ_ _ _ _=>(zu (jd9 jcD jcE) jjt T.n_str Kw (jc (ja 0) ji))) JB.nd)
  (je (ju JB.nd (QP.d (jw q (r _) (a.mono (by decide)) (jc (ja 8) (jc (QP.bb (vG (ja 7) qI)) (jc (QP.bb (vG (QP.bb (Vm (ja 7) qI)) qI)) (jc (QP.bb (jw e (f _) (a.mono (by decide)) (jc (QP.bb (jw b (c _) (a.mono (by decide)) (jc (ja 0) (jc (QP.bb (yu (ja 1) qI)) ji)))) (jc qI ji)))) ji)))))))
  (jg (jJ (Yd (Ja (QP.bb (jw m (n _) (a.mono (by decide)) (jc (ja 8) (jc (ja 6) ji)))))) (jg (jn (QP.d uZ)))
  jm)))))))))))
  (jg (jn (QP.d uZ))))⟩⟩
end
noncomputable def jjx:List Nat:=[48,49,50,51,52,53,54,55,56,57]
theorem fig_mem{c:Nat}:c∈jjx↔48<=c/\c<=57:=by simp[jjx];omega
theorem K8(w s:List Nat)(b:w.length<=1000):qk [.str w,.str s]=some (.bl (w.all λc=>decide (c∈s))):=by
 have a:vQ (jB [] 0) qT (p2 (zE false) (pV 0) (pV 1)) (w.map λc=>D.str [c]) (y6 [none,some 1] [some (.str w),some (.str s)])=some (w.map λc=>D.bl (decide (c∈s))):=by
  refine z9 rfl (λρ=>∃ o,ρ=[o,some (.str s)]) ?_ ⟨none,rfl⟩;rintro x d ρ ⟨o,rfl⟩;exact⟨[some (.str [x]),some (.str s)],rfl,by simp,_,rfl⟩
 have e:(w.map λc=>D.bl (decide (c∈s)))=(w.map λc=>decide (c∈s)).map D.bl:=by rw[U4];rfl
 rw[e] at a;simp(disch:=omega) [qk,jt,Vy,a,jq,-List.map_map];rfl
theorem xw{w:List Nat}(n:w.length<=1000):yn [.str w]=some (if 1<=w.length/\w.length<=13/\¬ (1 < w.length/\w.getD 0 0=48)/\(∀ c∈w,48<=c/\c<=57) then .int (NumText.digitsVal w:Nat) else .non):=by
 have a:=K8 w [48,49,50,51,52,53,54,55,56,57] n;by_cases f:1<=w.length
 ·have b:(1:Int)<=w.length:=by omega
  by_cases i:w.length<=13
  ·have d:(w.length:Int)<=13:=by omega
   by_cases e:∀ c∈w,48<=c/\c<=57
   ·have j:(w.all λc=>decide (c∈[48,49,50,51,52,53,54,55,56,57]))=true:=List.all_eq_true.mpr λc k=>X3 (fig_mem.mpr (e c k));rw[j] at a;by_cases g:w.getD 0 0=48
    ·by_cases h:1 < w.length
     ·have l:¬ (w=[48]):=λz=>by rw[z] at h;exact absurd h (by decide)
      rw[if_neg (λz=>z.2.2.1 ⟨h,g⟩)];have m:(w.getD 0 0==48)=true:=by rw[g];rfl
      have o:(w==[48])=false:=U5.mpr l;simp(disch:=first | omega | (simp;done) | (simp;omega)) [yn,jt,yC,qj,jaD,b,d,a,m,o,-List.getD_eq_getElem?_getD]
     ·rw[if_pos ⟨f,i,λz=>h z.1,e⟩];have l:w=[48]:=by
       obtain⟨c,rfl⟩:=List.length_eq_one_iff.mp (show w.length=1 by omega);have:c=48:=by simpa using g
       rw[this]
      subst l;simp(disch:=first | omega | (simp;done) | (simp;omega)) [yn,jt,yC,qj,jaD,b,d,a];rfl
    ·rw[if_pos ⟨f,i,λz=>g z.2,e⟩];have m:(w.getD 0 0==48)=false:=U5.mpr g;have p:=jkw (w:=w) (λz=>by rw[z] at f;exact absurd f (by decide)) (by omega) e;simp(disch:=first | omega | (simp;done) | (simp;omega)) [yn,jt,yC,qj,jaD,b,d,a,m,p,-List.getD_eq_getElem?_getD]
   ·have j:(w.all λc=>decide (c∈[48,49,50,51,52,53,54,55,56,57]))=false:=by
     apply Bool.eq_false_iff.mpr;intro z;exact e λc k=>fig_mem.mp (X5 (List.all_eq_true.mp z c k))
    rw[j] at a;rw[if_neg (λz=>e z.2.2.2)];simp(disch:=first | omega | (simp;done) | (simp;omega)) [yn,jt,yC,qj,jaD,b,d,a]
  ·have d:¬ (w.length:Int)<=13:=by omega
   rw[if_neg (λz=>i z.2.1)];simp(disch:=first | omega | (simp;done) | (simp;omega)) [yn,jt,yC,qj,jaD,b,d,a]
 ·have b:¬ (1:Int)<=w.length:=by omega
  rw[if_neg (λz=>f z.1)];simp(disch:=first | omega | (simp;done) | (simp;omega)) [yn,jt,yC,qj,jaD,b,a]
theorem jck(m:Nat)(h:10<=m):zo m=zo (m / 10)++[(Nat.digitChar (m % 10)).toNat]:=by
 have a:m % 10 < 10:=Nat.mod_lt m (by decide);have t:=Nat.toDigits_append_toDigits (b:=10) (n:=m / 10) (d:=m % 10) (by decide) (by omega) a;rw[Nat.div_add_mod,Nat.toDigits_of_lt_base a] at t;unfold zo;rw[<- t,List.map_append];rfl
theorem jeG:∀ d:Nat,d < 10->(Nat.digitChar d).toNat=48+d:=by decide
theorem ja4(m:Nat):∀ c∈zo m,48<=c/\c<=57:=by
 induction m using Nat.strongRecOn with
 | _ m b =>
  by_cases h:m < 10
  ·intro c a;unfold zo at a;rw[Nat.toDigits_of_lt_base h] at a;have:=jeG m h;simp at a;omega
  ·rw[jck m (by omega)];intro c a;rcases N6.mp a with a | a
   ·exact b (m / 10) (by omega) c a
   ·have:=jeG (m % 10) (Nat.mod_lt m (by decide));rw[N2.mp a];omega
noncomputable def KW:List (List Nat):=[[112,111,111,108],[99,108,97,105,109],[112,111,116],[101,97,116],[111,114,100,101,114],[112,97,114,116],[112,97,121],[115,104,97,114,101],[114,101,112,97,121],[102,105,108,108],[108,101,110,100],[98,97,99,107],[114,101,115,116],[108,111,111,107],[103,117,97,114,100],[100,101,98,116],[111,110],[108,97,116,101],[101,97,114,108,121],[113,117,105,116]]
theorem jkn:JO=.tup (KW.map D.str):=rfl
theorem jiX(w:List Nat)(l:List (List Nat)):zE true (.str w) (.tup (l.map D.str))=some (.bl (true != decide (w∈l))):=by
 show(bif ja1 (.str w) (l.map D.str) then some (D.bl (true != inL (.str w) (l.map D.str))) else none)=_;rw[xx,uJ];rfl
theorem jcF{Z:List Nat}{c n:Nat}(q:∀ d∈Z,d < 128)(h1:33<=c)(h2:c < 127):Jz (Z++[c]++List.replicate n 32)=Z++[c]:=by
 have r:∀ c < 127,33<=c->PyProof.Rows.spS ⟨#[c]⟩=false:=by decide
 have s:PyProof.Rows.spS ⟨#[32]⟩=true:=by decide
 obtain⟨o,p,t,j,f⟩:=PyProof.Rows.rstrip_cut (x:=S (Z++[c]++List.replicate n 32)) (by
  intro d hd;simp only[S,N6,N2,List.mem_replicate] at hd;rcases hd with(hd | rfl) | hd
  ·exact q d hd
  ·omega
  ·omega)
 rw[qE] at p j;have g:(Z++[c]++List.replicate n 32).length=Z.length+1+n:=by simp;omega
 rw[g] at p j;have i:∀ k,k < Z.length+1+n->(S (Z++[c]++List.replicate n 32)).cps.getD k 0=(Z++[c]++List.replicate n 32).getD k 0:=λk _=>by simp[S]
 have l:(Z++[c]++List.replicate n 32).getD Z.length 0=c:=by simp
 have m:∀ k,Z.length+1<=k->k < Z.length+1+n->(Z++[c]++List.replicate n 32).getD k 0=32:=λk a b=>by
  rw[List.getD_eq_getElem?_getD,List.getElem?_append_right (by simp;omega),List.getElem?_replicate,if_pos (by simp;omega)];rfl
 have e:o=Z.length+1:=by
  rcases Nat.lt_trichotomy o (Z.length+1) with h | h | h
  ·have:=j Z.length (by omega) (by omega);rw[i _ (by omega),l,r c h2 h1] at this;cases this
  ·exact h
  ·rcases f with f | f
   ·omega
   ·rw[i _ (by omega),m _ (by omega) (by omega),s] at f;cases f
 unfold Jz;rw[t,e];have u:(Z++[c]++List.replicate n 32).take (Z.length+1)=Z++[c]:=by rw[List.take_append_of_le_length (by simp),List.take_of_length_le (by simp)]
 rw[<- u];simp[S,Builtin.Str.strSub]
theorem jc5{c:Nat}(h:48<=c/\c<=57):jfH jjx [c]=((c - 48:Nat):Int):=by
 have:c=48 \/ c=49 \/ c=50 \/ c=51 \/ c=52 \/ c=53 \/ c=54 \/ c=55 \/ c=56 \/ c=57:=by omega
 rcases this with rfl | rfl | rfl | rfl | rfl | rfl | rfl | rfl | rfl | rfl<;>decide +kernel
theorem u6(a:Option D):∀(w:List Nat) (v:Nat) (o:Option D),w.length<=13->v < 10 ^ (30 - w.length) ->
  ((∀ c∈w,48<=c/\c<=57)->∃ o',vF (jB [] 2) jZ (w.map λc=>D.str [c]) [a,some (.int v),o]=some (.nx [a,some (.int (w.foldl (λacc c=>acc*10+(c - 48)) v:Nat)),o'])) /\
  ((∃ c∈w,¬ (48<=c/\c<=57))->∃ ρ,vF (jB [] 2) jZ (w.map λc=>D.str [c]) [a,some (.int v),o]=some (.rt (.int (-1)) ρ))
 | [],v,o,j,d=>⟨λ_=>⟨o,by simp⟩,λ⟨c,m,_⟩=>by simp at m⟩
 | c::w,v,o,j,d=>by
  rw[M7] at j d;have k:([48,49,50,51,52,53,54,55,56,57]:List Nat)=jjx:=rfl;have n:(jB [] 2) (.str [c]) [a,some (.int v),o]=some [a,some (.int v),some (.str [c])]:=rfl;have p:v < 10 ^ 30:=U7 d (Nat.pow_le_pow_right (by decide) (by omega));rw[L9,j5,n,L8];by_cases h:48<=c/\c<=57
  ·have f:jZ [a,some (.int v),some (.str [c])]=some (.nx [a,some (.int ((v*10+(c - 48):Nat))),some (.str [c])]):=by
    have g:=fig_mem.mpr h;have q:=jc5 h;unfold jZ;rw[k];simp(disch:=omega) [g,q,je7]
   have r:30 - w.length=(30 - (w.length+1))+1:=by omega
   have:=u6 a w (v*10+(c - 48)) (some (.str [c])) (by omega) (by rw[r,Nat.pow_succ];omega);rw[f,L8,VL];constructor
   ·intro i;obtain⟨o',e⟩:=this.1 (λx b=>i x (by simp[b]));exact⟨o',by rw[e];rfl⟩
   ·rintro⟨x,b,l⟩;refine this.2 ⟨x,?_,l⟩;rcases M9.mp b with rfl | b
    ·exact absurd h l
    ·exact b
  ·have f:jZ [a,some (.int v),some (.str [c])]=some (.rt (.int (-1)) [a,some (.int v),some (.str [c])]):=by
    have g:c∉jjx:=λz=>h (fig_mem.mp z);unfold jZ;rw[k];simp[g]
   rw[f,L8,YC];exact⟨λi=>absurd (i c (by simp)) h,λ_=>⟨_,rfl⟩⟩
theorem YV{w:List Nat}(n:w.length<=1000):jH [.str w]=some (.int (if 1<=w.length/\w.length<=13/\¬ (1 < w.length/\w.getD 0 0=48)/\(∀ c∈w,48<=c/\c<=57) then(NumText.digitsVal w:Nat) else -1)):=by
 by_cases d:1<=w.length/\w.length<=13
 ·by_cases f:1 < w.length/\w.getD 0 0=48
  ·rw[if_neg (λz=>z.2.2.1 f)];have a:¬ ((w.length:Int) < 1):=by omega
   have b:¬ ((13:Int) < (w.length:Int)):=by omega
   have g:((1:Int) < (w.length:Int)):=by omega
   have i:(w.getD 0 0==48)=true:=by rw[f.2];rfl
   simp(disch:=first | omega | (simp;done) | (simp;omega)) [jH,jt,yB,qj,jaD,a,b,g,i,-List.getD_eq_getElem?_getD]
  ·have a:¬ ((w.length:Int) < 1):=by omega
   have b:¬ ((13:Int) < (w.length:Int)):=by omega
   have st:jH [.str w]=(jD (zZ (pIt (pF (pV 0))) (jB [] 2) jZ) (yj (dP (pF (pV 1)))) [some (.str w),some (.int 0),none]).bind Out.val:=by
    by_cases g:((1:Int) < (w.length:Int))
    ·have j:¬ (w.getD 0 0=48):=λz=>f ⟨by omega,z⟩;have k:(w.getD 0 0==48)=false:=U5.mpr j;simp(disch:=first | omega | (simp;done) | (simp;omega)) [jH,jt,yB,qj,jaD,a,b,g,k,-jeY,-List.getD_eq_getElem?_getD]
    ·simp(disch:=first | omega | (simp;done) | (simp;omega)) [jH,jt,yB,qj,jaD,a,b,g,-jeY]
   have l:=u6 (some (.str w)) w 0 none d.2 (by exact Nat.pow_pos (by decide));rw[st];by_cases h:∀ c∈w,48<=c/\c<=57
   ·obtain⟨o,e⟩:=l.1 h;rw[if_pos ⟨d.1,d.2,f,h⟩];simp only[Int.natCast_zero] at e;simp[e,NumText.digitsVal]
   ·obtain⟨ρ,e⟩:=l.2 (by
     apply Classical.byContradiction;intro z;exact h λc m=>Classical.byContradiction λy=>z ⟨c,m,y⟩)
    rw[if_neg (λz=>h z.2.2.2)];simp only[Int.natCast_zero] at e;simp[e]
 ·rw[if_neg (λz=>d ⟨z.1,z.2.1⟩)];by_cases a:((w.length:Int) < 1)
  ·simp(disch:=first | omega | (simp;done) | (simp;omega)) [jH,jt,yB,qj,jaD,a]
  ·have b:((13:Int) < (w.length:Int)):=by omega
   simp(disch:=first | omega | (simp;done) | (simp;omega)) [jH,jt,yB,qj,jaD,a,b]
noncomputable abbrev jaB:List Nat:=[97,98,99,100,101,102,103,104,105,106,107,108,109,110,111,112,113,114,115,116,117,118,119,120,121,122]
theorem jaC{w:List Nat}(h:w.length<=1000):qe [.str w]=some (.bl (decide (1<=w.length/\w.length<=8)&&(w.all (λc=>decide (c∈jaB))&&!decide (w∈KW)))):=by
 have e:=K8 w jaB h;have a:=jiX w KW;have f:=jkn;generalize(w.all λc=>decide (c∈jaB))=b at e;generalize decide (w∈KW)=b2 at a;generalize KW.map D.str=KL at a f;by_cases d:(1:Int)<=w.length
 ·by_cases g:(w.length:Int)<=8
  ·rw[X3 (show 1<=w.length/\w.length<=8 by omega)];cases b<;>cases b2<;>simp(disch:=first | omega | (simp;done) | (simp;omega)) [qe,jt,Jp,qj,d,g,e,f,a]
  ·rw[X4 (show ¬ (1<=w.length/\w.length<=8) by omega)];simp(disch:=first | omega | (simp;done) | (simp;omega)) [qe,jt,Jp,qj,d,g]
 ·rw[X4 (show ¬ (1<=w.length/\w.length<=8) by omega)];simp(disch:=first | omega | (simp;done) | (simp;omega)) [qe,jt,Jp,qj,d]
theorem YS:yz []=some (.lst true (KW.map D.str)):=by
 have a:kB [112,111,111,108,32,99,108,97,105,109,32,112,111,116,32,101,97,116,32,111,114,100,101,114,32,112,97,114,116,32,112,97,121,32,115,104,97,114,101,32,114,101,112,97,121,32,102,105,108,108,32,108,101,110,100,32,98,97,99,107,32,114,101,115,116,32,108,111,111,107,32,103,117,97,114,100,32,100,101,98,116,32,111,110,32,108,97,116,101,32,101,97,114,108,121,32,113,117,105,116] [32]=KW:=by decide +kernel
 have b:QZ (.str [112,111,111,108,32,99,108,97,105,109,32,112,111,116,32,101,97,116,32,111,114,100,101,114,32,112,97,114,116,32,112,97,121,32,115,104,97,114,101,32,114,101,112,97,121,32,102,105,108,108,32,108,101,110,100,32,98,97,99,107,32,114,101,115,116,32,108,111,111,107,32,103,117,97,114,100,32,100,101,98,116,32,111,110,32,108,97,116,101,32,101,97,114,108,121,32,113,117,105,116]) [.str [32]]=some (.lst true (KW.map D.str)):=by
  rw[<- a];rfl
 simp[yz,jt,kS,b]
theorem xy(w:List Nat)(o:Bool)(l:List (List Nat)):zE false (.str w) (.lst o (l.map D.str))=some (.bl (decide (w∈l))):=by
 show(bif ja1 (.str w) (l.map D.str) then some (D.bl (false != inL (.str w) (l.map D.str))) else none)=_;rw[xx,uJ];simp
theorem xn(a:Option D):∀(w:List Nat) (o:Option D),∃ ρ,vF (jB [] 1) yi (w.map λc=>D.str [c]) [a,o]=if(w.all λc=>decide (c∈jaB))=true then some (.nx ρ) else some (.rt (.bl false) ρ)
 | [],o=>⟨[a,o],by simp⟩
 | c::w,o=>by
  have d:(jB [] 1) (.str [c]) [a,o]=some [a,some (.str [c])]:=rfl;rw[L9,j5,d,L8];by_cases h:c∈jaB
  ·have b:yi [a,some (.str [c])]=some (.nx [a,some (.str [c])]):=by
    have hd:decide (c∈jaB)=true:=X3 h;unfold yi;rw[show([97,98,99,100,101,102,103,104,105,106,107,108,109,110,111,112,113,114,115,116,117,118,119,120,121,122]:List Nat)=jaB from rfl];generalize jaB=LL at *;simp[h]
   obtain⟨ρ,e⟩:=xn a w (some (.str [c]));refine⟨ρ,?_⟩;rw[b,L8,VL,e,List.all_cons,X3 h,Bool.true_and]
  ·have b:yi [a,some (.str [c])]=some (.rt (.bl false) [a,some (.str [c])]):=by
    unfold yi;rw[show([97,98,99,100,101,102,103,104,105,106,107,108,109,110,111,112,113,114,115,116,117,118,119,120,121,122]:List Nat)=jaB from rfl];generalize jaB=LL at *;simp[h]
   refine⟨[a,some (.str [c])],?_⟩;rw[b,L8,YC,List.all_cons,X4 h,Bool.false_and];rfl
theorem uk{w:List Nat}(i:w.length<=1000):j8 [.str w]=some (.bl (decide (1<=w.length/\w.length<=8)&&(w.all (λc=>decide (c∈jaB))&&!decide (w∈KW)))):=by
 have d:=xy w true KW;have g:=YS;obtain⟨ρ,e⟩:=xn (some (.str w)) w none;have a:yE (KW.map D.str)=true:=rfl;generalize(w.all λc=>decide (c∈jaB))=b at e;generalize decide (w∈KW)=b2 at d;generalize KW.map D.str=KL at d g a;by_cases f:(w.length:Int) < 1
 ·rw[X4 (show ¬ (1<=w.length/\w.length<=8) by omega)];simp(disch:=first | omega | (simp;done) | (simp;omega)) [j8,jt,yr,qj,f]
 ·by_cases h:(8:Int) < (w.length:Int)
  ·rw[X4 (show ¬ (1<=w.length/\w.length<=8) by omega)];simp(disch:=first | omega | (simp;done) | (simp;omega)) [j8,jt,yr,qj,f,h]
  ·rw[X3 (show 1<=w.length/\w.length<=8 by omega)];cases b2
   ·cases b
    ·simp only[Bool.false_eq_true,if_false] at e;simp(disch:=first | omega | (simp;done) | (simp;omega)) [j8,jt,yr,qj,f,h,g,d,a,e]
    ·simp only[if_true] at e;simp(disch:=first | omega | (simp;done) | (simp;omega)) [j8,jt,yr,qj,f,h,g,d,a,e]
   ·cases b<;>simp(disch:=first | omega | (simp;done) | (simp;omega)) [j8,jt,yr,qj,f,h,g,d,a]
structure NmK(w:List Nat):Prop where
 l1:1<=w.length
 l8:w.length<=8
 rng:∀ c∈w,97<=c/\c<=122
noncomputable def mx(c k:Int):Int:=c*(91343852333181432387730302044767688731+7919000003*k*k) % 170141183460469231731687303715884105727
theorem wC(c k:Int):0<=mx c k:=U3 _ (by decide)
theorem kz{c k:Int}(b:wI c=true)(a:0<=k)(h1:k<=100):jT [.int c,.int k]=some (.int (mx c k)):=by
 have f:0<=7919000003*k*k/\7919000003*k*k<=7919000003*100*100:=⟨Int.mul_nonneg (by omega) a,Int.mul_le_mul (by omega) h1 a (by omega)⟩;have d:wI (91343852333181432387730302044767688731+7919000003*k*k)=true:=uo (by omega);have e:=jdx b d;simp(disch:=omega) [jT,jt,Yx,je7,jK,e,mx]
theorem KN(ns:List Int)(b:∀ x∈ns,Builtin.Int.intBits x<=2 ^ 20){k:Int}(d:0<=k):∃ c,jE [.lst false (ns.map D.int),.int k]=some (.int c)/\wI c=true:=by
 by_cases h:k < ns.length
 ·have a:k.toNat < ns.length:=by omega
  have e:kW (.lst false (ns.map D.int)) (.int k)=some (.int ns[k.toNat]):=by
   rw[jjP d (by rw[L4];exact h),List.getElem?_map,X8 a];rfl
  exact⟨ns[k.toNat],by simp[jE,jt,vS,h,e],X3 (b _ (List.getElem_mem a))⟩
 ·exact⟨0,by simp[jE,jt,vS,h],rfl⟩
noncomputable abbrev ABC:List Nat:=[97,98,99,100,101,102,103,104,105,106,107,108,109,110,111,112,113,114,115,116,117,118,119,120,121,122]
theorem jiZ{i:Int}(a:0<=i)(h1:i < 26):∃ c,kW (.str ABC) (.int i)=some (.str [c])/\97<=c/\c<=122:=by
 have b:ABC.length=26:=rfl;refine⟨ABC.getD i.toNat 0,jaD (by decide) a (by omega),?_⟩;have:∀ c∈ABC,97<=c/\c<=122:=by decide
 exact this _ (getD_mem (by omega))
abbrev Lt(w:List Nat):Prop:=∀ c∈w,97<=c/\c<=122
theorem jaa{a b:List Nat}(h1:Lt a)(h2:Lt b):Lt (a++b):=λc d=>(N6.mp d).elim (h1 c) (h2 c)
theorem jeI{c:Nat}(h:97<=c/\c<=122):Lt [c]:=λd hd=>by rw[N2.mp hd];exact h
theorem QN{n:Int}{s:Int}(m:0<=n)(t:0<=s)(u:s<=8):∃ w,y8 [.int n,.int s]=some (.str w)/\w.length=s.toNat/\Lt w:=by
 have g:=zr (j:=s) (by omega) (by omega);obtain⟨y,e,v,w,h,rfl,o,d,k⟩:=wx (G:=jB [] 3) (f:=km) (xs:=Qe 0 s.toNat) (λi ρ=>∃(v:Int) (w:List Nat) (h:Option D),ρ=[some (.int v),some (.int s),some (.str w),h]/\0<=v/\w.length=i/\Lt w) (by
  rintro i x ρ p ⟨v,w,h,rfl,o,d,k⟩;obtain⟨rfl,z⟩:=jdm p;obtain⟨c,q,l⟩:=jiZ (i:=v % 26) (by omega) (by omega);have r:=Jo (a:=w) (b:=[c]) (by simp;omega);refine⟨[some (.int v),some (.int s),some (.str w),some (.int (0+(i:Int)))],_,rfl,.inl ?_,v / 26,w++[c],some (.int (0+(i:Int))),rfl,by omega,by simp[d],jaa k (jeI l)⟩;simp(disch:=omega) [km,jK,yI,q,r,-Int.zero_add]) (ρ:=[some (.int n),some (.int s),some (.str []),none]) ⟨n,[],none,rfl,m,rfl,λc l=>by cases l⟩
 rw[Kn] at d;exact⟨w,by simp[y8,jt,qV,g,e],d,k⟩
noncomputable abbrev SOME:List (List Nat):=[[120],[120,120],[120,121],[121,120],[112,111,111,108,115],[111,110,99,101],[97],[122],[97,97,97,97,97,97,97,97],[97,97,97,97,97,97,97,98],[98,97,97,97,97,97,97,97],[97,97,97,97,98,97,97,97]]
theorem jfR:∀ w∈SOME,1<=w.length/\w.length<=8/\∀ c∈w,97<=c/\c<=122:=by decide
theorem jlK:∀ w∈KW,1<=w.length/\w.length<=7:=by decide
theorem zW{w:List Nat}(h1:1<=w.length)(b:w.length<=8)(a:Lt w):NmK (if w∈KW then w++[113] else w):=by
 by_cases h:w∈KW
 ·rw[if_pos h];obtain⟨c,d⟩:=jlK w h;exact⟨by simp,by simp;omega,jaa a (jeI ⟨by decide,by decide⟩)⟩
 ·rw[if_neg h];exact⟨h1,b,a⟩
theorem jcq{k b:Nat}:(List.replicate k [b]).flatten=List.replicate k b:=by
 induction k with
 | zero=>rfl
 | succ k a=>rw[List.replicate_succ,List.flatten_cons,a,List.replicate_succ];rfl
theorem uA{n:Int}(P:0<=n):∃ w,jG [.int n]=some (.str w)/\NmK w:=by
 obtain⟨t,p,Q,C⟩:=QN (n:=n / 32) (s:=1+n % 8) (by omega) (by omega) (by omega);have q:=YS;have E:lim SOME.length=true:=rfl
 -- what stands ahead of the last test
 have fin:∀ w:List Nat,1<=w.length->w.length<=8->Lt w->zE false (.str w) (.lst true (KW.map D.str))=some (.bl (decide (w∈KW)))/\jQ (.str w) (.str [113])=some (.str (w++[113])):=λw a b c=>⟨xy w true KW,Jo (by simp;omega)⟩;have K:([.str [120],.str [120,120],.str [120,121],.str [121,120],.str [112,111,111,108,115],.str [111,110,99,101],.str [97],.str [122],.str [97,97,97,97,97,97,97,97],.str [97,97,97,97,97,97,97,98],.str [98,97,97,97,97,97,97,97],.str [97,97,97,97,98,97,97,97]]:List D)=SOME.map D.str:=rfl;have L:yE (KW.map D.str)=true:=rfl;by_cases u:n / 8 % 4=0
 ·have v:=JC (o:=true) (l:=SOME) (i:=n / 32 % 12) (by omega) (by show n / 32 % 12 < 12;omega);obtain⟨e,f,m⟩:=jfR _ (getD_mem (l:=SOME) (i:=(n / 32 % 12).toNat) (d:=[]) (by show _ < 12;omega));generalize SOME.getD (n / 32 % 12).toNat []=w at v e f m;obtain⟨g,h⟩:=fin w e f m;refine⟨_,?_,zW e f m⟩;rw[<- K] at v;generalize KW.map D.str=KL at *;by_cases j:w∈KW
  ·simp(disch:=omega) [jG,jt,j9,jK,yI,p,u,v,q,g,h,j,jq]
  ·simp(disch:=omega) [jG,jt,j9,jK,yI,p,u,v,q,g,h,j,jq]
 by_cases x:n / 8 % 4=1
 ·obtain⟨r,F,l1,M⟩:=QN (n:=n / 32) (s:=1) (by omega) (by omega) (by omega);have G:=U3 (n / 32 / 26) (show(1+n % 8)≠0 by omega);have N:=U2 (n / 32 / 26) (show 0 < (1+n % 8) by omega);generalize y:n / 32 / 26 % (1+n % 8)=at_ at G N;have z:=jbT (a:=[109]) (n:=at_) (by simp) G (by omega);have A:=jbT (a:=[109]) (n:=1+n % 8 - 1 - at_) (by simp) (by omega) (by omega);rw[jcq] at z A;have H:=Jo (a:=List.replicate at_.toNat 109) (b:=r) (by rw[List.length_replicate];omega);have B:=Jo (a:=List.replicate at_.toNat 109++r) (b:=List.replicate (1+n % 8 - 1 - at_).toNat 109) (by simp only[N8,List.length_replicate];omega);have I:∀ k,Lt (List.replicate k 109):=λk c O=>by rw[List.eq_of_mem_replicate O];decide
  have m:Lt (List.replicate at_.toNat 109++r++List.replicate (1+n % 8 - 1 - at_).toNat 109):=jaa (jaa (I _) M) (I _);have e:1<=(List.replicate at_.toNat 109++r++List.replicate (1+n % 8 - 1 - at_).toNat 109).length:=by simp only[N8,List.length_replicate];omega
  have f:(List.replicate at_.toNat 109++r++List.replicate (1+n % 8 - 1 - at_).toNat 109).length<=8:=by simp only[N8,List.length_replicate];omega
  have J:yA (.int (n / 32 / 26)) (.int (1+n % 8))=some (.int at_):=by rw[jK (by omega),y]
  generalize List.replicate at_.toNat 109++r++List.replicate (1+n % 8 - 1 - at_).toNat 109=w at B e f m;obtain⟨g,h⟩:=fin w e f m;refine⟨_,?_,zW e f m⟩;generalize KW.map D.str=KL at *;by_cases j:w∈KW
  ·simp(disch:=omega) [jG,jt,j9,jK,yI,p,x,F,J,z,A,H,B,q,g,h,j,jq,-List.append_assoc]
  ·simp(disch:=omega) [jG,jt,j9,jK,yI,p,x,F,J,z,A,H,B,q,g,h,j,jq,-List.append_assoc]
 ·have e:1<=t.length:=by omega
  have f:t.length<=8:=by omega
  obtain⟨g,h⟩:=fin t e f C;refine⟨_,?_,zW e f C⟩;generalize KW.map D.str=KL at *;by_cases j:t∈KW
  ·simp(disch:=omega) [jG,jt,j9,jK,yI,p,u,x,q,g,h,j,jq]
  ·simp(disch:=omega) [jG,jt,j9,jK,yI,p,u,x,q,g,h,j,jq]
theorem zA{n g:Int}(d:0<=n)(h1:1<=g)(h2:g<=10 ^ 12):∃ v,yx [.int n,.int 1,.int g]=some (.int v)/\1<=v/\v<=g:=by
 by_cases a:n % 3=0
 ·by_cases b:n / 3 % 2=0
  ·exact⟨1,by simp(disch:=omega) [yx,jt,k9,jK,yI,a,b,jq];rfl,by omega,h1⟩
  ·have c:n / 3 % 2=1:=by omega
   exact⟨g,by simp(disch:=omega) [yx,jt,k9,jK,yI,a,c,jq];rfl,h1,by omega⟩
 ·have e:=U3 (n / 3) (show g - 1+1≠0 by omega);have f:=U2 (n / 3) (show 0 < g - 1+1 by omega);exact⟨1+n / 3 % (g - 1+1),by simp(disch:=omega) [yx,jt,k9,jK,yI,a],by omega,by omega⟩
theorem uS{c:Int}(g:wI c=true){many:Nat}(h:many<=8):∃ ns:List (List Nat),yM [.int c,.int (many:Int)]=some (.lst true (ns.map D.str))/\ns.length=many/\∀ w∈ns,NmK w:=by
 have m:xK [.int (many:Int)]=some (Qe 0 many):=by
  have:=zr (j:=(many:Int)) (by omega) (by omega);simpa using this
 have a:lim (Qe 0 many).length=true:=jq (by rw[Kn];omega);obtain⟨y,n,b,q⟩:=u4 (G:=jB [] 0) (p:=jz jG (jb (jz jT (jb (pV 1) (jb (p2 jQ (pC (.int 10)) (pV 0)) pN))) pN)) (Good:=λd=>∃ w,d=.str w/\NmK w) (P:=λρ=>∃ o,ρ=[o,some (.int c)]) (xs:=Qe 0 many) (by
  rintro x r ρ ⟨o,rfl⟩;obtain⟨i,e,rfl⟩:=N0.mp r;have e:=List.mem_range.mp e;have s:=kz (c:=c) (k:=10+(0+(i:Int))) g (by omega) (by omega);obtain⟨w,t,u⟩:=uA (wC c (10+(0+(i:Int))));exact⟨[some (.int (0+(i:Int))),some (.int c)],.str w,rfl,by simp[s,t,-Int.zero_add],⟨w,rfl,u⟩,_,rfl⟩) (ρ:=y6 [none,some 0] [some (.int c),some (.int (many:Int))]) ⟨none,rfl⟩
 rw[Kn] at b;obtain⟨l,rfl,v⟩:=jae (f:=D.str) (Q:=NmK) q;rw[L4] at b;exact⟨l,by simp[yM,jt,kQ,m,a,n],b,v⟩
noncomputable abbrev vg:List Nat:=[110,97,109,101]
noncomputable abbrev jhT:List Nat:=[100,97,121,115]
noncomputable abbrev wG:List Nat:=[99,111,105,110,115]
noncomputable abbrev jbq:List Nat:=[116,101,110,116,104,115]
structure Wd(w:List Nat):Prop where
 ne:w≠[]
 sg:∀ c∈w,33<=c/\c < 127
 len:w.length<=14
inductive Kd:List Nat->Option Int->Prop where
 | name:Kd vg none
 | coins:Kd wG (some 1000000000000)
 | tenths:Kd jbq (some 10)
 | days:Kd jhT (some 9)
def alk(n:Nat)(d:D):Prop:=j6 n [d,d]=some (.bl true)
theorem jfG(n:Nat)(i:Int):alk (n+1) (.int i):=by
 unfold alk j6;have a:YQ (.int i) .non=some (.bl false):=rfl;simp[jt,kf,zC,a]
theorem jb6(n:Nat)(i:List Nat):alk (n+1) (.str i):=by
 unfold alk j6;have a:YQ (.str i) .non=some (.bl false):=rfl;simp[jt,kf,zC,a]
theorem jfy(n:Nat):alk (n+1) .non:=by
 unfold alk j6;have a:YQ .non .non=some (.bl true):=rfl;simp[jt,kf,zC,a]
theorem u7{n:Nat}{a0 a1:Option D}:∀{l:List D}{o2 o3:Option D},frzs l=true->(∀ x∈l,alk n x)->∃ o2' o3',vF (gT 2 (gC (jB [] 2) (gC (jB [] 3) gN))) (ku (j6 n)) (Yv l l) [a0,a1,o2,o3]=some (.nx [a0,a1,o2',o3'])
 | [],o2,o3,_,_=>⟨o2,o3,rfl⟩
 | x::l,o2,o3,a,h=>by
  rw[K6,M6] at a;obtain⟨d,f,e⟩:=u7 (n:=n) (a0:=a0) (a1:=a1) (l:=l) (o2:=some x) (o3:=some x) a.2 (λy g=>h y (by simp[g]));refine⟨d,f,?_⟩;have b:fz x=x:=jbd x a.1;have c:j6 n [x,x]=some (.bl true):=h x (by simp);have i:(gT 2 (gC (jB [] 2) (gC (jB [] 3) gN))) (.tup [x,x]) [a0,a1,o2,o3]=some [a0,a1,some x,some x]:=rfl;have j:ku (j6 n) [a0,a1,some x,some x]=some (.nx [a0,a1,some x,some x]):=by simp[ku,b,c]
  rw[Yv,j5,i,L8,j,L8,VL,e]
theorem jgw{n:Nat}{l:List D}(a:frzs l=true)(f:l.length<=1000)(h:∀ x∈l,alk n x):alk (n+1) (.lst false l):=by
 unfold alk j6;obtain⟨g,i,e⟩:=u7 (n:=n) (a0:=some (.lst false l)) (a1:=some (.lst false l)) (o2:=none) (o3:=none) a h;have b:=vW l a;have c:V1 (.bl true) (.bl true)=some (.bl false):=rfl;have d:V1 (.bl false) (.bl false)=some (.bl false):=rfl;simp[jt,kf,zC,a,b,jdF,c,d,e]
theorem Qm:lim 0=true:=rfl
structure Gd(w k:List Nat)(d:D):Prop where
 fr:frz d=true
 cl:vf d=true
 nn:YQ d .non=some (.bl false)
 al:alk 7 d
 vi:j4 [.str w,.str k]=some d
 jd:∀{c0 c1:Option D}{acc:List D}{o5:Option D},acc.length<=100->∃ o5',jC [c0,c1,some (.lst true acc),some (.str k),some (.str w),o5]=some (.nx [c0,c1,some (.lst true (acc++[d])),some (.str k),some (.str w),o5'])
structure Bd(w k:List Nat):Prop where
 vi:j4 [.str w,.str k]=some .non
 jd:∀{c0 c1:Option D}{acc:List D}{o5:Option D},∃ ρ,jC [c0,c1,some (.lst true acc),some (.str k),some (.str w),o5]=some (.rt (.lst true []) ρ)
theorem jen{w:List Nat}(k:Wd w):(∃ d,Gd w vg d) \/ Bd w vg:=by
 have l:=k.len;have e:=jaC (w:=w) (by omega);have f:=uk (w:=w) (by omega);generalize(decide (1<=w.length/\w.length<=8)&&(w.all (λc=>decide (c∈jaB))&&!decide (w∈KW)))=b at e f;cases b with
 | true =>
  refine .inl ⟨.str w,rfl,rfl,rfl,jb6 6 w,?_,λ{i j a g} m=>⟨g,?_⟩⟩
  ·simp[j4,jt,yX,e]
  ·have h:lim a.length=true:=jq (by omega);simp[jC,f,h]
 | false =>
  refine .inr ⟨?_,λ{i j a g}=>⟨[i,j,some (.lst true a),some (.str vg),some (.str w),g],?_⟩⟩
  ·simp[j4,jt,yX,e]
  ·simp[jC,f,Qm]
theorem jd4{k:List Nat}{g:Int}(a:Kd k (some g)):k≠vg/\Yk ks_GREATEST VJ (.str k)=some (.int g)/\∀{c0 c1 c2 c4 c5:Option D},p2 Ko (K5 (prC (pC (.str [99,111,105,110,115])) (p2 Vk (pC (.int 10)) (pC (.int 12))) (prC (pC (.str [116,101,110,116,104,115])) (pC (.int 10)) (prC (pC (.str [100,97,121,115])) (pC (.int 9)) prN)))) (pV 3) [c0,c1,c2,some (.str k),c4,c5]=some (.int g):=by
 cases a<;>exact⟨by decide,rfl,λ{c0 c1 c2 c4 c5}=>rfl⟩
theorem jg9{w k:List Nat}{g:Int}(x:Wd w)(y:Kd k (some g)):(∃ d,Gd w k d) \/ Bd w k:=by
 have z:=x.len;obtain⟨q,r,hd⟩:=jd4 y;have j:(k==[110,97,109,101])=false:=U5.mpr q;have l:=xw (w:=w) (by omega);have m:=YV (w:=w) (by omega);generalize(NumText.digitsVal w:Nat)=n at l m;by_cases h:1<=w.length/\w.length<=13/\¬ (1 < w.length/\w.getD 0 0=48)/\(∀ c∈w,48<=c/\c<=57)
 ·rw[if_pos h] at l m;have p:YQ (.int (n:Int)) .non=some (.bl false):=rfl;by_cases s:(1:Int)<=n
  ·have i:¬ (n:Int) < 1:=by omega
   by_cases v:(n:Int)<=g
   ·have o:¬ g < (n:Int):=by omega
    refine .inl ⟨.int n,rfl,rfl,rfl,jfG 6 n,?_,λ{e f a t} A=>⟨some (.int n),?_⟩⟩
    ·simp[j4,jt,yX,j,l,p,r,s,v]
    ·have u:lim a.length=true:=jq (by omega);have b:=hd (c0:=e) (c1:=f) (c2:=some (.lst true a)) (c4:=some (.str w)) (c5:=some (.int n));unfold jC;generalize p2 Ko (K5 (prC (pC (.str [99,111,105,110,115])) (p2 Vk (pC (.int 10)) (pC (.int 12))) (prC (pC (.str [116,101,110,116,104,115])) (pC (.int 10)) (prC (pC (.str [100,97,121,115])) (pC (.int 9)) prN)))) (pV 3)=F at b ⊢;simp[j,m,u,i,o,b]
   ·have o:g < (n:Int):=by omega
    refine .inr ⟨?_,λ{e f a t}=>⟨[e,f,some (.lst true a),some (.str k),some (.str w),some (.int n)],?_⟩⟩
    ·simp[j4,jt,yX,j,l,p,r,s,v]
    ·have b:=hd (c0:=e) (c1:=f) (c2:=some (.lst true a)) (c4:=some (.str w)) (c5:=some (.int n));unfold jC;generalize p2 Ko (K5 (prC (pC (.str [99,111,105,110,115])) (p2 Vk (pC (.int 10)) (pC (.int 12))) (prC (pC (.str [116,101,110,116,104,115])) (pC (.int 10)) (prC (pC (.str [100,97,121,115])) (pC (.int 9)) prN)))) (pV 3)=F at b ⊢;simp[j,m,i,o,b,Qm]
  ·have i:(n:Int) < 1:=by omega
   refine .inr ⟨?_,λ{e f a t}=>⟨[e,f,some (.lst true a),some (.str k),some (.str w),some (.int n)],?_⟩⟩
   ·simp[j4,jt,yX,j,l,p,r,s]
   ·unfold jC;generalize p2 Ko (K5 (prC (pC (.str [99,111,105,110,115])) (p2 Vk (pC (.int 10)) (pC (.int 12))) (prC (pC (.str [116,101,110,116,104,115])) (pC (.int 10)) (prC (pC (.str [100,97,121,115])) (pC (.int 9)) prN)))) (pV 3)=F;simp[j,m,i,Qm]
 ·rw[if_neg h] at l m;have p:YQ .non .non=some (.bl true):=rfl;refine .inr ⟨?_,λ{e f a t}=>⟨[e,f,some (.lst true a),some (.str k),some (.str w),some (.int (-1))],?_⟩⟩
  ·simp[j4,jt,yX,j,l,p]
  ·unfold jC;generalize p2 Ko (K5 (prC (pC (.str [99,111,105,110,115])) (p2 Vk (pC (.int 10)) (pC (.int 12))) (prC (pC (.str [116,101,110,116,104,115])) (pC (.int 10)) (prC (pC (.str [100,97,121,115])) (pC (.int 9)) prN)))) (pV 3)=F;simp[j,m,Qm]
theorem one{w k:List Nat}{g:Option Int}(a:Wd w)(b:Kd k g):(∃ d,Gd w k d) \/ Bd w k:=by
 cases g with
 | none=>cases b;exact jen a
 | some g=>exact jg9 a b
noncomputable abbrev jdh:D->Rh->Option Rh:=gT 2 (gC (jB [] 4) (gC (jB [] 5) gN))
noncomputable abbrev gJd:D->Rh->Option Rh:=gT 2 (gC (jB [] 3) (gC (jB [] 4) gN))
theorem Wd.sm{w:List Nat}(h:Wd w):(w.all λc=>decide (c < 1000))=true:=List.all_eq_true.mpr λc a=>X3 (by have:=h.sg c a;omega)
theorem jh3{a0 a1 c0 c1:Option D}{pl:Int}:∀{ws ks:List (List Nat)},ws.length=ks.length->(∀ w∈ws,Wd w)->(∀ k∈ks,∃ g,Kd k g)->∀{acc:List D}{o4 o5 o6 p3 p4 p5:Option D},acc.length+ws.length<=100 ->
  (∃ ds o4' o5' o6' p3' p4' p5',ds.length=ws.length/\(∀ d∈ds,frz d=true/\vf d=true/\alk 7 d)/\vF jdh kJ (Yv (ws.map D.str) (ks.map D.str)) [a0,a1,some (.int pl),some (.lst true acc),o4,o5,o6]=some (.nx [a0,a1,some (.int pl),some (.lst true (acc++ds)),o4',o5',o6']) /\
   KY jdh kj vh (Yv (ws.map D.str) (ks.map D.str)) [a0,a1,some (.int pl),some (.lst true acc),o4,o5,o6]=none/\vF gJd jC (Yv (ks.map D.str) (ws.map D.str)) [c0,c1,some (.lst true acc),p3,p4,p5]=some (.nx [c0,c1,some (.lst true (acc++ds)),p3',p4',p5'])) \/
  (KY jdh kj vh (Yv (ws.map D.str) (ks.map D.str)) [a0,a1,some (.int pl),some (.lst true acc),o4,o5,o6]=some (0,pl)/\∃ ρ,vF gJd jC (Yv (ks.map D.str) (ws.map D.str)) [c0,c1,some (.lst true acc),p3,p4,p5]=some (.rt (.lst true []) ρ))
 | [],[],_,_,_,acc,o4,o5,o6,p3,p4,p5,_=>.inl ⟨[],o4,o5,o6,p3,p4,p5,rfl,λd hd=>(nomatch hd),by simp[Yv],by simp[Yv,KY],by simp[Yv]⟩
 | [],_::_,h,_,_,_,_,_,_,_,_,_,_=>by simp at h
 | _::_,[],h,_,_,_,_,_,_,_,_,_,_=>by simp at h
 | w::ws,k::ks,C,u,y,acc,o4,o5,o6,p3,p4,p5,E=>by
  rw[M7] at E;have j:=u w (by simp);obtain⟨g,F⟩:=y k (by simp);have z:jdh (.tup [.str w,.str k]) [a0,a1,some (.int pl),some (.lst true acc),o4,o5,o6]=some [a0,a1,some (.int pl),some (.lst true acc),some (.str w),some (.str k),o6]:=rfl;have c:gJd (.tup [.str k,.str w]) [c0,c1,some (.lst true acc),p3,p4,p5]=some [c0,c1,some (.lst true acc),some (.str k),some (.str w),p5]:=rfl;rcases one j F with⟨d,a⟩ | bd
  ·obtain⟨p5',l⟩:=a.jd (c0:=c0) (c1:=c1) (acc:=acc) (o5:=p5) (by omega);have b:=a.vi;have e:=a.cl;have i:=a.nn;have A:=a.fr;have m:lim acc.length=true:=jq (by omega);have B:kJ [a0,a1,some (.int pl),some (.lst true acc),some (.str w),some (.str k),o6]=some (.nx [a0,a1,some (.int pl),some (.lst true (acc++[d])),some (.str w),some (.str k),some d]):=by
    simp[kJ,b,e,i,A,m]
   have n:kj [a0,a1,some (.int pl),some (.lst true acc),some (.str w),some (.str k),o6]=some (.nx [a0,a1,some (.int pl),some (.lst true (acc++[d])),some (.str w),some (.str k),some d]):=B;have o:vh [a0,a1,some (.int pl),some (.lst true acc),some (.str w),some (.str k),o6]=none:=by
    simp[vh,Qa,xN,xIf,b,e,i,A]
   have G:=jh3 (a0:=a0) (a1:=a1) (c0:=c0) (c1:=c1) (pl:=pl) (ws:=ws) (ks:=ks) (by simpa using C) (λv b=>u v (by simp[b])) (λv b=>y v (by simp[b])) (acc:=acc++[d]) (o4:=some (.str w)) (o5:=some (.str k)) (o6:=some d) (p3:=some (.str k)) (p4:=some (.str w)) (p5:=p5') (by rw[N8];simp only[M7,List.length_nil];omega);simp only[L9,Yv,j5,KY,z,c,L8,B,n,o,l,VL];rcases G with⟨ds,o4',o5',o6',p3',p4',f,H,p,q,I,J⟩ | ⟨p,q⟩
   ·exact .inl ⟨d::ds,o4',o5',o6',p3',p4',f,by simp[H],λx r=>by rcases M9.mp r with rfl | r;exact⟨a.fr,a.cl,a.al⟩;exact p x r,by rw[q];simp,I,by rw[J];simp⟩
   ·exact .inr ⟨p,q⟩
  ·obtain⟨ρ,l⟩:=bd.jd (c0:=c0) (c1:=c1) (acc:=acc) (o5:=p5);have b:=bd.vi;have s:=j.sm;have t:w.length<=1000:=by have:=j.len;omega
   have i:YQ .non .non=some (.bl true):=rfl;have o:vh [a0,a1,some (.int pl),some (.lst true acc),some (.str w),some (.str k),o6]=some (0,pl):=by
    simp[vh,Qa,xN,xIf,V2,jj7,b,t,s,i]
   simp only[L9,Yv,j5,KY,z,c,L8,o,l,YC];exact .inr ⟨trivial,ρ,rfl⟩
noncomputable abbrev L7:List (List Nat):=[[112,111,111,108],[111,114,100,101,114],[112,97,121],[114,101,112,97,121],[102,105,108,108],[98,97,99,107],[114,101,115,116]]
noncomputable abbrev jhs:List Nat:=[101,97,116]
noncomputable abbrev Q4:List Nat:=[115,104,97,114,101]
noncomputable abbrev L6:List (List Nat):=[[99,108,97,105,109],[112,111,116],[108,101,110,100],[112,97,114,116],[108,111,111,107],[103,117,97,114,100]]
theorem Km{a:KA}:∀{ks:List KA}{l:List D},a∉ks->Yk ks l a=none
 | [],l,_=>by cases l<;>rfl
 | k::ks,[],_=>rfl
 | k::ks,d::l,h=>by
  rw[Yk,if_neg (λe=>h (by simp[e])),Km λz=>h (by simp[z])]
inductive Kinds (kw:List Nat) (m:Nat):Prop where
 | some (ks:List (List Nat)) (ne:ks≠[]) (few:ks.length<=6) (kd:∀ k∈ks,∃ g,Kd k g) (a:jN [.str kw,.int (m:Int)]=some (.tup (ks.map D.str))) (o:Bool) (b:jS [.str kw,.int (m:Int)]=some (.lst true [.lst o (ks.map D.str)]))
 | none (a:jN [.str kw,.int (m:Int)]=some .non) (b:jS [.str kw,.int (m:Int)]=some (.lst true []) \/ jS [.str kw,.int (m:Int)]=some (.lst true [.lst true []]))
theorem kd1:∀ k∈[vg],∃ g,Kd k g:=λk h=>by rw[N2.mp h];exact⟨_,.name⟩
theorem Ji{n:Nat}:∀ k∈List.replicate n vg,∃ g,Kd k g:=λk h=>by rw[List.eq_of_mem_replicate h];exact⟨_,.name⟩
theorem jgT{m:Int}(h:¬ m < 7):jS [.str jhs,.int m]=some (.lst true []):=by
 have a:zE false (.str jhs) (.lst true (L7.map D.str))=some (.bl false):=by rw[xy];rfl
 simp only[L9,List.map_nil] at a;simp[jS,jt,vm,jq,h,a,Yk,Qm]
theorem jco{m:Int}(h:¬ (1 < m/\m < 7)):jS [.str Q4,.int m]=some (.lst true []):=by
 have a:zE false (.str Q4) (.lst true (L7.map D.str))=some (.bl false):=by rw[xy];rfl
 simp only[L9,List.map_nil] at a;by_cases b:1 < m
 ·have c:¬ m < 7:=λz=>h ⟨b,z⟩;simp[jS,jt,vm,jq,b,c,a,Yk,Qm]
 ·simp[jS,jt,vm,jq,b,a,Yk,Qm]
theorem jcM{kw:List Nat}{m:Int}(b:kw∉L7)(c:kw∉L6)(d:kw≠jhs)(e:kw≠Q4):jS [.str kw,.int m]=some (.lst true []):=by
 have a:zE false (.str kw) (.lst true (L7.map D.str))=some (.bl false):=by rw[xy,X4 b]
 simp only[L9,List.map_nil] at a;have f:(kw==[101,97,116])=false:=U5.mpr d;have g:(kw==[115,104,97,114,101])=false:=U5.mpr e;have h:∀ l,Yk [KA.str [99,108,97,105,109],KA.str [112,111,116],KA.str [108,101,110,100],KA.str [112,97,114,116],KA.str [108,111,111,107],KA.str [103,117,97,114,100]] l (.str kw)=none:=λl=>Km λz=>c (by simpa using z);simp[jS,jt,vm,jq,a,f,g,h,Qm]
theorem jkz{a b:D}:kW (.tup [a,b]) (.int 0)=some a:=rfl
theorem jlt{a b:D}:kW (.tup [a,b]) (.int 1)=some b:=rfl
theorem kinds(kw:List Nat)(m:Nat):Kinds kw m:=by
 by_cases b:kw∈L7
 ·have h:=b;simp only[M9,List.not_mem_nil,or_false] at h;rcases h with rfl | rfl | rfl | rfl | rfl | rfl | rfl<;>exact .some [vg] (by decide) (by decide) kd1 rfl true rfl
 by_cases c:kw∈L6
 ·have h:=c;simp only[M9,List.not_mem_nil,or_false] at h;rcases h with rfl | rfl | rfl | rfl | rfl | rfl
  ·exact .some [vg,wG,wG] (by decide) (by decide) (λk h=>by simp only[M9,List.not_mem_nil,or_false] at h;rcases h with rfl | rfl | rfl<;>first | exact⟨_,.name⟩ | exact⟨_,.coins⟩) rfl false rfl
  ·exact .some [vg,wG] (by decide) (by decide) (λk h=>by simp only[M9,List.not_mem_nil,or_false] at h;rcases h with rfl | rfl<;>first | exact⟨_,.name⟩ | exact⟨_,.coins⟩) rfl false rfl
  ·exact .some [vg,wG] (by decide) (by decide) (λk h=>by simp only[M9,List.not_mem_nil,or_false] at h;rcases h with rfl | rfl<;>first | exact⟨_,.name⟩ | exact⟨_,.coins⟩) rfl false rfl
  ·exact .some [vg,jbq] (by decide) (by decide) (λk h=>by simp only[M9,List.not_mem_nil,or_false] at h;rcases h with rfl | rfl<;>first | exact⟨_,.name⟩ | exact⟨_,.tenths⟩) rfl false rfl
  ·exact .some [vg,jhT,vg] (by decide) (by decide) (λk h=>by simp only[M9,List.not_mem_nil,or_false] at h;rcases h with rfl | rfl | rfl<;>first | exact⟨_,.name⟩ | exact⟨_,.days⟩) rfl false rfl
  ·exact .some [vg,vg] (by decide) (by decide) (λk h=>by simp only[M9,List.not_mem_nil,or_false] at h;rcases h with rfl | rfl<;>exact⟨_,.name⟩) rfl false rfl
 by_cases d:kw=jhs
 ·subst d;by_cases i:m < 7
  ·obtain rfl | rfl | rfl | rfl | rfl | rfl | rfl:m=0 \/ m=1 \/ m=2 \/ m=3 \/ m=4 \/ m=5 \/ m=6:=by omega
   ·exact .none rfl (.inr rfl)
   ·exact .some (List.replicate 1 vg) (by decide) (by decide) Ji rfl true rfl
   ·exact .some (List.replicate 2 vg) (by decide) (by decide) Ji rfl true rfl
   ·exact .some (List.replicate 3 vg) (by decide) (by decide) Ji rfl true rfl
   ·exact .some (List.replicate 4 vg) (by decide) (by decide) Ji rfl true rfl
   ·exact .some (List.replicate 5 vg) (by decide) (by decide) Ji rfl true rfl
   ·exact .some (List.replicate 6 vg) (by decide) (by decide) Ji rfl true rfl
  ·refine .none ?_ (.inl (jgT (by omega)));have f:¬ (m:Int)<=6:=by omega
   have a:(1:Int)<=m:=by omega
   simp[jN,jt,yy,ks_NAME_COUNTS,yq,Yk,a,f,jkz,jlt]
 by_cases g:kw=Q4
 ·subst g;by_cases i:1 < m/\m < 7
  ·obtain rfl | rfl | rfl | rfl | rfl:m=2 \/ m=3 \/ m=4 \/ m=5 \/ m=6:=by omega
   ·exact .some (List.replicate 2 vg) (by decide) (by decide) Ji rfl true rfl
   ·exact .some (List.replicate 3 vg) (by decide) (by decide) Ji rfl true rfl
   ·exact .some (List.replicate 4 vg) (by decide) (by decide) Ji rfl true rfl
   ·exact .some (List.replicate 5 vg) (by decide) (by decide) Ji rfl true rfl
   ·exact .some (List.replicate 6 vg) (by decide) (by decide) Ji rfl true rfl
  ·refine .none ?_ (.inl (jco (by omega)));by_cases a:(2:Int)<=m
   ·have f:¬ (m:Int)<=6:=by omega
    simp[jN,jt,yy,ks_NAME_COUNTS,yq,Yk,a,f,jkz,jlt]
   ·simp[jN,jt,yy,ks_NAME_COUNTS,yq,Yk,a,jkz]
 ·refine .none ?_ (.inl (jcM b c d g));have j:Yk ks_NAME_COUNTS yq (.str kw)=none:=Km λz=>by simp[ks_NAME_COUNTS] at z;exact z.elim d g
  have l:Yk ks_FORMS w8 (.str kw)=none:=Km λz=>by
   have:ks_FORMS=([[112,111,111,108],[99,108,97,105,109],[112,111,116],[111,114,100,101,114],[112,97,114,116],[112,97,121],[114,101,112,97,121],[102,105,108,108],[108,101,110,100],[98,97,99,107],[114,101,115,116],[108,111,111,107],[103,117,97,114,100]]:List (List Nat)).map KA.str:=rfl;rw[this] at z;obtain⟨w,n,e⟩:=N0.mp z;cases e;have key:∀ w∈([[112,111,111,108],[99,108,97,105,109],[112,111,116],[111,114,100,101,114],[112,97,114,116],[112,97,121],[114,101,112,97,121],[102,105,108,108],[108,101,110,100],[98,97,99,107],[114,101,115,116],[108,111,111,107],[103,117,97,114,100]]:List (List Nat)),w∈L7 \/ w∈L6:=by decide
   exact(key _ n).elim b c
  simp[jN,jt,yy,j,l]
theorem jdo:∀{ws:List (List Nat)},(∀ w∈ws,Wd w)->V0 19 (ws.map D.str)=true:=λ{ws} h=>by
 rw[zT,List.all_map,List.all_eq_true];intro w a;show(okE 19 (.str w))=true;rw[okE];exact List.all_eq_true.mpr λc b=>X3 (by have:=(h w a).sg c b;omega)
theorem jfb{o:Bool}{ws:List (List Nat)}(h:∀ w∈ws,Wd w):kn (.lst o (ws.map D.str)) (.lst true [])=some (.bl (ws.isEmpty)):=by
 rw[jdU (jdo h) rfl];cases ws<;>rfl
theorem jkL{k:List Nat}{g:Option Int}(h:Kd k g):Wd k:=by
 cases h<;>exact⟨by decide,by decide,by decide⟩
theorem sl1{o:Bool}{kw:List Nat}{ws:List (List Nat)}:jau (some 1) none (.lst o ((kw::ws).map D.str))=some (.lst true (ws.map D.str)):=by
 rw[jgK,Vx _ (by decide)];rfl
theorem ix0{o:Bool}{kw:List Nat}{ws:List (List Nat)}:kW (.lst o ((kw::ws).map D.str)) (.int 0)=some (.str kw):=by rw[jjP (by decide) (by simp)];rfl
theorem jbQ{ws:List (List Nat)}(pl:Int):ye [.lst false (ws.map D.str),.non,.int pl]=some (0,pl):=by
 have a:YQ .non .non=some (.bl true):=rfl;simp[ye,fnR,kg,Qa,xIf,V2,a]
theorem jcW{ws kinds:List (List Nat)}(h:kinds.length+1≠ws.length)(c:ws.length<=1000)(d:kinds.length<=1000)(pl:Int):ye [.lst false (ws.map D.str),.tup (kinds.map D.str),.int pl]=some (0,pl):=by
 have b:YQ (.tup (kinds.map D.str)) .non=some (.bl false):=rfl;have a:((kinds.length:Int)==(ws.length:Int) - 1)=false:=U5.mpr (by omega);simp(disch:=omega) [ye,fnR,kg,Qa,xIf,V2,b,a]
theorem ji4{kw:List Nat}{ws ks:List (List Nat)}(h:ks.length≠ws.length)(c:ws.length<=100)(d:ks.length<=100){o2 o3 o4 o5:Option D} :
  jv [some (.lst false ((kw::ws).map D.str)),some (.lst false (ks.map D.str)),o2,o3,o4,o5]=some (.rt (.lst true []) [some (.lst false ((kw::ws).map D.str)),some (.lst false (ks.map D.str)),o2,o3,o4,o5]):=by
 have a:((ks.length:Int)==(((kw::ws).map D.str).length:Int) - 1)=false:=U5.mpr (by simp;omega);have b:((kw::ws).map D.str).length<=1000:=by simp;omega
 generalize(kw::ws).map D.str=L at a b;simp(disch:=omega) [jv,a,Qm]
theorem jlL{kw:List Nat}{ws ks:List (List Nat)}(z:ws.length=ks.length)(K:∀ w∈ws,Wd w)(A:∀ k∈ks,∃ g,Kd k g)(h1:ks≠[])(X:ws.length<=20)(pl:Int) :
  (∃ ds,ds.length=ws.length/\(∀ d∈ds,frz d=true/\vf d=true/\alk 7 d)/\JG [.lst false ((kw::ws).map D.str),.tup (ks.map D.str),.int pl]=some (.lst true (.str kw::ds))/\ye [.lst false ((kw::ws).map D.str),.tup (ks.map D.str),.int pl]=none /\
   ∀{o2 o3 o4 o5:Option D},∃ ρ,jv [some (.lst false ((kw::ws).map D.str)),some (.lst false (ks.map D.str)),o2,o3,o4,o5]=some (.rt (.lst true [.lst false (.str kw::ds)]) ρ)) \/
  (ye [.lst false ((kw::ws).map D.str),.tup (ks.map D.str),.int pl]=some (0,pl)/\∀{o2 o3 o4 o5:Option D},∃ ρ,jv [some (.lst false ((kw::ws).map D.str)),some (.lst false (ks.map D.str)),o2,o3,o4,o5]=some (.rt (.lst true []) ρ)):=by
 have q:YQ (.tup (ks.map D.str)) .non=some (.bl false):=rfl;have b:=sl1 (o:=false) (kw:=kw) (ws:=ws);have i:=ix0 (o:=false) (kw:=kw) (ws:=ws);have r:jiO [.lst true (ws.map D.str),.tup (ks.map D.str)]=some (Yv (ws.map D.str) (ks.map D.str)):=by
  show(bif decide ((ws.map D.str).length<=(ks.map D.str).length) then some (Yv (fzs (ws.map D.str)) (fzs (ks.map D.str))) else none)=_;rw[L4,L4,X3 (by omega),y4,y4];rfl
 have j:jdF [.lst false (ks.map D.str),.lst true (ws.map D.str)]=some (Yv (ks.map D.str) (ws.map D.str)):=by
  show some (Yv (fzs (ks.map D.str)) (fzs (ws.map D.str)))=_;rw[y4,y4]
 have c:((ks.length:Int)==(((kw::ws).map D.str).length:Int) - 1)=true:=by rw[<- z];simp;try omega
 have B:kn (.lst false (ks.map D.str)) (.lst true [])=some (.bl false):=by
  rw[jfb λk h=>by obtain⟨g,M⟩:=A k h;exact jkL M];cases ks with
  | nil=>exact absurd rfl h1
  | cons a l=>rfl
 have m:frzs (ks.map D.str)=true:=jV ks;have N:((kw::ws).map D.str).length<=1000:=by simp;omega
 have Y:ks.length<=20:=by omega
 have s:=λ(C:Option D) (p3 E F:Option D)=>jh3 (a0:=some (.lst false ((kw::ws).map D.str))) (a1:=some (.tup (ks.map D.str))) (c0:=some (.lst false ((kw::ws).map D.str))) (c1:=C) (pl:=pl) z K A (acc:=[.str kw]) (o4:=none) (o5:=none) (o6:=none) (p3:=p3) (p4:=E) (p5:=F) (by simp;omega);generalize(kw::ws).map D.str=L at *;have O:=s none none none none;rcases O with⟨ds,P,Q,R,S,T,U,V,f,p,G,_⟩ | ⟨f,p⟩
 ·have t:fzs ds=ds:=vW ds (Vs λd hd=>(f d hd).1);have u:frzs ds=true:=Vs λd hd=>(f d hd).1;refine .inl ⟨ds,V,f,?_,?_,λ{o2 o3 o4 o5}=>?_⟩
  ·simp only[List.cons_append,X7] at p;simp(disch:=omega) [JG,jt,VH,q,b,i,r,p,jq,c]
  ·simp(disch:=omega) [ye,fnR,kg,Qa,xIf,xN,jhr,q,b,i,r,G,jq,c];split<;>rfl
  ·rcases s (some (.lst false (ks.map D.str))) o3 o4 o5 with⟨v,_,_,_,H,I,J,W,n,e,x,y⟩ | ⟨n,e⟩
   ·rw[p] at e;simp only[Option.some.injEq,Out.nx.injEq,List.cons.injEq,D.lst.injEq,List.append_cancel_left_eq,true_and,List.append_right_inj] at e;obtain⟨rfl,_⟩:=e;simp only[List.cons_append,X7] at y;refine⟨[some (.lst false L),some (.lst false (ks.map D.str)),some (.lst false (.str kw::ds)),H,I,J],?_⟩;simp(disch:=omega) [jv,c,B,i,b,m,j,y,jq,t,u,Qm]
   ·rw[G] at n;cases n
 ·refine .inr ⟨?_,λ{o2 o3 o4 o5}=>?_⟩
  ·simp(disch:=omega) [ye,fnR,kg,Qa,xIf,xN,jhr,q,b,i,r,f,jq,c]
  ·rcases s (some (.lst false (ks.map D.str))) o3 o4 o5 with⟨v,_,_,_,H,I,J,W,n,e,x,y⟩ | ⟨n,ρ,e⟩
   ·rw[f] at x;cases x
   ·refine⟨ρ,?_⟩;simp(disch:=omega) [jv,c,B,i,b,m,j,e,jq,Qm]
theorem jds{T:List Nat}(d:T.length<=1000):kh [.str T]=some (.lst true ((wgo 32 [] T).map D.str)):=by
 have c:vQ (jB [] 0) (jp (p2 V1 (pV 0) (pC (.str [])))) (pF (pV 0)) ((kB T [32]).map D.str) [none]=some (((kB T [32]).filter λw=>!(w==[])).map D.str):=by
  refine VC (λρ=>∃ o,ρ=[o]) ?_ ⟨none,rfl⟩;rintro w e ρ ⟨o,rfl⟩;exact⟨[some (.str w)],rfl,by simp only[ue,jlB,pV0,jlD,L8,jji,jcJ],rfl,_,rfl⟩
 rw[wl] at c;have a:QZ (.str T) [.str [32]]=some (.lst true ((kB T [32]).map D.str)):=by
  show(bif !([32]:List Nat).isEmpty&&decide (T.length<=1000000) then _ else _)=_;rw[X3 (by omega)];rfl
 have b:lim (kB T [32]).length=true:=by
  refine jq ?_;unfold kB;rw[L4];have:=PyProof.Rows.split_le (S T) (S [32]);rw[qE] at this;omega
 simp[kh,jt,Vt,a,b,y6,c,-ue]
inductive Judged (W:List (List Nat)) (T:List Nat) (pl:Int):Prop where
 | good (d:D) (a:YY [.str T,.int pl]=some d) (b:yZ [.str T,.int pl]=none) (c:jY [.lst false (W.map D.str)]=some (.lst true [fz d])) (al:alk 8 (fz d)) (cl:vf d=true)
 | bad (b:yZ [.str T,.int pl]=some (0,pl)) (c:jY [.lst false (W.map D.str)]=some (.lst true []))
theorem Vr(ws:List (List Nat)):yE (ws.map D.str)=true:=by rw[ke,List.all_map,List.all_eq_true];intro x _;rfl
theorem jjg{W:List (List Nat)}(H:∀ w∈W,Wd w)(J:W.length<=15){T:List Nat}(K:T.length<=1000)(M:wgo 32 [] T=W)(pl:Int):Judged W T pl:=by
 have n:=jds K;rw[M] at n;have r:=jfb (o:=false) H;cases W with
 | nil =>
  simp only[List.map_nil] at n;have f:kn (.lst false []) (.lst true [])=some (.bl true):=r;refine .good .non ?_ ?_ ?_ (jfy 7) rfl
  ·simp[YY,jt,Kf,n]
  ·simp[yZ,fnR,qX,Qa,xIf,xN,zh,n]
  ·simp[jY,jt,yk,Qm,jq,f]
 | cons kw c =>
  rw[M7] at J;have u:=ix0 (o:=true) (kw:=kw) (ws:=c);have l:=ix0 (o:=false) (kw:=kw) (ws:=c);have v:=y4 (kw::c);have m:=Vr (kw::c);have R:=jV (kw::c);have e:(((kw::c).map D.str).length:Int) - 1=(c.length:Int):=by simp;try omega
  have y:((((kw::c).map D.str).length:Int)==0)=false:=by simp;omega
  have f:kn (.lst false ((kw::c).map D.str)) (.lst true [])=some (.bl false):=r;have S:((kw::c).map D.str).length<=1000:=by simp;omega
  cases kinds kw c.length with
  | some g ne few N a o b =>
   have i:=y4 g;have k:=Vr g;have O:=jV g;by_cases I:c.length=g.length
   ·rcases jlL (kw:=kw) I (λw h=>H w (by simp[h])) N ne (by omega) pl with⟨s,U,p,E,P,q⟩ | ⟨p,E⟩
    ·have A:frzs s=true:=Vs λd hd=>(p d hd).1;have B:fzs s=s:=vW s A;have C:yE s=true:=by rw[ke];exact List.all_eq_true.mpr λd hd=>(p d hd).2.1
     refine .good (.lst true (.str kw::s)) ?_ ?_ ?_ ?_ ?_
     ·generalize(kw::c).map D.str=L at *;simp[YY,jt,Kf,n,u,e,a,v,i,E,m,k,C,y]
     ·generalize(kw::c).map D.str=L at *;simp[yZ,fnR,qX,Qa,xIf,xN,zh,n,u,e,a,v,i,P,m,k,y]
     ·obtain⟨ρ,q⟩:=q (o2:=none) (o3:=none) (o4:=none) (o5:=none);have t:(jB [] 1) (.lst false (g.map D.str)) [some (.lst false ((kw::c).map D.str)),none,none,none,none,none]=some [some (.lst false ((kw::c).map D.str)),some (.lst false (g.map D.str)),none,none,none,none]:=rfl;have j:vF (jB [] 1) jv [.lst false (g.map D.str)] [some (.lst false ((kw::c).map D.str)),none,none,none,none,none]=some (.rt (.lst true [.lst false (.str kw::s)]) ρ):=by
       rw[j5,t,L8,q,L8,YC]
      generalize(kw::c).map D.str=L at *;simp[jY,jt,yk,Qm,f,l,e,b,i,j,B]
     ·show alk 8 (.lst false (fzs (.str kw::s)));rw[fzs,B];refine jgw (by rw[K6,A];rfl) (by rw[M7];omega) λx F=>?_;rcases M9.mp F with rfl | F
      ·exact jb6 6 _
      ·exact(p x F).2.2
     ·simp[C]
    ·refine .bad ?_ ?_
     ·generalize(kw::c).map D.str=L at *;simp[yZ,fnR,qX,Qa,xIf,xN,zh,n,u,e,a,v,i,p,m,k,y]
     ·obtain⟨ρ,q⟩:=E (o2:=none) (o3:=none) (o4:=none) (o5:=none);have t:(jB [] 1) (.lst false (g.map D.str)) [some (.lst false ((kw::c).map D.str)),none,none,none,none,none]=some [some (.lst false ((kw::c).map D.str)),some (.lst false (g.map D.str)),none,none,none,none]:=rfl;have j:vF (jB [] 1) jv [.lst false (g.map D.str)] [some (.lst false ((kw::c).map D.str)),none,none,none,none,none]=some (.rt (.lst true []) ρ):=by
       rw[j5,t,L8,q,L8,YC]
      generalize(kw::c).map D.str=L at *;simp[jY,jt,yk,Qm,f,l,e,b,i,j]
   ·have p:=jcW (ws:=kw::c) (kinds:=g) (by simp;omega) (by simp;omega) (by omega) pl;have q:=ji4 (kw:=kw) (ws:=c) (ks:=g) (λz=>I z.symm) (by omega) (by omega) (o2:=none) (o3:=none) (o4:=none) (o5:=none);have t:(jB [] 1) (.lst false (g.map D.str)) [some (.lst false ((kw::c).map D.str)),none,none,none,none,none]=some [some (.lst false ((kw::c).map D.str)),some (.lst false (g.map D.str)),none,none,none,none]:=rfl;have j:vF (jB [] 1) jv [.lst false (g.map D.str)] [some (.lst false ((kw::c).map D.str)),none,none,none,none,none]=some (.rt (.lst true []) [some (.lst false ((kw::c).map D.str)),some (.lst false (g.map D.str)),none,none,none,none]):=by
     rw[j5,t,L8,q,L8,YC]
    refine .bad ?_ ?_
    ·generalize(kw::c).map D.str=L at *;simp[yZ,fnR,qX,Qa,xIf,xN,zh,n,u,e,a,v,i,p,m,k,y]
    ·generalize(kw::c).map D.str=L at *;simp[jY,jt,yk,Qm,f,l,e,b,i,j]
  | none a b =>
   have p:=jbQ (ws:=kw::c) pl;refine .bad ?_ ?_
   ·generalize(kw::c).map D.str=L at *;simp[yZ,fnR,qX,Qa,xIf,xN,zh,n,u,e,a,v,p,m,y]
   ·rcases b with b | b
    ·generalize(kw::c).map D.str=L at *;simp[jY,jt,yk,Qm,f,l,e,b]
    ·have t:(jB [] 1) (.lst false []) [some (.lst false ((kw::c).map D.str)),none,none,none,none,none]=some [some (.lst false ((kw::c).map D.str)),some (.lst false []),none,none,none,none]:=rfl;have Q:kn (.lst false []) (.lst true [])=some (.bl true):=rfl;have q:jv [some (.lst false ((kw::c).map D.str)),some (.lst false []),none,none,none,none]=some (.rt (.lst true []) [some (.lst false ((kw::c).map D.str)),some (.lst false []),none,none,none,none]):=by
      by_cases G:((0:Int)==(c.length:Int))=true
      ·generalize(kw::c).map D.str=L at *;simp[jv,Qm,e,G,Q]
      ·rw[Bool.not_eq_true] at G;generalize(kw::c).map D.str=L at *;simp[jv,Qm,e,G]
     have j:vF (jB [] 1) jv [.lst false []] [some (.lst false ((kw::c).map D.str)),none,none,none,none,none]=some (.rt (.lst true []) [some (.lst false ((kw::c).map D.str)),some (.lst false []),none,none,none,none]):=by
      rw[j5,t,L8,q,L8,YC]
     generalize(kw::c).map D.str=L at *;simp[jY,jt,yk,Qm,f,l,e,b,j]
noncomputable abbrev O1:List (List Nat):=[[61],[120],[95],[48,48],[48,49],[48,48,48,55],[45,49],[43,51],[49,120],[120,49],[97],[65,98],[97,95,98]]
noncomputable abbrev O2:List (List Nat):=[[97,98,99,100,101,102,103,104],[97,98,99,100,101,102,103,104,105],[48],[49],[57],[49,48],[49,49],[53],[49,46,48],[49,48,48,48,48,48,48,48,48,48,48,48,48]]
noncomputable abbrev O3:List (List Nat):=[[49,48,48,48,48,48,48,48,48,48,48,48,49],[57,57,57,57,57,57,57,57,57,57,57,57,57],[57,57,57,57,57,57,57,57,57,57,57,57,57,57],[112,111,111,108,115],[80,111,111,108]]
noncomputable def ODD:List (List Nat):=KW++O1++O2++O3
theorem jbE{w:List Nat}(h:(!w.isEmpty&&w.all (λc=>decide (33<=c/\c < 127))&&decide (w.length<=14))=true):Wd w:=by
 simp only[M6,Bool.not_eq_true',decide_eq_true_eq,List.all_eq_true] at h;exact⟨λz=>by rw[z] at h;simp at h,h.1.2,h.2⟩
theorem jix:∀ w∈ODD,(!w.isEmpty&&w.all (λc=>decide (33<=c/\c < 127))&&decide (w.length<=14))=true:=by decide +kernel
theorem jhE{n:Int}(p:0<=n):∃ w,yT [.int n]=some (.str w)/\Wd w:=by
 have h:=YS;have d:=YZ (o:=true) (o':=true) (a:=KW) (b:=O1) (by decide);have e:=YZ (o:=true) (o':=true) (a:=KW++O1) (b:=O2) (by decide);have f:=YZ (o:=true) (o':=true) (a:=KW++O1++O2) (b:=O3) (by decide);have g:=JC (o:=true) (l:=ODD) (i:=n % 48) (by omega) (by show n % 48 < 48;omega);have j:ODD.getD (n % 48).toNat []∈ODD:=getD_mem (by show _ < 48;omega);have k:qh (.str [57]) (.int 13)=some (.str [57,57,57,57,57,57,57,57,57,57,57,57,57]):=rfl;have m:qh (.str [57]) (.int 14)=some (.str [57,57,57,57,57,57,57,57,57,57,57,57,57,57]):=rfl;generalize ODD.getD (n % 48).toNat []=w at g j;refine⟨w,?_,jbE (jix w j)⟩;have c:yE (KW.map D.str)=true:=Vr KW;rw[show ODD=KW++O1++O2++O3 from rfl] at g;generalize(KW++O1++O2++O3).map D.str=L3 at g f;generalize(KW++O1++O2).map D.str=L2 at f e;generalize(KW++O1).map D.str=L1 at d e;generalize KW.map D.str=L0 at d h c;simp only[L9,List.map_nil] at d e f;simp(disch:=first | omega | decide) [yT,jt,Jq,h,c,d,e,f,k,m,jK,g,jq]
noncomputable abbrev SG:List Nat:=[32,33,34,35,36,38,39,40,41,42,43,44,45,46,47,48,49,50,51,52,53,54,55,56,57,58,59,60,61,62,63,64,65,66,67,68,69,70,71,72,73,74,75,76,77,78,79,80,81,82,83,84,85,86,87,88,89,90,91,92,93,94,95,96,97,98,99,100,101,102,103,104,105,106,107,108,109,110,111,112,113,114,115,116,117,118,119,120,121,122,123,124,125,126]
theorem jkI:∀ i < 93,33<=SG.getD (1+i) 0/\SG.getD (1+i) 0 < 127:=by decide +kernel
theorem jgD{m:Int}(f:0<=m)(h1:m < 93):∃ c,vZ [.int (1+m)]=some (.str [c])/\33<=c/\c < 127:=by
 have b:jQ (.str [32,33,34,35,36,38,39,40,41,42,43,44,45,46,47,48,49,50,51,52,53,54,55,56,57,58,59,60,61,62,63,64,65,66,67,68,69,70,71,72,73,74,75,76,77,78,79,80,81,82,83,84,85,86,87,88,89,90,91,92,93,94,95,96]) (.str [97,98,99,100,101,102,103,104,105,106,107,108,109,110,111,112,113,114,115,116,117,118,119,120,121,122,123,124,125,126])=some (.str SG):=rfl;have a:=jaD (s:=SG) (i:=1+m) (by decide) (by omega) (by show 1+m < 94;omega);have d:(1+m) % 94=1+m:=by omega
 have e:=jkI m.toNat (by omega);rw[show(1+m).toNat=1+m.toNat by omega] at a;refine⟨SG.getD (1+m.toNat) 0,?_,e⟩;generalize SG.getD (1+m.toNat) 0=c at a;generalize SG=G at b a;simp(disch:=first | omega | decide) [vZ,jt,qY,b,jK,d,a]
noncomputable abbrev B7:List (List Nat):=[[48],[49],[57],[49,48],[49,49],[49,48,48,48,48,48,48,48,48,48,48,48,48],[49,48,48,48,48,48,48,48,48,48,48,48,49]]
theorem jlg:∀ w∈B7,(!w.isEmpty&&w.all (λc=>decide (33<=c/\c < 127))&&decide (w.length<=14))=true:=by decide +kernel
theorem jjM{W:List (List Nat)}(a:∀ w∈W,Wd w){x:List Nat}(b:Wd x)(j:Nat):∀ w∈W.set j x,Wd w:=λw c=>by
 rcases List.mem_or_eq_of_mem_set c with h | rfl
 ·exact a w h
 ·exact b
theorem jdN{W:List (List Nat)}(B:∀ w∈W,Wd w)(Z:W.length<=20){n:Int}(hn:0<=n):∃ W':List (List Nat),yL [.lst false (W.map D.str),.int n]=some (.lst true (W'.map D.str))/\(∀ w∈W',Wd w)/\W'.length<=W.length:=by
 have g:xK [.int (W.length:Int)]=some (Qe 0 W.length):=by
  have:=zr (j:=(W.length:Int)) (by omega) (by omega);simpa using this
 have k:lim (Qe 0 W.length).length=true:=jq (by rw[Kn];omega);obtain⟨I,Q,m⟩:∃ I:List Int,(∀ i∈I,0<=i/\i < W.length)/\I.length<=20/\vQ (jB [] 0) (jp (p2 jjY (jz jH (jb (p2 kW (pV 1) (pV 0)) pN)) (pC (.int 0)))) (pF (pV 0)) (Qe 0 W.length) [none,some (.lst true (W.map D.str))]=some (I.map D.int):=by
  have key:∀ i:Nat,∃ b:Bool,i < W.length->∃ v:Int,jH [.str (W.getD i [])]=some (.int v)/\decide (0<=v)=b:=λi=>by
   by_cases h:i < W.length
   ·have R:=B _ (getD_mem (l:=W) (d:=[]) h);have e:=YV (w:=W.getD i []) (by have:=R.len;omega);exact⟨_,λ_=>⟨_,e,rfl⟩⟩
   ·exact⟨true,λz=>absurd z h⟩
  have C:=VC (G:=jB [] 0) (q:=jp (p2 jjY (jz jH (jb (p2 kW (pV 1) (pV 0)) pN)) (pC (.int 0)))) (p:=pF (pV 0)) (l:=List.range W.length) (en:=λ(i:Nat)=>D.int (0+(i:Int))) (out:=λ(i:Nat)=>D.int (0+(i:Int))) (b:=λi=>(key i).choose) (λρ=>∃ o,ρ=[o,some (.lst true (W.map D.str))]) (by
   rintro i r ρ ⟨o,rfl⟩;have r:=List.mem_range.mp r;obtain⟨v,M,N⟩:=(key i).choose_spec r;have c:=JC (o:=true) (l:=W) (i:=0+(i:Int)) (by omega) (by omega);rw[show(0+(i:Int)).toNat=i by omega] at c;refine⟨[some (.int (0+(i:Int))),some (.lst true (W.map D.str))],rfl,?_,rfl,_,rfl⟩;generalize(key i).choose=b at N;generalize W.map D.str=L at c;generalize(0+(i:Int))=ii at c;generalize W.getD i []=u at c M;simp[c,M,N]) (ρ:=[none,some (.lst true (W.map D.str))]) ⟨none,rfl⟩
  refine⟨((List.range W.length).filter λi=>(key i).choose).map λ(i:Nat)=>(0+(i:Int)),λi r=>?_,?_,?_⟩
  ·obtain⟨j,S,rfl⟩:=N0.mp r;have:=List.mem_range.mp (List.mem_filter.mp S).1;omega
  ·rw[L4];have:=List.length_filter_le (λi=>(key i).choose) (List.range W.length);rw[List.length_range] at this;omega
  ·rw[U4];exact C
 obtain⟨T,m⟩:=m;have f:=jfX true true I [];simp only[List.map_nil] at f;have O:=jV W;by_cases h:I=[]
 ·subst h;refine⟨W,?_,B,N3 _⟩;have s:V1 (.lst true []) (.lst true [])=some (.bl false):=rfl;simp only[List.map_nil] at m;have a:(W.map D.str).length=W.length:=by simp
  generalize W.map D.str=L at *;simp[yL,jt,vx,O,a,g,k,y6,m,s,Qm]
 ·have U:0 < I.length:=List.length_pos_iff.mpr h;rw[X4 h] at f;have V:=U3 (n / 7) (show(I.length:Int)≠0 by omega);have X:=U2 (n / 7) (show(0:Int) < (I.length:Int) by omega);have c:kW (.lst true (I.map D.int)) (.int (n / 7 % (I.length:Int)))=some (.int (I.getD (n / 7 % (I.length:Int)).toNat 0)):=by
   rw[jjP V (by rw[L4];exact X),List.getElem?_map,List.getD_eq_getElem?_getD,X8 (by omega)];rfl
  have t:I.getD (n / 7 % (I.length:Int)).toNat 0∈I:=QD.getD_mem (by omega);obtain⟨P,Y⟩:=Q _ t;generalize I.getD (n / 7 % (I.length:Int)).toNat 0=i at c P Y;have E:ixN W.length i=some i.toNat:=ui P (by omega);have F:=JC (o:=true) (l:=B7) (i:=n % 7) (by omega) (by show n % 7 < 7;omega);have y:B7.getD (n % 7).toNat []∈B7:=getD_mem (by show _ < 7;omega);generalize B7.getD (n % 7).toNat []=x at F y;simp only[L9,List.map_nil] at F;refine⟨W.set i.toNat x,?_,jjM B (jbE (jlg x y)) _,by rw[List.length_set];exact N3 _⟩;have a:(W.map D.str).length=W.length:=by simp
  have A:(W.map D.str).set i.toNat (.str x)=(W.set i.toNat x).map D.str:=by rw[List.map_set]
  have H:(I.map D.int).length=I.length:=by simp
  have dm:yA (.int (n / 7)) (.int (I.length:Int))=some (.int (n / 7 % (I.length:Int))):=jK (by omega);generalize(W.set i.toNat x).map D.str=L2 at *;generalize W.map D.str=L,I.map D.int=J,n / 7 % (I.length:Int)=q at *;have K:y6 [none,some 2] [some (.lst false L),some (.int n),some (.lst true L),none]=[none,some (.lst true L)]:=rfl;simp(disch:=omega) [yL,jt,vx,O,a,g,k,K,m,f,jq,Qm,jK,yI,F,H,dm,c,E,A]
structure Wq(w:List Nat):Prop where
 sg:∀ c∈w,33<=c/\c < 127
 len:w.length<=14
theorem Wd.q{w:List Nat}(h:Wd w):Wq w:=⟨h.sg,h.len⟩
theorem xk{W:List (List Nat)}(a:∀ w∈W,Wq w){x:List Nat}(b:Wq x)(j:Nat):∀ w∈W.set j x,Wq w:=λw c=>by
 rcases List.mem_or_eq_of_mem_set c with h | rfl
 ·exact a w h
 ·exact b
theorem jgE{i:Nat}{pk:PF}{ρ:Rh}{l:List D}{n:Int}(a:pV i ρ=some (.lst true l))(h1:pk ρ=some (.int n))(z:0<=n)(d:n.toNat < l.length)(b:lim l.length=true)(c:frzs l=true) :
  jam i pk ρ=some (.nx (ρ.set i (some (.lst true (l.take n.toNat++l.drop (n.toNat+1)))))):=by
 unfold jam;rw[h1,L8,show Ql (.int n)=some n from rfl,L8,jcj a];dsimp only;rw[X3 z,X3 (by omega),b,c];rfl
theorem Q3{W:List (List Nat)}:vQ (jB [] 0) (jp (p2 V1 (pV 0) (pC (.str [])))) (pF (pV 0)) (W.map D.str) [none]=some ((W.filter λw=>!(w==[])).map D.str):=by
 refine VC (λρ=>∃ o,ρ=[o]) ?_ ⟨none,rfl⟩;rintro w a ρ ⟨o,rfl⟩;exact⟨[some (.str w)],rfl,by simp only[ue,jlB,pV0,jlD,L8,jji,jcJ],rfl,_,rfl⟩
theorem QM{W:List (List Nat)}(h:∀ w∈W,Wq w):∀ w∈W.filter (λw=>!(w==[])),Wd w:=λw c=>by
 obtain⟨a,b⟩:=List.mem_filter.mp c;exact⟨λz=>(by rw[z] at b;simp at b),(h w a).sg,(h w a).len⟩
theorem jcN{W:List (List Nat)}(hW:∀ w∈W,Wd w/\w.length<=13)(h1:1<=W.length)(h7:W.length<=7){way at_ n:Int}(hw0:0<=way)(hw7:way<=7)(ha:0<=at_)(hn:0<=n) :
  ∃ W':List (List Nat),jP [.lst false (W.map D.str),.int way,.int at_,.int n]=some (.lst true (W'.map D.str))/\(∀ w∈W',Wd w)/\W'.length<=8:=by
 have I:∀ w∈W,Wd w:=λw h=>(hW w h).1;have y:∀ w∈W,Wq w:=λw h=>(I w h).q;have E:=jV W;have K:=y4 W;have g:(W.map D.str).length=W.length:=by simp
 obtain⟨od,eo,ho⟩:=jhE hn;have z:∀ ρ,y6 [none] ρ=[none]:=λ_=>rfl
 -- where,which word,which spot
 have P:=U3 at_ (show(W.length:Int)≠0 by omega);have g2:=U2 at_ (show(0:Int) < (W.length:Int) by omega);have dm:yA (.int at_) (.int (W.length:Int))=some (.int (at_ % (W.length:Int))):=jK (by omega);generalize at_ % (W.length:Int)=a at dm P g2;have M:=JC (o:=true) (l:=W) (i:=a) P g2;have Q:=hW _ (QD.getD_mem (l:=W) (i:=a.toNat) (d:=[]) (by omega));generalize W.getD a.toNat []=w at M Q;obtain⟨A,hwl⟩:=Q;have B:ixN W.length a=some a.toNat:=ui P (by omega);have X:=U3 n (show((w.length:Int)+1)≠0 by omega);have s2:=U2 n (show(0:Int) < ((w.length:Int)+1) by omega);have N:yA (.int n) (.int ((w.length:Int)+1))=some (.int (n % ((w.length:Int)+1))):=jK (by omega);generalize n % ((w.length:Int)+1)=sp at N X s2;have C:=qj (a:=w) (by omega);obtain rfl | rfl | rfl | rfl | rfl | rfl | rfl | rfl:way=0 \/ way=1 \/ way=2 \/ way=3 \/ way=4 \/ way=5 \/ way=6 \/ way=7:=by omega
 ·obtain⟨W',e,q1,q2⟩:=jdN I (by omega) hn;refine⟨W',?_,q1,by omega⟩;have Z:=Vr W';generalize W'.map D.str=L',W.map D.str=L at *;simp[jP,jt,jX,E,K,e,Z]
 ·have i1:=U3 at_ (show((W.length:Int)+1)≠0 by omega);have i2:=U2 at_ (show(0:Int) < ((W.length:Int)+1) by omega);have di:yA (.int at_) (.int ((W.length:Int)+1))=some (.int (at_ % ((W.length:Int)+1))):=jK (by omega);generalize at_ % ((W.length:Int)+1)=k at di i1 i2;refine⟨W.take k.toNat++od::W.drop k.toNat,?_,λv R=>?_,by simp;omega⟩
  ·have S:(W.map D.str).take k.toNat++D.str od::(W.map D.str).drop k.toNat=(W.take k.toNat++od::W.drop k.toNat).map D.str:=by simp
   have ins:=jby (i:=4) (pk:=p2 yA (pV 2) (p2 jQ (pCB kZ (jb (pV 4) pN)) (pC (.int 1)))) (p:=jz yT (jb (pV 3) pN)) (ρ:=[some (.lst false (W.map D.str)),some (.int 1),some (.int at_),some (.int n),some (.lst true (W.map D.str)),none,none]) (l:=W.map D.str) (n:=k) (d:=.str od) rfl (by
    generalize W.map D.str=L at g;simp[g,di]) (by simp[eo]) i1 (by omega) (jq (by omega)) E rfl
   rw[S] at ins;generalize(W.take k.toNat++od::W.drop k.toNat).map D.str=L' at *;generalize W.map D.str=L at *;simp[jP,jt,jX,E,K,ins]
  ·rcases N6.mp R with h | h
   ·exact I v (List.mem_of_mem_take h)
   ·rcases M9.mp h with rfl | h
    ·exact ho
    ·exact I v (List.mem_of_mem_drop h)
 ·have f:(W.map D.str).set a.toNat (.str od)=(W.set a.toNat od).map D.str:=by rw[List.map_set]
  have F:=xk y ho.q a.toNat
  have r:(W.set a.toNat od).length<=8:=by rw[List.length_set];omega
  generalize W.set a.toNat od=W2 at *;refine⟨_,?_,QM F,U0 (List.length_filter_le _ _) r⟩;have G:=Q3 (W:=W2);have s:=jV W2;have t:lim (W2.map D.str).length=true:=jq (by rw[L4];omega);generalize(W2.filter λw=>!(w==[])).map D.str=OUT at *;generalize W2.map D.str=L2,W.map D.str=L at *;simp[jP,jt,jX,E,K,g,dm,M,C,N,eo,B,f,s,t,z,G]
 ·have f:(W.map D.str).take a.toNat++(W.map D.str).drop (a.toNat+1)=(W.take a.toNat++W.drop (a.toNat+1)).map D.str:=by simp
  have F:∀ v∈W.take a.toNat++W.drop (a.toNat+1),Wq v:=λv R=>y v ((N6.mp R).elim List.mem_of_mem_take List.mem_of_mem_drop);have r:(W.take a.toNat++W.drop (a.toNat+1)).length<=8:=by simp;omega
  have pop:=jgE (i:=4) (pk:=pV 2) (ρ:=[some (.lst false (W.map D.str)),some (.int 3),some (.int a),some (.int n),some (.lst true (W.map D.str)),some (.str w),some (.int sp)]) (l:=W.map D.str) (n:=a) rfl rfl P (by omega) (jq (by omega)) E;rw[f] at pop;generalize W.take a.toNat++W.drop (a.toNat+1)=W2 at *;refine⟨_,?_,QM F,U0 (List.length_filter_le _ _) r⟩;have G:=Q3 (W:=W2);have s:=jV W2;have t:lim (W2.map D.str).length=true:=jq (by rw[L4];omega);generalize(W2.filter λw=>!(w==[])).map D.str=OUT at *;generalize W2.map D.str=L2,W.map D.str=L at *;simp[jP,jt,jX,E,K,g,dm,M,C,N,B,pop,s,t,z,G]
 ·obtain⟨c,ec,c1,c2⟩:=jgD (m:=n / 40 % 93) (by omega) (by omega);have T:jau none (some sp) (.str w)=some (.str (w.take sp.toNat)):=by rw[jj2 (by omega),jab _ X]
  have U:jau (some sp) none (.str w)=some (.str (w.drop sp.toNat)):=by rw[jj2 (by omega),Vx _ X]
  have a1:=Jo (a:=w.take sp.toNat) (b:=[c]) (by simp;omega);have J:=Jo (a:=w.take sp.toNat++[c]) (b:=w.drop sp.toNat) (by simp;omega);have H:Wq (w.take sp.toNat++[c]++w.drop sp.toNat):=by
   refine⟨λd hd=>?_,by simp;omega⟩;rcases N6.mp hd with h | h
   ·rcases N6.mp h with h | h
    ·exact A.sg d (List.mem_of_mem_take h)
    ·rw[N2.mp h];exact⟨c1,c2⟩
   ·exact A.sg d (List.mem_of_mem_drop h)
  generalize w.take sp.toNat++[c]++w.drop sp.toNat=x at J H;generalize w.take sp.toNat++[c]=x1 at a1 J;generalize w.take sp.toNat=x2 at T a1;generalize w.drop sp.toNat=x3 at U J;have f:(W.map D.str).set a.toNat (.str x)=(W.set a.toNat x).map D.str:=by rw[List.map_set]
  have F:=xk y H a.toNat
  have r:(W.set a.toNat x).length<=8:=by rw[List.length_set];omega
  generalize W.set a.toNat x=W2 at *;refine⟨_,?_,QM F,U0 (List.length_filter_le _ _) r⟩;have G:=Q3 (W:=W2);have s:=jV W2;have t:lim (W2.map D.str).length=true:=jq (by rw[L4];omega);generalize(W2.filter λw=>!(w==[])).map D.str=OUT at *;generalize W2.map D.str=L2,W.map D.str=L at *;have dd:qK (.int n) (.int 40)=some (.int (n / 40)):=yI (by omega) (by omega);have dd2:yA (.int (n / 40)) (.int 93)=some (.int (n / 40 % 93)):=jK (by omega);simp[jP,jt,jX,E,K,g,dm,M,C,N,dd,dd2,ec,T,U,a1,J,B,f,s,t,z,G]
 ·have T:jau none (some sp) (.str w)=some (.str (w.take sp.toNat)):=by rw[jj2 (by omega),jab _ X]
  have U:jau (some (sp+1)) none (.str w)=some (.str (w.drop (sp+1).toNat)):=by rw[jj2 (by omega),Vx _ (by omega)]
  have J:=Jo (a:=w.take sp.toNat) (b:=w.drop (sp+1).toNat) (by simp;omega);have H:Wq (w.take sp.toNat++w.drop (sp+1).toNat):=by
   refine⟨λd hd=>?_,by simp;omega⟩;rcases N6.mp hd with h | h
   ·exact A.sg d (List.mem_of_mem_take h)
   ·exact A.sg d (List.mem_of_mem_drop h)
  generalize w.take sp.toNat++w.drop (sp+1).toNat=x at J H;generalize w.take sp.toNat=x2 at T J;generalize w.drop (sp+1).toNat=x3 at U J;have f:(W.map D.str).set a.toNat (.str x)=(W.set a.toNat x).map D.str:=by rw[List.map_set]
  have F:=xk y H a.toNat
  have r:(W.set a.toNat x).length<=8:=by rw[List.length_set];omega
  generalize W.set a.toNat x=W2 at *;refine⟨_,?_,QM F,U0 (List.length_filter_le _ _) r⟩;have G:=Q3 (W:=W2);have s:=jV W2;have t:lim (W2.map D.str).length=true:=jq (by rw[L4];omega);generalize(W2.filter λw=>!(w==[])).map D.str=OUT at *;generalize W2.map D.str=L2,W.map D.str=L at *;simp[jP,jt,jX,E,K,g,dm,M,C,N,T,U,J,B,f,s,t,z,G]
 ·-- two exchanged
  obtain⟨u,j,hu,Y,huq⟩:∃(u:List Nat) (j:Nat),kW (.lst true (W.map D.str)) (.int (a - 1))=some (.str u)/\ixN W.length (a - 1)=some j/\Wq u:=by
   by_cases h0:a=0
   ·subst h0;have V:W.length - 1 < W.length:=by omega
    have Y:ixN W.length (0 - 1)=some (W.length - 1):=by
     unfold ixN;rw[if_neg (by omega)];simp;omega
    refine⟨W[W.length - 1],W.length - 1,?_,Y,y _ (List.getElem_mem V)⟩;show L2.atI (W.map D.str) (0 - 1)=_;unfold L2.atI;rw[g,Y];simp[X8 V]
   ·refine⟨W.getD (a - 1).toNat [],(a - 1).toNat,JC (by omega) (by omega),ui (by omega) (by omega),y _ (QD.getD_mem (by omega))⟩
  have f:(W.map D.str).set a.toNat (.str u)=(W.set a.toNat u).map D.str:=by rw[List.map_set]
  have hq1:=xk y huq a.toNat
  have hl1:((W.set a.toNat u).map D.str).length=W.length:=by simp
  have hll1:(W.set a.toNat u).length=W.length:=by simp
  generalize W.set a.toNat u=W1 at *;have O:(W1.map D.str).set j (.str w)=(W1.set j w).map D.str:=by rw[List.map_set]
  have F:=xk hq1 A.q j;have r:(W1.set j w).length<=8:=by rw[List.length_set];omega
  generalize W1.set j w=W2 at *;refine⟨_,?_,QM F,U0 (List.length_filter_le _ _) r⟩;have G:=Q3 (W:=W2);have s:=jV W2;have t:lim (W2.map D.str).length=true:=jq (by rw[L4];omega);generalize(W2.filter λw=>!(w==[])).map D.str=OUT at *;generalize W2.map D.str=L2,W1.map D.str=L1,W.map D.str=L at *;simp[jP,jt,jX,E,K,g,dm,M,C,N,hu,B,f,hl1,Y,O,s,t,z,G]
 ·have f:(W.map D.str).take a.toNat++D.str w::(W.map D.str).drop a.toNat=(W.take a.toNat++w::W.drop a.toNat).map D.str:=by simp
  have F:∀ v∈W.take a.toNat++w::W.drop a.toNat,Wq v:=λv R=>by
   rcases N6.mp R with h | h
   ·exact y v (List.mem_of_mem_take h)
   ·rcases M9.mp h with rfl | h
    ·exact A.q
    ·exact y v (List.mem_of_mem_drop h)
  have r:(W.take a.toNat++w::W.drop a.toNat).length<=8:=by simp;omega
  have ins:=jby (i:=4) (pk:=pV 2) (p:=pF (pV 5)) (ρ:=[some (.lst false (W.map D.str)),some (.int 7),some (.int a),some (.int n),some (.lst true (W.map D.str)),some (.str w),some (.int sp)]) (l:=W.map D.str) (n:=a) (d:=.str w) rfl rfl rfl P (by omega) (jq (by omega)) E rfl;rw[f] at ins;generalize W.take a.toNat++w::W.drop a.toNat=W2 at *;refine⟨_,?_,QM F,U0 (List.length_filter_le _ _) r⟩;have G:=Q3 (W:=W2);have s:=jV W2;have t:lim (W2.map D.str).length=true:=jq (by rw[L4];omega);generalize(W2.filter λw=>!(w==[])).map D.str=OUT at *;generalize W2.map D.str=L2,W.map D.str=L at *;simp[jP,jt,jX,E,K,g,dm,M,C,N,B,ins,s,t,z,G]
structure Txd(t:List Nat)(done:List (List Nat)):Prop where
 go:∀ n r,wgo 32 [] (t++(List.replicate (n+1) 32++r))=done++wgo 32 [] r
 fin:∀ n,wgo 32 [] (t++List.replicate n 32)=done
theorem Txd.first{w:List Nat}(h1:w≠[])(h2:32∉w)(a:Nat):Txd (List.replicate a 32++w) [w]:=⟨λn r=>by rw[List.append_assoc,uR,Q7 32 h1 h2];rfl,λn=>by rw[List.append_assoc,uR,jai 32 h1 h2]⟩
theorem Txd.step{t:List Nat}{done:List (List Nat)}(h:Txd t done){w:List Nat}(h1:w≠[])(h2:32∉w)(b:Nat):Txd (t++List.replicate (b+1) 32++w) (done++[w]):=by
 refine⟨λn r=>?_,λn=>?_⟩
 ·have e:t++List.replicate (b+1) 32++w++(List.replicate (n+1) 32++r)=t++(List.replicate (b+1) 32++(w++(List.replicate (n+1) 32++r))):=by simp only[List.append_assoc]
  rw[e,h.go,Q7 32 h1 h2,List.append_assoc];rfl
 ·have e:t++List.replicate (b+1) 32++w++List.replicate n 32=t++(List.replicate (b+1) 32++(w++List.replicate n 32)):=by simp only[List.append_assoc]
  rw[e,h.go,jai 32 h1 h2]
theorem u5{n:Int}(a:0<=n)(h1:n<=100):qh (.str [32]) (.int n)=some (.str (List.replicate n.toNat 32)):=by
 rw[jbT (by simp) a (by omega),jcq]
theorem K2{a0:Option D}:∀{W:List (List Nat)}{n:Int}{t:List Nat}{b:Nat}{done:List (List Nat)}{o3:Option D},(∀ w∈W,w≠[]/\(∀ c∈w,33<=c/\c < 127)/\w.length<=14)->0<=n->Txd t done->(∃ Z c,t=Z++[c]/\(∀ d∈Z,d < 128)/\33<=c/\c < 127)->b<=2->t.length+3+20*W.length<=500 ->
  ∃(n':Int) (t':List Nat) (b':Nat) (o3':Option D),vF (jB [] 3) yf (W.map D.str) [a0,some (.int n),some (.str (t++List.replicate (b+1) 32)),o3]=some (.nx [a0,some (.int n'),some (.str (t'++List.replicate (b'+1) 32)),o3'])/\0<=n'/\Txd t' (done++W)/\(∃ Z c,t'=Z++[c]/\(∀ d∈Z,d < 128)/\33<=c/\c < 127)/\b'<=2/\t'.length<=500
 | [],n,t,b,done,o3,_,hn,ht,hz,hb,hl=>⟨n,t,b,o3,rfl,hn,by rw[N4];exact ht,hz,hb,by simp at hl;omega⟩
 | w::W,n,t,b,done,o3,hW,hn,ht,hz,hb,hl=>by
  rw[M7] at hl;obtain⟨h,i,C⟩:=hW w (by simp);obtain⟨f,j⟩:∃ f:Nat,(1+n / 3 % 3)=((f+1:Nat):Int)/\f<=2:=⟨(n / 3 % 3).toNat,by omega,by omega⟩;have k:32∉w:=λz=>by have:=i 32 z;omega
  have l:∃ Z c,t++List.replicate (b+1) 32++w=Z++[c]/\(∀ d∈Z,d < 128)/\33<=c/\c < 127:=by
   obtain⟨Z,c,rfl,o,E,F⟩:=hz;refine⟨Z++[c]++List.replicate (b+1) 32++w.dropLast,w.getLast h,?_,?_,i _ (List.getLast_mem h)⟩
   ·simp only[List.append_assoc,List.dropLast_concat_getLast h]
   ·intro d hd;simp only[N6,N2] at hd;rcases hd with((hd | hd) | hd) | hd
    ·exact o d hd
    ·omega
    ·rw[List.eq_of_mem_replicate hd];decide
    ·have:=i d (List.dropLast_subset w hd);omega
  obtain⟨n',t',b',o3',e,p,q,r,s,u⟩:=K2 (a0:=a0) (W:=W) (n:=n / 3) (t:=t++List.replicate (b+1) 32++w) (b:=f) (done:=done++[w]) (o3:=some (.str w)) (λv x=>hW v (by simp[x])) (by omega) (ht.step h k b) l j.2 (by simp only[N8,List.length_replicate];omega);refine⟨n',t',b',o3',?_,p,by simpa using q,r,s,u⟩;have y:(jB [] 3) (.str w) [a0,some (.int n),some (.str (t++List.replicate (b+1) 32)),o3]=some [a0,some (.int n),some (.str (t++List.replicate (b+1) 32)),some (.str w)]:=rfl;have g:=u5 (n:=1+n / 3 % 3) (by omega) (by omega);rw[show(1+n / 3 % 3).toNat=f+1 by omega] at g;have m:yf [a0,some (.int n),some (.str (t++List.replicate (b+1) 32)),some (.str w)]=some (.nx [a0,some (.int (n / 3)),some (.str (t++List.replicate (b+1) 32++w++List.replicate (f+1) 32)),some (.str w)]):=by
   have A:=Jo (a:=t++List.replicate (b+1) 32) (b:=w) (by simp only[N8,List.length_replicate];omega);have B:=Jo (a:=t++List.replicate (b+1) 32++w) (b:=List.replicate (f+1) 32) (by simp only[N8,List.length_replicate];omega);simp(disch:=omega) [yf,yI,jK,g,A,B,-List.append_assoc]
  rw[L9,j5,y,L8,m,L8,VL,e]
theorem ja9{w:List Nat}{W:List (List Nat)}{n:Int}(N:0<=n)(u:∀ v∈w::W,v≠[]/\(∀ c∈v,33<=c/\c < 127)/\v.length<=14)(O:W.length<=10):∃ T:List Nat,ya [.lst false ((w::W).map D.str),.int n]=some (.str T)/\wgo 32 [] T=w::W/\T.length<=1000:=by
 obtain⟨l,m,P⟩:=u w (by simp);have o:32∉w:=λz=>by have:=m 32 z;omega
 have x:=u5 (n:=n % 3) (by omega) (by omega);obtain⟨g,p⟩:∃ g:Nat,(1+n / 3 % 3)=((g+1:Nat):Int)/\g<=2:=⟨(n / 3 % 3).toNat,by omega,by omega⟩;have C:∃ Z c,List.replicate (n % 3).toNat 32++w=Z++[c]/\(∀ d∈Z,d < 128)/\33<=c/\c < 127:=by
  refine⟨List.replicate (n % 3).toNat 32++w.dropLast,w.getLast l,?_,?_,m _ (List.getLast_mem l)⟩
  ·rw[List.append_assoc,List.dropLast_concat_getLast l]
  ·intro d hd;rcases N6.mp hd with hd | hd
   ·rw[List.eq_of_mem_replicate hd];decide
   ·have:=m d (List.dropLast_subset w hd);omega
 obtain⟨y,f,b',q,e,Q,E,F,R,S⟩:=K2 (a0:=some (.lst false ((w::W).map D.str))) (W:=W) (n:=n / 3) (t:=List.replicate (n % 3).toNat 32++w) (b:=g) (done:=[w]) (o3:=some (.str w)) (λv G=>u v (by simp[G])) (by omega) (Txd.first l o _) C p.2 (by rw[N8,List.length_replicate];omega);have h:=u5 (n:=1+n / 3 % 3) (by omega) (by omega);rw[show(1+n / 3 % 3).toNat=g+1 by omega] at h;have H:(jB [] 3) (.str w) [some (.lst false ((w::W).map D.str)),some (.int n),some (.str (List.replicate (n % 3).toNat 32)),none]=some [some (.lst false ((w::W).map D.str)),some (.int n),some (.str (List.replicate (n % 3).toNat 32)),some (.str w)]:=rfl;have r:yf [some (.lst false ((w::W).map D.str)),some (.int n),some (.str (List.replicate (n % 3).toNat 32)),some (.str w)]=some (.nx [some (.lst false ((w::W).map D.str)),some (.int (n / 3)),some (.str (List.replicate (n % 3).toNat 32++w++List.replicate (g+1) 32)),some (.str w)]):=by
  have I:=Jo (a:=List.replicate (n % 3).toNat 32) (b:=w) (by rw[List.length_replicate];omega);have J:=Jo (a:=List.replicate (n % 3).toNat 32++w) (b:=List.replicate (g+1) 32) (by simp only[N8,List.length_replicate];omega);generalize(w::W).map D.str=WW;simp(disch:=omega) [yf,yI,jK,h,I,J,-List.append_assoc]
 have A:vF (jB [] 3) yf ((w::W).map D.str) [some (.lst false ((w::W).map D.str)),some (.int n),some (.str (List.replicate (n % 3).toNat 32)),none]=some (.nx [some (.lst false ((w::W).map D.str)),some (.int y),some (.str (f++List.replicate (b'+1) 32)),q]):=by
  conv=>lhs;arg 3;rw[L9]
  rw[j5,H,L8,r,L8,VL];exact e
 have i:=jV (w::W);have j:=y4 (w::W);generalize(w::W).map D.str=WW at *;have k:Txd f (w::W):=E;by_cases B:y / 3 % 2=0
 ·refine⟨f,?_,by have:=k.fin 0;rw[List.replicate_zero,N4] at this;exact this,by omega⟩;have s:K3 (.str (f++List.replicate (b'+1) 32)) []=some (.str f):=by
   obtain⟨Z,c,rfl,K,L,M⟩:=F;have:=jcF (n:=b'+1) K L M;show(bif decide ((Z++[c]++List.replicate (b'+1) 32).length<=1000000) then some (D.str (Jz (Z++[c]++List.replicate (b'+1) 32))) else none)=_;rw[this,X3 (by simp only[N8,List.length_replicate] at *;omega)];rfl
  generalize f++List.replicate (b'+1) 32=TT at *;simp(disch:=omega) [ya,jt,yV,jK,yI,x,i,j,A,B,s]
 ·refine⟨f++List.replicate (b'+1) 32,?_,k.fin _,by rw[N8,List.length_replicate];omega⟩;generalize f++List.replicate (b'+1) 32=TT at *;simp(disch:=omega) [ya,jt,yV,jK,yI,x,i,j,A,B]
theorem jaZ{n:Int}(g:0<=n):∃ T:List Nat,ya [.lst false [],.int n]=some (.str T)/\wgo 32 [] T=[]/\T.length<=1000:=by
 have a:=u5 (n:=n % 3) (by omega) (by omega);have b:(n % 3).toNat < 3:=by omega
 generalize(n % 3).toNat=k at a b;have d:∀ k < 3,wgo 32 [] (List.replicate k 32)=[]/\K3 (.str (List.replicate k 32)) []=some (.str []):=by
  intro k h;obtain rfl | rfl | rfl:k=0 \/ k=1 \/ k=2:=by omega
  ·exact⟨rfl,rfl⟩
  ·exact⟨rfl,by show some (D.str (Jz (List.replicate 1 32)))=_;rw[show Jz (List.replicate 1 32)=[] by decide +kernel]⟩
  ·exact⟨rfl,by show some (D.str (Jz (List.replicate 2 32)))=_;rw[show Jz (List.replicate 2 32)=[] by decide +kernel]⟩
 obtain⟨e,f⟩:=d k b;by_cases c:n / 3 % 2=0
 ·refine⟨[],?_,rfl,by decide⟩;generalize List.replicate k 32=TT at *;simp(disch:=omega) [ya,jt,yV,jK,yI,a,c,f]
 ·refine⟨List.replicate k 32,?_,e,by rw[List.length_replicate];omega⟩;generalize List.replicate k 32=TT at *;simp(disch:=omega) [ya,jt,yV,jK,yI,a,c]
theorem jay{W:List (List Nat)}{n:Int}(c:0<=n)(a:∀ v∈W,Wd v)(d:W.length<=11):∃ T:List Nat,ya [.lst false (W.map D.str),.int n]=some (.str T)/\wgo 32 [] T=W/\T.length<=1000:=by
 cases W with
 | nil=>exact jaZ c
 | cons w W=>exact ja9 c (λv b=>⟨(a v b).ne,(a v b).sg,(a v b).len⟩) (by simpa using d)
theorem jaM(pl:Int):yO [.exc 0 pl,.int 0,.int pl]=some (.bl true):=by
 have b:YQ (.exc 0 pl) .non=some (.bl false):=rfl;have e:xK [.int 7]=some (Qe 0 7):=rfl;have f:vQ (jB [] 0) qT (p2 kn (pV 0) (pV 1)) (Qe 0 7) [none,some (.int 0)]=some [.bl true,.bl false,.bl false,.bl false,.bl false,.bl false,.bl false]:=rfl;have g:lim (Qe 0 7).length=true:=rfl;have h:∀ a c d,y6 [none,some 1] [a,some (.int 0),c,d]=[none,some (.int 0)]:=λ_ _ _=>rfl;have i:jQ (.lst true [.bl true,.bl false,.bl false]) (.lst true [.bl false,.bl false])=some (.lst true [.bl true,.bl false,.bl false,.bl false,.bl false]):=rfl;have j:jQ (.lst true [.bl true,.bl false,.bl false,.bl false,.bl false]) (.lst true [.bl false,.bl false])=some (.lst true [.bl true,.bl false,.bl false,.bl false,.bl false,.bl false,.bl false]):=rfl;have k:V1 (.lst true [.bl true,.bl false,.bl false,.bl false,.bl false,.bl false,.bl false]) (.lst true [.bl true,.bl false,.bl false,.bl false,.bl false,.bl false,.bl false])=some (.bl false):=rfl;simp[yO,jt,vJ,b,jac,QF,e,f,g,h,i,j,k,jq,zC,tyD]
theorem jdl{W:List (List Nat)}(h:∀ w∈W,Wd w)(v:W.length<=8){g:Int}(o:0<=g):kl [.lst false (W.map D.str),.int g]=some (.bl true):=by
 obtain⟨T,i,p,r⟩:=jay o h (by omega);have k:Vk (.int 10) (.int 9)=some (.int 1000000000):=rfl;have l:=jV W;have m:=y4 W;have dd:qK (.int g) (.int 1000000000)=some (.int (g / 1000000000)):=yI (by omega) (by omega);have e:yA (.int (g / 1000000000)) (.int 400)=some (.int (g / 1000000000 % 400)):=jK (by omega);have n:=jaM (1+g / 1000000000 % 400);have j:=jjg h (by omega) r p (1+g / 1000000000 % 400);generalize g / 1000000000 % 400=q at e n j;cases j with
 | good d a b c al cl =>
  have s:vn [fz d,fz d]=some (.bl true):=al;have f:fz (fz d)=fz d:=jbd _ (jbS d);have t:YQ .non .non=some (.bl true):=rfl;have u:kW (.lst true [fz d]) (.int 0)=some (fz d):=rfl;generalize W.map D.str=L at *;simp[kl,jt,qo,k,dd,e,l,m,c,jaF,i,a,b,cl,t,u,s,f,jbS]
 | bad b c =>
  generalize W.map D.str=L at *;simp[kl,jt,qo,k,dd,e,l,m,c,jaF,i,b,n,fz,frz]
inductive Item where
 | nm (w:List Nat) | nu (n:Int)
noncomputable def Item.enc:Item->D
 | .nm w=>.str w
 | .nu n=>.int n
noncomputable def Item.wd:Item->List Nat
 | .nm w=>w
 | .nu n=>zo n.toNat
inductive Itm:Item->Prop where
 | nm {w:List Nat}(h:NmK w):Itm (.nm w)
 | nu {n:Int}(h1:1<=n) (h2:n<=1000000000000):Itm (.nu n)
theorem Itm.wd{x:Item}(h:Itm x):Wd x.wd/\x.wd.length<=13:=by
 cases h with
 | @nm w h =>
  have:=h.l1;have:=h.l8;exact⟨⟨λz=>by rw[show(Item.nm w).wd=w from rfl] at z;rw[z] at h;have:=h.l1;simp at this,λc a=>by have:=h.rng c a;omega,by show w.length<=14;omega⟩,by show w.length<=13;omega⟩
 | @nu n d e =>
  have b:(zo n.toNat).length<=13:=jdJ (by decide) (by omega);exact⟨⟨jf6 _,λc a=>by have:=ja4 _ c a;omega,by show(zo n.toNat).length<=14;omega⟩,b⟩
theorem Itm.str{x:Item}(h:Itm x):jeN [x.enc]=some (.str x.wd):=by
 cases h with
 | nm h=>rfl
 | nu b a=>exact jlb (by omega) (Int.lt_of_le_of_lt a (by decide))
theorem Itm.atom{x:Item}(h:Itm x):frz x.enc=true/\vf x.enc=true:=by cases h<;>exact⟨rfl,rfl⟩
theorem jlk:∀ w∈KW,1<=w.length/\w.length<=8/\∀ c∈w,97<=c/\c<=122:=by decide
theorem xY{w:List Nat}(h:w∈KW):Itm (.nm w):=by
 obtain⟨a,b,c⟩:=jlk w h;exact .nm ⟨a,b,c⟩
theorem jaK{x:Item}(h:Itm x):∀ y∈[x],Itm y:=λy a=>by rw[N2.mp a];exact h
theorem YG{x:Item}{xs:List Item}(h:Itm x)(t:∀ y∈xs,Itm y):∀ y∈x::xs,Itm y:=λy a=>by
 rcases M9.mp a with rfl | a
 ·exact h
 ·exact t y a
noncomputable abbrev L2':List (List Nat):=[[112,111,116],[108,101,110,100]]
theorem jkU:∀ w∈L7,w∈KW:=by decide
theorem jkq:∀ w∈L2',w∈KW:=by decide
theorem wm(ws:List (List Nat)):(ws.map Item.nm).map Item.enc=ws.map D.str:=by rw[U4];rfl
theorem jba{n a b c cell:Int}(hn:0<=n)(Q:0<=a)(E:0<=b)(N:0<=c)(d:wI cell=true):∃ xs:List Item,jO [.int n,.int a,.int b,.int c,.int cell]=some (.lst true (xs.map Item.enc))/\(∀ x∈xs,Itm x)/\1<=xs.length/\xs.length<=7:=by
 obtain⟨u,f,m⟩:=uA Q;obtain⟨v,j,O⟩:=uA E;have p3:Vk (.int 10) (.int 12)=some (.int 1000000000000):=rfl;obtain⟨x1,p,P,q⟩:=zA (n:=b) (g:=1000000000000) E (by decide) (by decide);obtain⟨R,F,S,G⟩:=zA (n:=c) (g:=1000000000000) N (by decide) (by decide);obtain⟨T,H,U,V⟩:=zA (n:=b) (g:=10) E (by decide) (by decide);obtain⟨W,I,X,Y⟩:=zA (n:=c) (g:=9) N (by decide) (by decide);by_cases J:n % 15 < 7
 ·have k:=JC (o:=true) (l:=L7) (i:=n % 15) (by omega) (by show n % 15 < 7;omega);have r:L7.getD (n % 15).toNat []∈L7:=QD.getD_mem (by show _ < 7;omega);generalize L7.getD (n % 15).toNat []=kw at k r;simp only[L9,List.map_nil] at k;refine⟨[.nm kw,.nm u],?_,YG (xY (jkU kw r)) (jaK (.nm m)),by show 1<=2;decide,by show 2<=7;decide⟩;simp(disch:=omega) [jO,jt,j0,jK,f,j,J,k,jq,Item.enc]
 by_cases K:n % 15=7
 ·refine⟨[.nm [99,108,97,105,109],.nm u,.nu x1,.nu R],?_,YG (xY (by decide)) (YG (.nm m) (YG (.nu P q) (jaK (.nu S G)))),by show 1<=4;decide,by show 4<=7;decide⟩;simp(disch:=omega) [jO,jt,j0,jK,f,j,K,p3,p,F,jq,Item.enc]
 by_cases s:n % 15 < 10
 ·have k:=JC (o:=true) (l:=L2') (i:=n % 15 - 8) (by omega) (by show n % 15 - 8 < 2;omega);have r:L2'.getD (n % 15 - 8).toNat []∈L2':=QD.getD_mem (by show _ < 2;omega);generalize L2'.getD (n % 15 - 8).toNat []=kw at k r;simp only[L9,List.map_nil] at k;refine⟨[.nm kw,.nm u,.nu x1],?_,YG (xY (jkq kw r)) (YG (.nm m) (jaK (.nu P q))),by show 1<=3;decide,by show 3<=7;decide⟩;simp(disch:=omega) [jO,jt,j0,jK,f,j,J,K,s,p3,p,k,jq,Item.enc]
 by_cases t:n % 15=10
 ·refine⟨[.nm [112,97,114,116],.nm u,.nu T],?_,YG (xY (by decide)) (YG (.nm m) (jaK (.nu U (by omega)))),by show 1<=3;decide,by show 3<=7;decide⟩;simp(disch:=omega) [jO,jt,j0,jK,f,j,t,H,jq,Item.enc]
 by_cases z:n % 15=11
 ·refine⟨[.nm [108,111,111,107],.nm u,.nu W,.nm v],?_,YG (xY (by decide)) (YG (.nm m) (YG (.nu X (by omega)) (jaK (.nm O)))),by show 1<=4;decide,by show 4<=7;decide⟩;simp(disch:=omega) [jO,jt,j0,jK,f,j,z,I,jq,Item.enc]
 by_cases A:n % 15=12
 ·refine⟨[.nm [103,117,97,114,100],.nm u,.nm v],?_,YG (xY (by decide)) (YG (.nm m) (jaK (.nm O))),by show 1<=3;decide,by show 3<=7;decide⟩;simp(disch:=omega) [jO,jt,j0,jK,f,j,A,jq,Item.enc]
 by_cases B:n % 15=13
 ·obtain⟨C,D,Z,L⟩:=uS d (many:=(1+n / 15 % 6).toNat) (by omega);rw[show(((1+n / 15 % 6).toNat:Nat):Int)=1+n / 15 % 6 by omega] at D;refine⟨.nm jhs::C.map Item.nm,?_,YG (xY (by decide)) (λy M=>by obtain⟨w,h,rfl⟩:=N0.mp M;exact .nm (L w h)),by simp,by simp;omega⟩;have e:=YZ (o:=true) (o':=true) (a:=[jhs]) (b:=C) (by simp;omega);rw[L9,wm];simp only[L9,List.map_nil,List.cons_append,X7] at e;simp(disch:=omega) [jO,jt,j0,jK,yI,f,j,B,D,e,jq,Item.enc]
 ·obtain⟨C,D,Z,L⟩:=uS d (many:=(2+n / 15 % 5).toNat) (by omega);rw[show(((2+n / 15 % 5).toNat:Nat):Int)=2+n / 15 % 5 by omega] at D;refine⟨.nm Q4::C.map Item.nm,?_,YG (xY (by decide)) (λy M=>by obtain⟨w,h,rfl⟩:=N0.mp M;exact .nm (L w h)),by simp,by simp;omega⟩;have e:=YZ (o:=true) (o':=true) (a:=[Q4]) (b:=C) (by simp;omega);rw[L9,wm];simp only[L9,List.map_nil,List.cons_append,X7] at e;simp(disch:=omega) [jO,jt,j0,jK,yI,f,j,J,K,s,t,z,A,B,D,e,jq,Item.enc]
theorem jcV{ns:List Int}(f:∀ x∈ns,Builtin.Int.intBits x<=2 ^ 20){k:Int}(Z:0<=k){o2 o3 o4 o5 o6 o7 o8:Option D}:∃ r2 r3 r4 r5 r6 r7 r8,zB [some (.lst false (ns.map D.int)),some (.int k),o2,o3,o4,o5,o6,o7,o8]=some (.nx [some (.lst false (ns.map D.int)),some (.int k),r2,r3,r4,r5,r6,r7,r8]):=by
 obtain⟨I,e0,b0⟩:=KN ns f Z;obtain⟨J,e1,b1⟩:=KN ns f (k:=k+1) (by omega);obtain⟨K,e2,b2⟩:=KN ns f (k:=k+2) (by omega);obtain⟨i,e3,q⟩:=KN ns f (k:=k+3) (by omega);obtain⟨j,e4,L⟩:=KN ns f (k:=k+4) (by omega);have M:=kz (k:=1) b0 (by decide) (by decide);have N:=kz (k:=2) b1 (by decide) (by decide);have O:=kz (k:=3) b2 (by decide) (by decide);have P:=kz (k:=4) q (by decide) (by decide);have Q:=kz (k:=5) L (by decide) (by decide);have R:=kz (k:=6) L (by decide) (by decide);have S:=kz (k:=7) q (by decide) (by decide);have T:=wC I 1;have U:=wC J 2;have V:=wC K 3;have W:=wC i 4;have X:=wC j 5;have n5:=wC j 6;have Y:=wC i 7;generalize mx I 1=n at M T;generalize mx J 2=p1 at N U;generalize mx K 3=p2' at O V;generalize mx i 4=p3 at P W;generalize mx j 5=g at Q X;generalize mx j 6=bd at R n5;generalize mx i 7=nn at S Y;obtain⟨e,ef,m,x1,x7⟩:=jba (n:=n) (a:=p1) (b:=p2') (c:=p3) (cell:=i) T U V W q;have hc:vQ (jB [] 0) qT (pCB jeN (jb (pV 0) pN)) (e.map Item.enc) [none]=some ((e.map Item.wd).map D.str):=by
  have h1:=z9 (G:=jB [] 0) (p:=pCB jeN (jb (pV 0) pN)) (xs:=e.map Item.enc) (l:=e) (en:=Item.enc) (out:=λx=>D.str x.wd) rfl (λρ=>∃ o,ρ=[o]) (by
   rintro x r ρ ⟨o,rfl⟩;have:=(m x r).str;exact⟨[some x.enc],rfl,by simp[this],_,rfl⟩) (ρ:=[none]) ⟨none,rfl⟩
  rw[U4];exact h1
 have hW:∀ v∈e.map Item.wd,Wd v/\v.length<=13:=by
  intro v hv;obtain⟨x,h,rfl⟩:=N0.mp hv;exact(m x h).wd
 obtain⟨s,es,t,u⟩:=jcN hW (by rw[L4];exact x1) (by rw[L4];exact x7) (way:=bd % 8) (at_:=bd / 8 % 1000) (n:=nn) (by omega) (by omega) (by omega) Y;have eh:=jdl t u X;have w:frzs (e.map Item.enc)=true:=Vs λd hd=>by obtain⟨x,h,rfl⟩:=N0.mp hd;exact(m x h).atom.1
 have y:yE (e.map Item.enc)=true:=by rw[ke];exact List.all_eq_true.mpr λd hd=>by obtain⟨x,h,rfl⟩:=N0.mp hd;exact(m x h).atom.2
 have z:lim (e.map Item.enc).length=true:=jq (by rw[L4];omega);have A:=y4 (e.map Item.wd);have B:=Vr (e.map Item.wd);have C:=y4 s;have F:=Vr s;have fi:fzs (ns.map D.int)=ns.map D.int:=je4 λd hd=>by obtain⟨x,_,rfl⟩:=N0.mp hd;rfl
 have fr:frzs (ns.map D.int)=true:=Vs λd hd=>by obtain⟨x,_,rfl⟩:=N0.mp hd;rfl
 have H:∀ ρ,y6 [none] ρ=[none]:=λ_=>rfl;generalize ns.map D.int=NS,s.map D.str=L2 at *;generalize(e.map Item.wd).map D.str=L1 at *;generalize e.map Item.enc=E at *;refine⟨some (.int n),some (.int p1),some (.int p2'),some (.int p3),some (.int g),some (.int bd),some (.lst true L2),?_⟩;simp(disch:=omega) [zB,fi,fr,e0,e1,e2,e3,e4,M,N,O,P,Q,R,S,ef,w,y,z,H,hc,A,B,jK,yI,es,C,F,eh]
theorem jdP(ns:List Int)(z:ns.length<=63)(p:∀ x∈ns,Builtin.Int.intBits x<=2 ^ 20):jax [.lst false (ns.map D.int)]=some (.bl true):=by
 have o:uU [.int 0,.int (max 1 (ns.length:Int)),.int 5]=some (jfW 0 5 (Ks 0 (max 1 (ns.length:Int)) 5)):=by
  show(bif jg0 0 (max 1 (ns.length:Int)) 5 then _ else none)=_;have:jg0 0 (max 1 (ns.length:Int)) 5=true:=by
   unfold jg0;simp only[M6,decide_eq_true_eq];omega
  rw[this];rfl
 obtain⟨A,e,n,b,c,d,g,h,l,m,rfl⟩:=wx (G:=jB [] 1) (f:=zB) (xs:=jfW 0 5 (Ks 0 (max 1 (ns.length:Int)) 5)) (λi ρ=>∃ n b c d g h l m,ρ=[some (.lst false (ns.map D.int)),n,b,c,d,g,h,l,m]) (by
  rintro i x ρ a ⟨n,b,c,d,g,h,l,m,rfl⟩;unfold jfW at a;rw[List.getElem?_map] at a;cases hq:(List.range (Ks 0 (max 1 (ns.length:Int)) 5))[i]? with
  | none=>rw[hq] at a;cases a
  | some j =>
   rw[hq] at a;cases a;obtain⟨q,r,s,t,u,v,w,y⟩:=jcV (ns:=ns) p (k:=0+(j:Int)*5) (by omega) (o2:=b) (o3:=c) (o4:=d) (o5:=g) (o6:=h) (o7:=l) (o8:=m);exact⟨_,_,rfl,.inl y,some (.int (0+(j:Int)*5)),q,r,s,t,u,v,w,rfl⟩) (ρ:=[some (.lst false (ns.map D.int)),none,none,none,none,none,none,none,none]) ⟨none,none,none,none,none,none,none,none,rfl⟩
 rw[show max 1 (ns.length:Int)=if 1 < (ns.length:Int) then(ns.length:Int) else 1 by split<;>omega] at o e;simp[jax,jt,jgS,o,e]
end K04
set_option maxHeartbeats 0
namespace K04
open PySem L2 QD QX
theorem all_mk{l:PySem.W.OpenLaw}{w:World}{K:PySem.W.Frag}{h:Heap}{mg:Str->Option Value}{fa:Addr}(X:K.In h)(G:h.Ns mainGlobals mg)(hfa:mg "law" = some (.ref fa))
  {a_C0 x_DealError x_Unfinished x_Misplaced x_NoName x_Twice x_TooMany x_Unguarded:Addr}
  {nm_C0 q_C0:Str}{N_C0:Addr}{bs_C0 bm_C0:List Value}{sn_C0:List Str}{sub_C0:List Value}{ab_C0:Bool}{col_C0:Option Bool}{dd_C0:Option Addr}{k0_C0 k1_C0 k2_C0 k3_C0 k5_C0:Option Value}{nm_D q_D:Str}{N_D:Addr}{bs_D bm_D:List Value}{sn_D:List Str}{sub_D:List Value}{ab_D:Bool}{col_D:Option Bool}{dd_D:Option Addr}{k0_D k1_D k2_D k3_D k5_D:Option Value}{wg:Option Addr}{xi:ClassData}{wE:Array (Option Value)}{zU:Option Addr}{zF:ClassData}{zg:Array (Option Value)}{wt:Option Addr}{x5:ClassData}{xL:Array (Option Value)}{jbM:Option Addr}{ja8:ClassData}{jcf:Array (Option Value)}{jdz:Option Addr}{jdL:ClassData}{jdR:Array (Option Value)}{jaT:Option Addr}{jaS:ClassData}{jat:Array (Option Value)}{xA:Option Addr}{wD:ClassData}{xP:Array (Option Value)}
  {jhd:Addr}{jhB jjm:Option Addr}{jhZ:Array (Option Value)}{jit ji8 jif jh6 jeK jhF:Value}
  {jh b_NAME_COUNTS_0 b_NAME_COUNTS_1:Addr}
  {NAME_COUNTS_ep:Nat}{NAME_COUNTS_k0 NAME_COUNTS_k1:Tok}
  {b_NAME_COUNTS_0_n:Nat}{b_NAME_COUNTS_0_s:Array (Option Value)}{b_NAME_COUNTS_0_t0 b_NAME_COUNTS_0_t1:Tok}
  {b_NAME_COUNTS_1_n:Nat}{b_NAME_COUNTS_1_s:Array (Option Value)}{b_NAME_COUNTS_1_t0 b_NAME_COUNTS_1_t1:Tok}
  {jy b_FORMS_0 b_FORMS_1 b_FORMS_2 b_FORMS_3 b_FORMS_4 b_FORMS_5 b_FORMS_6 b_FORMS_7 b_FORMS_8 b_FORMS_9 b_FORMS_10 b_FORMS_11 b_FORMS_12:Addr}
  {FORMS_ep:Nat}{FORMS_k0 FORMS_k1 FORMS_k2 FORMS_k3 FORMS_k4 FORMS_k5 FORMS_k6 FORMS_k7 FORMS_k8 FORMS_k9 FORMS_k10 FORMS_k11 FORMS_k12:Tok}
  {b_FORMS_0_n:Nat}{b_FORMS_0_s:Array (Option Value)}{b_FORMS_0_t0:Tok}
  {b_FORMS_1_n:Nat}{b_FORMS_1_s:Array (Option Value)}{b_FORMS_1_t0 b_FORMS_1_t1 b_FORMS_1_t2:Tok}
  {b_FORMS_2_n:Nat}{b_FORMS_2_s:Array (Option Value)}{b_FORMS_2_t0 b_FORMS_2_t1:Tok}
  {b_FORMS_3_n:Nat}{b_FORMS_3_s:Array (Option Value)}{b_FORMS_3_t0:Tok}
  {b_FORMS_4_n:Nat}{b_FORMS_4_s:Array (Option Value)}{b_FORMS_4_t0 b_FORMS_4_t1:Tok}
  {b_FORMS_5_n:Nat}{b_FORMS_5_s:Array (Option Value)}{b_FORMS_5_t0:Tok}
  {b_FORMS_6_n:Nat}{b_FORMS_6_s:Array (Option Value)}{b_FORMS_6_t0:Tok}
  {b_FORMS_7_n:Nat}{b_FORMS_7_s:Array (Option Value)}{b_FORMS_7_t0:Tok}
  {b_FORMS_8_n:Nat}{b_FORMS_8_s:Array (Option Value)}{b_FORMS_8_t0 b_FORMS_8_t1:Tok}
  {b_FORMS_9_n:Nat}{b_FORMS_9_s:Array (Option Value)}{b_FORMS_9_t0:Tok}
  {b_FORMS_10_n:Nat}{b_FORMS_10_s:Array (Option Value)}{b_FORMS_10_t0:Tok}
  {b_FORMS_11_n:Nat}{b_FORMS_11_s:Array (Option Value)}{b_FORMS_11_t0 b_FORMS_11_t1 b_FORMS_11_t2:Tok}
  {b_FORMS_12_n:Nat}{b_FORMS_12_s:Array (Option Value)}{b_FORMS_12_t0 b_FORMS_12_t1:Tok}
  {t_LONGEST_NAME:Tok}
  {jl:Addr}
  {wn:Nat}{xF:Array (Option Value)}{Y9 Vc Y4 Y6 Vi Vh Ve YX Y3 Va J1 Yh Yb Yi Yg J5 J0 J7 J9 J6:Tok}
  {t_LETTERS:Tok}
  {t_LONGEST_NUMBER:Tok}
  {t_FIGURES:Tok}
  {jk:Addr}
  {GREATEST_ep:Nat}{GREATEST_k0 GREATEST_k1 GREATEST_k2 GREATEST_k3 GREATEST_k4:Tok}
  {GREATEST_u0:Tok}
  {GREATEST_u1:Tok}
  {GREATEST_u2:Tok}
  {GREATEST_u3:Tok}
  {GREATEST_u4:Tok}
  (c1_C0:PySem.W.nsIn K mainGlobals "BadRow" = some (some (.ref a_C0))) (c2_C0:K.lookup a_C0=some (excClassObj nm_C0 q_C0 a_C0 N_C0 bs_C0 bm_C0 true sn_C0 sub_C0 ab_C0 col_C0 dd_C0 k0_C0 k1_C0 k2_C0 k3_C0 k5_C0 "ValueError.__new__")) (c8_C0:V8 bm_C0=true) (c3_C0:PySem.W.findIn K (.ref a_C0) "__getattribute__" = some (some (.builtin "BaseException.__getattribute__"))) (c4_C0:PySem.W.findIn K (.ref a_C0) "__getattr__" = some none) (c5_C0:PySem.W.findIn K (.ref a_C0) "__setattr__" = some (some (.builtin "object.__setattr__"))) (c6_C0:PySem.W.findIn K (.ref a_C0) "__class__" = some (some (.builtin "object.__class__"))) (c7_C0:PySem.W.mroIn K a_C0 (.type "object")=some true) (c9_C0:PySem.W.keepIn K (.ref a_C0)=true) (c10_C0:PySem.W.findIn K (.ref a_C0) "place" = some none) (u_BadRow:PySem.W.subIn K (.ref a_C0) (.ref a_C0)=some true) (y_DealError:PySem.W.nsIn K mainGlobals "DealError" = some (some (.ref x_DealError))) (t_DealError:K.lookup x_DealError=some ⟨.type "type",wg,.cls xi,wE⟩) (u_DealError:PySem.W.subIn K (.ref a_C0) (.ref x_DealError)=some true) (y_Unfinished:PySem.W.nsIn K mainGlobals "Unfinished" = some (some (.ref x_Unfinished))) (t_Unfinished:K.lookup x_Unfinished=some ⟨.type "type",zU,.cls zF,zg⟩) (u_Unfinished:PySem.W.subIn K (.ref a_C0) (.ref x_Unfinished)=some false) (y_Misplaced:PySem.W.nsIn K mainGlobals "Misplaced" = some (some (.ref x_Misplaced))) (t_Misplaced:K.lookup x_Misplaced=some ⟨.type "type",wt,.cls x5,xL⟩) (u_Misplaced:PySem.W.subIn K (.ref a_C0) (.ref x_Misplaced)=some false) (y_NoName:PySem.W.nsIn K mainGlobals "NoName" = some (some (.ref x_NoName))) (t_NoName:K.lookup x_NoName=some ⟨.type "type",jbM,.cls ja8,jcf⟩) (u_NoName:PySem.W.subIn K (.ref a_C0) (.ref x_NoName)=some false) (y_Twice:PySem.W.nsIn K mainGlobals "Twice" = some (some (.ref x_Twice))) (t_Twice:K.lookup x_Twice=some ⟨.type "type",jdz,.cls jdL,jdR⟩) (u_Twice:PySem.W.subIn K (.ref a_C0) (.ref x_Twice)=some false) (y_TooMany:PySem.W.nsIn K mainGlobals "TooMany" = some (some (.ref x_TooMany))) (t_TooMany:K.lookup x_TooMany=some ⟨.type "type",jaT,.cls jaS,jat⟩) (u_TooMany:PySem.W.subIn K (.ref a_C0) (.ref x_TooMany)=some false) (y_Unguarded:PySem.W.nsIn K mainGlobals "Unguarded" = some (some (.ref x_Unguarded))) (t_Unguarded:K.lookup x_Unguarded=some ⟨.type "type",xA,.cls wD,xP⟩) (u_Unguarded:PySem.W.subIn K (.ref a_C0) (.ref x_Unguarded)=some false) (d2_D:K.lookup x_DealError=some (excClassObj nm_D q_D x_DealError N_D bs_D bm_D true sn_D sub_D ab_D col_D dd_D k0_D k1_D k2_D k3_D k5_D "ValueError.__new__")) (d8_D:V8 bm_D=true) (d3_D:PySem.W.findIn K (.ref x_DealError) "__getattribute__" = some (some (.builtin "BaseException.__getattribute__"))) (d4_D:PySem.W.findIn K (.ref x_DealError) "__getattr__" = some none) (d5_D:PySem.W.findIn K (.ref x_DealError) "__setattr__" = some (some (.builtin "object.__setattr__"))) (d6_D:PySem.W.findIn K (.ref x_DealError) "__class__" = some (some (.builtin "object.__class__"))) (d7_D:PySem.W.mroIn K x_DealError (.type "object")=some true) (u_V:PySem.W.subIn K (.ref a_C0) (.type "ValueError")=some true)
  (jcA:jlz K a_C0 "__init__" "DealError.__init__" jeM ["self","words","place"])
  (Vw:yY K mg "words_in" JM JX)
  (VD:yY K mg "has_only" JH JJ)
  (kP:yY K mg "kinds_behind" vq vC)
  (qH:yY K mg "_law_cell_at" vP vY)
  (YK:yY K mg "_law_mixed" qG qm)
  (qB:yY K mg "_law_sign_by" vN vX)
  (kR:yY K mg "_law_keywords" vv vz)
  (qJ:yY K mg "_law_letters" v9 vT)
  (Jh:yY K mg "_law_number" kK kA)
  (VA:yY K mg "_law_from" JL JW)
  (Jr:yY K mg "_law_spaced" kI ko)
  (vK:yY K mg "_law_is_refused" yQ yP)
  (YF:yY K mg "_law_shape" qN qP)
  (KO:yY K mg "is_name" Vf Y5)
  (YL:yY K mg "number_in" qu qA)
  (qw:yY K mg "_law_is_name" v5 vO)
  (qR:yY K mg "_law_name_by" vR vM)
  (Jx:yY K mg "_law_odd_by" kL kE)
  (kU:yY K mg "_law_at_bound" vA vw)
  (VG:yY K mg "value_in" JK JR)
  (kT:yY K mg "_law_names_by" vD vo)
  (JE:yY K mg "_law_spoilt" kq kH)
  (Jn:yY K mg "_law_judged" kF kt)
  (VI:yY K mg "row_told" JY JQ)
  (Jm:yY K mg "_law_row_by" kx kG)
  (zw:yY K mg "row_of" Kl Kh)
  (VF:yY K mg "_law_same" JV qf)
  (Yq:yY K mg "_law_holds" qL qv)
  (xp:PySem.W.nsIn K mainGlobals "law" = some (some (.ref jhd))) (jbp:K.lookup jhd=some ⟨jit,jhB,.func (PySem.W.fnOf "law" "law" (ql wA) (y9 wA) (jj wA) .none ji8 jif jh6 jjm jeK jhF),jhZ⟩) (jcH:PySem.W.codeIn K jeK "law" = true) (jbe:PySem.W.keepIn K (.ref jhd)=true)
  (g1_NAME_COUNTS:PySem.W.nsIn K mainGlobals "NAME_COUNTS" = some (some (.ref jh)))
  (g2_NAME_COUNTS:K.lookup jh=some { cls:=.type "dict",data:=.dict #[⟨PyData.keyHash w.params "eat",.str "eat" NAME_COUNTS_k0,.ref b_NAME_COUNTS_0⟩,⟨PyData.keyHash w.params "share",.str "share" NAME_COUNTS_k1,.ref b_NAME_COUNTS_1⟩] NAME_COUNTS_ep }) (g3_NAME_COUNTS:(jh==sysModules)=false)
  (vk:K.lookup b_NAME_COUNTS_0=some ⟨.type "tuple",none,.seq #[.int 1 b_NAME_COUNTS_0_t0,.int 6 b_NAME_COUNTS_0_t1] b_NAME_COUNTS_0_n,b_NAME_COUNTS_0_s⟩)
  (vj:K.lookup b_NAME_COUNTS_1=some ⟨.type "tuple",none,.seq #[.int 2 b_NAME_COUNTS_1_t0,.int 6 b_NAME_COUNTS_1_t1] b_NAME_COUNTS_1_n,b_NAME_COUNTS_1_s⟩)
  (g1_FORMS:PySem.W.nsIn K mainGlobals "FORMS" = some (some (.ref jy)))
  (g2_FORMS:K.lookup jy=some { cls:=.type "dict",data:=.dict #[⟨PyData.keyHash w.params "pool",.str "pool" FORMS_k0,.ref b_FORMS_0⟩,⟨PyData.keyHash w.params "claim",.str "claim" FORMS_k1,.ref b_FORMS_1⟩,⟨PyData.keyHash w.params "pot",.str "pot" FORMS_k2,.ref b_FORMS_2⟩,⟨PyData.keyHash w.params "order",.str "order" FORMS_k3,.ref b_FORMS_3⟩,⟨PyData.keyHash w.params "part",.str "part" FORMS_k4,.ref b_FORMS_4⟩,⟨PyData.keyHash w.params "pay",.str "pay" FORMS_k5,.ref b_FORMS_5⟩,⟨PyData.keyHash w.params "repay",.str "repay" FORMS_k6,.ref b_FORMS_6⟩,⟨PyData.keyHash w.params "fill",.str "fill" FORMS_k7,.ref b_FORMS_7⟩,⟨PyData.keyHash w.params "lend",.str "lend" FORMS_k8,.ref b_FORMS_8⟩,⟨PyData.keyHash w.params "back",.str "back" FORMS_k9,.ref b_FORMS_9⟩,⟨PyData.keyHash w.params "rest",.str "rest" FORMS_k10,.ref b_FORMS_10⟩,⟨PyData.keyHash w.params "look",.str "look" FORMS_k11,.ref b_FORMS_11⟩,⟨PyData.keyHash w.params "guard",.str "guard" FORMS_k12,.ref b_FORMS_12⟩] FORMS_ep }) (g3_FORMS:(jy==sysModules)=false)
  (Ym:K.lookup b_FORMS_0=some ⟨.type "tuple",none,.seq #[.str "name" b_FORMS_0_t0] b_FORMS_0_n,b_FORMS_0_s⟩)
  (YJ:K.lookup b_FORMS_1=some ⟨.type "tuple",none,.seq #[.str "name" b_FORMS_1_t0,.str "coins" b_FORMS_1_t1,.str "coins" b_FORMS_1_t2] b_FORMS_1_n,b_FORMS_1_s⟩)
  (YB:K.lookup b_FORMS_2=some ⟨.type "tuple",none,.seq #[.str "name" b_FORMS_2_t0,.str "coins" b_FORMS_2_t1] b_FORMS_2_n,b_FORMS_2_s⟩)
  (YO:K.lookup b_FORMS_3=some ⟨.type "tuple",none,.seq #[.str "name" b_FORMS_3_t0] b_FORMS_3_n,b_FORMS_3_s⟩)
  (YN:K.lookup b_FORMS_4=some ⟨.type "tuple",none,.seq #[.str "name" b_FORMS_4_t0,.str "tenths" b_FORMS_4_t1] b_FORMS_4_n,b_FORMS_4_s⟩)
  (YT:K.lookup b_FORMS_5=some ⟨.type "tuple",none,.seq #[.str "name" b_FORMS_5_t0] b_FORMS_5_n,b_FORMS_5_s⟩)
  (Yy:K.lookup b_FORMS_6=some ⟨.type "tuple",none,.seq #[.str "name" b_FORMS_6_t0] b_FORMS_6_n,b_FORMS_6_s⟩)
  (YE:K.lookup b_FORMS_7=some ⟨.type "tuple",none,.seq #[.str "name" b_FORMS_7_t0] b_FORMS_7_n,b_FORMS_7_s⟩)
  (YA:K.lookup b_FORMS_8=some ⟨.type "tuple",none,.seq #[.str "name" b_FORMS_8_t0,.str "coins" b_FORMS_8_t1] b_FORMS_8_n,b_FORMS_8_s⟩)
  (Yp:K.lookup b_FORMS_9=some ⟨.type "tuple",none,.seq #[.str "name" b_FORMS_9_t0] b_FORMS_9_n,b_FORMS_9_s⟩)
  (Je:K.lookup b_FORMS_10=some ⟨.type "tuple",none,.seq #[.str "name" b_FORMS_10_t0] b_FORMS_10_n,b_FORMS_10_s⟩)
  (Jt:K.lookup b_FORMS_11=some ⟨.type "tuple",none,.seq #[.str "name" b_FORMS_11_t0,.str "days" b_FORMS_11_t1,.str "name" b_FORMS_11_t2] b_FORMS_11_n,b_FORMS_11_s⟩)
  (Jw:K.lookup b_FORMS_12=some ⟨.type "tuple",none,.seq #[.str "name" b_FORMS_12_t0,.str "name" b_FORMS_12_t1] b_FORMS_12_n,b_FORMS_12_s⟩)
  (g1_LONGEST_NAME:PySem.W.nsIn K mainGlobals "LONGEST_NAME" = some (some (.int 8 t_LONGEST_NAME)))
  (g1_KEYWORDS:PySem.W.nsIn K mainGlobals "KEYWORDS" = some (some (.ref jl)))
  (Jy:K.lookup jl=some ⟨.type "tuple",none,.seq #[.str "pool" Y9,.str "claim" Vc,.str "pot" Y4,.str "eat" Y6,.str "order" Vi,.str "part" Vh,.str "pay" Ve,.str "share" YX,.str "repay" Y3,.str "fill" Va,.str "lend" J1,.str "back" Yh,.str "rest" Yb,.str "look" Yi,.str "guard" Yg,.str "debt" J5,.str "on" J0,.str "late" J7,.str "early" J9,.str "quit" J6] wn,xF⟩)
  (g1_LETTERS:PySem.W.nsIn K mainGlobals "LETTERS" = some (some (.str "abcdefghijklmnopqrstuvwxyz" t_LETTERS)))
  (g1_LONGEST_NUMBER:PySem.W.nsIn K mainGlobals "LONGEST_NUMBER" = some (some (.int 13 t_LONGEST_NUMBER)))
  (g1_FIGURES:PySem.W.nsIn K mainGlobals "FIGURES" = some (some (.str "0123456789" t_FIGURES)))
  (g1_GREATEST:PySem.W.nsIn K mainGlobals "GREATEST" = some (some (.ref jk)))
  (g2_GREATEST:K.lookup jk=some { cls:=.type "dict",data:=.dict #[⟨PyData.keyHash w.params "coins",.str "coins" GREATEST_k0,.int 1000000000000 GREATEST_u0⟩,⟨PyData.keyHash w.params "tenths",.str "tenths" GREATEST_k1,.int 10 GREATEST_u1⟩,⟨PyData.keyHash w.params "days",.str "days" GREATEST_k2,.int 9 GREATEST_u2⟩,⟨PyData.keyHash w.params "day",.str "day" GREATEST_k3,.int 60 GREATEST_u3⟩,⟨PyData.keyHash w.params "by",.str "by" GREATEST_k4,.int 30 GREATEST_u4⟩] GREATEST_ep }) (g3_GREATEST:(jk==sysModules)=false)
  (kC:PySem.W.nsIn K mainGlobals "ValueError" = some none)
  (jhk:PySem.W.nsIn K mainGlobals "all" = some none)
  (jbr:PySem.W.nsIn K mainGlobals "bool" = some none)
  (jhi:PySem.W.nsIn K mainGlobals "int" = some none)
  (Js:PySem.W.nsIn K mainGlobals "isinstance" = some none)
  (jfD:PySem.W.nsIn K mainGlobals "len" = some none)
  (jbj:PySem.W.nsIn K mainGlobals "list" = some none)
  (jhb:PySem.W.nsIn K mainGlobals "max" = some none)
  (wS:PySem.W.nsIn K mainGlobals "range" = some none)
  (jf2:PySem.W.nsIn K mainGlobals "str" = some none)
  (uG:PySem.W.nsIn K mainGlobals "tuple" = some none)
  (jgU:PySem.W.nsIn K mainGlobals "zip" = some none)
  : ∃ fd:FuncData,(∀(s:Shared) (v:Value),BindsTo s fd ⟨[v],[]⟩ [("_law_script",v)])/\∀ base:Heap,K.In base->base.Ns mainGlobals mg->FnOk l.prog w K mg base CX0 10 fa fd ["_law_script"] (λvs H Q E=>∀ C:Addr,spP ⟨K,λ_=>C⟩ jax 1 vs H Q E):=by
 have e:=hfa.symm.trans (PySem.W.mg_of X G xp);cases e;obtain⟨jU,jfY,Mi⟩:=jcA;have XC0:XC K a_C0:=⟨jjv c2_C0 c8_C0,c3_C0,c4_C0,c5_C0,c6_C0,c7_C0,Qn c2_C0⟩;have T:Txt l.prog w K mg (λ_=>a_C0) jh b_NAME_COUNTS_0 b_NAME_COUNTS_1 jy b_FORMS_0 b_FORMS_1 b_FORMS_2 b_FORMS_3 b_FORMS_4 b_FORMS_5 b_FORMS_6 b_FORMS_7 b_FORMS_8 b_FORMS_9 b_FORMS_10 b_FORMS_11 b_FORMS_12 t_LONGEST_NAME jl t_LETTERS t_LONGEST_NUMBER t_FIGURES jk jU x_DealError x_Unfinished x_Misplaced x_NoName x_Twice x_TooMany x_Unguarded:=⟨PySem.W.mg_of X G g1_NAME_COUNTS,jgN (xs:=["eat","share"]) (ts:=[NAME_COUNTS_k0,NAME_COUNTS_k1]) (us:=[.ref b_NAME_COUNTS_0,.ref b_NAME_COUNTS_1]) (vs:=[.ref b_NAME_COUNTS_0,.ref b_NAME_COUNTS_1]) (by decide +kernel) g2_NAME_COUNTS g3_NAME_COUNTS rfl rfl (.cons rfl (.cons rfl .nil)) (by decide +kernel),(λcl Z H=>(.cons (O:=[]) (P:=[]) ((λcl Z H=>x9 (ns:=[1,6]) (ts:=[b_NAME_COUNTS_0_t0,b_NAME_COUNTS_0_t1]) vk rfl (by decide) cl Z H) cl Z H) (.cons (O:=[]) (P:=[]) ((λcl Z H=>x9 (ns:=[2,6]) (ts:=[b_NAME_COUNTS_1_t0,b_NAME_COUNTS_1_t1]) vj rfl (by decide) cl Z H) cl Z H) .empty))),PySem.W.mg_of X G g1_FORMS,jgN (xs:=["pool","claim","pot","order","part","pay","repay","fill","lend","back","rest","look","guard"]) (ts:=[FORMS_k0,FORMS_k1,FORMS_k2,FORMS_k3,FORMS_k4,FORMS_k5,FORMS_k6,FORMS_k7,FORMS_k8,FORMS_k9,FORMS_k10,FORMS_k11,FORMS_k12]) (us:=[.ref b_FORMS_0,.ref b_FORMS_1,.ref b_FORMS_2,.ref b_FORMS_3,.ref b_FORMS_4,.ref b_FORMS_5,.ref b_FORMS_6,.ref b_FORMS_7,.ref b_FORMS_8,.ref b_FORMS_9,.ref b_FORMS_10,.ref b_FORMS_11,.ref b_FORMS_12]) (vs:=[.ref b_FORMS_0,.ref b_FORMS_1,.ref b_FORMS_2,.ref b_FORMS_3,.ref b_FORMS_4,.ref b_FORMS_5,.ref b_FORMS_6,.ref b_FORMS_7,.ref b_FORMS_8,.ref b_FORMS_9,.ref b_FORMS_10,.ref b_FORMS_11,.ref b_FORMS_12]) (by decide +kernel) g2_FORMS g3_FORMS rfl rfl (.cons rfl (.cons rfl (.cons rfl (.cons rfl (.cons rfl (.cons rfl (.cons rfl (.cons rfl (.cons rfl (.cons rfl (.cons rfl (.cons rfl (.cons rfl .nil))))))))))))) (by decide +kernel),(λcl Z H=>(.cons (O:=[]) (P:=[]) ((λcl Z H=>yb (xs:=["name"]) (ts:=[b_FORMS_0_t0]) (ws:=[[110,97,109,101]]) (by decide +kernel) Ym rfl (by decide) cl Z H) cl Z H) (.cons (O:=[]) (P:=[]) ((λcl Z H=>yb (xs:=["name","coins","coins"]) (ts:=[b_FORMS_1_t0,b_FORMS_1_t1,b_FORMS_1_t2]) (ws:=[[110,97,109,101],[99,111,105,110,115],[99,111,105,110,115]]) (by decide +kernel) YJ rfl (by decide) cl Z H) cl Z H) (.cons (O:=[]) (P:=[]) ((λcl Z H=>yb (xs:=["name","coins"]) (ts:=[b_FORMS_2_t0,b_FORMS_2_t1]) (ws:=[[110,97,109,101],[99,111,105,110,115]]) (by decide +kernel) YB rfl (by decide) cl Z H) cl Z H) (.cons (O:=[]) (P:=[]) ((λcl Z H=>yb (xs:=["name"]) (ts:=[b_FORMS_3_t0]) (ws:=[[110,97,109,101]]) (by decide +kernel) YO rfl (by decide) cl Z H) cl Z H) (.cons (O:=[]) (P:=[]) ((λcl Z H=>yb (xs:=["name","tenths"]) (ts:=[b_FORMS_4_t0,b_FORMS_4_t1]) (ws:=[[110,97,109,101],[116,101,110,116,104,115]]) (by decide +kernel) YN rfl (by decide) cl Z H) cl Z H) (.cons (O:=[]) (P:=[]) ((λcl Z H=>yb (xs:=["name"]) (ts:=[b_FORMS_5_t0]) (ws:=[[110,97,109,101]]) (by decide +kernel) YT rfl (by decide) cl Z H) cl Z H) (.cons (O:=[]) (P:=[]) ((λcl Z H=>yb (xs:=["name"]) (ts:=[b_FORMS_6_t0]) (ws:=[[110,97,109,101]]) (by decide +kernel) Yy rfl (by decide) cl Z H) cl Z H) (.cons (O:=[]) (P:=[]) ((λcl Z H=>yb (xs:=["name"]) (ts:=[b_FORMS_7_t0]) (ws:=[[110,97,109,101]]) (by decide +kernel) YE rfl (by decide) cl Z H) cl Z H) (.cons (O:=[]) (P:=[]) ((λcl Z H=>yb (xs:=["name","coins"]) (ts:=[b_FORMS_8_t0,b_FORMS_8_t1]) (ws:=[[110,97,109,101],[99,111,105,110,115]]) (by decide +kernel) YA rfl (by decide) cl Z H) cl Z H) (.cons (O:=[]) (P:=[]) ((λcl Z H=>yb (xs:=["name"]) (ts:=[b_FORMS_9_t0]) (ws:=[[110,97,109,101]]) (by decide +kernel) Yp rfl (by decide) cl Z H) cl Z H) (.cons (O:=[]) (P:=[]) ((λcl Z H=>yb (xs:=["name"]) (ts:=[b_FORMS_10_t0]) (ws:=[[110,97,109,101]]) (by decide +kernel) Je rfl (by decide) cl Z H) cl Z H) (.cons (O:=[]) (P:=[]) ((λcl Z H=>yb (xs:=["name","days","name"]) (ts:=[b_FORMS_11_t0,b_FORMS_11_t1,b_FORMS_11_t2]) (ws:=[[110,97,109,101],[100,97,121,115],[110,97,109,101]]) (by decide +kernel) Jt rfl (by decide) cl Z H) cl Z H) (.cons (O:=[]) (P:=[]) ((λcl Z H=>yb (xs:=["name","name"]) (ts:=[b_FORMS_12_t0,b_FORMS_12_t1]) (ws:=[[110,97,109,101],[110,97,109,101]]) (by decide +kernel) Jw rfl (by decide) cl Z H) cl Z H) .empty)))))))))))))),PySem.W.mg_of X G g1_LONGEST_NAME,PySem.W.mg_of X G g1_KEYWORDS,(λcl Z H=>yb (xs:=["pool","claim","pot","eat","order","part","pay","share","repay","fill","lend","back","rest","look","guard","debt","on","late","early","quit"]) (ts:=[Y9,Vc,Y4,Y6,Vi,Vh,Ve,YX,Y3,Va,J1,Yh,Yb,Yi,Yg,J5,J0,J7,J9,J6]) (ws:=[[112,111,111,108],[99,108,97,105,109],[112,111,116],[101,97,116],[111,114,100,101,114],[112,97,114,116],[112,97,121],[115,104,97,114,101],[114,101,112,97,121],[102,105,108,108],[108,101,110,100],[98,97,99,107],[114,101,115,116],[108,111,111,107],[103,117,97,114,100],[100,101,98,116],[111,110],[108,97,116,101],[101,97,114,108,121],[113,117,105,116]]) (by decide +kernel) Jy rfl (by decide) cl Z H),PySem.W.mg_of X G g1_LETTERS,PySem.W.mg_of X G g1_LONGEST_NUMBER,PySem.W.mg_of X G g1_FIGURES,PySem.W.mg_of X G g1_GREATEST,jgN (xs:=["coins","tenths","days","day","by"]) (ts:=[GREATEST_k0,GREATEST_k1,GREATEST_k2,GREATEST_k3,GREATEST_k4]) (us:=[.int 1000000000000 GREATEST_u0,.int 10 GREATEST_u1,.int 9 GREATEST_u2,.int 60 GREATEST_u3,.int 30 GREATEST_u4]) (vs:=[.int 1000000000000,.int 10,.int 9,.int 60,.int 30]) (by decide +kernel) g2_GREATEST g3_GREATEST rfl rfl (.cons ⟨_,rfl⟩ (.cons ⟨_,rfl⟩ (.cons ⟨_,rfl⟩ (.cons ⟨_,rfl⟩ (.cons ⟨_,rfl⟩ .nil))))) (by decide +kernel),(λcl Z H=>(.cons (O:=[]) (P:=[]) .int_mk (.cons (O:=[]) (P:=[]) .int_mk (.cons (O:=[]) (P:=[]) .int_mk (.cons (O:=[]) (P:=[]) .int_mk (.cons (O:=[]) (P:=[]) .int_mk .empty)))))),PySem.W.mg_none_of X G kC,PySem.W.mg_none_of X G jhk,PySem.W.mg_none_of X G jbr,PySem.W.mg_none_of X G jhi,PySem.W.mg_none_of X G Js,PySem.W.mg_none_of X G jfD,PySem.W.mg_none_of X G jbj,PySem.W.mg_none_of X G jhb,PySem.W.mg_none_of X G wS,PySem.W.mg_none_of X G jf2,PySem.W.mg_none_of X G uG,PySem.W.mg_none_of X G jgU,PySem.W.mg_of X G y_DealError,PySem.W.mg_of X G y_Unfinished,PySem.W.mg_of X G y_Misplaced,PySem.W.mg_of X G c1_C0,PySem.W.mg_of X G y_NoName,PySem.W.mg_of X G y_Twice,PySem.W.mg_of X G y_TooMany,PySem.W.mg_of X G y_Unguarded,⟨⟨XC0,Mi.mt.at_,Mi.mt.fn,c10_C0,c9_C0⟩,jfY,Mi.bd,λbase=>jgC Mi.fn jfI λcdv A outer s H E=>zN (jdb (yS (pv 0) (yS (pv 1) Yc)) (PySem.W.mg_none_of X G kC)) (zk (jfh (pv 0) (pv 2)))⟩,⟨jjv d2_D d8_D,d3_D,d4_D,d5_D,d6_D,d7_D,Qn d2_D⟩,lt1 ⟨XC0,u_DealError⟩,lt1 ⟨XC0,c10_C0⟩,jdD XC0 (λcv r=>by cases r;exact⟨Qn t_DealError,u_DealError⟩),jdD XC0 (λcv r=>by cases r;exact⟨Qn t_Unfinished,u_Unfinished⟩),jdD XC0 (λcv r=>by cases r;exact⟨Qn t_Misplaced,u_Misplaced⟩),jdD XC0 (λcv r=>by cases r;exact⟨Qn c2_C0,u_BadRow⟩),jdD XC0 (λcv r=>by cases r;exact⟨Qn t_NoName,u_NoName⟩),jdD XC0 (λcv r=>by cases r;exact⟨Qn t_Twice,u_Twice⟩),jdD XC0 (λcv r=>by cases r;exact⟨Qn t_TooMany,u_TooMany⟩),jdD XC0 (λcv r=>by cases r;exact⟨Qn t_Unguarded,u_Unguarded⟩),jdD XC0 (λcv r=>by cases r;exact⟨jlG,u_V⟩)⟩;have F:Fun K "law" "law" wA _ _:=ww jbp jcH jbe;have jkO:yY K mg "law" wA jdC:=⟨_,_,F,PySem.W.mg_of X G xp,F.binds λ_ _ _ _ _ _ us hl=>match us,hl with | [_],_=>rfl⟩;have JT:=wU T Vw;have ki:=uv T VD;have vt:=KM T kP;have jL:=Qc T qH;have jR:=xH T YK;have qU:=Qk T qB;have jM:=KG T kR;have kb:=Qi T qJ;have yU:=zv T Jh;have ve:=wX T VA;have Jf:=zL T Jr;have vH:=VM T vK;have Yw:=wv T YF;have KR:=jaU T KO ki;have Yn:=wo T YL ki;have qQ:=Qh T qw jM;have ym:=Qp T qR jM kb;have ky:=zJ T Jx jM;have kN:=K0 T kU yU;have JS:=uc T VG KR Yn;have vB:=KJ T kT jR ym;have Jk:=zQ T JE kN ky qU;have Jc:=zf T Jn qQ yU Yw;have JP:=uF T VI JS;have Ju:=zx T Jm ve ym vB;have Kg:=jbt T zw vt JP JT;have qd:=wL T VF;have Yz:=wB T Yq vH Jc qd Jf Kg;have jk9:=jjD T jkO jL Yz jR Ju Jk;obtain⟨f',fd',F',G'⟩:=jk9;cases(PySem.W.mg_of X G xp).symm.trans F'.mgf;obtain⟨⟨oc,od,kV,doc,pm,an,cdv,ct,osl,rfl,_,_⟩,_⟩:=F'.fn;exact⟨_,λs v=>.of_eq rfl,λbase _ _=>(G' base).imp λvs H Q E h=>h a_C0⟩
theorem walk{l:PySem.W.OpenLaw}{q:Program}{loose:List Str}{XP:(Str->Option Value)->Heap->Prop}{YP:World->Heap->Prop}{d:DefRec}{K:Params->PySem.W.Frag}(hn:l.most=some 63)(hdf:d.params.defaults=[])
  (hY:∀(w:World) (h:Heap),YP w h->(K w.params).In h)
  (F:∀(w:World) (mg:Str->Option Value) (fa:Addr) (h:Heap),(K w.params).In h->h.Ns mainGlobals mg->mg d.name=some (.ref fa) ->
   ∃ fd:FuncData,(∀(s:Shared) (u:Value),BindsTo s fd ⟨[u],[]⟩ [("_law_script",u)])/\∀ base:Heap,(K w.params).In base->base.Ns mainGlobals mg->FnOk l.prog w (K w.params) mg base CX0 10 fa fd ["_law_script"] (λvs H Q E=>∀ C:Addr,spP ⟨K w.params,λ_=>C⟩ jax 1 vs H Q E)) :
  PySem.W.WalkO q loose XP YP l.row.toRowW d [] (λf vs=>PySem.call f vs) :=
 L2.walk_ofB (n:=63) (k:=10) (x:="_law_script") (CX:=λ_=>CX0) (sp:=λw=>(λvs H Q E=>∀ C:Addr,spP ⟨K w.params,λ_=>C⟩ jax 1 vs H Q E)) hn (by decide) hdf ⟨rfl,by decide,by decide⟩ hY F (λ_ H a ns hl hb _ hS=>λC=>jhY (jdP ns hl hb) hS) λ_ _ _ _ _ z=>z
end K04
namespace PySem.W.Fast
def tw18283704744644164658:=0
def tw11108676304422775364:=0
def tw3741527023752365367:=0
def tw1153924071923022569:=0
def tw18069576302432665106:=0
def tw3516271361926511926:=0
def tw11144527522642400859:=0
def tw6324670693125187510:=0
def tw17626267935206031878:=0
def tw1326131246734567674:=0
def tw440019205045701685:=0
def tw18441480598919088921:=0
def tw2016440095734426817:=0
def tw17817929807857308980:=0
def tw3547578295582235809:=0
def tw241838325231433465:=0
def tw14193877365722475165:=0
def tw1003613559201619375:=0
def tw4258867628085281425:=0
def tw9222937536533198912:=0
def tw7056907377559021406:=0
def tw9388814702574111519:=0
def tw9082618525179466923:=0
def tw9241246021885207345:=0
def tw14339394978188730636:=0
def tw14018532600197802914:=0
def tw6884737005402942533:=0
def tw11716708006760661319:=0
def tw15945032251521605928:=0
def tw14898119876214222744:=0
def tw6912240899087473290:=0
def tw9988274689921538920:=0
def tw16685684494581309784:=0
def tw5984584852579934033:=0
def tw10488373853483015934:=0
def tw3644890244177743387:=0
def tw17389453450889702853:=0
def tw2737710524065076709:=0
def tw17550643435648720562:=0
def tw317374170701676667:=0
def tw14596253038929921752:=0
def tw6536259771020574089:=0
def tw2776185235473765328:=0
def tw3563925879630587555:=0
def tw15956479826750860777:=0
def tw14384324417172729772:=0
def tw9463052506216411253:=0
end PySem.W.Fast
set_option maxHeartbeats 0
open PySem PySem.W PyProof.Rows
set_option maxRecDepth 100000 in
set_option maxHeartbeats 0 in
theorem PySem.Challenge.cw_tranchefall_k04_bad_rows_holds : PySem.Challenge.rw_tranchefall_k04_bad_rows.Holds := by
 w_on;o_law;k_head;(case hw=>w_witness2)
 k_fill
 refine K04.walk (l:=PySem.Challenge.rw_tranchefall_k04_bad_rows) rfl rfl (λw h Y=>PySem.W.kIn_of Y) ?F
 case F =>
  intro w mg fa h KX G hmg;refine' K04.all_mk KX G hmg ?c1_C0 ?c2_C0 ?c8_C0 ?c3_C0 ?c4_C0 ?c5_C0 ?c6_C0 ?c7_C0 ?c9_C0 ?c10_C0 ?u_BadRow ?y_DealError ?t_DealError ?u_DealError ?y_Unfinished ?t_Unfinished ?u_Unfinished ?y_Misplaced ?t_Misplaced ?u_Misplaced ?y_NoName ?t_NoName ?u_NoName ?y_Twice ?t_Twice ?u_Twice ?y_TooMany ?t_TooMany ?u_TooMany ?y_Unguarded ?t_Unguarded ?u_Unguarded ?d2_D ?d8_D ?d3_D ?d4_D ?d5_D ?d6_D ?d7_D ?u_V ?jcA ?Vw ?VD ?kP ?qH ?YK ?qB ?kR ?qJ ?Jh ?VA ?Jr ?vK ?YF ?KO ?YL ?qw ?qR ?Jx ?kU ?VG ?kT ?JE ?Jn ?VI ?Jm ?zw ?VF ?Yq ?xp ?jbp ?jcH ?jbe ?g1_NAME_COUNTS ?g2_NAME_COUNTS ?g3_NAME_COUNTS ?vk ?vj ?g1_FORMS ?g2_FORMS ?g3_FORMS ?Ym ?YJ ?YB ?YO ?YN ?YT ?Yy ?YE ?YA ?Yp ?Je ?Jt ?Jw ?g1_LONGEST_NAME ?g1_KEYWORDS ?Jy ?g1_LETTERS ?g1_LONGEST_NUMBER ?g1_FIGURES ?g1_GREATEST ?g2_GREATEST ?g3_GREATEST ?kC ?jhk ?jbr ?jhi ?Js ?jfD ?jbj ?jhb ?wS ?jf2 ?uG ?jgU
  (case c1_C0 | c2_C0 | c3_C0 | c4_C0 | c5_C0 | c6_C0 | c7_C0 | c9_C0 | c10_C0 | u_BadRow | y_DealError | t_DealError | u_DealError | y_Unfinished | t_Unfinished | u_Unfinished | y_Misplaced | t_Misplaced | u_Misplaced | y_NoName | t_NoName | u_NoName | y_Twice | t_Twice | u_Twice | y_TooMany | t_TooMany | u_TooMany | y_Unguarded | t_Unguarded | u_Unguarded | d2_D | d3_D | d4_D | d5_D | d6_D | d7_D | u_V | xp | jbp | jcH | jbe | g1_NAME_COUNTS | g2_NAME_COUNTS | vk | vj | g1_FORMS | g2_FORMS | Ym | YJ | YB | YO | YN | YT | Yy | YE | YA | Yp | Je | Jt | Jw | g1_LONGEST_NAME | g1_KEYWORDS | Jy | g1_LETTERS | g1_LONGEST_NUMBER | g1_FIGURES | g1_GREATEST | g2_GREATEST | kC | jhk | jbr | jhi | Js | jfD | jbj | jhb | wS | jf2 | uG | jgU=>k_is)
  (case c8_C0=>first | rfl | decide +kernel)
  (case d8_D=>first | rfl | decide +kernel)
  (case jcA=>exact QD.hasM (by k_is) (by k_is) (by k_is) (by k_is) (by k_is) (λ_ _ _ _ _ _ us hl=>(match us,hl with | [_,_,_],_=>rfl)))
  (case g3_NAME_COUNTS=>first | rfl | decide)
  (case g3_FORMS=>first | rfl | decide)
  (case g3_GREATEST=>first | rfl | decide)
  (case Vw | VD | kP | qH | YK | qB | kR | qJ | Jh | VA | Jr | vK | YF | KO | YL | qw | qR | Jx | kU | VG | kT | JE | Jn | VI | Jm | zw | VF | Yq =>
   first | exact QD.hasF KX G (by k_is) (by k_is) (by k_is) (by k_is) (by first | exact λ_ _ _ _ _ _ us hl=>(match us,hl with | [],_=>rfl) | exact λ_ _ _ _ _ _ us hl=>(match us,hl with | [_],_=>rfl) | exact λ_ _ _ _ _ _ us hl=>(match us,hl with | [_,_],_=>rfl) | exact λ_ _ _ _ _ _ us hl=>(match us,hl with | [_,_,_],_=>rfl) | exact λ_ _ _ _ _ _ us hl=>(match us,hl with | [_,_,_,_],_=>rfl) | exact λ_ _ _ _ _ _ us hl=>(match us,hl with | [_,_,_,_,_],_=>rfl)) | exact QD.hasM (by k_is) (by k_is) (by k_is) (by k_is) (by k_is) (by first | exact λ_ _ _ _ _ _ us hl=>(match us,hl with | [],_=>rfl) | exact λ_ _ _ _ _ _ us hl=>(match us,hl with | [_],_=>rfl) | exact λ_ _ _ _ _ _ us hl=>(match us,hl with | [_,_],_=>rfl) | exact λ_ _ _ _ _ _ us hl=>(match us,hl with | [_,_,_],_=>rfl) | exact λ_ _ _ _ _ _ us hl=>(match us,hl with | [_,_,_,_],_=>rfl) | exact λ_ _ _ _ _ _ us hl=>(match us,hl with | [_,_,_,_,_],_=>rfl)))
