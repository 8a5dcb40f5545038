import PyProof.Rows.All
import Wide.All
import OpenK.AllK
import Wide.FinOn
import Lean
import PyProof.EqAt
import PyProof.EqKinds
import PyProof.TupleCall
import PySem.Challenge.RW_tranchefall_k11_debt_rows_refused
set_option Elab.async false
set_option linter.all false
set_option maxRecDepth 100000
section
open PySem PySem.Spec PyProof.Rows
abbrev L0:=@List.length_map
abbrev L3:=@wpAny_bind
abbrev L4:=@Option.bind_some
abbrev L5:=@List.map_cons
abbrev L6:=@List.mem_cons_of_mem
abbrev L7:=@List.mem_cons_self
abbrev L8:=@Heap.get?_push_of_some
abbrev L9:=@List.getElem?_eq_some_iff
abbrev M0:=@Bool.and_eq_true
abbrev M3:=@List.length_cons
abbrev M4:=@Bool.false_ne_true
abbrev M5:=@List.mem_cons
abbrev M6:=@List.mem_map
abbrev M7:=@wpAny_pure
abbrev M8:=@List.mem_singleton
abbrev M9:=@Nat.le_refl
abbrev N0:=@List.append_nil
abbrev N1:=@Heap.lt_size
abbrev N2:=@List.mem_append
abbrev N3:=@List.size_toArray
abbrev N4:=@List.length_append
abbrev N5:=@List.map_append
abbrev N6:=@Nat.ne_of_lt
abbrev N7:=@Nat.le_trans
abbrev N8:=@Int.toNat_natCast
abbrev N9:=@Int.emod_lt_of_pos
abbrev U0:=@Int.emod_nonneg
abbrev U1:=@beq_eq_false_iff_ne
abbrev U2:=@List.mem_append_right
abbrev U3:=@Nat.lt_of_lt_of_le
abbrev U4:=@Nat.zero_le
abbrev U5:=@wpAny_field
abbrev U6:=@List.nodup_append
abbrev U7:=@decide_eq_true
abbrev U8:=@decide_eq_false
abbrev U9:=@of_decide_eq_true
abbrev X0:=@Option.some.inj
abbrev X1:=@List.nil_append
abbrev X2:=@List.getElem?_eq_getElem
abbrev X3:=@List.length_take
abbrev X4:=@Heap.get?_push_size
end
namespace QX
open PySem
noncomputable abbrev fms(l:List Env):List Addr:=l.filterMap (·.frame)
structure Kp(fs xs:List Addr)(h h':Heap):Prop where
 keep:∀ b o,h.get? b=some o->b∉fs->b∉xs->h'.get? b=some o
 slot:∀ b o,h.get? b=some o->b∈fs->∃ sl,h'.get? b=some { o with slots:=sl }
theorem Kp.trans{fs xs h1 h2 h3}(a:Kp fs xs h1 h2)(b:Kp fs xs h2 h3):Kp fs xs h1 h3 :=
 ⟨λc o e n m=>b.keep c o (a.keep c o e n m) n m,λc o e n=>let ⟨_,e1⟩:=a.slot c o e n;let ⟨s2,e2⟩:=b.slot c _ e1 n;⟨s2,e2⟩⟩
theorem Kp.mono{fs xs ys h1 h2}(a:Kp fs xs h1 h2)(k:∀ b∈xs,b∈ys):Kp fs ys h1 h2:=⟨λc o e n m=>a.keep c o e n λz=>m (k c z),a.slot⟩
theorem Kp.funs{fs xs h h' base}{l:List Env}(a:Kp fs xs h h')(d:∀ b∈fms l,b∈fs)(f:h.FunFrames base l):h'.FunFrames base l:=by
 induction l with
 | nil=>trivial
 | cons env r g =>
  obtain⟨i,⟨L,o,c,j,k,hd⟩,m⟩:=f;have n:L∈fms (env::r):=by unfold fms;rw[List.filterMap_cons,c];exact L7
  obtain⟨q,e⟩:=a.slot L o k (d L n);exact⟨i,⟨L,_,c,j,e,hd⟩,g (λb p=>d b (by unfold fms;rw[List.filterMap_cons,c];exact L6 _ p)) m⟩
def Fly(e:Addr)(cl:Value)(dx:Option Addr)(T:Addr)(fl:Value)(h:Heap):Prop :=
 ∃ oe vs oT ts,h.get? e=some oe/\oe.cls=cl/\oe.dict=dx/\oe.data=.fields vs/\vs[1]?=some (.ref T)/\T≠e/\h.get? T=some oT/\oT.data=.fields ts/\ts[3]?=some fl
theorem YB(f:Array Value->Array Value)(o:Obj):(Obj.mapFields f o).dict=o.dict:=by
 obtain⟨c,d,a,b⟩:=o;cases a<;>rfl
section
variable {M:Model}{A:Around}{E:Value->Shared->Prop}{s:Shared}{base:Heap}{env:Env}{outer:List Env}{L e T:Addr}{cl:Value}{dx:Option Addr}{Q:Unit->Shared->Prop}
theorem Jq(d:s.heap.FunFrames base outer){b:Obj}{vs:Array Value}(f:s.heap.get? e=some b)(hd:b.data=.fields vs):e∉fms outer:=λg=>by
 obtain⟨_,o,c,a⟩:=d.mem g;rw[f] at c;cases c;exact a vs hd
theorem Kz{i:Obj}{vs:Array Value}{f:Value}{c:Bool}(x:A.frames=some (env::outer))(C:s.heap.FunFrames base (env::outer))(F:env.frame=some L)
  (D:s.heap.get? e=some i) (hd:i.data=.fields vs) (j:1 < vs.size)
  (h:∀ h' T,Kp (fms (env::outer)) [e] s.heap h'->s.heap.objs.size<=T->Fly e i.cls i.dict T (rawInt L) h'->Q () { s with heap:=h' }) :
  wpAny M A (do let a <- frameOf env;let pl <- entryPlaceOf L c;let b <- EntryCells.newEntry f a .none (rawInt L) .none pl;setField (.ref e) 1 b) Q E s:=by
 have k:=Jq C D hd;refine L3 (wpAny_frameOf_fun x C F λg d=>?_);refine L3 (wpAny_entryPlaceOf λpl l=>?_);unfold EntryCells.newEntry newFields;refine L3 (wpAny_newObj_type ?_ (l.sizeOk5 _ _ _ _ _));have p:g.get? e=some i:=(d.2.1 e k).trans D;generalize r:({ cls:=.type "traceback",dict:=none,data:=.fields ([f,.ref L,.none,rawInt L,.none]++(if pl.isEmpty then List.replicate 6 Value.none else pl)).toArray }:Obj)=ob;have t:=L8 (h:=g) ob p;have y:ob.isFreed=false:=by rw[<- r];rfl
 have G:∃ w,ob.data=.fields w/\w[3]?=some (rawInt L):=by
  rw[<- r];exact⟨_,rfl,by first | (simp;done) | (rcases l with rfl | ⟨_,_,_,_,_,_,_,rfl⟩<;>simp)⟩
 refine wpAny_setField t hd j (h _ g.objs.size ?_ (Nat.le_of_eq d.1.symm) ?_)
 ·refine⟨λb o q n m=>?_,λb o q n=>?_⟩
  ·have ne:e≠b:=λz=>m (by rw[z];exact L7);rw[Heap.get?_update_other _ _ ne];exact L8 _ ((d.2.1 b n).trans q)
  ·obtain⟨H,I⟩:=d.2.2 b o q;have ne:e≠b:=λz=>k (by rw[z];exact n);exact⟨H,by rw[Heap.get?_update_other _ _ ne];exact L8 _ I⟩
 ·have u:g.objs.size≠e:=Nat.ne_of_gt (N1 p);have v:=Obj.data_mapFields hd (·.setIfInBounds 1 (Value.ref g.objs.size));have B:=Heap.get?_update_self (Obj.mapFields (·.setIfInBounds 1 (Value.ref g.objs.size))) t (Obj.isFreed_of_fields v);obtain⟨w,J,K⟩:=G;refine⟨_,_,ob,w,B,Obj.cls_mapFields _ _,YB _ _,v,by simp[j],u,?_,J,K⟩;rw[Heap.get?_update_other _ _ (Ne.symm u)];exact X4 g y
theorem zw{a:Obj}{vs:Array Value}(b:A.frames=some (env::outer))(f:s.heap.FunFrames base (env::outer))(c:env.frame=some L)
  (d:s.heap.get? e=some a) (hd:a.data=.fields vs) (h1:vs[1]?=some .none)
  (h:∀ h' T,Kp (fms (env::outer)) [e] s.heap h'->s.heap.objs.size<=T->Fly e a.cls a.dict T (rawInt L) h'->Q () { s with heap:=h' }):wpAny M A (noteFrame (.ref e) env) Q E s:=by
 unfold noteFrame;simp only[c];refine L3 (U5 d hd h1 ?_);rw[if_neg (by decide)];exact Kz b f c d hd (Array.getElem?_eq_some_iff.mp h1).1 h
theorem VC(i:A.frames=some (env::outer))(r:s.heap.FunFrames base (env::outer))(t:env.frame=some L)(y:Fly e cl dx T .none s.heap)
  (h:∀ h' T',Kp (fms (env::outer)) [e,T] s.heap h'->s.heap.objs.size<=T'->Fly e cl dx T' (rawInt L) h'->Q () { s with heap:=h' }):wpAny M A (noteFrame (.ref e) env) Q E s:=by
 obtain⟨D,F,G,H,u,B,j,hd,v,l,p,a,w⟩:=y;unfold noteFrame;simp only[t];refine L3 (U5 u hd v ?_);rw[if_pos (show(Value.ref T != Value.none)=true from by simp)];refine L3 (U5 p a w ?_);rw[if_neg (show ¬ ((Value.none==rawInt L)=true) from by simp[rawInt])];refine L3 (wpAny_setField p a (Array.getElem?_eq_some_iff.mp w).1 ?_);have c:∀ b,b≠T->(s.heap.update T (Obj.mapFields (·.setIfInBounds 3 Value.none))).get? b=s.heap.get? b:=λb g=>Heap.get?_update_other _ _ (Ne.symm g);have d:=Jq r p a;have x:Kp (fms (env::outer)) [e,T] s.heap (s.heap.update T (Obj.mapFields (·.setIfInBounds 3 Value.none))) :=
  ⟨λb o q _ m=>(c b λz=>m (by rw[z];simp)).trans q,λb o q n=>⟨o.slots,(c b λz=>d (by rw[<- z];exact n)).trans q⟩⟩
 refine Kz (s:={ s with heap:=s.heap.update T (Obj.mapFields (·.setIfInBounds 3 Value.none)) }) i (x.funs (λ_ b=>b) r) t ((c e (Ne.symm l)).trans u) hd (Array.getElem?_eq_some_iff.mp v).1 λh' T' k C f=>?_;refine h h' T' (x.trans (k.mono λb g=>by simp at g;simp[g])) ?_ (by rw[<- B,<- j];exact f);rw[<- Heap.size_after_update s.heap T (Obj.mapFields (·.setIfInBounds 3 Value.none))];exact C
theorem jfk{p:Value}(r:Fly e cl dx T p s.heap)(t:s.heap.FunFrames base outer)
  (h:∀ h',Kp (fms outer) [T] s.heap h'->Fly e cl dx T .none h'->h'.objs.size=s.heap.objs.size->Q () { s with heap:=h' }):wpAny M A (setFlight (.ref e) none) Q E s:=by
 obtain⟨u,v,y,B,k,w,i,hd,l,d,j,c,x⟩:=r;have f:=Jq t j c;have g:=(Array.getElem?_eq_some_iff.mp x).1;refine wpAny_setFlight_none k hd l j c g (h _ ?_ ?_ (Heap.size_after_update ..))
 ·exact⟨λb o q _ m=>by rw[Heap.get?_update_other _ _ (λz=>m (by rw[<- z];simp))];exact q,λb o q n=>⟨o.slots,by rw[Heap.get?_update_other _ _ (λz=>f (by rw[z];exact n))];exact q⟩⟩
 ·have a:=Obj.data_mapFields c (·.setIfInBounds 3 Value.none);refine⟨u,v,_,_,by rw[Heap.get?_update_other _ _ d];exact k,w,i,hd,l,d,Heap.get?_update_self _ j (Obj.isFreed_of_fields a),a,by simp[g]⟩
theorem Qy{a:Obj}{vs:Array Value}(c:A.frames=some (env::outer))(d:s.heap.FunFrames base (env::outer))(j:env.frame=some L)
  (l:s.heap.get? e=some a) (hd:a.data=.fields vs) (h1:vs[1]?=some .none)
  (h:∀ h' T,Kp (fms (env::outer)) [e] s.heap h'->s.heap.objs.size<=T->Fly e a.cls a.dict T .none h'->Q () { s with heap:=h' }):wpAny M A (leaving env (.ref e)) Q E s:=by
 unfold leaving;refine L3 (zw c d j l hd h1 λh' T k g f=>?_);refine jfk (base:=base) (outer:=env::outer) f (k.funs (λ_ b=>b) d) λp i r sz=>?_;refine h p T ⟨λb o q n m=>i.keep b o (k.keep b o q n m) n λz=>?_,λb o q n=>?_⟩ g r
 ·have:b=T:=by simpa using z
  subst this;exact absurd (N1 q) (Nat.not_lt.mpr g)
 ·obtain⟨w,t⟩:=k.slot b o q n;obtain⟨u,v⟩:=i.slot b _ t n;exact⟨u,v⟩
theorem zy(a:A.frames=some (env::outer))(c:s.heap.FunFrames base (env::outer))(i:env.frame=some L)(j:Fly e cl dx T .none s.heap)
  (h:∀ h' T',Kp (fms (env::outer)) [e,T] s.heap h'->s.heap.objs.size<=T'->Fly e cl dx T' .none h'->Q () { s with heap:=h' }):wpAny M A (leaving env (.ref e)) Q E s:=by
 unfold leaving;refine L3 (VC a c i j λh' T' k d f=>?_);refine jfk (base:=base) (outer:=env::outer) f (k.funs (λ_ b=>b) c) λl g p sz=>?_;refine h l T' ⟨λb o q n m=>g.keep b o (k.keep b o q n m) n λz=>?_,λb o q n=>?_⟩ d p
 ·have:b=T':=by simpa using z
  subst this;exact absurd (N1 q) (Nat.not_lt.mpr d)
 ·obtain⟨v,r⟩:=k.slot b o q n;obtain⟨t,u⟩:=g.slot b _ r n;exact⟨t,u⟩
end
end QX
namespace QX
open PySem PySem.W
noncomputable def vtail:List Value:=[.type "ValueError",.type "Exception",.type "BaseException",.type "object"]
noncomputable def JH:List Value->Bool
 | .ref _::r=>JH r
 | l=>l==vtail
theorem j6:∀{l:List Value},JH l=true->∀ X:String,l.contains (.type X)=vtail.contains (.type X)
 | [],h,_=>absurd h (by decide)
 | .ref a::r,h,X=>by
  rw[List.contains_cons,j6 (l:=r) h X];rfl
 | .none::r,h,_=>by rw[beq_iff_eq.mp (show(_==vtail)=true from h)]
 | .bool _::r,h,_=>by rw[beq_iff_eq.mp (show(_==vtail)=true from h)]
 | .int _ _::r,h,_=>by rw[beq_iff_eq.mp (show(_==vtail)=true from h)]
 | .float _ _::r,h,_=>by rw[beq_iff_eq.mp (show(_==vtail)=true from h)]
 | .str _ _::r,h,_=>by rw[beq_iff_eq.mp (show(_==vtail)=true from h)]
 | .bytes _ _::r,h,_=>by rw[beq_iff_eq.mp (show(_==vtail)=true from h)]
 | .type _::r,h,_=>by rw[beq_iff_eq.mp (show(_==vtail)=true from h)]
 | .builtin _::r,h,_=>by rw[beq_iff_eq.mp (show(_==vtail)=true from h)]
noncomputable def Vx(K:Frag)(C:Addr):Bool:=match K.lookup C with
 | some ⟨.type T,_,.cls cd,sl⟩=>(match cd.mro,sl.toList with
  | .ref C'::bm,[_,_,_,_,some (.builtin n),_]=>T=="type"&&C'==C&&!cd.hasDel&&cd.hasDict&&n=="ValueError.__new__"&&JH bm
  | _,_=>false)
 | _=>false
theorem J3{K:Frag}{h:Heap}{C:Addr}(X:K.In h)(q:Vx K C=true):∃ nm qn N bs bm sn sub ab col dd k0 k1 k2 k3 k5,
  h.get? C=some (excClassObj nm qn C N bs bm true sn sub ab col dd k0 k1 k2 k3 k5 "ValueError.__new__")/\JH bm=true:=by
 unfold Vx at q;split at q
 ·rename_i T dd g d i;split at q
  ·rename_i m bm k0 k1 k2 k3 n k5 e f;simp only[M0,beq_iff_eq,Bool.not_eq_true'] at q;obtain⟨⟨⟨⟨⟨rfl,rfl⟩,a⟩,b⟩,rfl⟩,j⟩:=q;obtain⟨nm,bs,mro,ns,qn,hd,sn,sub,ab,col,k⟩:=g;dsimp only at e a b;subst e a b;have c:d = #[k0,k1,k2,k3,some (.builtin "ValueError.__new__"),k5]:=by
    obtain⟨l⟩:=d;simp only at f;rw[f]
   subst c;exact⟨nm,qn,ns,bs,bm,sn,sub,ab,col,dd,k0,k1,k2,k3,k5,X _ _ i,j⟩
  ·cases q
 ·cases q
section
variable {prog:Program}{w:World}{A:Around}{E:Value->Shared->Prop}{h:Heap}{g:Array GenState}{d:Drawn}{t:Nat}{os:OsState}
variable {nm q:Str}{C N:Addr}{bs bm:List Value}{hdct:Bool}{sn:List Str}{sub:List Value}{ab:Bool}{col:Option Bool}{dd:Option Addr}{k0 k1 k2 k3 k5:Option Value}
theorem jcz{M:Model}(T:JH bm=true){rest:List Value}{Q:Unit->Shared->Prop}(a:h.get? C=some (excClassObj nm q C N bs bm hdct sn sub ab col dd k0 k1 k2 k3 k5 "ValueError.__new__"))
  (c:Q () ⟨h,g,d,t,os⟩):wpAny M A (checkBuiltinCall "ValueError.__new__" ⟨.ref C::rest,[]⟩) Q E ⟨h,g,d,t,os⟩:=by
 have e:(Value.ref C::bm).contains (.type "ValueError")=true:=by rw[List.contains_cons,j6 T];rfl
 have F:=F.excBase_ValueError;have b:=F.noStar;simp only[checkBuiltinCall,F.newKind,F.newSplit,F.newRow]
 repeat (first | refine wpAny_loadPart_at a ?_ | (refine wpAny_isSubtype_exc a ?_;rw[e]) | refine wpAny_staticBase_exc a ?_ | refine wpAny_madeBy_exc a ?_ | simp only[bne_self_eq_false,Bool.false_eq_true,if_false] | wp_step)
 exact c
theorem jcR{R:Result->Shared->Prop}(T:JH bm=true){rest:List Value}(a:h.get? C=some (excClassObj nm q C N bs bm hdct sn sub ab col dd k0 k1 k2 k3 k5 "ValueError.__new__"))
  (k:R (.ok (.ret (.ref (h.objs.size+1)))) ⟨(h.push { cls:=.type "tuple",data:=.seq rest.toArray }).push
   { cls:=.ref C,data:=.fields #[.ref h.objs.size,.none,.none,.none,.bool false,.none] },g,d,t,os⟩) (b:rest.length<=sizeLine) :
  codeAny (model prog w) A (.builtin "ValueError.__new__" ⟨.ref C::rest,[]⟩) R ⟨h,g,d,t,os⟩:=by
 have F:=F.excBase_ValueError;have c:=F.ends;have e:(Value.ref C::bm).contains (.type "ValueError")=true:=by rw[List.contains_cons,j6 T];rfl
 have f:(Value.ref C::bm).contains (.type "AttributeError")=false:=by rw[List.contains_cons,j6 T];rfl
 have i:(Value.ref C::bm).contains (.type "NameError")=false:=by rw[List.contains_cons,j6 T];rfl
 refine codeAny_builtinAt F.entry ?_;unfold Builtin.«BaseException.__new__»;refine wpAt_bind ?_;show wpAt _ _ _ (stack >>= _) _ _ _;refine wpAt_bind (wpAt_stack λp j=>wpAt_of_wpAny ?_)
 wp_walk
 refine wpAt_of_wpAny ?_;rw[F.owner]
 repeat (first | with_reducible refine wpAny_madeHere_exc F.canon a ?_ | with_reducible refine wpAny_loadPart_at a ?_ | (with_reducible refine wpAny_isSubtype_exc a ?_;first | rw[e] | rw[f] | rw[i]) | wp_step)
 show R _ _;rw[Heap.size_push];exact k
theorem jct{K:Frag}{rest:List Value}{j:Addr}{Q:Fin->Shared->Prop}(X:K.In h)(T:JH bm=true)
  (c:h.get? C=some (excClassObj nm q C N bs bm hdct sn sub ab col dd k0 k1 k2 k3 k5 "ValueError.__new__")) (hi:findIn K (.ref C) "__init__" = some (some (.ref j))) (s:isFn K (.ref j)=true)
  (u:∀ h' e,h.objs.size<=e->Heap.MadeExcOf h h' e (.ref C) rest ->
   wpAny (model prog w) A (call (.ref j) (.ref e::rest)) (λr s'=>r=.none/\Q (.done (.ret (.ref e))) s') E ⟨h',g,d,t,os⟩) (a:rest.length<=sizeLine) :
  wpAny (model prog w) A (Builtin.«type.__call__» ⟨.ref C::rest,[]⟩) Q E ⟨h,g,d,t,os⟩:=by
 repeat (first | with_reducible refine wpAny_loadPart_at c ?_ | with_reducible refine wpAny_madeBy_exc c ?_ | wp_step)
 refine codeAny_call_builtin_code (Code.quiet_builtin _ F.excBase_ValueError.quiet) (jcz T c ?_);refine jcR T c ?_ a;show wpAny _ _ _ _ _ _;generalize p:({ cls:=.type "tuple",data:=.seq rest.toArray }:Obj)=o1;generalize k:({ cls:=.ref C,data:=.fields #[.ref h.objs.size,.none,.none,.none,.bool false,.none] }:Obj)=o2;have i:∀ b o,h.get? b=some o->((h.push o1).push o2).get? b=some o:=λb o z=>L8 _ (L8 _ z);have l:=i _ _ c;have f:((h.push o1).push o2).get? (h.objs.size+1)=some o2:=by subst p k;heap_get
 have m:o2.cls=.ref C:=by subst k;rfl
 have n:(Value.ref C::bm).contains (.ref C)=true:=by simp
 have v:=(looks_findIn (M:=model prog w) X hi).keeps i;have y:=(looks_typeIn (M:=model prog w) X (beq_iff_eq.mp s)).keeps i;unfold isInstance
 repeat (first | (with_reducible refine wpAny_loadPart_at f ?_;rw[m]) | (with_reducible refine wpAny_isSubtype_exc l ?_;rw[n]) | wp_step)
 show wpAny _ _ (typeLookup (.ref C) _) _ _ _;refine v.here ?_;refine wpAny_holding (L3 ?_);unfold bindSpecial;refine L3 (y.here ?_);rw[if_pos (by decide)];refine M7 (L3 (wpAny_mono (u _ (h.objs.size+1) (Nat.le_succ _) ⟨i,Heap.get?_none_of_le (Nat.le_succ _),h.objs.size,by rw[f,<- k],Heap.get?_none_of_le (M9 _),?_⟩) (λr s' B=>?_) λ_ _ x=>x))
 ·rw[<- p];exact L8 _ (Heap.get?_push_at rfl rfl)
 ·obtain⟨rfl,D⟩:=B
  wp_walk
  exact D
theorem uM{K:Frag}{rest:List Value}{c:Addr}{Q:Value->Shared->Prop}(X:K.In h)(f:Vx K C=true)(hi:findIn K (.ref C) "__init__" = some (some (.ref c)))(i:isFn K (.ref c)=true)
  (j:∀ h' e,h.objs.size<=e->Heap.MadeExcOf h h' e (.ref C) rest ->
   wpAny (model prog w) (A.under (.builtin "type.__call__" ⟨.ref C::rest,[]⟩)) (call (.ref c) (.ref e::rest)) (λr s'=>r=.none/\Q (.ref e) s') E ⟨h',g,d,t,os⟩) (a:rest.length<=sizeLine) :
  wpAny (model prog w) A (call (.ref C) rest) Q E ⟨h,g,d,t,os⟩:=by
 obtain⟨nm,n,N,bs,o,p,sub,q,k,dd,s,u,v,x,y,b,T⟩:=J3 X f;have z:=tc_lookup;have B:=tc_bind (.ref C);have D:(⟨h,g,d,t,os⟩:Shared).TypeIs (.ref C) "type":=⟨_,b,rfl⟩;refine wpAny_call (codeAny_of_tree ?_);show wpAny _ _ (callAny (.ref C) _) _ _ _
 repeat (any_goals (first | assumption | with_reducible refine wpAny_loadPart_at b ?_ | wp_step))
 refine⟨rfl,?_⟩;refine codeAny_call_builtin_at (Code.quiet_builtin _ (by decide +kernel)) entry_typeCall (wpAny_check_type_call_sub b (jct X T b hi i (λh' e l m=>?_) a));exact j h' e l m
end
end QX
namespace QX
open PySem PySem.W Builtin Builtin.ObjectAttr
noncomputable def KJ(C t:Addr):Obj:={ cls:=.ref C,data:=.fields #[.ref t,.none,.none,.none,.bool false,.none] }
section
variable {prog:Program}{w:World}{A:Around}{E:Value->Shared->Prop}{h:Heap}{g:Array GenState}{d:Drawn}{t:Nat}{os:OsState}
variable {nm q:Str}{C N e:Addr}{bs bm:List Value}{hdct:Bool}{sn:List Str}{sub:List Value}{ab:Bool}{col:Option Bool}{dd:Option Addr}{k0 k1 k2 k3 k5:Option Value}{newId:String}{K:Frag}
theorem jaC{M:Model}(T:JH bm=true){j:Obj}{rest:List Value}{Q:Unit->Shared->Prop}
  (k:h.get? C=some (excClassObj nm q C N bs bm hdct sn sub ab col dd k0 k1 k2 k3 k5 newId)) (l:h.get? e=some j) (c:j.cls=.ref C) (m:Q () ⟨h,g,d,t,os⟩) :
  wpAny M A (checkBuiltinCall "ValueError.__init__" ⟨.ref e::rest,[]⟩) Q E ⟨h,g,d,t,os⟩:=by
 have F:=F.excBase_ValueError;have i:(Value.ref C::bm).contains (.type "ValueError")=true:=by rw[List.contains_cons,j6 T];rfl
 have f:=F.noStar;simp only[checkBuiltinCall,F.initKind,F.initSplit,F.initRow]
 repeat (first | (with_reducible refine wpAny_loadPart_at l ?_;rw[c]) | with_reducible refine wpAny_loadPart_at k ?_ | (with_reducible refine wpAny_isSubtype_exc k ?_;rw[i]) | wp_step)
 refine wpAny_onRaise ?_;rw[show ∀(a b:String) (n:Nat),Bind.check ⟨.positional,"*","ValueError",.self,[⟨"args",.varPos,false⟩]⟩ a b n (List.map (λx=>x.fst) ({ pos:=Value.ref e::rest }:Args).kw)=pure () from
  λa b n=>check_star_args _ _ _ _ _ _]
 exact M7 m
theorem jgj{u:Value}{c:Addr}{Q:Value->Shared->Prop}(X:K.In h)(f:Vx K C=true)(a:h.get? e=some (KJ C c))
  (i:∀ h' t1,(∀ b o,b≠e->h.get? b=some o->h'.get? b=some o)->h'.get? e=some (KJ C t1)->Q .none ⟨h',g,d,t,os⟩) :
  wpAny (model prog w) A (call (.builtin "ValueError.__init__") [.ref e,u]) Q E ⟨h,g,d,t,os⟩:=by
 obtain⟨nm,m,N,bs,n,p,sub,q,j,dd,r,s,v,x,y,k,T⟩:=J3 X f;have F:=F.excBase_ValueError;refine wpAny_call (codeAny_call_builtin F.init.plain F.initEntry (jaC T k a rfl ?_));unfold KJ at a
 wp_walk
 refine i _ h.objs.size (λb o ne l=>?_) ?_
 ·rw[Heap.get?_update_other _ _ (Ne.symm ne)];exact L8 _ l
 ·rw[Heap.get?_update_self _ (L8 _ a) rfl];rfl
theorem jev(self:Value):∀{l:List Value},JH l=true->refuseLoop self "__setattr__" l=pure ()
 | [],h=>absurd h (by decide)
 | .ref a::r,h=>by rw[refuseLoop_ref];exact jev self (l:=r) h
 | .none::r,h=>by rw[beq_iff_eq.mp (show(_==vtail)=true from h)];exact F.store_ValueError.passes self
 | .bool _::r,h=>by rw[beq_iff_eq.mp (show(_==vtail)=true from h)];exact F.store_ValueError.passes self
 | .int _ _::r,h=>by rw[beq_iff_eq.mp (show(_==vtail)=true from h)];exact F.store_ValueError.passes self
 | .float _ _::r,h=>by rw[beq_iff_eq.mp (show(_==vtail)=true from h)];exact F.store_ValueError.passes self
 | .str _ _::r,h=>by rw[beq_iff_eq.mp (show(_==vtail)=true from h)];exact F.store_ValueError.passes self
 | .bytes _ _::r,h=>by rw[beq_iff_eq.mp (show(_==vtail)=true from h)];exact F.store_ValueError.passes self
 | .type _::r,h=>by rw[beq_iff_eq.mp (show(_==vtail)=true from h)];exact F.store_ValueError.passes self
 | .builtin _::r,h=>by rw[beq_iff_eq.mp (show(_==vtail)=true from h)];exact F.store_ValueError.passes self
theorem jaa{x:Addr}{name:Str}{v:Value}{r:Addr}{tk:Tok}{R:Result->Shared->Prop}(X:K.In h)(W:Vx K C=true)(Y:findIn K (.ref C) name=some none)(i:h.get? x=some (KJ C r))
  (Z:∀ h' tk',h'.get? x=some { KJ C r with dict:=some h.objs.size }->h'.Ns1 h.objs.size (λy=>if y=name then some v else none) ->
   (∀ b o,b≠x->h.get? b=some o->h'.get? b=some o)->R (.ok (.ret .none)) ⟨h',g,d,tk',os⟩) :
  codeAny (model prog w) A (.call (.builtin "object.__setattr__") ⟨[.ref x,.str name tk,v],[]⟩) R ⟨h,g,d,t,os⟩:=by
 have j:=F.store_object;obtain⟨nm,qn,N,bs,S,sn,sub,ab,col,dd,k0,k1,k2,k3,k5,U,T⟩:=J3 X W;have u:Looks (model prog w) h (typeOf (.ref x)) (.ref C):=(Looks.ld i).andThen .now;have B:(Value.ref C::S).contains (.type "object")=true:=by rw[List.contains_cons,j6 T];rfl
 have L1:Looks (model prog w) h (isSubtype (.ref C) (.type "object")) true:=λA Q E s k z=>wpAny_isSubtype_exc (k _ _ U) (by rw[B];exact z);have sub:Looks (model prog w) h (isInstance (.ref x) (.type "object")) true:=u.andThen L1;have hm:Looks (model prog w) h (mroOf (.ref C)) (.ref C::S):=λA Q E s k z=>wpAny_mroOf_exc (k _ _ U) z;refine codeAny_call_builtin j.slot.plain j.entry (@check_slot (model prog w) _ _ ⟨h,g,d,t,os⟩ "object.__setattr__" "object" "__setattr__" (.ref x) [.str name tk,v] [] _ j.kind j.split sub (j.args (.ref x) (.str name tk) v) ?_);rw[osa_eq,refuse_eq];refine L3 (L3 (u.at (L3 (hm.at ?_))));rw[refuseLoop_ref,jev _ T];refine M7 (L3 (u.at (L3 ((looks_findIn X Y).at ?_))));refine L3 (M7 ?_);generalize l:KJ C r=o at i;have D:o.dict=none:=by rw[<- l];rfl
 have G:o.cls=.ref C:=by rw[<- l];rfl
 have H:∀ c,o.data≠.cls c:=λc z=>by rw[<- l] at z;cases z
 repeat (first | (with_reducible refine wpAny_loadPart_at i ?_;rw[G]) | wp_step)
 rw[D,if_neg (by simp[typeHasDict])];split
 ·rename_i a;cases a
 split
 ·rename_i c a;exact absurd a (H c)
 have m:(h.push { cls:=.type "dict",data:=.dict #[] }).get? x=some o:=L8 _ i;have n:x≠h.objs.size:=N6 (N1 i);refine L3 (wpAny_alloc' ?_);refine L3 (wpAny_update' m ?_);refine M7 ?_;show wpAny _ _ (storeInDict h.objs.size (.str name tk) name v) _ _ _;generalize f:((h.push { cls:=.type "dict",data:=.dict #[] }).update x λo=>{ cls:=o.cls,dict:=some h.objs.size,data:=o.data,slots:=o.slots })=h2;have I:h2.get? h.objs.size=some { cls:=.type "dict",data:=.dict #[] }:=by rw[<- f];exact(Heap.get?_update_ne _ _ _ _ n.symm).trans (Heap.get?_push_at rfl rfl)
 have J:h2.Ns h.objs.size (λ_=>none):=⟨_,#[],_,I,rfl,λe he=>absurd he (by simp),λ_=>rfl⟩;have L:h2.get? x=some { KJ C r with dict:=some h.objs.size }:=by rw[<- f,l];exact(Heap.get?_update_self _ m (by rw[<- l];rfl))
 unfold storeInDict newKeyGuard;refine L3 (M7 (L3 (wpAny_nsSet1 (Heap.Ns1.of_empty J) λh' p V=>?_)));obtain⟨oD,esD,epD,M,O,P⟩:=p.count (Within.cons name v Within.nil);refine L3 (wpAny_lookBehind M (by rw[O];exact pastItsLine_dict (N7 P (by rw[M3,List.length_nil,sizeLine_eq];omega))) ?_)
 wp_walk
 refine Z h' _ ((V.2 x n).trans L) p (λb o hb q=>?_);rw[V.2 b (N6 (N1 q)),<- f];exact(Heap.get?_update_ne _ _ _ _ hb).trans (L8 _ q)
theorem jgL{x:Addr}{name:Str}{v:Value}{e:Addr}{Q:Unit->Shared->Prop}(X:K.In h)(i:Vx K C=true)(j:findIn K (.ref C) "__setattr__" = some (some (.builtin "object.__setattr__")))(k:findIn K (.ref C) name=some none)(f:h.get? x=some (KJ C e))
  (l:∀ h' tk',h'.get? x=some { KJ C e with dict:=some h.objs.size }->h'.Ns1 h.objs.size (λy=>if y=name then some v else none) ->
   (∀ b o,b≠x->h.get? b=some o->h'.get? b=some o)->Q () ⟨h',g,d,tk',os⟩):wpAny (model prog w) A (setAttr (.ref x) name v) Q E ⟨h,g,d,t,os⟩:=by
 have I:InstAt h x (KJ C e) C none:=⟨f,rfl,rfl,True.intro⟩;exact set_plain (s:=⟨h,g,d,t,os⟩) X I j (jaa X i k f λh' tk' a b c=>l h' tk' a b c)
end
section
variable {prog:Program}{w:World}{A:Around}{E:Value->Shared->Prop}{h:Heap}{g:Array GenState}{d:Drawn}{t:Nat}{os:OsState}
variable {C x:Addr}{ox od:Obj}{K:Frag}{name:Str}
theorem jgJ(X:K.In h)(a:Vx K C=true)(T:String){M:Model}:Looks M h (isSubtype (.ref C) (.type T)) (vtail.contains (.type T)):=by
 obtain⟨nm,e,N,bs,f,g,sub,i,b,dd,j,l,m,n,o,c,d⟩:=J3 X a;exact λA Q E s k z=>wpAny_isSubtype_exc (k _ _ c) (by rw[List.contains_cons,j6 d];exact z)
theorem ja2{M:Model}{a:Value}{Q:Unit->Shared->Prop}(X:K.In h)(b:Vx K C=true)(I:InstAt h x ox C (some od))(c:Q () ⟨h,g,d,t,os⟩) :
  wpAny M A (checkBuiltinCall "BaseException.__getattribute__" ⟨[.ref x,a],[]⟩) Q E ⟨h,g,d,t,os⟩ :=
 @check_slot M _ _ ⟨h,g,d,t,os⟩ "BaseException.__getattribute__" "BaseException" "__getattribute__" (.ref x) [a] [] _ (by decide +kernel) (by decide +kernel) (I.type.andThen (jgJ X b "BaseException")) (F.args_bexc_ga (.ref x) a) c
theorem zk{v:Value}{tk:Tok}{Q:Fin->Shared->Prop}(X:K.In h)(I:InstAt h x ox C (some od))(a:findObj K C (some od) name=some (.value v))(e:Q (.done (.ret v)) ⟨h,g,d,t,os⟩) :
  wpAny (model prog w) A (Builtin.«object.__getattribute__» ⟨[.ref x,.str name tk],[]⟩) Q E ⟨h,g,d,t,os⟩:=by
 have b:=I.type (M:=model prog w);have c:=looks_find (M:=model prog w) X I a
 repeat (any_goals (first | assumption | with_reducible refine b.at ?_ | with_reducible refine c.at ?_ | wp_step))
theorem jbQ{v:Value}{tk:Tok}{b a:Bool}{Q:Value->Shared->Prop}(X:K.In h)(i:Vx K C=true)(I:InstAt h x ox C (some od))(h1:findIn K (.ref C) "__getattribute__" = some (some (.builtin "BaseException.__getattribute__")))
  (h2:findIn K (.ref C) "__getattr__" = some none) (j:findObj K C (some od) name=some (.value v)) (k:handedIn v=true) (q:Q v ⟨h,g,d,t,os⟩) :
  wpAny (model prog w) A (getAttrBy (.ref x) (.str name tk) b a) Q E ⟨h,g,d,t,os⟩:=by
 have f:=F.attrBase_ValueError;have r:=f.ga.bind (.ref x);have l:(a&&onTheHeap (Value.builtin "BaseException.__getattribute__"))=false:=by cases a<;>rfl
 have c:(Value.builtin "BaseException.__getattribute__"==Value.builtin "object.__getattribute__")=false:=by decide +kernel
 have m:(onTheHeap (Value.ref C)&&Value.builtin "BaseException.__getattribute__"==Value.builtin "object.__getattribute__")=false:=by rw[c];rfl
 have n:=I.type (M:=model prog w);have o:=looks_findIn (M:=model prog w) X h1;have p:=looks_findIn (M:=model prog w) X h2;have e:=handedOut_of k
 repeat (any_goals (first | assumption | with_reducible refine n.at ?_ | with_reducible refine o.at ?_ | with_reducible refine p.at ?_ | wp_step))
 refine codeAny_call_builtin f.ga.plain F.entry_bexc_ga (ja2 X i I (zk X I j ?_))
 repeat (any_goals (first | assumption | rw[e] | wp_step))
theorem jgN{v:Value}{a:Bool}{Q:Value->Shared->Prop}(X:K.In h)(b:Vx K C=true)(I:InstAt h x ox C (some od))(h1:findIn K (.ref C) "__getattribute__" = some (some (.builtin "BaseException.__getattribute__")))
  (h2:findIn K (.ref C) "__getattr__" = some none) (c:findObj K C (some od) name=some (.value v)) (e:handedIn v=true) (f:Q v ⟨h,g,d,t+1,os⟩) :
  wpAny (model prog w) A (getAttr (.ref x) name a) Q E ⟨h,g,d,t,os⟩:=by
 unfold getAttr
 repeat (any_goals (first | assumption | with_reducible apply jbQ X b I h1 h2 c e | wp_step))
end
noncomputable def xK(K:Frag):Value->Bool
 | .ref D=>(clsIn K D).isSome&&typeIn K (.ref D)==some (.type "type")
 | .type T=>pureOf (typeOf (.type T))==some (.type "type")
 | _=>false
structure XC(K:Frag)(C:Addr):Prop where
 cls:Vx K C=true
 ga:findIn K (.ref C) "__getattribute__" = some (some (.builtin "BaseException.__getattribute__"))
 gn:findIn K (.ref C) "__getattr__" = some none
 sa:findIn K (.ref C) "__setattr__" = some (some (.builtin "object.__setattr__"))
 kc:findIn K (.ref C) "__class__" = some (some (.builtin "object.__class__"))
 mo:mroIn K C (.type "object")=some true
 ty:xK K (.ref C)=true
section
variable {prog:Program}{w:World}{A:Around}{E:Value->Shared->Prop}{h:Heap}{g:Array GenState}{d:Drawn}{t:Nat}{os:OsState}
variable {C x:Addr}{ox od:Obj}{K:Frag}{name:Str}
theorem zW{tk:Tok}{Q:Fin->Shared->Prop}(X:K.In h)(c:XC K C)(I:InstAt h x ox C (some od))(j:Q (.done (.ret (.ref C))) ⟨h,g,d,t,os⟩) :
  wpAny (model prog w) A (Builtin.«object.__getattribute__» ⟨[.ref x,.str "__class__" tk],[]⟩) Q E ⟨h,g,d,t,os⟩:=by
 have a:findObj K C (some od) "__class__" = some (.bind (.builtin "getset_descriptor.__get__") (.builtin "object.__class__")):=findObj_data (by
  obtain⟨nm,k,N,bs,l,m,sub,n,b,dd,o,p,r,u,v,y,z⟩:=J3 X c.cls;have q:=c.cls;unfold clsIn;unfold Vx at q;split at q
  ·rename_i e;rw[e];rfl
  ·cases q) c.kc rfl rfl
 have f:=I.type (M:=model prog w);have i:=looks_find (M:=model prog w) X I a
 repeat (any_goals (first | assumption | with_reducible refine f.at ?_ | with_reducible refine i.at ?_ | wp_step))
 refine class_get (s:=⟨h,g,d,t,os⟩) X I c.mo ?_
 repeat (any_goals (first | assumption | wp_step))
end
section
variable {prog:Program}{w:World}{A:Around}{E:Value->Shared->Prop}{h:Heap}{g:Array GenState}{d:Drawn}{t:Nat}{os:OsState}
variable {C x:Addr}{ox od:Obj}{K:Frag}{name:Str}
theorem jbB{tk:Tok}{b a:Bool}{Q:Value->Shared->Prop}(X:K.In h)(c:XC K C)(I:InstAt h x ox C (some od))(n:Q (.ref C) ⟨h,g,d,t,os⟩) :
  wpAny (model prog w) A (getAttrBy (.ref x) (.str "__class__" tk) b a) Q E ⟨h,g,d,t,os⟩:=by
 have f:=F.attrBase_ValueError;have o:=f.ga.bind (.ref x);have i:(a&&onTheHeap (Value.builtin "BaseException.__getattribute__"))=false:=by cases a<;>rfl
 have e:(Value.builtin "BaseException.__getattribute__"==Value.builtin "object.__getattribute__")=false:=by decide +kernel
 have j:(onTheHeap (Value.ref C)&&Value.builtin "BaseException.__getattribute__"==Value.builtin "object.__getattribute__")=false:=by rw[e];rfl
 have k:=I.type (M:=model prog w);have l:=looks_findIn (M:=model prog w) X c.ga;have m:=looks_findIn (M:=model prog w) X c.gn
 repeat (any_goals (first | assumption | with_reducible refine k.at ?_ | with_reducible refine l.at ?_ | with_reducible refine m.at ?_ | wp_step))
 refine codeAny_call_builtin f.ga.plain F.entry_bexc_ga (ja2 X c.cls I (zW X c I ?_))
 repeat (any_goals (first | assumption | wp_step))
theorem jgR{Q:Option Value->Shared->Prop}(X:K.In h)(c:XC K C)(I:InstAt h x ox C (some od))(a:Q (some (.ref C)) ⟨h,g,d,t+1,os⟩) :
  wpAny (model prog w) A (getAttr? (.ref x) "__class__") Q E ⟨h,g,d,t,os⟩:=by
 unfold getAttr? getAttrBy?
 refine L3 (wpAny_mkText (L3 (wpAny_attempt ?_)));refine jbB X c I ?_;exact M7 a
theorem QU{c:Value}(e:xK K c=true)(X:K.In h)(M:Model):Looks M h (typeOf c) (.type "type")/\Looks M h (isType c) true:=by
 unfold xK at e;cases c with
 | ref D =>
  rw[M0] at e;refine⟨looks_typeIn X (beq_iff_eq.mp e.2),?_⟩;have a:=e.1;unfold clsIn at a;split at a
  ·rename_i g i b d f;intro j l m n k q;unfold isType loadHead;exact L3 (wpAny_loadPart (k _ _ (X _ _ f)) (M7 q))
  ·cases a
 | type T=>exact⟨Looks.of_pure (of_pureOf (beq_iff_eq.mp e)),Looks.of_pure rfl⟩
 | _=>cases e
theorem zE{c:Value}{b:Bool}{l:Int}{tk:Tok}{Q:Fin->Shared->Prop}(X:K.In h)(k:XC K C)(I:InstAt h x ox C (some od))(e:xK K c=true)(o:subIn K (.ref C) c=some b)
  (f:∀ tk',Q (.done (.ret (.bool b))) ⟨h,g,d,tk',os⟩):wpAny (model prog w) A (Builtin.«isinstance.nested» ⟨[.ref x,c,.int l tk],[]⟩) Q E ⟨h,g,d,t,os⟩:=by
 obtain⟨m,n⟩:=QU e X (model prog w);have p:=I.type (M:=model prog w);have r:=looks_subIn (M:=model prog w) X o;have u:Looks (model prog w) h (isInstance (.ref x) c) b:=p.andThen r;have i:=(QU k.ty X (model prog w)).2;unfold Builtin.«isinstance.nested»;refine L3 (p.at ?_);by_cases q:(Value.ref C==c)=true
 ·have v:=beq_iff_eq.mp q;subst v;obtain rfl:b=true:=by
   have s:mroIn K C (.ref C)=some b:=o;unfold mroIn at s;obtain⟨D,a,z⟩:=Option.bind_eq_some_iff.mp s;split at z
   ·cases z
   ·cases z;have q:=k.cls;unfold Vx at q;unfold clsIn at a;split at a
    ·rename_i y;cases a;split at q
     ·rename_i j;rw[y] at j;cases j;split at q
      ·rename_i B _;simp only[M0,beq_iff_eq] at q;rw[B,q.1.1.1.1.2];simp
      ·cases q
     ·cases q
    ·cases a
  rw[if_pos q];exact L3 (wpAny_rule (L3 (M7 (M7 (f _)))))
 ·rw[if_neg q];refine L3 (m.at ?_);rw[if_pos (by decide)]
  k_delta "plainIsInstance"
  refine L3 (L3 (n.at ?_));simp only[Bool.not_true,Bool.false_eq_true,if_false];refine L3 (u.at ?_);cases b with
  | true =>
   simp only[if_true];exact M7 (M7 (f _))
  | false =>
   simp only[Bool.false_eq_true,if_false];refine L3 (jgR X k I ?_);refine L3 (i.at ?_);simp only[Bool.not_true,Bool.false_eq_true,if_false];refine L3 (wpAny_rule ?_);refine r.at ?_
   first
    | exact M7 (f _)
    | exact M7 (M7 (f _))
    | exact L3 (M7 (M7 (f _)))
theorem xis{c:Value}{b:Bool}{s:Shared}{Q:Value->Shared->Prop}(X:K.In s.heap)(k:XC K C)(I:InstAt s.heap x ox C (some od))(e:xK K c=true)(d:subIn K (.ref C) c=some b)
  (f:∀ tk',Q (.bool b) { s with toks:=tk' }):wpAny (model prog w) A (call (.builtin "isinstance") [.ref x,c]) Q E s :=
 call_isinstance (S:=λ_ R s=>(K.In s.heap/\InstAt s.heap x ox C (some od))/\∀ tk',R (.ok (.ret (.bool b))) { s with toks:=tk' })
  (λ_ _ _ _ _ a=>isinstance_outer (zE a.1.1 k a.1.2 e d a.2) (by intro q;cases q)) ⟨⟨X,I⟩,f⟩
theorem jex{D:Addr}{c:Obj}{Q:Bool->Shared->Prop}(X:K.In h)(k:XC K C)(i:XC K D)(j:h.get? x=some c)(a:c.cls=.ref C)(l:subIn K (.ref C) (.ref D)=some true)
  (m:Q true ⟨h,g,d,t,os⟩):wpAny (model prog w) A (excMatches (.ref x) (.ref D)) Q E ⟨h,g,d,t,os⟩:=by
 obtain⟨nm,q,N,bs,n,r,sub,s,o,dd,u,v,y,z,B,e,T⟩:=J3 X i.cls;have b:(Value.ref D::n).contains (.type "BaseException")=true:=by rw[List.contains_cons,j6 T];rfl
 have f:=tc_notTuple;have p:=looks_subIn (M:=model prog w) X l;unfold excMatches
 repeat (first | (with_reducible refine wpAny_loadPart_at j ?_;rw[a]) | with_reducible refine wpAny_loadPart_at e ?_ | with_reducible refine p.at ?_ | (with_reducible refine wpAny_isSubtype_exc e ?_;rw[b]) | wp_step)
 exact m
end
end QX
namespace L2
open PySem PySem.Spec PyProof.Rows
noncomputable abbrev Key:=Sum Int Str
noncomputable def xj:Key->Value->Bool
 | .inl k,v=>Value.isInt k v
 | .inr x,v=>Value.isStrOf x v
noncomputable def jgX(w:World):Key->Int
 | .inl k=>hashInt k
 | .inr x=>hashStr w x
theorem jN:∀{k:Key}{v:Value},xj k v=true->(∃ i t,k=Sum.inl i/\v=Value.int i t) \/ (∃ x t,k=Sum.inr x/\v=Value.str x t)
 | .inl i,v,h=>by
  obtain⟨t,e⟩:=Value.isInt_shape (k:=i) (v:=v) h;exact .inl ⟨i,t,rfl,e⟩
 | .inr x,v,h=>by
  obtain⟨t,e⟩:=Value.isStrOf_shape (x:=x) (v:=v) h;exact .inr ⟨x,t,rfl,e⟩
theorem ug(i:Int)(t:Tok):xj (.inl i) (.int i t)=true:=by simp[xj,Value.isInt]
theorem wZ(x:Str)(t:Tok):xj (.inr x) (.str x t)=true:=by simp[xj,Value.isStrOf]
theorem jdk(a b:Int):decide ((Sum.inl a:Key)=Sum.inl b)=(a==b):=by
 by_cases e:a=b
 ·subst e;simp
 ·have h:¬ (Sum.inl a:Key)=Sum.inl b:=λq=>e (Sum.inl.inj q);rw[U8 h];exact(U1.mpr e).symm
theorem je6(a b:Str):decide ((Sum.inr a:Key)=Sum.inr b)=decide (a=b):=by
 by_cases e:a=b
 ·subst e;simp
 ·have h:¬ (Sum.inr a:Key)=Sum.inr b:=λq=>e (Sum.inr.inj q);rw[U8 h,U8 e]
theorem jdz(a:Int)(b:Str):decide ((Sum.inl a:Key)=Sum.inr b)=false:=U8 (λq=>nomatch q)
theorem jdt(a:Str)(b:Int):decide ((Sum.inr a:Key)=Sum.inl b)=false:=U8 (λq=>nomatch q)
noncomputable def yQ(prog:Program)(w:World):PySem.KeyKind prog w Key where
 is:=xj
 hash:=jgX w
 inj:=λv a b ha hb=>by
  rcases jN ha with⟨i,t,rfl,rfl⟩ | ⟨x,t,rfl,rfl⟩
  ·rcases jN hb with⟨j,u,rfl,e⟩ | ⟨y,u,rfl,e⟩
   ·injection e with e1 _;rw[e1]
   ·exact nomatch e
  ·rcases jN hb with⟨j,u,rfl,e⟩ | ⟨y,u,rfl,e⟩
   ·exact nomatch e
   ·injection e with e1 _;rw[e1]
 byValue:=λk v h=>by
  rcases jN h with⟨i,t,rfl,rfl⟩ | ⟨x,t,rfl,rfl⟩<;>rfl
 pyHash:=λhv h=>by
  rcases jN hv with⟨i,t,rfl,rfl⟩ | ⟨x,t,rfl,rfl⟩
  ·exact wpAny_pyHash_int h
  ·exact wpAny_pyHash_str h
 eqBool:=λhu hv h=>by
  rcases jN hu with⟨i,t,rfl,rfl⟩ | ⟨x,t,rfl,rfl⟩
  ·rcases jN hv with⟨j,u,rfl,rfl⟩ | ⟨y,u,rfl,rfl⟩
   ·rw[jdk] at h;exact wpAny_eqBool_int h
   ·rw[jdz] at h;exact SeqAt.EqAt.int_str i t y u _ _ _ _ h
  ·rcases jN hv with⟨j,u,rfl,rfl⟩ | ⟨y,u,rfl,rfl⟩
   ·rw[jdt] at h;exact SeqAt.EqAt.str_int x t j u _ _ _ _ h
   ·rw[je6] at h;exact wpAny_eqBool_str h
 «strs»:=λk x t v h=>by
  rcases jN h with⟨i,u,rfl,e⟩ | ⟨y,u,rfl,e⟩
  ·exact nomatch e
  ·injection e with e1 _;subst e1;cases v<;>rfl
theorem Qb(prog:Program)(w:World)(i:Int)(t:Tok):(yQ prog w).is (.inl i) (.int i t)=true:=ug i t
theorem qe(prog:Program)(w:World)(x:Str)(t:Tok):(yQ prog w).is (.inr x) (.str x t)=true:=wZ x t
inductive V where
 | non | bl (b:Bool) | int (i:Int) | str (x:Str) | byt (b:Array UInt8) | flt (b:UInt64) | ref (a:Addr) | ty (n:String)
 deriving DecidableEq
def RelV:V->Value->Prop
 | .non,u=>u=Value.none
 | .bl b,u=>u=Value.bool b
 | .int i,u=>∃ t,u=Value.int i t
 | .str x,u=>∃ t,u=Value.str x t
 | .byt b,u=>∃ t,u=Value.bytes b t
 | .flt b,u=>∃ t,u=Value.float b t
 | .ref a,u=>u=Value.ref a
 | .ty n,u=>u=Value.type n
abbrev Vals:List V->List Value->Prop:=Paired RelV
theorem Vals.length{xs:List V}{us:List Value}(r:Vals xs us):xs.length=us.length:=Paired.length r
theorem Vals.get:∀{xs:List V}{us:List Value}{i:Nat}{x:V},Vals xs us->xs[i]?=some x->∃ u,us[i]?=some u/\RelV x u
 | _,_,_,_,.nil,e=>by simp at e
 | _,_,0,_,.cons r _,e=>by simp at e;subst e;exact⟨_,rfl,r⟩
 | _,_,i+1,x,.cons _ t,e=>by
  obtain⟨u,a,b⟩:=Vals.get (i:=i) (x:=x) t (by simpa using e);exact⟨u,by simpa using a,b⟩
theorem Vals.set{x:V}{u:Value}(r:RelV x u):∀{xs:List V}{us:List Value}(i:Nat),Vals xs us->Vals (xs.set i x) (us.set i u)
 | _,_,_,.nil=>.nil
 | _,_,0,.cons _ t=>.cons r t
 | _,_,i+1,.cons q t=>.cons q (Vals.set r i t)
theorem Vals.append:∀{xs ys:List V}{us ws:List Value},Vals xs us->Vals ys ws->Vals (xs++ys) (us++ws)
 | _,_,_,_,.nil,s=>s
 | _,_,_,_,.cons r t,s=>.cons r (Vals.append t s)
theorem Vals.take:∀{xs:List V}{us:List Value}(n:Nat),Vals xs us->Vals (xs.take n) (us.take n)
 | _,_,0,_=>.nil
 | _,_,_+1,.nil=>.nil
 | _,_,n+1,.cons r t=>.cons r (Vals.take n t)
theorem Vals.drop:∀{xs:List V}{us:List Value}(n:Nat),Vals xs us->Vals (xs.drop n) (us.drop n)
 | _,_,0,r=>r
 | _,_,_+1,.nil=>.nil
 | _,_,n+1,.cons _ t=>Vals.drop n t
def RelO:Option V->Option Value->Prop
 | some v,some u=>RelV v u
 | none,none=>True
 | _,_=>False
def KV{κ:Type}:List (κ×V)->List (κ×Value)->Prop:=Paired λ(p:κ×V) (q:κ×Value)=>p.1=q.1/\RelV p.2 q.2
noncomputable def kV:Key->V
 | .inl i=>.int i
 | .inr x=>.str x
inductive HO where
  | lst (xs:List V)
  | tup (xs:List V)
  | dK (kvs:List (Key×V)) | dT (kvs:List (List Key×V))
  | set (S:Int->Bool) (n:Nat)
  | ins (C dx:Addr) (fs:List (Str×V))
  | own (x:Addr)
  | xd (fs:List (Str×V))
  | met (f x:Addr)
  | rng (lo hi:Int)
  | frz (o:Obj) (u:HO)
  | tbl (ps:Array Value)
  | ext (φ:Heap->Prop)
noncomputable abbrev Hp:=Addr->Option HO
noncomputable def upd(H:Hp)(a:Addr)(o:HO):Hp:=λb=>if b=a then some o else H b
theorem jz{H:Hp}{a:Addr}{o:HO}:upd H a o a=some o:=by unfold upd;rw[if_pos rfl]
theorem jh{H:Hp}{a b:Addr}{o:HO}(h:b≠a):upd H a o b=H b:=by unfold upd;rw[if_neg h]
theorem jbJ{H:Hp}{a:Addr}{o u:HO}:upd (upd H a o) a u=upd H a u:=by
 funext b;unfold upd;split<;>rfl
theorem vc{H:Hp}{a b:Addr}{o:HO}(h:H a=some o)(h':H b=none):a≠b:=by
 intro e;subst e;rw[h] at h';cases h'
def IsTupN(h:Heap)(a:Addr)(its:Array Value):Prop:=IsTup h a its/\∃ o,h.get? a=some o/\o.dict=none
theorem IsTupN.new(h:Heap)(its:Array Value):IsTupN (h.push { cls:=.type "tuple",data:=.seq its }) h.objs.size its:=⟨IsTup.new h its,_,X4 _ rfl,rfl⟩
theorem IsTupN.lt{h:Heap}{a:Addr}{its:Array Value}(x:IsTupN h a its):a < h.objs.size:=x.1.lt
section
variable (P:Program)(w:World)
def ObjOk(H:Hp)(h:Heap)(a:Addr):HO->Prop
 | .lst xs=>xs.length<=sizeLine/\∃(its:List Value) (n:Nat),Vals xs its/\h.get? a=some { cls:=.type "list",data:=.seq its.toArray n }
 | .tup xs=>xs.length<=sizeLine/\∃ its:List Value,Vals xs its/\IsTupN h a its.toArray
 | .dK kvs=>kvs.length<=sizeLine/\(a==sysModules)=false/\∃ vs,KV kvs vs/\h.DictOf (yQ P w) a vs
 | .dT kvs=>kvs.length<=sizeLine/\(a==sysModules)=false/\∃ xs:List (List Key×Addr×Value),
   Paired (λ(p:List Key×V) (q:List Key×Addr×Value)=>p.1=q.1/\H q.2.1=some (.tup (p.1.map kV))/\RelV p.2 q.2.2) kvs xs /\
   ∃ o es ep,h.get? a=some o/\o.ExactDict/\o.data=.dict es ep/\es.toList=xs.map (entryOfKey (tupleKind (yQ P w)))/\(xs.map (·.1)).Nodup
 | .set S n=>h.SetOf (intKind P w) a S n
 | .ins C dx fs=>H dx=some (.own a)/\fs.length<=1000/\dx≠a/\h.get? a=some (PySem.W.instObj C dx) /\
   ∃ mA,h.Ns1 dx mA/\(∀ f,RelO (fs.lookup f) (mA f))/\PySem.Within mA (fs.map (·.1))
 | .own _=>∃ o,h.get? a=some o
 | .xd fs=>∃ mA,h.Ns1 a mA/\∀ f,RelO (fs.lookup f) (mA f)
 | .rng lo hi=>∃ t u v,h.get? a=some { cls:=.type "range",data:=.fields #[.int lo t,.int hi u,.int 1 v] }
 | .frz o u=>h.get? a=some o/\ObjOk H h a u
 | .tbl ps=>h.get? a=some { cls:=.none,data:=.fields ps }
 | .met f x=>h.get? a=some (PySem.W.methodObj (.ref f) (.ref x))
 | .ext φ=>φ h/\(∃ o,h.get? a=some o)/\∀ h1 h2:Heap,φ h1->(∀ o,h1.get? a=some o->h2.get? a=some o)->φ h2
def HOk(H:Hp)(h:Heap):Prop:=∀ a o,H a=some o->ObjOk P w H h a o
end
section
variable {P:Program}{w:World}{H H':Hp}{h h':Heap}{a:Addr}{o:HO}
theorem ObjOk.lt(x:ObjOk P w H h a o):a < h.objs.size:=by
 cases o with
 | lst c=>obtain⟨_,_,_,_,e⟩:=x;exact N1 e
 | tup c=>obtain⟨_,_,_,p⟩:=x;exact p.lt
 | dK b=>obtain⟨_,_,_,_,o,_,_,e,_⟩:=x;exact N1 e
 | dT b=>obtain⟨_,_,_,_,o,_,_,e,_⟩:=x;exact N1 e
 | set S n=>obtain⟨o,_,_,_,e,_⟩:=x;exact N1 e
 | ins C dx fs=>obtain⟨_,_,_,e,_⟩:=x;exact N1 e
 | own y=>obtain⟨_,e⟩:=x;exact N1 e
 | xd fs=>obtain⟨_,⟨_,_,_,e,_⟩,_⟩:=x;exact N1 e
 | rng d g=>obtain⟨_,_,_,e⟩:=x;exact N1 e
 | frz i u=>obtain⟨e,_⟩:=x;exact N1 e
 | tbl j=>exact N1 (show h.get? a=some _ from x)
 | met f y=>exact N1 (show h.get? a=some _ from x)
 | ext φ=>obtain⟨_,⟨_,e⟩,_⟩:=x;exact N1 e
theorem Paired.mapP{α β:Type}{F G:α->β->Prop}:∀{l₁:List α}{l₂:List β},Paired F l₁ l₂->(∀ a b,F a b->G a b)->Paired G l₁ l₂
 | _,_,.nil,_=>.nil
 | _,_,.cons r t,f=>.cons (f _ _ r) (Paired.mapP t f)
theorem ObjOk.stay(x:ObjOk P w H h a o)(k:∀ b u,(b=a \/ H b=some (.own a))->h.get? b=some u->h'.get? b=some u)
  (E:∀ b,H b=some (.own a)->H' b=some (.own a)) (F:∀ b xs,H b=some (.tup xs)->H' b=some (.tup xs)):ObjOk P w H' h' a o:=by
 induction o with
 | lst xs=>obtain⟨z,l,n,r,e⟩:=x;exact⟨z,l,n,r,k _ _ (.inl rfl) e⟩
 | tup xs=>obtain⟨z,l,r,⟨g,e,c⟩,m,s,G⟩:=x;exact⟨z,l,r,⟨g,k _ _ (.inl rfl) e,c⟩,m,k _ _ (.inl rfl) s,G⟩
 | dK A=>obtain⟨z,y,I,r,g,i,j,e,c⟩:=x;exact⟨z,y,I,r,g,i,j,k _ _ (.inl rfl) e,c⟩
 | dT A =>
  obtain⟨z,y,xs,r,g,i,j,e,c⟩:=x;exact⟨z,y,xs,Paired.mapP r λp q z=>⟨z.1,F _ _ z.2.1,z.2.2⟩,g,i,j,k _ _ (.inl rfl) e,c⟩
 | set S n=>obtain⟨g,i,j,t,e,c⟩:=x;exact⟨g,i,j,t,k _ _ (.inl rfl) e,c⟩
 | ins C dx fs =>
  obtain⟨d,z,ne,e,B,⟨od,i,j,s,c⟩,r⟩:=x;exact⟨E _ d,z,ne,k _ _ (.inl rfl) e,B,⟨od,i,j,k _ _ (.inr d) s,c⟩,r⟩
 | own y=>obtain⟨g,e⟩:=x;exact⟨g,k _ _ (.inl rfl) e⟩
 | xd fs=>obtain⟨B,⟨od,i,j,e,c⟩,r⟩:=x;exact⟨B,⟨od,i,j,k _ _ (.inl rfl) e,c⟩,r⟩
 | rng K L=>obtain⟨t,u,v,e⟩:=x;exact⟨t,u,v,k _ _ (.inl rfl) e⟩
 | frz g u J=>obtain⟨e,q⟩:=x;exact⟨k _ _ (.inl rfl) e,J q⟩
 | tbl D =>
  have e:h.get? a=some { cls:=.none,data:=.fields D }:=x;show h'.get? a=some { cls:=.none,data:=.fields D };exact k a _ (.inl rfl) e
 | met f y =>
  have e:h.get? a=some (PySem.W.methodObj (.ref f) (.ref y)):=x;show h'.get? a=some (PySem.W.methodObj (.ref f) (.ref y));exact k a _ (.inl rfl) e
 | ext φ=>obtain⟨p,⟨o,e⟩,st⟩:=x;exact⟨st _ _ p λo q=>k _ _ (.inl rfl) q,⟨o,k _ _ (.inl rfl) e⟩,st⟩
theorem HOk.lt(x:HOk P w H h)(e:H a=some o):a < h.objs.size:=(x a o e).lt
theorem HOk.fresh(x:HOk P w H h)(e:h.objs.size<=a):H a=none:=by
 cases q:H a with
 | none=>rfl
 | some u=>exact absurd (U3 (x.lt q) e) (Nat.lt_irrefl _)
theorem HOk.kept(x:HOk P w H h)(k:∀ b u,h.get? b=some u->h'.get? b=some u):HOk P w H h':=λa o e =>
 (x a o e).stay (λb u _ q=>k b u q) (λ_ q=>q) λ_ _ q=>q
theorem HOk.laid(x:HOk P w H h)(k:∀ b u,h.get? b=some u->h'.get? b=some u)(hp:h.objs.size<=a)(new:ObjOk P w (upd H a o) h' a o):HOk P w (upd H a o) h':=λb u e=>by
 have d:=x.fresh hp;by_cases f:b=a
 ·subst f;rw[jz] at e;cases e;exact new
 ·rw[jh f] at e;exact(x b u e).stay (λc v _ q=>k c v q) (λc q=>by rw[jh (vc q d)];exact q) λc g q=>by rw[jh (vc q d)];exact q
end
def Rd(H:Hp)(a:Addr)(u:HO):Prop:=H a=some u \/ ∃ o,H a=some (.frz o u)
theorem Rd.ok{P:Program}{w:World}{H:Hp}{h:Heap}{a:Addr}{u:HO}(r:Rd H a u)(x:HOk P w H h):ObjOk P w H h a u:=by
 rcases r with r | ⟨o,r⟩
 ·exact x a u r
 ·obtain⟨_,q⟩:=x a _ r;exact q
def Mut:Option HO->Prop
 | some (.lst _)=>True
 | some (.dK _)=>True
 | some (.dT _)=>True
 | some (.set _ _)=>True
 | some (.ins _ _ _)=>True
 | some (.ext _)=>True
 | _=>False
section
variable {P:Program}{w:World}{H:Hp}{h h':Heap}{x e:Addr}{o':HO}
theorem HOk.write(ok:HOk P w H h)(g:Mut (H x))(n:e=x \/ H e=some (.own x))(k:∀ b u,b≠e->h.get? b=some u->h'.get? b=some u)(m:∃ u,h'.get? e=some u)
  (new:ObjOk P w (upd H x o') h' x o'):HOk P w (upd H x o') h':=λb u q=>by
 have d:∀ c y,H c=some (.own y)->c≠x:=λc y r z=>by subst z;rw[r] at g;exact g
 have f:∀ c i,H c=some (.tup i)->c≠x:=λc i r z=>by subst z;rw[r] at g;exact g
 by_cases j:b=x
 ·subst j;rw[jz] at q;cases q;exact new
 ·rw[jh j] at q;by_cases a:b=e
  ·have o:H b=some (.own x):=by
    rcases n with z | z
    ·exact absurd (a.trans z) j
    ·rw[a];exact z
   rw[q] at o;cases o;obtain⟨v,p⟩:=m;exact⟨v,by rw[a];exact p⟩
  ·refine(ok b u q).stay (λc v l r=>k c v ?_ r) (λc r=>by rw[jh (d c b r)];exact r) λc i r=>by rw[jh (f c i r)];exact r
   rcases l with rfl | l
   ·exact a
   ·rintro rfl;rcases n with z | z
    ·exact d c b l z
    ·rw[l] at z;cases z;exact j rfl
end
structure Un(fs ex:List Addr)(H H':Hp)(h h':Heap):Prop where
 keep:∀ b o,h.get? b=some o->H b=none->b∉fs->b∉ex->h'.get? b=some o
 slot:∀ b o,h.get? b=some o->H b=none->b∈fs->b∉ex->∃ sl,h'.get? b=some { o with slots:=sl }
 free:∀ b o,h.get? b=some o->H b=none->b∉ex->H' b=none
 there:∀ b o,h.get? b=some o->b∉ex->∃ o',h'.get? b=some o'
 tups:∀ b xs,H b=some (.tup xs)->H' b=some (.tup xs)
 frzs:∀ b o u,H b=some (.frz o u)->H' b=some (.frz o u)
 tbls:∀ b ps,H b=some (.tbl ps)->∃ more,H' b=some (.tbl (ps++more))
section
variable {fs fs' ex ex':List Addr}{H H1 H2:Hp}{h h1 h2 h':Heap}{a x e:Addr}{o:HO}
theorem Un.any(u:Un fs ex H H1 h h1){b:Addr}{a:Obj}(q:h.get? b=some a)(n:H b=none)(c:b∉ex):∃ sl,h1.get? b=some { a with slots:=sl }:=by
 by_cases d:b∈fs
 ·exact u.slot b a q n d c
 ·exact⟨a.slots,u.keep b a q n d c⟩
theorem Un.kept(k:∀ b u,h.get? b=some u->h'.get? b=some u):Un fs ex H H h h' :=
 ⟨λb a q _ _ _=>k b a q,λb a q _ _ _=>⟨a.slots,k b a q⟩,λ_ _ _ n _=>n,λb a q _=>⟨a,k b a q⟩,λ_ _ q=>q,λ_ _ _ q=>q,λ_ c q=>⟨#[],by rw[q];simp⟩⟩
theorem Un.refl:Un fs ex H H h h:=Un.kept λ_ _ q=>q
theorem Un.laid(k:∀ b u,h.get? b=some u->h'.get? b=some u)(hp:h.objs.size<=a)(c:H a=none):Un fs ex H (upd H a o) h h' where
 keep:=λb u q _ _ _=>k b u q
 slot:=λb u q _ _ _=>⟨u.slots,k b u q⟩
 free:=λb u q n _=>by rw[jh (N6 (U3 (N1 q) hp))];exact n
 there:=λb u q _=>⟨u,k b u q⟩
 tups:=λb d q=>by rw[jh (vc q c)];exact q
 frzs:=λb u d q=>by rw[jh (vc q c)];exact q
 tbls:=λb e q=>⟨#[],by rw[jh (vc q c),q];simp⟩
theorem Un.write(c:Mut (H x))(j:e=x \/ H e=some (.own x))(k:∀ b u,b≠e->h.get? b=some u->h'.get? b=some u)(d:∃ u,h'.get? e=some u):Un fs ex H (upd H x o) h h':=by
 have g:∀ b,H b=none->b≠x:=λb n z=>by subst z;rw[n] at c;exact c
 have i:∀ b,H b=none->b≠e:=λb n z=>by
  subst z;rcases j with r | r
  ·exact g b n r
  ·rw[n] at r;cases r
 have f:∀ b u,H b=some u->¬ Mut (some u)->b≠x:=λb u q nm z=>by subst z;rw[q] at c;exact nm c
 refine⟨λb u q n _ _=>k b u (i b n) q,λb u q n _ _=>⟨u.slots,k b u (i b n) q⟩,λb u q n _=>by rw[jh (g b n)];exact n,λb u q _=>?_,
  λb l q=>by rw[jh (f b _ q λz=>z)];exact q,λb u l q=>by rw[jh (f b _ q λz=>z)];exact q,λb m q=>⟨#[],by rw[jh (f b _ q λz=>z),q];simp⟩⟩
 by_cases a:b=e
 ·subst a;exact d
 ·exact⟨u,k b u a q⟩
end
noncomputable def trk(h:Heap)(H:Hp):List Addr:=(List.range h.objs.size).filter λa=>(H a).isSome
noncomputable def uS(h:Heap)(H:Hp):Heap:=PySem.W.hideAll h (trk h H)
theorem wW(h:Heap)(H:Hp):(uS h H).objs.size=h.objs.size:=PySem.W.hideAll_size _ _
theorem jaJ{h:Heap}{H:Hp}{b:Addr}{o:Obj}(e:h.get? b=some o)(n:H b=none):(uS h H).get? b=some o :=
 PySem.W.hideAll_get _ e λa=>by
  have q:(H b).isSome=true:=(List.mem_filter.mp a).2;rw[n] at q;simp at q
theorem jda{h:Heap}{H:Hp}{b:Addr}{o:Obj}(e:(uS h H).get? b=some o):h.get? b=some o/\H b=none:=by
 have a:h.get? b=some o:=PySem.W.of_hideAll (trk h H) e;refine⟨a,?_⟩;cases q:H b with
 | none=>rfl
 | some x =>
  have c:b∈trk h H:=List.mem_filter.mpr ⟨List.mem_range.mpr (N1 a),by simp[q]⟩;have z:(uS h H).get? b=none:=PySem.W.hideAll_none (trk h H) c;rw[z] at e;cases e
noncomputable def jb1(g h:Heap)(L:Addr):List (Addr×Obj):=(List.range h.objs.size).filterMap λa=>if a=L \/ (g.get? a).isSome=true then none else(h.get? a).map λo=>(a,o)
noncomputable def rest(g h:Heap)(L d:Addr):List (Addr×Obj):=(jb1 g h L).filter λp=>decide (p.1≠d)
structure Mod(K:PySem.W.Frag)(mg:Str->Option Value)(base:Heap):Prop where
 kin:K.In base
 glob:base.Ns mainGlobals mg
 blt:∃ mb,base.Ns builtinsNs mb/\∀ x:Str,x≠"__name__"->mb x=bootBuiltins x
 nolimit:base.NoLimit
structure Cx where
 prog:Program
 w:World
 K:PySem.W.Frag
 mg:Str->Option Value
 base:Heap
 A:Around
 N:List Str
 s₀:Shared
 H₀:Hp
 env:Env
 outer:List Env
 stack:List Env
 ex:List Addr
 fn:Str->Bool
 calm:Bool
 pn:List (Addr×Obj)
 xe:Value->Shared->Prop
noncomputable def frs(l:List Env):List Addr:=l.filterMap (·.frame)
noncomputable abbrev Cx.fs(X:Cx):List Addr:=frs X.outer
def Vis(sc:Scope)(x:Str):Prop:=sc.names.lookup x=some .local \/ sc.names.lookup x=some .cell \/ sc.names.lookup x=some .free
def Loc(sc:Scope)(x:Str):Prop:=sc.names.lookup x=some .local \/ sc.names.lookup x=some .cell
def jg0(env:Env)(h:Heap)(m:Str->Option Value)(x:Str)(u:Value):Prop :=
 (env.kindOf x=some .local/\m x=some u) \/ ((env.kindOf x=some .cell \/ env.kindOf x=some .free)/\∃ c,env.cells.lookup x=some c/\h.IsCell c (some u))
structure Cx.Ok(X:Cx):Prop where
 mod:Mod X.K X.mg X.base
 kind:X.env.scope.kind=.function
 glob:X.env.globals=mainGlobals
 blt:X.env.builtins=builtinsNs
 above:X.s₀.heap.objs.size<=X.env.locals
 inj:∀ x y c,X.env.cells.lookup x=some c->X.env.cells.lookup y=some c->x=y
 has:∀ x,(X.env.kindOf x=some .cell \/ X.env.kindOf x=some .free)->∃ c,X.env.cells.lookup x=some c
 cab:∀ x c,X.fn x=true->X.env.cells.lookup x=some c->X.s₀.heap.objs.size<=c
 hd:X.calm=true->X.A.handled=none
 frames:X.A.frames=some X.stack
 stk:X.stack=X.outer \/ (X.stack=X.env::X.outer/\X.env.frame=some X.env.locals)
 exf:∀ b∈X.ex,b≠X.env.locals/\∀ x c,X.env.cells.lookup x=some c->c≠b
 bs:∀ b o,X.base.get? b=some o->X.s₀.heap.get? b=some o/\X.H₀ b=none
 bsz:X.base.objs.size<=X.s₀.heap.objs.size
 noex:∀ b o,X.base.get? b=some o->b∉X.ex
 exfs:∀ b∈X.ex,b∉X.fs
 funs:X.s₀.heap.FunFrames X.base X.outer
 frf:∀ b∈X.fs,X.H₀ b=none
structure Inv(X:Cx)(pins:List (Addr×Obj))(σ:List (Option V))(H:Hp)(s:Shared):Prop where
 ok:X.Ok
 os:s.os=X.s₀.os
 bare:AllBare s.gens
 base:Un X.fs X.ex X.H₀ H X.s₀.heap s.heap
 loc:∃ m,s.heap.Ns X.env.locals m/\∀(i:Nat) (x:Str) (v:V),X.N[i]?=some x->σ[i]?=some (some v)->Vis X.env.scope x->∃ u,RelV v u/\jg0 X.env s.heap m x u
 cell:∀ x c,X.env.cells.lookup x=some c->∃ v,s.heap.IsCell c v
 free:H X.env.locals=none
 freeC:∀ x c,X.env.cells.lookup x=some c->H c=none
 pin:∀ p∈X.pn++pins,s.heap.get? p.1=some p.2/\H p.1=none/\p.1≠X.env.locals/\p.1∉X.fs/\∀ v,p.2.data≠.cell v
 hok:HOk X.prog X.w H s.heap
 len:σ.length=X.N.length
section
variable {X:Cx}{pins:List (Addr×Obj)}{σ:List (Option V)}{H H':Hp}{s:Shared}{h':Heap}
theorem Cx.Ok.nofr(ok:X.Ok){b:Addr}{o:Obj}(e:X.base.get? b=some o):b∉X.fs:=λa=>by
 have:=(ok.funs.mem a).1;rw[e] at this;cases this
theorem Inv.bs(I:Inv X pins σ H s):∀ b o,X.base.get? b=some o->s.heap.get? b=some o/\H b=none:=λb o e =>
 ⟨I.base.keep b o (I.ok.bs b o e).1 (I.ok.bs b o e).2 (I.ok.nofr e) (I.ok.noex b o e),I.base.free b o (I.ok.bs b o e).1 (I.ok.bs b o e).2 (I.ok.noex b o e)⟩
theorem Inv.bk(I:Inv X pins σ H s):∀ b o,X.base.get? b=some o->s.heap.get? b=some o:=λb o e=>(I.bs b o e).1
theorem Inv.mod(I:Inv X pins σ H s):Mod X.K X.mg X.base:=I.ok.mod
theorem Inv.kIn(I:Inv X pins σ H s):X.K.In s.heap:=I.ok.mod.kin.keeps I.bk
theorem Inv.fr(I:Inv X pins σ H s):∃ m,Fr X.base X.env.locals s.heap m :=
 let ⟨m,hn,_⟩:=I.loc
 ⟨m,hn,I.bk,N7 I.ok.bsz I.ok.above⟩
theorem Inv.lt(I:Inv X pins σ H s):X.env.locals < s.heap.objs.size:=let ⟨_,hn,_⟩:=I.loc;hn.lt
theorem Inv.sz(I:Inv X pins σ H s):X.s₀.heap.objs.size<=s.heap.objs.size:=N7 I.ok.above (Nat.le_of_lt I.lt)
theorem Inv.nofs(I:Inv X pins σ H s){a:Addr}(h:s.heap.objs.size<=a):a∉X.fs:=λb=>by
 obtain⟨_,o,c,_⟩:=I.ok.funs.mem b;exact absurd (U3 (N1 c) (N7 I.sz h)) (Nat.lt_irrefl _)
theorem Inv.cne(I:Inv X pins σ H s):∀ x c,X.env.cells.lookup x=some c->c≠X.env.locals:=λx c e z=>by
 obtain⟨v,o,d,hd⟩:=I.cell x c e;obtain⟨m,⟨f,g,h,a,b,_⟩,_⟩:=I.loc;rw[z,a] at d;cases d;rw[b] at hd;cases hd
theorem Inv.funs(I:Inv X pins σ H s):s.heap.FunFrames X.base X.outer:=by
 have all:∀(l:List Env),(∀ b∈frs l,b∈X.fs)->X.s₀.heap.FunFrames X.base l->s.heap.FunFrames X.base l:=by
  intro l
  induction l with
  | nil=>intro _ _;trivial
  | cons env r g =>
   intro f h;obtain⟨i,⟨L,o,a,j,k,hd⟩,m⟩:=h;have c:L∈X.fs:=f L (by unfold frs;rw[List.filterMap_cons,a];exact L7);obtain⟨n,e⟩:=I.base.slot L o k (I.ok.frf L c) c λz=>I.ok.exfs L z c;exact⟨i,⟨L,_,a,j,e,hd⟩,g (λb d=>f b (by unfold frs;rw[List.filterMap_cons,a];exact L6 _ d)) m⟩
 exact all X.outer (λ_ d=>d) I.ok.funs
theorem Inv.stack(I:Inv X pins σ H s):s.heap.FunFrames X.base X.stack:=by
 rcases I.ok.stk with e | ⟨e,a⟩
 ·rw[e];exact I.funs
 ·rw[e];obtain⟨m,b,_⟩:=I.loc;refine .cons (by rw[I.ok.kind];decide) a b ?_ I.funs;exact Heap.get?_none_of_le (N7 I.ok.bsz I.ok.above)
theorem Inv.stkSub(I:Inv X pins σ H s):∀ b∈frs X.stack,b∈X.env.locals::X.fs:=λb a=>by
 rcases I.ok.stk with e | ⟨e,c⟩
 ·rw[e] at a;exact L6 _ a
 ·rw[e] at a;unfold frs at a;rw[List.filterMap_cons,c] at a;exact a
theorem Inv.stkFree(I:Inv X pins σ H s):∀ b∈frs X.stack,H b=none:=λb a=>by
 rcases M5.mp (I.stkSub b a) with e | a
 ·rw[e];exact I.free
 ·obtain⟨_,o,c,_⟩:=I.ok.funs.mem a;exact I.base.free b o c (I.ok.frf b a) λz=>I.ok.exfs b z a
theorem Inv.step{g':Array GenState}{t':Nat}{d':Drawn}{ch:List Addr}(I:Inv X pins σ H s)
  (f:∀ b∈ch,(b∈X.ex \/ X.s₀.heap.objs.size<=b)/\b≠X.env.locals/\(∀ x c,X.env.cells.lookup x=some c->c≠b)/\∀ p∈X.pn++pins,p.1≠b)
  (keep:∀ b o,b≠X.env.locals->b∉X.fs->b∉ch->s.heap.get? b=some o->H b=none->h'.get? b=some o)
  (slot:∀ b o,b≠X.env.locals->b∈X.fs->b∉ch->s.heap.get? b=some o->H b=none->∃ sl,h'.get? b=some { o with slots:=sl }) (free:∀ b o,b∉ch->s.heap.get? b=some o->H b=none->H' b=none)
  (there:∀ b o,b∉ch->s.heap.get? b=some o->∃ o',h'.get? b=some o')
  (tups:∀ b xs,H b=some (.tup xs)->H' b=some (.tup xs)) (frzs:∀ b o u,H b=some (.frz o u)->H' b=some (.frz o u)) (tbls:∀ b ps,H b=some (.tbl ps)->∃ more,H' b=some (.tbl (ps++more)))
  (ns:∀ m,s.heap.Ns X.env.locals m->h'.Ns X.env.locals m) (hok:HOk X.prog X.w H' h') (J:AllBare g') :
  Inv X pins σ H' { s with heap:=h',gens:=g',drawn:=d',toks:=t' }:=by
 have B:∀ b o,X.s₀.heap.get? b=some o->b≠X.env.locals:=λb o e=>N6 (U3 (N1 e) I.ok.above);have j:∀ b o,X.s₀.heap.get? b=some o->b∉X.ex->b∉ch:=λb o e a y=>by
  rcases(f b y).1 with z | z
  ·exact a z
  ·exact absurd (U3 (N1 e) z) (Nat.lt_irrefl _)
 have g:∀ x c,X.env.cells.lookup x=some c->∀ v,s.heap.IsCell c v->h'.IsCell c v:=λx c e v ⟨o,A,hd⟩=>by
  have h:c∉ch:=λz=>(f c z).2.2.1 x c e rfl;by_cases E:c∈X.fs
  ·obtain⟨sl,q⟩:=slot c o (I.cne x c e) E h A (I.freeC x c e);exact⟨_,q,hd⟩
  ·exact⟨o,keep c o (I.cne x c e) E h A (I.freeC x c e),hd⟩
 refine⟨I.ok,I.os,J,⟨λb o e n y a=>?_,λb o e n y a=>?_,λb o e n a=>?_,λb o e a=>?_,λb xs e=>tups b xs (I.base.tups b xs e),λb o xs e=>frzs b o xs (I.base.frzs b o xs e),λb ps e=>?_⟩,?_,λx c e=>?_,?_,λx c e=>?_,λp F=>?_,hok,I.len⟩
 ·exact keep b o (B b o e) y (j b o e a) (I.base.keep b o e n y a) (I.base.free b o e n a)
 ·obtain⟨sl,t⟩:=I.base.slot b o e n y a;obtain⟨D,C⟩:=slot b _ (B b o e) y (j b o e a) t (I.base.free b o e n a);exact⟨D,C⟩
 ·obtain⟨o',t⟩:=I.base.there b o e a;exact free b o' (j b o e a) t (I.base.free b o e n a)
 ·obtain⟨o',t⟩:=I.base.there b o e a;exact there b o' (j b o e a) t
 ·obtain⟨K,t⟩:=I.base.tbls b ps e;obtain⟨L,C⟩:=tbls b _ t;exact⟨K++L,by rw[C,Array.append_assoc]⟩
 ·obtain⟨m,M,N⟩:=I.loc;refine⟨m,ns m M,λi x v t C O=>?_⟩;obtain⟨u,r,l⟩:=N i x v t C O;refine⟨u,r,?_⟩;rcases l with l | ⟨k,c,e,z⟩
  ·exact .inl l
  ·exact .inr ⟨k,c,e,g x c e _ z⟩
 ·obtain⟨v,z⟩:=I.cell x c e;exact⟨v,g x c e v z⟩
 ·obtain⟨m,⟨o,_,_,A,_⟩,_⟩:=I.loc;exact free _ o (λz=>(f _ z).2.1 rfl) A I.free
 ·obtain⟨v,o,A,hd⟩:=I.cell x c e;exact free c o (λz=>(f c z).2.2.1 x c e rfl) A (I.freeC x c e)
 ·obtain⟨e,n,ne,G,d⟩:=I.pin p F;have h:p.1∉ch:=λz=>(f p.1 z).2.2.2 p F rfl;exact⟨keep p.1 p.2 ne G h e n,free p.1 p.2 h e n,ne,G,d⟩
theorem Inv.un{t':Nat}(I:Inv X pins σ H s)(u:Un X.fs [] H H' s.heap h')(hok:HOk X.prog X.w H' h'):Inv X pins σ H' { s with heap:=h',toks:=t' }:=by
 obtain⟨m,⟨o,k,l,g,r⟩,_⟩:=id I.loc;obtain⟨p,h⟩:=u.any g I.free (by simp);exact I.step (g':=s.gens) (d':=s.drawn) (ch:=[]) (λ_ z=>nomatch z) (λb o _ c _ e n=>u.keep b o e n c (by simp)) (λb o _ c _ e n=>u.slot b o e n c (by simp)) (λb o _ e n=>u.free b o e n (by simp)) (λb o _ e=>u.there b o e (by simp)) u.tups u.frzs u.tbls (λq i=>by
  obtain⟨t,d,f,a,j⟩:=i;rw[g] at a;cases a;exact⟨_,d,f,h,j⟩) hok I.bare
theorem Inv.call{g':Array GenState}{t':Nat}{d':Drawn}{ch:List Addr}(I:Inv X pins σ H s)(u:Un (frs X.stack) ch H H' s.heap h')(hok:HOk X.prog X.w H' h')(k:AllBare g')
  (d:∀ b∈ch,(b∈X.ex \/ X.s₀.heap.objs.size<=b)/\b≠X.env.locals/\(∀ x c,X.env.cells.lookup x=some c->c≠b)/\∀ p∈X.pn++pins,p.1≠b) :
  Inv X pins σ H' { s with heap:=h',gens:=g',drawn:=d',toks:=t' }:=by
 obtain⟨m,⟨o,v,y,j,r⟩,_⟩:=id I.loc;obtain⟨A,g⟩:=u.any j I.free λz=>(d _ z).2.1 rfl;exact I.step (ch:=ch) d (λb o g l a e n=>u.keep b o e n (λz=>(M5.mp (I.stkSub b z)).elim g l) a) (λb o _ _ a e n=>u.any e n a) (λb o a e n=>u.free b o e n a) (λb o a e=>u.there b o e a) u.tups u.frzs u.tbls (λB q=>by
  obtain⟨C,h,i,f,t⟩:=q;rw[j] at f;cases f;exact⟨_,h,i,g,t⟩) hok k
theorem Inv.turned{t':Nat}{a:Addr}(I:Inv X pins σ H s)(k:∀ b o,b≠a->s.heap.get? b=some o->h'.get? b=some o)(h:H a=none)(g:a≠X.env.locals)
  (h1:a∈X.ex \/ X.s₀.heap.objs.size<=a) (h2:∀ x c,X.env.cells.lookup x=some c->c≠a) (i:∀ p∈X.pn++pins,p.1≠a):Inv X pins σ H { s with heap:=h',toks:=t' }:=by
 have f:∀ b u,H b=some u->b≠a:=λb u e z=>by rw[z,h] at e;cases e
 refine I.step (g':=s.gens) (d':=s.drawn) (ch:=[a]) (λb j=>?_) (λb o _ _ d e _=>k b o (λz=>d (by simp[z])) e) (λb o _ _ d e _=>⟨o.slots,k b o (λz=>d (by simp[z])) e⟩) (λ_ _ _ _ n=>n)
  (λb o d e=>⟨o,k b o (λz=>d (by simp[z])) e⟩) (λ_ _ e=>e) (λ_ _ _ e=>e) (λb A e=>⟨#[],by rw[e];simp⟩) (λm l=>?_) (λb u e=>?_) I.bare
 ·have e:b=a:=by simpa using j
  subst e;exact⟨h1,g,h2,i⟩
 ·obtain⟨o,t,w,y,r⟩:=l;exact⟨o,t,w,k _ o (Ne.symm g) y,r⟩
 ·refine(I.hok b u e).stay (λc v d q=>k c v ?_ q) (λ_ q=>q) λ_ _ q=>q;rcases d with z | z
  ·rw[z];exact f b u e
  ·exact f c _ z
theorem Inv.tok(I:Inv X pins σ H s)(t:Nat):Inv X pins σ H { s with toks:=t }:=I.un (h':=s.heap) (t':=t) Un.refl I.hok
theorem Inv.kept{t':Nat}(I:Inv X pins σ H s)(k:∀ b u,s.heap.get? b=some u->h'.get? b=some u):Inv X pins σ H { s with heap:=h',toks:=t' }:=I.un (Un.kept k) (I.hok.kept k)
theorem Inv.laid{a:Addr}{o:HO}{t':Nat}(I:Inv X pins σ H s)(k:∀ b u,s.heap.get? b=some u->h'.get? b=some u)(hp:s.heap.objs.size<=a)(new:ObjOk X.prog X.w (upd H a o) h' a o) :
  Inv X pins σ (upd H a o) { s with heap:=h',toks:=t' }:=I.un (Un.laid k hp (I.hok.fresh hp)) (I.hok.laid k hp new)
theorem Inv.write{x e:Addr}{o:HO}{t':Nat}(I:Inv X pins σ H s)(c:Mut (H x))(d:e=x \/ H e=some (.own x))(k:∀ b u,b≠e->s.heap.get? b=some u->h'.get? b=some u)(a:∃ u,h'.get? e=some u)
  (new:ObjOk X.prog X.w (upd H x o) h' x o):Inv X pins σ (upd H x o) { s with heap:=h',toks:=t' }:=I.un (Un.write c d k a) (I.hok.write c d k a new)
theorem Inv.pins_of{a:List (Addr×Obj)}(I:Inv X pins σ H s)(h:∀ p∈a,s.heap.get? p.1=some p.2/\H p.1=none/\p.1≠X.env.locals/\p.1∉X.fs/\∀ v,p.2.data≠.cell v):Inv X a σ H s :=
 ⟨I.ok,I.os,I.bare,I.base,I.loc,I.cell,I.free,I.freeC,λp b=>(N2.mp b).elim (λz=>I.pin p (List.mem_append_left _ z)) (h p),I.hok,I.len⟩
theorem Vr{N:List Str}(c:N.Nodup){i j:Nat}{x:Str}(a:N[i]?=some x)(b:N[j]?=some x):i=j:=by
 obtain⟨f,d⟩:=L9.mp a;obtain⟨g,e⟩:=L9.mp b;exact(List.getElem_inj c).mp (d.trans e.symm)
theorem x6{M:Model}{A:Around}{E:Value->Shared->Prop}{i:Nat}{x:Str}{v:V}{u:Value}{Q:Unit->Shared->Prop}(I:Inv X pins σ H s)(hN:X.N.Nodup)(hi:X.N[i]?=some x)(B:Loc X.env.scope x)(r:RelV v u)
  (h:∀ s',Inv X pins (σ.set i (some v)) H s'->(∃ a,Heap.SameBut a s.heap s'.heap/\(a=X.env.locals \/ X.env.cells.lookup x=some a))->Q () s') (hf:X.fn x=true \/ X.env.scope.names.lookup x=some .local:=by first | exact .inl rfl | exact .inr rfl | assumption):wpAny M A (storeName X.env x u) Q E s:=by
 obtain⟨m,Z,hl⟩:=id I.loc;have O:(X.env.scope.kind==.class||(X.env.scope.kind==.module&&X.env.locals != X.env.globals))=false:=by rw[I.ok.kind];rfl
 have P:i < σ.length:=by rw[I.len];exact(L9.mp hi).1
 have cne:=I.cne;have g:∀{a:Addr}{L:Heap},(∃ o,s.heap.get? a=some o/\H a=none)->Heap.SameBut a s.heap L->HOk X.prog X.w H L:=λ{a L} ha f b ob e=>by
  obtain⟨_,_,C⟩:=ha;refine(I.hok b ob e).stay (λc W t q=>(f.2 c ?_).trans q) (λ_ q=>q) λ_ _ q=>q;rintro rfl;rcases t with rfl | t
  ·rw[C] at e;cases e
  ·rw[C] at t;cases t
 rcases B with F | F
 ·refine wpAny_storeName_local F Z (λL hn' f=>?_) O;obtain⟨oL,_,_,hoL,_⟩:=id Z;refine h _ ⟨I.ok,I.os,I.bare,⟨λb o e n G B=>?_,λb o e n G B=>?_,I.base.free,λb o e B=>?_,I.base.tups,I.base.frzs,I.base.tbls⟩,⟨_,hn',λj y v' l D e3=>?_⟩,λy c e=>?_,I.free,I.freeC,λp hp=>?_,g ⟨oL,hoL,I.free⟩ f,by simpa using I.len⟩ ⟨_,f,.inl rfl⟩
  ·exact(f.2 b (N6 (U3 (N1 e) I.ok.above))).trans (I.base.keep b o e n G B)
  ·obtain⟨sl,l⟩:=I.base.slot b o e n G B;exact⟨sl,(f.2 b (N6 (U3 (N1 e) I.ok.above))).trans l⟩
  ·obtain⟨o',l⟩:=I.base.there b o e B;exact⟨o',(f.2 b (N6 (U3 (N1 e) I.ok.above))).trans l⟩
  ·by_cases J:j=i
   ·subst J;rw[hi] at l;cases l;rw[List.getElem?_set_self P] at D;cases D;exact⟨u,r,.inl ⟨F,by simp⟩⟩
   ·rw[List.getElem?_set_ne (Ne.symm J)] at D;obtain⟨u',r',q⟩:=hl j y v' l D e3;refine⟨u',r',?_⟩;rcases q with⟨k,e⟩ | ⟨k,c,e,z⟩
    ·refine .inl ⟨k,?_⟩;have:y≠x:=λe=>J (Vr hN l (e▸hi));simp[this,e]
    ·exact .inr ⟨k,c,e,z.sameBut f (cne y c e)⟩
  ·obtain⟨W,z⟩:=I.cell y c e;exact⟨W,z.sameBut f (cne y c e)⟩
  ·obtain⟨e,n,ne,nf,d⟩:=I.pin p hp;exact⟨(f.2 p.1 ne).trans e,n,ne,nf,d⟩
 ·have K:X.fn x=true:=by
   rcases hf with z | z
   ·exact z
   ·rw[z] at F;cases F
  obtain⟨c,t⟩:=I.ok.has x (.inl F);obtain⟨W,z⟩:=I.cell x c t;refine wpAny_storeName_cell I.ok.kind F t z (λL R f=>?_);obtain⟨oc,S,T⟩:=id z;refine h { s with heap:=L } ⟨I.ok,I.os,I.bare,⟨λb o e n G B=>?_,λb o e n G B=>?_,I.base.free,λb o e B=>?_,I.base.tups,I.base.frzs,I.base.tbls⟩,⟨m,Z.sameBut f (Ne.symm (cne x c t)),λj y v' l D e3=>?_⟩,λy Y e=>?_,I.free,I.freeC,λp hp=>?_,g ⟨oc,S,I.freeC x c t⟩ f,by simpa using I.len⟩ ⟨c,f,.inr t⟩
  ·exact(f.2 b (N6 (U3 (N1 e) (I.ok.cab x c K t)))).trans (I.base.keep b o e n G B)
  ·obtain⟨sl,l⟩:=I.base.slot b o e n G B;exact⟨sl,(f.2 b (N6 (U3 (N1 e) (I.ok.cab x c K t)))).trans l⟩
  ·obtain⟨o',l⟩:=I.base.there b o e B;exact⟨o',(f.2 b (N6 (U3 (N1 e) (I.ok.cab x c K t)))).trans l⟩
  ·by_cases J:j=i
   ·subst J;rw[hi] at l;cases l;rw[List.getElem?_set_self P] at D;cases D;exact⟨u,r,.inr ⟨.inl F,c,t,R⟩⟩
   ·rw[List.getElem?_set_ne (Ne.symm J)] at D;obtain⟨u',r',q⟩:=hl j y v' l D e3;refine⟨u',r',?_⟩;rcases q with q | ⟨k,Y,e,z'⟩
    ·exact .inl q
    ·refine .inr ⟨k,Y,e,z'.sameBut f ?_⟩;rintro rfl;exact J (Vr hN l (I.ok.inj _ _ _ e t▸hi))
  ·by_cases U:Y=c
   ·subst U;exact⟨_,R⟩
   ·obtain⟨w2,z2⟩:=I.cell y Y e;exact⟨w2,z2.sameBut f U⟩
  ·obtain⟨e,n,ne,nf,d⟩:=I.pin p hp;refine⟨(f.2 p.1 ?_).trans e,n,ne,nf,d⟩;intro q;rw[q,S] at e;have q':oc=p.2:=X0 e;exact d W (by rw[<- q'];exact T)
theorem JR{M:Model}{A:Around}{E:Value->Shared->Prop}{i:Nat}{x:Str}{v:V}{u:Value}{Q:Unit->Shared->Prop}(I:Inv X pins σ H s)(a:X.N.Nodup)(hi:X.N[i]?=some x)(b:Loc X.env.scope x)(r:RelV v u)
  (h:∀ s',Inv X pins (σ.set i (some v)) H s'->Q () s') (c:X.fn x=true \/ X.env.scope.names.lookup x=some .local:=by first | exact .inl rfl | exact .inr rfl | assumption):wpAny M A (storeName X.env x u) Q E s :=
 x6 I a hi b r (λs' d _=>h s' d) c
theorem Inv.call'{s':Shared}{ch:List Addr}(I:Inv X pins σ H s)(h:s'.os=s.os)(u:Un (frs X.stack) ch H H' s.heap s'.heap)(hok:HOk X.prog X.w H' s'.heap)(i:AllBare s'.gens)
  (a:∀ b∈ch,(b∈X.ex \/ X.s₀.heap.objs.size<=b)/\b≠X.env.locals/\(∀ x c,X.env.cells.lookup x=some c->c≠b)/\∀ p∈X.pn++pins,p.1≠b):Inv X pins σ H' s':=by
 obtain⟨k,d,f,g,j⟩:=s';have e:j=s.os:=h;subst e;exact I.call (g':=d) (t':=g) (d':=f) u hok i a
end
noncomputable abbrev XK:=Value->Option Addr->Hp->Prop
noncomputable abbrev St:=List (Option V)
noncomputable abbrev VK:=V->Hp->Prop
noncomputable abbrev TE:=St->Hp->VK->Prop
noncomputable abbrev TT:=St->Hp->(Bool->Hp->Prop)->Prop
noncomputable abbrev TA:=St->Hp->(List V->Hp->Prop)->Prop
structure Ends where
 nx:St->Hp->Prop
 rt:VK
 bk:St->Hp->Prop:=λ_ _=>False
 ct:St->Hp->Prop:=λ_ _=>False
noncomputable abbrev TS:=Ends->St->Hp->Prop
def EP(X:Cx)(pins:List (Addr×Obj))(σ:St)(Q:VK)(u:Value)(s':Shared):Prop:=∃ v H',Inv X pins σ H' s'/\RelV v u/\Q v H'
def TP(X:Cx)(pins:List (Addr×Obj))(σ:St)(Q:Bool->Hp->Prop)(b:Bool)(s':Shared):Prop:=∃ H',Inv X pins σ H' s'/\Q b H'
def AP(X:Cx)(pins:List (Addr×Obj))(σ:St)(Q:List V->Hp->Prop)(us:List Value)(s':Shared):Prop:=∃ vs H',Inv X pins σ H' s'/\Vals vs us/\Q vs H'
def SP(X:Cx)(pins:List (Addr×Obj))(D:Ends)(f:Flow)(s':Shared):Prop :=
 match f with
 | .next=>∃ σ' H',Inv X pins σ' H' s'/\D.nx σ' H'
 | .brk=>∃ σ' H',Inv X pins σ' H' s'/\D.bk σ' H'
 | .cont=>∃ σ' H',Inv X pins σ' H' s'/\D.ct σ' H'
 | .ret u=>∃ v σ' H',Inv X pins σ' H' s'/\RelV v u/\D.rt v H'
def PE(X:Cx)(e:Expr)(t:TE):Prop :=
 ∀(pins:List (Addr×Obj)) (s:Shared) (σ:St) (H:Hp) (Q:VK),Inv X pins σ H s->t σ H Q->wpAny (model X.prog X.w) X.A (eval e X.env) (EP X pins σ Q) X.xe s
def PT(X:Cx)(e:Expr)(t:TT):Prop :=
 ∀(pins:List (Addr×Obj)) (s:Shared) (σ:St) (H:Hp) (Q:Bool->Hp->Prop),Inv X pins σ H s->t σ H Q->wpAny (model X.prog X.w) X.A (isTrue e X.env (eval e X.env)) (TP X pins σ Q) X.xe s
def PW(X:Cx)(e:Expr)(t:TT):Prop :=
 ∀(whole:Sem Value) (pins:List (Addr×Obj)) (s:Shared) (σ:St) (H:Hp) (Q:Bool->Hp->Prop),Inv X pins σ H s->t σ H Q->wpAny (model X.prog X.w) X.A (isTrue e X.env whole) (TP X pins σ Q) X.xe s
theorem PW.pt{X:Cx}{e:Expr}{t:TT}(h:PW X e t):PT X e t:=h _
def PA(X:Cx)(es:List Expr)(t:TA):Prop :=
 ∀(pos:Pos) (pins:List (Addr×Obj)) (s:Shared) (σ:St) (H:Hp) (Q:List V->Hp->Prop),Inv X pins σ H s->t σ H Q->wpAny (model X.prog X.w) X.A (spliced (backTo pos (starEach es X.env))) (AP X pins σ Q) X.xe s
def PS(X:Cx)(st:Stmt)(t:TS):Prop :=
 ∀(pins:List (Addr×Obj)) (s:Shared) (σ:St) (H:Hp) (D:Ends),Inv X pins σ H s->t D σ H->wpAny (model X.prog X.w) X.A (exec st X.env) (SP X pins D) X.xe s
def PSs(X:Cx)(st:List Stmt)(t:TS):Prop :=
 ∀(pins:List (Addr×Obj)) (s:Shared) (σ:St) (H:Hp) (D:Ends),Inv X pins σ H s->t D σ H->wpAny (model X.prog X.w) X.A (execs st X.env) (SP X pins D) X.xe s
theorem thn{α:Type}{t:Sem α}{Q b:α->Shared->Prop}{M:Model}{A:Around}{E:Value->Shared->Prop}{s:Shared}(h:wpAny M A t Q E s)(c:∀ a s,Q a s->b a s):wpAny M A t b E s:=wpAny_mono h c λ_ _ x=>x
section
variable {X:Cx}
noncomputable def KH(i:Nat):TE:=λσ H Q=>∃ v,σ[i]?=some (some v)/\Q v H
noncomputable def tC(v:V):TE:=λ_ H Q=>Q v H
theorem KC{i:Nat}{x:Str}{pos:Pos}(j:X.N[i]?=some x)(k:Vis X.env.scope x)(hd:(x==("__debug__" : Str))=false:=by decide)(f:(x==("__classdict__" : Str))=false:=by decide):PE X (.Name x pos) (KH i):=by
 intro d s σ H Q I h;obtain⟨v,e,h⟩:=h;obtain⟨m,n,o⟩:=I.loc;obtain⟨u,r,l⟩:=o i x v j e k;have fin:EP X d σ Q u s:=⟨v,H,I,r,h⟩;rcases l with⟨b,p⟩ | ⟨b,c,g,a⟩
 ·exact wpAny_Name (wpAny_loadName_local I.ok.kind b n p fin) hd
 ·rcases b with b | b
  ·exact wpAny_Name (wpAny_loadName_cell I.ok.kind b g a fin) hd
  ·exact wpAny_Name (wpAny_loadName_free I.ok.kind b g a fin f) hd
theorem jds{i j pos}:PE X (.Constant (.int i) j pos) (tC (.int i)):=λ_ _ _ H _ I h=>wpAny_Constant_int ⟨.int i,H,I.tok _,⟨_,rfl⟩,h⟩
theorem jfY{b j pos}:PE X (.Constant (.bool b) j pos) (tC (.bl b)):=λ_ _ _ H _ I h=>Constant_bool ⟨.bl b,H,I,rfl,h⟩
theorem jdp{j pos}:PE X (.Constant .none j pos) (tC .non):=λ_ _ _ H _ I h=>Constant_none ⟨.non,H,I,rfl,h⟩
theorem jdr{x j pos}:PE X (.Constant (.str x) j pos) (tC (.str x)):=λ_ _ _ H _ I h=>Calls.Constant_str ⟨.str x,H,I.tok _,⟨_,rfl⟩,h⟩
def Gl(X:Cx)(x:Str):Prop:=X.env.kindOf x=some .globalImplicit
theorem qd{E:Value->Shared->Prop}{pins:List (Addr×Obj)}{s:Shared}{σ:St}{H:Hp}{x:Str}{u:Value}{pos:Pos}{Q:Value->Shared->Prop}(I:Inv X pins σ H s)(a:Gl X x)(b:X.mg x=some u)(h:Q u s)
  (hd:(x==("__debug__" : Str))=false:=by decide):wpAny (model X.prog X.w) X.A (eval (.Name x pos) X.env) Q E s :=
 Calls.Name_function_global I.ok.kind a (Calls.loadGlobal_global (by rw[I.ok.glob];exact I.mod.glob.keeps I.bk) b h) hd
theorem Yd{E:Value->Shared->Prop}{pins:List (Addr×Obj)}{s:Shared}{σ:St}{H:Hp}{x:Str}{u:Value}{pos:Pos}{Q:Value->Shared->Prop}(I:Inv X pins σ H s)(a:Gl X x)(b:X.mg x=none)(c:bootBuiltins x=some u)(h:Q u s)
  (d:x≠"__name__":=by decide) (hd:(x==("__debug__" : Str))=false:=by decide):wpAny (model X.prog X.w) X.A (eval (.Name x pos) X.env) Q E s:=by
 obtain⟨g,e,f⟩:=I.mod.blt;exact Calls.Name_function_global I.ok.kind a (Calls.loadGlobal_builtin (by rw[I.ok.glob];exact I.mod.glob.keeps I.bk) b (by rw[I.ok.blt];exact e.keeps I.bk) ((f x d).trans c) h) hd
theorem Vd{x:Str}{v:V}{u:Value}{pos:Pos}(a:Gl X x)(b:X.mg x=some u)(r:RelV v u)(hd:(x==("__debug__" : Str))=false:=by decide):PE X (.Name x pos) (tC v) :=
 λ_ _ _ H _ I h=>qd I a b ⟨v,H,I,r,h⟩ hd
theorem uw{x:Str}{v:V}{u:Value}{pos:Pos}(a:Gl X x)(b:X.mg x=none)(c:bootBuiltins x=some u)(r:RelV v u)(d:x≠"__name__":=by decide)(hd:(x==("__debug__" : Str))=false:=by decide):PE X (.Name x pos) (tC v) :=
 λ_ _ _ H _ I h=>Yd I a b c ⟨v,H,I,r,h⟩ d hd
variable {a b:Expr}{ta tb:TE}{pos:Pos}
noncomputable def tB(t:TE):TT:=λσ H Q=>t σ H λx H1=>∃ c,x=.bl c/\Q c H1
theorem jdL{e:Expr}{t:TE}(h:PE X e t)(b:∀ whole,isTrue e X.env whole=(do let v <- whole;standAt e.pos;holding [v] (truthy v)):=by intro _;rfl):PT X e (tB t):=by
 intro a s σ H Q I c;refine isTrue_plain (thn (h a s σ H _ I c) λv k ⟨x,f,g,i,j⟩=>?_) (b _);obtain⟨d,rfl,q⟩:=j;cases i;exact wpAny_truthy_bool ⟨f,g,q⟩
variable {tA tB':TT}{rest:List Expr}
noncomputable def jfO(t u:TT):TT:=λσ H Q=>t σ H λc H1=>if c=true then u σ H1 Q else Q false H1
noncomputable def tOr(t u:TT):TT:=λσ H Q=>t σ H λc H1=>if c=true then Q true H1 else u σ H1 Q
noncomputable def jf7(t:TT):TT:=λσ H Q=>t σ H λc H1=>Q (!c) H1
theorem jbR(d:PT X a tA):PW X (.BoolOp .And [a] pos) tA:=by
 intro f b s σ H Q I h;refine isTrue_and (thn (d b s σ H Q I h) λc g e=>?_);cases c with
 | true=>exact isTrue_and_nil e
 | false=>exact e
theorem jdw(d:PT X a tA):PW X (.BoolOp .Or [a] pos) tA:=by
 intro f b s σ H Q I h;refine isTrue_or (thn (d b s σ H Q I h) λc g e=>?_);cases c with
 | false=>exact isTrue_or_nil e
 | true=>exact e
theorem jdj(i:PT X a tA)(j:PW X (.BoolOp .And (b::rest) pos) tB'):PW X (.BoolOp .And (a::b::rest) pos) (jfO tA tB'):=by
 intro k d s σ H Q I h;refine isTrue_and (thn (i d s σ H _ I h) λc l ⟨e,f,g⟩=>?_);cases c with
 | true=>exact j k d l σ e Q f g
 | false=>exact⟨e,f,g⟩
theorem jfK(i:PT X a tA)(j:PW X (.BoolOp .Or (b::rest) pos) tB'):PW X (.BoolOp .Or (a::b::rest) pos) (tOr tA tB'):=by
 intro k d s σ H Q I h;refine isTrue_or (thn (i d s σ H _ I h) λc l ⟨e,f,g⟩=>?_);cases c with
 | true=>exact⟨e,f,g⟩
 | false=>exact j k d l σ e Q f g
theorem jdO(d:PT X a tA):PT X (.UnaryOp .Not a pos) (jf7 tA):=by
 intro b s σ H Q I h;exact isTrue_not (d b s σ H (λc e=>Q (!c) e) I h)
noncomputable def jbW(ta tb:TE):TE:=λσ H Q=>ta σ H λx H1=>∃ c,x=.bl c/\if c=true then tb σ H1 Q else Q (.bl false) H1
theorem jeN{op}{t:TE}(h:PE X a t):PE X (.BoolOp op [a] pos) t:=λb s σ H Q I c=>BoolOp_one (h b s σ H Q I c)
theorem jdT(i:PE X a ta)(j:PE X (.BoolOp .And (b::rest) pos) tb):PE X (.BoolOp .And (a::b::rest) pos) (jbW ta tb):=by
 intro d s σ H Q I h;refine BoolOp_and (thn (i d s σ H _ I h) λv k ⟨x,f,g,l,e⟩=>?_);obtain⟨c,rfl,e⟩:=e;cases l;refine wpAny_truthy_bool ?_;cases c with
 | true=>exact j d k σ f Q g e
 | false=>exact⟨.bl false,f,g,rfl,e⟩
noncomputable def tIf(t:TT)(ta tb:TE):TE:=λσ H Q=>t σ H λc H1=>if c=true then ta σ H1 Q else tb σ H1 Q
theorem uI{c:Expr}(k:PT X c tA)(l:PE X a ta)(m:PE X b tb):PE X (.IfExp c a b pos) (tIf tA ta tb):=by
 intro e s σ H Q I h;refine wpAny_IfExp (thn (k e s σ H _ I h) λd f ⟨g,i,j⟩=>?_);cases d with
 | true=>exact l e f σ g Q i j
 | false=>exact m e f σ g Q i j
end
def SqL(K:PySem.W.Frag)(H:Hp)(a:Addr)(xs:List V):Prop :=
 Rd H a (.lst xs) \/
  ∃(o:Obj) (its:Array Value) (n:Nat),K.lookup a=some o/\o.cls=.type "list"/\o.dict=none/\o.data=.seq its n/\its.size<=sizeLine/\Vals xs its.toList
def SqT(K:PySem.W.Frag)(H:Hp)(a:Addr)(xs:List V):Prop :=
 Rd H a (.tup xs) \/
  ∃(o:Obj) (its:Array Value) (n:Nat),K.lookup a=some o/\o.cls=.type "tuple"/\o.data=.seq its n/\its.size<=sizeLine/\Vals xs its.toList
noncomputable def jg3:Value->Option V
 | .none=>some .non
 | .bool b=>some (.bl b)
 | .int i _=>some (.int i)
 | .str x _=>some (.str x)
 | .bytes b _=>some (.byt b)
 | .float b _=>some (.flt b)
 | .ref a=>some (.ref a)
 | .type n=>some (.ty n)
 | _=>none
theorem RelV.abs{x:V}{u:Value}(r:RelV x u):jg3 u=some x:=by
 cases x with
 | non=>cases r;rfl
 | bl _=>cases r;rfl
 | int _=>obtain⟨t,rfl⟩:=r;rfl
 | str _=>obtain⟨t,rfl⟩:=r;rfl
 | byt _=>obtain⟨t,rfl⟩:=r;rfl
 | flt _=>obtain⟨t,rfl⟩:=r;rfl
 | ref _=>cases r;rfl
 | ty _=>cases r;rfl
theorem RelV.inj{x y:V}{u:Value}(r:RelV x u)(q:RelV y u):x=y:=X0 (r.abs.symm.trans q.abs)
theorem Vals.inj:∀{xs ys:List V}{us:List Value},Vals xs us->Vals ys us->xs=ys
 | _,_,_,.nil,.nil=>rfl
 | _,_,_,.cons r t,.cons a b=>by rw[r.inj a,Vals.inj t b]
section
variable {X:Cx}{pins:List (Addr×Obj)}{σ:St}{H:Hp}{s:Shared}{a:Addr}{xs ys:List V}
theorem SqL.of{K:PySem.W.Frag}(h:H a=some (.lst xs)):SqL K H a xs:=.inl (.inl h)
theorem Inv.list(I:Inv X pins σ H s)(h:SqL X.K H a xs):∃ its:List Value,Vals xs its/\PlainL s.heap a its.toArray/\xs.length<=sizeLine:=by
 rcases h with h | ⟨o,its,n,b,c,hd,d,f,r⟩
 ·obtain⟨z,its,n,r,e⟩:=h.ok I.hok;exact⟨its,r,⟨_,n,e,rfl,rfl,rfl⟩,z⟩
 ·refine⟨its.toList,r,⟨o,n,I.kIn a o b,c,hd,by simpa using d⟩,?_⟩;have e:=r.length;simp only[Array.length_toList] at e;omega
theorem Inv.tuple(I:Inv X pins σ H s)(h:SqT X.K H a xs):∃ its:List Value,Vals xs its/\IsTup s.heap a its.toArray/\xs.length<=sizeLine:=by
 rcases h with h | ⟨o,its,n,b,c,d,f,r⟩
 ·obtain⟨z,its,r,p⟩:=h.ok I.hok;exact⟨its,r,p.1,z⟩
 ·refine⟨its.toList,r,⟨o,I.kIn a o b,c,n,by simpa using d⟩,?_⟩;have e:=r.length;simp only[Array.length_toList] at e;omega
theorem Inv.list_inj(I:Inv X pins σ H s)(h:SqL X.K H a xs)(h':SqL X.K H a ys):xs=ys:=by
 obtain⟨c,r,⟨o,n,e,_,_,d⟩,_⟩:=I.list h;obtain⟨b,i,⟨j,k,f,_,_,g⟩,_⟩:=I.list h';rw[e] at f;cases f;rw[d] at g;injection g with d1 _;have:c=b:=by simpa using congrArg Array.toList d1
 subst this;exact r.inj i
theorem Inv.tuple_inj(I:Inv X pins σ H s)(h:SqT X.K H a xs)(h':SqT X.K H a ys):xs=ys:=by
 obtain⟨c,r,⟨o,e,_,n,d⟩,_⟩:=I.tuple h;obtain⟨b,i,⟨j,f,_,k,g⟩,_⟩:=I.tuple h';rw[e] at f;cases f;rw[d] at g;injection g with d1 _;have:c=b:=by simpa using congrArg Array.toList d1
 subst this;exact r.inj i
end
noncomputable abbrev Cx.wish(X:Cx)(E:Value->Shared->Prop):Cx:={ X with xe:=E }
noncomputable abbrev Cx.nox(X:Cx):Cx:=X.wish λ_ _=>False
theorem Cx.Ok.wish{X:Cx}(ok:X.Ok)(E:Value->Shared->Prop):(X.wish E).Ok :=
 ⟨ok.mod,ok.kind,ok.glob,ok.blt,ok.above,ok.inj,ok.has,ok.cab,ok.hd,ok.frames,ok.stk,ok.exf,ok.bs,ok.bsz,ok.noex,ok.exfs,ok.funs,ok.frf⟩
theorem Cx.Ok.unwish{X:Cx}{E:Value->Shared->Prop}(ok:(X.wish E).Ok):X.Ok :=
 ⟨ok.mod,ok.kind,ok.glob,ok.blt,ok.above,ok.inj,ok.has,ok.cab,ok.hd,ok.frames,ok.stk,ok.exf,ok.bs,ok.bsz,ok.noex,ok.exfs,ok.funs,ok.frf⟩
section
variable {X:Cx}{pins:List (Addr×Obj)}{σ:St}{H:Hp}{s:Shared}{E:Value->Shared->Prop}
theorem Inv.wish(I:Inv X pins σ H s)(E:Value->Shared->Prop):Inv (X.wish E) pins σ H s:=⟨I.ok.wish E,I.os,I.bare,I.base,I.loc,I.cell,I.free,I.freeC,I.pin,I.hok,I.len⟩
theorem Inv.unwish(I:Inv (X.wish E) pins σ H s):Inv X pins σ H s:=⟨I.ok.unwish,I.os,I.bare,I.base,I.loc,I.cell,I.free,I.freeC,I.pin,I.hok,I.len⟩
theorem SP.unwish{D:Ends}{f:Flow}{s':Shared}(h:SP (X.wish E) pins D f s'):SP X pins D f s':=by
 cases f with
 | next=>obtain⟨a,b,I,q⟩:=h;exact⟨a,b,I.unwish,q⟩
 | brk=>obtain⟨a,b,I,q⟩:=h;exact⟨a,b,I.unwish,q⟩
 | cont=>obtain⟨a,b,I,q⟩:=h;exact⟨a,b,I.unwish,q⟩
 | ret u=>obtain⟨v,a,b,I,r,q⟩:=h;exact⟨v,a,b,I.unwish,r,q⟩
theorem PSs.nox{st:List Stmt}{t:TS}(h:PSs X.nox st t):PSs X st t:=λa s σ H D I b =>
 wpAny_mono (h a s σ H D (I.wish _) b) (λ_ _ q=>q.unwish) λ_ _ z=>False.elim z
end
section
variable {X:Cx}{st:Stmt}{rest:List Stmt}{t u:TS}{e:Expr}{te:TE}{pos:Pos}
noncomputable def jcq:TS:=λD σ H=>D.nx σ H
noncomputable def jdg(t u:TS):TS:=λD σ H=>t { D with nx:=u D } σ H
theorem jbD:PSs X [] jcq:=λ_ _ σ H _ I h=>wpAny_execs_nil ⟨σ,H,I,h⟩
theorem Vb(h1:PS X st t)(h2:PSs X rest u):PSs X (st::rest) (jdg t u):=by
 intro a s σ H D I h;refine wpAny_execs_cons (thn (h1 a s σ H { D with nx:=u D } I h) λf b q=>?_);cases f with
 | next =>
  obtain⟨c,d,e,q⟩:=q;exact h2 a b c d D e q
 | ret v=>exact q
 | brk=>exact q
 | cont=>exact q
theorem Va(h1:PS X st t):PSs X [st] t:=by
 intro a s σ H D I h;refine wpAny_execs_cons (thn (h1 a s σ H D I h) λf b q=>?_);cases f with
 | next=>exact wpAny_execs_nil q
 | ret v=>exact q
 | brk=>exact q
 | cont=>exact q
theorem Inv.quiet{pins:List (Addr×Obj)}{σ:St}{H:Hp}{s:Shared}(I:Inv X pins σ H s):interactive X.env=false:=by simp[interactive,I.ok.kind]
noncomputable def jcS(te:TE):TS:=λD σ H=>te σ H λ_ H1=>D.nx σ H1
theorem jcy(b:PE X e te)(c:swapsWith e none pos.line X.env=pure false:=by rfl):PS X (.Expr e pos) (jcS te):=by
 intro a s σ H D I h;exact wpAny_Expr_any (thn (b a s σ H _ I h) λv i ⟨x,d,f,j,g⟩=>⟨σ,d,f,g⟩) I.quiet c
noncomputable def jfc(te:TE):TS:=λD σ H=>te σ H D.rt
theorem jaX(b:PE X e te):PS X (.Return (some e) pos) (jfc te):=by
 intro a s σ H D I h;exact wpAny_Return_some (thn (b a s σ H _ I h) λv i ⟨x,c,d,f,g⟩=>⟨x,σ,c,d,f,g⟩)
noncomputable def jdv(c:TT)(t u:TS):TS:=λD σ H=>c σ H λb H1=>if b=true then t D σ H1 else u D σ H1
theorem jes{c:Expr}{a b:List Stmt}{tc:TT}(k:PT X c tc)(l:PSs X a t)(m:PSs X b u):PS X (.If c a b pos) (jdv tc t u):=by
 intro e s σ H D I h;refine wpAny_If (thn (k e s σ H _ I h) λd f ⟨g,i,j⟩=>?_);cases d with
 | true=>exact l e f σ g D i j
 | false=>exact m e f σ g D i j
end
noncomputable abbrev TG:=V->St->Hp->(St->Hp->Prop)->Prop
noncomputable abbrev TGs:=List V->St->Hp->(St->Hp->Prop)->Prop
def PG(X:Cx)(target:Expr)(t:TG):Prop :=
 ∀(pins:List (Addr×Obj)) (s:Shared) (σ:St) (H:Hp) (v:V) (u:Value) (Q:St->Hp->Prop),Inv X pins σ H s->RelV v u->t v σ H Q ->
  wpAny (model X.prog X.w) X.A (assign target X.env u) (λ_ s'=>∃ σ' H',Inv X pins σ' H' s'/\Q σ' H') X.xe s
def PGs(X:Cx)(ts:List Expr)(t:TGs):Prop :=
 ∀(pins:List (Addr×Obj)) (s:Shared) (σ:St) (H:Hp) (vs:List V) (us:List Value) (Q:St->Hp->Prop),Inv X pins σ H s->Vals vs us->t vs σ H Q ->
  wpAny (model X.prog X.w) X.A (assignInOrder ((assignEach ts X.env).map (·.2)) us) (λ_ s'=>∃ σ' H',Inv X pins σ' H' s'/\Q σ' H') X.xe s
noncomputable abbrev jgo:=V->V->V->Hp->(Hp->Prop)->Prop
def jgs(X:Cx)(t:jgo):Prop :=
 ∀(pins:List (Addr×Obj)) (s:Shared) (σ:St) (H:Hp) (o i v:V) (ov iv u:Value) (Q:Hp->Prop),Inv X pins σ H s->RelV o ov->RelV i iv->RelV v u->t o i v H Q ->
  wpAny (model X.prog X.w) X.A (setItem ov iv u) (λ_ s'=>∃ H',Inv X pins σ H' s'/\Q H') X.xe s
section
variable {X:Cx}{pos:Pos}
noncomputable def Vg(i:Nat):TG:=λv σ H Q=>Q (σ.set i (some v)) H
theorem jbI{i:Nat}{x:Str}(b:X.N.Nodup)(hi:X.N[i]?=some x)(c:Loc X.env.scope x)(d:X.fn x=true \/ X.env.scope.names.lookup x=some .local:=by first | exact .inl rfl | exact .inr rfl | assumption):PG X (.Name x pos) (Vg i):=by
 intro a s σ H v u Q I r h;exact wpAny_assign_Name (JR I b hi c r (λf e=>⟨_,H,e,h⟩) d)
noncomputable def jfL:TGs:=λvs σ H Q=>vs=[]/\Q σ H
noncomputable def jc9(t:TG)(u:TGs):TGs:=λvs σ H Q=>∃ v r,vs=v::r/\t v σ H λσ' H'=>u r σ' H' Q
theorem jck:PGs X [] jfL:=by
 intro a s σ H b c Q I r h;obtain⟨e,h⟩:=h;subst e;cases r;exact assignInOrder_nil ⟨σ,H,I,h⟩
theorem jaz{e:Expr}{es:List Expr}{t:TG}{u:TGs}(h1:PG X e t)(h2:PGs X es u)
  (b:(assignEach (e::es) X.env).map (·.2)=assign e X.env::(assignEach es X.env).map (·.2):=by rfl):PGs X (e::es) (jc9 t u):=by
 intro a s σ H l m Q I r h;obtain⟨v,n,c,h⟩:=h;subst c;cases r with
 | cons r d =>
  rw[b];refine assignInOrder_cons (thn (h1 a s σ H _ _ _ I r h) λ_ f ⟨g,i,j,k⟩=>?_);exact h2 a f g i _ _ Q j d k
noncomputable def jfJ(K:PySem.W.Frag)(n:Nat)(t:TGs):TG:=λv σ H Q=>∃ a xs,v=.ref a/\SqT K H a xs/\xs.length=n/\t xs σ H Q
theorem jeT{es:List Expr}{k:Nat}{t:TGs}{n:Nat}(i:X.calm=true)(h:PGs X es t)
  (j:(assignEach es X.env).length=n:=by rfl) (d:(assignEach es X.env).findIdx? (·.1)=none:=by rfl):PG X (.Tuple es k pos) (jfJ X.K n t):=by
 intro c s σ H v u Q I r f;obtain⟨a,l,m,p,q,f⟩:=f;subst m;cases r;obtain⟨w,g,x,B⟩:=I.tuple p;refine assign_Tuple_tuple (I.ok.hd i) x (by simp[j,<- q,g.length]) d λy z=>?_;have A:Inv X c σ H { s with heap:=y }:=I.kept (t':=s.toks) λb o e=>z b o (N6 (N1 e)) e;exact h c _ σ H l _ Q A (by simpa using g) f
noncomputable def jf8(to ti:TE)(t:jgo):TG:=λv σ H Q=>to σ H λo H1=>ti σ H1 λi H2=>t o i v H2 λH3=>Q σ H3
theorem jfb{o i:Expr}{to b:TE}{t:jgo}(c:PE X o to)(hi:PE X i b)(d:jgs X t)
  (e:∀ v,assign (.Subscript o i pos) X.env v=(do
   let ov <- holding [v] (eval o X.env)
   let iv <- holding [v,ov] (eval i X.env)
   standAt pos
   holding [v,ov,iv] (setItem ov iv v)
   release [v,ov,iv] []):=by intro _;rfl):PG X (.Subscript o i pos) (jf8 to b t):=by
 intro a s σ H v u Q I r h;rw[e];refine L3 (wpAny_holding (thn (c a s σ H _ I h) λov f ⟨x,g,j,k,l⟩=>?_));refine L3 (wpAny_holding (thn (hi a f σ g _ j l) λiv m ⟨y,n,p,q,w⟩=>?_));refine L3 (wpAny_standAt (L3 (wpAny_holding (thn (d a m σ n x y v ov iv u _ p k q r w) λ_ C ⟨z,A,B⟩=>?_))));exact wpAny_release ⟨σ,z,A,B⟩
noncomputable def jbM(te:TE)(g:TG):TS:=λD σ H=>te σ H λx H1=>g x σ H1 D.nx
theorem jeV{tg e:Expr}{te:TE}{g:TG}(b:PE X e te)(c:PG X tg g)(d:swapsWithSole [tg] e pos.line X.env=pure false:=by rfl)(f:swappedStores [tg] e X.env=pure none:=by rfl)
  (h1:(assignEach [tg] X.env).map (·.2)=[assign tg X.env]:=by rfl):PS X (.Assign [tg] e pos) (jbM te g):=by
 intro a s σ H D I h;refine wpAny_Assign_stores (thn (b a s σ H _ I h) λv i ⟨x,j,k,l,m⟩=>?_) d f;rw[h1];exact thn (c a i σ j x v _ k l m) λ_ n q=>q
theorem jbi{i:Nat}{x:Str}{e:Expr}{te:TE}{pos':Pos}(b:X.N.Nodup)(hi:X.N[i]?=some x)(c:Loc X.env.scope x)(d:PE X e te)(f:swapsWith e (some (.Name x pos')) pos.line X.env=pure false:=by rfl)(g:X.fn x=true \/ X.env.scope.names.lookup x=some .local:=by first | exact .inl rfl | exact .inr rfl | assumption) :
  PS X (.Assign [.Name x pos'] e pos) (jbM te (Vg i)):=by
 intro a s σ H D I h;refine wpAny_Assign_Name (thn (d a s σ H _ I h) λv o ⟨y,j,k,l,m⟩=>?_) f;exact JR k b hi c l (λp n=>⟨_,j,n,m⟩) g
end
structure It where
 go:Nat->Hp->Prop
 yld:Nat->Hp->V->Hp->Prop
 stop:Nat->Hp->Prop
def xh(X:Cx)(pins:List (Addr×Obj))(H:Hp)(b:Addr):Prop :=
 H b=none/\b≠X.env.locals/\b∉X.fs/\(b∈X.ex \/ X.s₀.heap.objs.size<=b)/\(∀ x c,X.env.cells.lookup x=some c->c≠b)/\∀ p∈X.pn++pins,p.1≠b
theorem Inv.fpOk{X:Cx}{pins:List (Addr×Obj)}{σ:St}{H H':Hp}{s:Shared}{b:Addr}(I:Inv X pins σ H s)(a:s.heap.objs.size<=b)(d:H' b=none):xh X pins H' b:=by
 refine⟨d,Nat.ne_of_gt (U3 I.lt a),I.nofs a,.inr (N7 I.sz a),λx c e z=>?_,λp f z=>?_⟩
 ·obtain⟨v,q⟩:=I.cell x c e;exact absurd (U3 q.lt (by rw[z];exact a)) (Nat.lt_irrefl _)
 ·exact absurd (U3 (N1 (I.pin p f).1) (by rw[z];exact a)) (Nat.lt_irrefl _)
structure Turn(P:Program)(w:World)(K:PySem.W.Frag)(tg:Expr)(J:It)(fp:List Addr)(it:Addr)(tn:Nat->Heap->Prop):Prop where
 mem:it∈fp
 obj:∀ i h,tn i h->∀ b∈fp,∃ o,h.get? b=some o/\∀ v,o.data≠.cell v
 keep:∀ i h h',tn i h->(∀ b∈fp,∀ o,h.get? b=some o->h'.get? b=some o)->tn i h'
 item:∀(X:Cx),X.prog=P->X.w=w->X.K=K->X.calm=true->∀(i:Nat) (pins:List (Addr×Obj)) (s:Shared) (σ:St) (H:Hp) (E:Value->Shared->Prop),Inv X pins σ H s->(∀ b∈fp,xh X pins H b)->tn i s.heap->J.go i H ->
  wpAny (model P w) X.A (pyNext (.ref it)) (λr s1=>∃ u,r=some u /\
   wpAny (model P w) X.A (letOwnedTupleGo tg (.ref it) u) (λ_ s2=>∃ x H',Inv X pins σ H' s2/\RelV x u/\J.yld i H x H'/\tn (i+1) s2.heap/\∀ b∈fp,H' b=none) E s1) E s
 done:∀(X:Cx),X.prog=P->X.w=w->X.K=K->X.calm=true->∀(i:Nat) (pins:List (Addr×Obj)) (s:Shared) (σ:St) (H:Hp) (E:Value->Shared->Prop),Inv X pins σ H s->(∀ b∈fp,xh X pins H b)->tn i s.heap->J.stop i H ->
  wpAny (model P w) X.A (pyNext (.ref it)) (λr s1=>r=none/\Inv X pins σ H s1) E s
 self:∀(A:Around) (i:Nat) (s:Shared) (Q:Value->Shared->Prop) (E:Value->Shared->Prop),tn i s.heap->Q (.ref it) s->wpAny (model P w) A (pyIter (.ref it)) Q E s
noncomputable abbrev TI:=St->Hp->(It->Hp->Prop)->Prop
def PIE(X:Cx)(pins:List (Addr×Obj))(σ:St)(tg:Expr)(R:It->Hp->Prop)(itv:Value)(s2:Shared):Prop :=
 ∃(it:Addr) (fp:List Addr) (tn:Nat->Heap->Prop) (J:It) (H':Hp),itv=.ref it/\Inv X pins σ H' s2/\Turn X.prog X.w X.K tg J fp it tn/\tn 0 s2.heap/\(∀ b∈fp,xh X pins H' b)/\R J H'
def PI(X:Cx)(tg iter:Expr)(wi:TI):Prop :=
 ∀(pins:List (Addr×Obj)) (s:Shared) (σ:St) (H:Hp) (R:It->Hp->Prop),Inv X pins σ H s->wi σ H R ->
  wpAny (model X.prog X.w) X.A (eval iter X.env) (λv s1=>wpAny (model X.prog X.w) X.A (pyIter v) (PIE X pins σ tg R) X.xe s1) X.xe s
theorem jaH{M:Model}{A:Around}{E:Value->Shared->Prop}{s:Shared}{tg:Expr}{b:Addr}{u:Value}{o:Obj}{n:String}{vs:Array Value}{Q:Unit->Shared->Prop}(c:s.heap.get? b=some o)(d:o.cls=.type n)(hd:o.data=.fields vs)
  (e:["enumerate","zip","dict_itemiterator","dict_reverseitemiterator","odict_iterator","itertools.zip_longest","itertools.pairwise"].contains n=false) (a:Q () s):wpAny M A (letOwnedTupleGo tg (.ref b) u) Q E s:=by
 unfold letOwnedTupleGo;cases tg<;>first
  | exact M7 a
  | (cases u<;>first
    | exact M7 a
    | (refine L3 (wpAny_load c ?_)
       rw[d,hd];show wpAny M A (if(["enumerate","zip","dict_itemiterator","dict_reverseitemiterator","odict_iterator","itertools.zip_longest","itertools.pairwise"].contains n&&vs[0]?==some (rawInt _))=true then _ else _) Q E s;rw[if_neg (by intro h;rw[e,Bool.false_and] at h;cases h)];exact M7 a))
noncomputable def Itl(K:PySem.W.Frag)(a:Addr):It :=
 ⟨λi H=>∃ xs x,SqL K H a xs/\xs[i]?=some x,λi H x H'=>H'=H/\∀ xs,SqL K H a xs->xs[i]?=some x,λi H=>∃ xs,SqL K H a xs/\xs.length<=i⟩
noncomputable def Itt(K:PySem.W.Frag)(a:Addr):It :=
 ⟨λi H=>∃ xs x,SqT K H a xs/\xs[i]?=some x,λi H x H'=>H'=H/\∀ xs,SqT K H a xs->xs[i]?=some x,λi H=>∃ xs,SqT K H a xs/\xs.length<=i⟩
noncomputable def Itr(lo:Int)(n:Nat):It:=⟨λi _=>i < n,λi H x H'=>H'=H/\x=.int (lo+i),λi _=>n<=i⟩
theorem ww{P:Program}{w:World}{K:PySem.W.Frag}{tg:Expr}(a g:Addr):Turn P w K tg (Itl K a) [g] g (λi h=>h.IsListIter g a i) where
 mem:=by simp
 obj:=λi h st b j=>by
  have e:b=g:=by simpa using j
  subst e;obtain⟨o,e,c,d⟩:=st;exact⟨o,e,λv z=>by rw[d] at z;cases z⟩
 keep:=λi h m st k=>st.at λo e=>k g (by simp) o e
 item:=by
  intro X r t y N i f s σ H E I n st A;subst r t y;obtain⟨O,x,q,B⟩:=A;obtain⟨C,D,p,Q⟩:=I.list q;obtain⟨u,R,S⟩:=D.get B;obtain⟨F,G,T,J,L,M⟩:=n g (by simp);refine wpAny_pyNext_list_item st p.isList (x:=u) (by simpa using R) λm l U=>?_;have V:Inv X f σ H { s with heap:=m }:=I.turned (t':=s.toks) (λb o j e=>(U.2 b j).trans e) F G J L M;obtain⟨o,e,c,d⟩:=id l;exact⟨u,rfl,jaH (s:={ s with heap:=m }) e c d (by decide) ⟨x,H,V,S,⟨rfl,λys Y=>by rw[I.list_inj Y q];exact B⟩,l,λb j=>(n b j).1⟩⟩
 done:=by
  intro X r t y N i f s σ H E I n st A;subst r t y;obtain⟨O,q,B⟩:=A;obtain⟨C,D,p,Q⟩:=I.list q;obtain⟨F,G,T,J,L,M⟩:=n g (by simp);have hl:=D.length;exact wpAny_pyNext_list_end (I.ok.hd N) st p.isList (by simp;omega) λm Z=>⟨rfl,I.turned (t':=s.toks) (λb o j e=>Z b o j e) F G J L M⟩
 self:=λ_ _ _ _ _ st h=>wpAny_pyIter_listiter st h
theorem zC{P:Program}{w:World}{K:PySem.W.Frag}{tg:Expr}(a g:Addr):Turn P w K tg (Itt K a) [g] g (λi h=>h.IsTupleIter g a i) where
 mem:=by simp
 obj:=λi h st b j=>by
  have e:b=g:=by simpa using j
  subst e;obtain⟨o,e,c,d⟩:=st;exact⟨o,e,λv z=>by rw[d] at z;cases z⟩
 keep:=λi h n st k=>st.at λo e=>k g (by simp) o e
 item:=by
  intro X t y A N i f s σ H E I q st B;subst t y A;obtain⟨O,x,r,C⟩:=B;obtain⟨l,D,p,Q⟩:=I.tuple r;obtain⟨u,R,S⟩:=D.get C;obtain⟨F,G,T,J,L,M⟩:=q g (by simp);refine wpAny_pyNext_tuple_item st (show s.heap.IsTuple a l.toArray from p) (x:=u) (by simpa using R) λn m U=>?_;have V:Inv X f σ H { s with heap:=n }:=I.turned (t':=s.toks) (λb o j e=>(U.2 b j).trans e) F G J L M;obtain⟨o,e,c,d⟩:=id m;exact⟨u,rfl,jaH (s:={ s with heap:=n }) e c d (by decide) ⟨x,H,V,S,⟨rfl,λys Y=>by rw[I.tuple_inj Y r];exact C⟩,m,λb j=>(q b j).1⟩⟩
 done:=by
  intro X t y A N i f s σ H E I q st B;subst t y A;obtain⟨O,r,C⟩:=B;obtain⟨l,D,p,Q⟩:=I.tuple r;obtain⟨F,G,T,J,L,M⟩:=q g (by simp);have hl:=D.length;exact wpAny_pyNext_tuple_end (I.ok.hd N) st (show s.heap.IsTuple a l.toArray from p) (by simp;omega) λn Z=>⟨rfl,I.turned (t':=s.toks) (λb o j e=>Z b o j e) F G J L M⟩
 self:=λ_ _ _ _ _ st h=>wpAny_pyIter_tupleiter st h
theorem zr{P:Program}{w:World}{K:PySem.W.Frag}{tg:Expr}(a:Addr)(lo:Int)(n:Nat):Turn P w K tg (Itr lo n) [a] a (λi h=>IsRangeIter h a (lo+(i:Nat)*1) ((n:Int) - (i:Nat)) 1) where
 mem:=by simp
 obj:=λi h st b d=>by
  have e:b=a:=by simpa using d
  subst e;exact⟨_,st,λv z=>by
   have D:Data.fields _=Data.cell v:=z;cases D⟩
 keep:=λi h g st k=>k a (by simp) _ st
 item:=by
  intro X l m p q i c s σ H E I j st r;subst l m p;obtain⟨u,x,F,y,A,B⟩:=j a (by simp);have W:=Walks.range (prog:=X.prog) (w:=X.w) (I.ok.hd q) a lo 1 n;refine W.item i s _ _ r st λv g C G f J=>?_;obtain⟨t,rfl⟩:=G;have L:Inv X c σ H { s with heap:=g,toks:=C }:=I.turned (λb o d e=>J b o (by simpa using d) e) u x y A B;refine⟨_,rfl,jaH (s:={ s with heap:=g,toks:=C }) (n:="range_iterator") f rfl rfl (by decide) ⟨.int (lo+i),H,L,⟨t,?_⟩,⟨rfl,rfl⟩,f,λb d=>(j b d).1⟩⟩;rw[Int.mul_one]
 done:=by
  intro X l m p q i c s σ H E I j st r;subst l m p;obtain⟨u,x,F,y,A,B⟩:=j a (by simp);exact wpAny_pyNext_range_end (I.ok.hd q) st (by have:n<=i:=r;omega) λg M=>⟨rfl,I.turned (t':=s.toks) (λb o d e=>M b o d e) u x y A B⟩
 self:=λ_ _ _ _ _ st h=>wpAny_pyIter_rangeiter st h
section
variable {X:Cx}{tg:Expr}
theorem uX{pins:List (Addr×Obj)}{σ:St}{H:Hp}{s:Shared}{R:It->Hp->Prop}{E:Value->Shared->Prop}{lo hi:Int}{t u v:Tok}{tk:Nat}(I:Inv X pins σ H s)(h1:-(2 ^ 62)<=lo)(h2:lo < 2 ^ 62)(c:-(2 ^ 62)<=hi)(d:hi < 2 ^ 62)
  (q:R (Itr lo (hi - lo).toNat) H):wpAny (model X.prog X.w) X.A (pyIter (.ref s.heap.objs.size)) (PIE X pins σ tg R) E { s with heap:=s.heap.push { cls:=.type "range",data:=.fields #[.int lo t,.int hi u,.int 1 v] },toks:=tk }:=by
 refine wpAny_pyIter_range (IsRange.new ..) (small_one h1 h2 c d) ?_;have a:Inv X pins σ H { s with heap:=s.heap.push { cls:=.type "range",data:=.fields #[.int lo t,.int hi u,.int 1 v] },toks:=tk }:=I.kept λb o e=>L8 _ e;refine⟨(s.heap.push { cls:=.type "range",data:=.fields #[.int lo t,.int hi u,.int 1 v] }).objs.size,[(s.heap.push { cls:=.type "range",data:=.fields #[.int lo t,.int hi u,.int 1 v] }).objs.size],_,_,H,rfl,
  a.kept (t':=tk) λb o e=>L8 _ e,zr _ lo (hi - lo).toNat,?_,λb f=>?_,q⟩
 ·have g:lo+((0:Nat):Int)*1=lo:=by simp
  have h:(((hi - lo).toNat:Nat):Int) - ((0:Nat):Int)=Builtin.Range.rangeSize lo hi 1:=by rw[rangeSize_one];split<;>omega
  show IsRangeIter _ _ (lo+((0:Nat):Int)*1) ((((hi - lo).toNat:Nat):Int) - ((0:Nat):Int)) 1;rw[g,h];exact X4 _ rfl
 ·have e:b=(s.heap.push { cls:=.type "range",data:=.fields #[.int lo t,.int hi u,.int 1 v] }).objs.size:=by simpa using f
  subst e;exact a.fpOk (M9 _) (a.hok.fresh (M9 _))
noncomputable def jch(ta:TA):TI:=λσ H R=>ta σ H λvs H1=>∃ j:Int,vs=[.int j]/\-(2 ^ 62)<=j/\j < 2 ^ 62/\R (Itr 0 j.toNat) H1
theorem wE{a:Expr}{ta:TA}{p pos:Pos}(d:Gl X "range")(f:X.mg "range" = none)(g:PA X [a] ta)(i:starEach [a] X.env=[(false,eval a X.env)]:=by rfl):PI X tg (.Call (.Name "range" p) [a] [] pos) (jch ta):=by
 intro b s σ H R I h;refine Call_ (Yd I d f boot_range (PyProof.Rows.callWith_type1 (thn (g pos b s σ H _ I h) λo u ⟨v,w,k,l,c⟩=>?_) i rfl));obtain⟨j,e,c,m,q⟩:=c;subst e;cases l with
 | cons r n =>
  cases n;obtain⟨t,rfl⟩:=r;exact call_range_1 (uX k (by omega) (by omega) c m (by simpa using q))
noncomputable def jdG(wi:TI)(g:TG)(tb:TS):TS:=λD σ H=>wi σ H λJ H1=>∃ W:Nat->Nat->St->Hp->Prop,(∃ m,W 0 m σ H1)/\∀ i m σ H,W i m σ H ->
 (J.stop i H/\D.nx σ H) \/ (J.go i H/\∃ N:St->Hp->Prop,(∀ σ' H',N σ' H'->∃ m',m' < m/\W (i+1) m' σ' H')/\∀ x H',J.yld i H x H'->g x σ H' λσ2 H2=>tb { D with nx:=N,ct:=N,bk:=D.nx } σ2 H2)
noncomputable def Y1(fp:List Addr)(h:Heap):List (Addr×Obj):=fp.filterMap λb=>(h.get? b).map λo=>(b,o)
theorem v7{a:List Addr}{h:Heap}{b:Addr}{o:Obj}(c:b∈a)(e:h.get? b=some o):(b,o)∈Y1 a h:=List.mem_filterMap.mpr ⟨b,c,by rw[e];rfl⟩
theorem x9{a:List Addr}{h:Heap}{p:Addr×Obj}(hp:p∈Y1 a h):p.1∈a/\h.get? p.1=some p.2:=by
 obtain⟨b,c,e⟩:=List.mem_filterMap.mp hp;cases q:h.get? b with
 | none=>rw[q] at e;cases e
 | some o =>
  rw[q] at e;have d:(b,o)=p:=X0 e;subst d;exact⟨c,q⟩
theorem Inv.pinned{pins:List (Addr×Obj)}{σ:St}{H:Hp}{s:Shared}{a:List Addr}(I:Inv X pins σ H s)(g:∀ b∈a,xh X pins H b)(h:∀ b∈a,∃ o,s.heap.get? b=some o/\∀ v,o.data≠.cell v):Inv X (pins++Y1 a s.heap) σ H s :=
 I.pins_of λp i=>(N2.mp i).elim (λz=>I.pin p (U2 _ z)) λz=>by
  obtain⟨c,e⟩:=x9 z;obtain⟨j,k,l,_⟩:=g p.1 c;obtain⟨o,f,d⟩:=h p.1 c;rw[e] at f;cases f;exact⟨e,j,k,l,d⟩
theorem Inv.unpinned{pins pl:List (Addr×Obj)}{σ:St}{H:Hp}{s:Shared}(I:Inv X (pins++pl) σ H s):Inv X pins σ H s:=I.pins_of λp a=>I.pin p (U2 _ (List.mem_append_left _ a))
theorem jbc{iter:Expr}{body:List Stmt}{wi:TI}{g:TG}{tb:TS}{pos:Pos}(hp:PassesOwn (model X.prog X.w) X.A X.env X.xe)(U:X.calm=true)(hi:PI X tg iter wi)(hg:PG X tg g)(c:PSs X body tb)
  (hs:∀ x,foldedSetIterable iter X.env x=pure x:=by intro _;rfl):PS X (.For tg iter body [] pos) (jdG wi g tb):=by
 intro a s σ H D I h;refine wpAny_For (thn (hi a s σ H _ I h) λv s1 h1=>thn h1 λitv s2 h2=>?_) hs;obtain⟨it,B,V,J,H2,e,I2,T,O,Y,W,⟨m0,w0⟩,C⟩:=h2;subst e
 -- what stays true of the iterator's objects through the loop
 have j:∀{t:Hp},(∀ b∈B,t b=none)->∀ b∈B,xh X a t b:=λhn b c=>⟨hn b c,(Y b c).2⟩;refine codeAny_forLoop_any (λn Z=>∃ i E t,Inv X a E t Z/\V i Z.heap/\(∀ b∈B,t b=none)/\W i n E t) ?_ m0 ⟨0,σ,H2,I2,O,λb c=>(Y b c).1,w0⟩;rintro n s3 ⟨i,F,M,I3,G,K,w3⟩;rcases C i n F M w3 with⟨stop,qn⟩ | ⟨go,N,hN,step⟩
 ·refine wpAny_passesOwn hp (thn (T.done X rfl rfl rfl U i a s3 F M X.xe I3 (j K) G stop) λr s4 ⟨P,I4⟩=>?_);subst P;exact wpAny_execs_nil ⟨F,M,I4,qn⟩
 ·refine wpAny_passesOwn hp (thn (T.item X rfl rfl rfl U i a s3 F M X.xe I3 (j K) G go) λr s4 ⟨u,P,h4⟩=>?_);subst P;refine wpAny_passesOwn hp (thn h4 λ_ s5 ⟨x,H5,I5,r5,y5,z,Q⟩=>?_);have R:=I5.pinned (j Q) (T.obj _ _ z);refine wpAny_passesOwn hp (thn (hg _ s5 F H5 x u _ R r5 (step x H5 y5)) λ_ s6 ⟨σ6,H6,I6,q6⟩=>?_);refine wpAny_passesOwn hp (thn (c _ s6 σ6 H6 _ I6 q6) λf S y=>?_);have k:∀{l:St}{p:Hp},Inv X (a++Y1 B s5.heap) l p S->N l p->∃ m,m < n/\∃ i E t,Inv X a E t S/\V i S.heap/\(∀ b∈B,t b=none)/\W i m E t:=λ{l p} q L=>by
   obtain⟨m',hm,w7⟩:=hN l p L;refine⟨m',hm,i+1,l,p,q.unpinned,T.keep _ _ _ z λb c o e=>(q.pin (b,o) (U2 _ (U2 _ (v7 c e)))).1,λb c=>?_,w7⟩;obtain⟨o,e,d⟩:=T.obj _ _ z b c;exact(q.pin (b,o) (U2 _ (U2 _ (v7 c e)))).2.1
  cases f with
  | next=>obtain⟨l,p,q,L⟩:=y;exact k q L
  | cont=>obtain⟨l,p,q,L⟩:=y;exact k q L
  | brk=>obtain⟨l,p,q,y⟩:=y;exact⟨l,p,q.unpinned,y⟩
  | ret v=>obtain⟨x7,l,p,q,r7,y⟩:=y;exact⟨x7,l,p,q.unpinned,r7,y⟩
end
noncomputable abbrev R2:=V->V->Hp->VK->Prop
def OpR(X:Cx)(f:Value->Value->Sem Value)(r:R2):Prop :=
 ∀(pins:List (Addr×Obj)) (s:Shared) (σ:St) (H:Hp) (x y:V) (v u:Value) (Q:VK),Inv X pins σ H s->RelV x v->RelV y u->r x y H Q ->
  wpAny (model X.prog X.w) X.A (f v u) (EP X pins σ Q) X.xe s
def CallR(X:Cx)(f:Value)(r:List V->Hp->VK->Prop):Prop :=
 ∀(pins:List (Addr×Obj)) (s:Shared) (σ:St) (H:Hp) (xs:List V) (us:List Value) (Q:VK),Inv X pins σ H s->Vals xs us->r xs H Q ->
  wpAny (model X.prog X.w) X.A (call f us) (EP X pins σ Q) X.xe s
noncomputable def tOp(r:R2)(ta tb:TE):TE:=λσ H Q=>ta σ H λx H1=>tb σ H1 λy H2=>r x y H2 Q
noncomputable def rI(C:Int->Int->Prop)(g:Int->Int->V):R2:=λx y H Q=>∃ i j,x=.int i/\y=.int j/\C i j/\Q (g i j) H
noncomputable def rI0(g:Int->Int->V):R2:=λx y H Q=>∃ i j,x=.int i/\y=.int j/\Q (g i j) H
section
variable {X:Cx}{a b c:Expr}{ta tb tc:TE}{pos:Pos}
theorem jfS(c:PE X a ta)(d:PE X b tb){pins:List (Addr×Obj)}{s:Shared}{σ:St}{H:Hp}{R:V->V->Hp->Prop}(I:Inv X pins σ H s)
  (h:ta σ H λx H1=>tb σ H1 λy H2=>R x y H2) {Q:Value->Shared->Prop}{f:Value->Value->Sem Value}
  (e:∀ v u s2 x y H2,Inv X pins σ H2 s2->RelV x v->RelV y u->R x y H2->wpAny (model X.prog X.w) X.A (f v u) Q X.xe s2) :
  wpAny (model X.prog X.w) X.A (eval a X.env) (λv s₁=>wpAny (model X.prog X.w) X.A (eval b X.env) (λu s₂=>wpAny (model X.prog X.w) X.A (f v u) Q X.xe s₂) X.xe s₁) X.xe s:=by
 refine thn (c pins s σ H _ I h) λv g ⟨x,H1,i,j,k⟩=>?_;refine thn (d pins g σ H1 _ i k) λu s2 ⟨y,H2,l,m,n⟩=>?_;exact e v u s2 x y H2 l j m n
theorem xi{d:Operator}{r:R2}(e:OpR X (binaryOp d) r)(f:PE X a ta)(g:PE X b tb):PE X (.BinOp a d b pos) (tOp r ta tb):=by
 intro c s σ H Q I h;exact wpAny_BinOp (jfS f g I h λv u i x y j k l m q=>e c i σ j x y v u Q k l m q)
theorem opI{f:Value->Value->Sem Value}{C:Int->Int->Prop}{g:Int->Int->Int}
  (a:∀(i j:Int) (t u:Tok) (s:Shared) (Q:Value->Shared->Prop) (E:Value->Shared->Prop),C i j->Q (.int (g i j) s.toks) { s with toks:=s.toks+1 }->wpAny (model X.prog X.w) X.A (f (.int i t) (.int j u)) Q E s) :
  OpR X f (rI C λi j=>.int (g i j)):=by
 intro b s σ H x y v u Q I c d h;obtain⟨i,j,rfl,rfl,e,q⟩:=h;obtain⟨t,rfl⟩:=c;obtain⟨k,rfl⟩:=d;exact a i j t k s _ _ e ⟨.int (g i j),H,I.tok _,⟨_,rfl⟩,q⟩
theorem jgw{f:Value->Value->Sem Value}{g:Int->Int->Int}
  (a:∀(i j:Int) (t u:Tok) (s:Shared) (Q:Value->Shared->Prop) (E:Value->Shared->Prop),Q (.int (g i j) s.toks) { s with toks:=s.toks+1 }->wpAny (model X.prog X.w) X.A (f (.int i t) (.int j u)) Q E s) :
  OpR X f (rI0 λi j=>.int (g i j)):=by
 intro b s σ H x y v u Q I c d h;obtain⟨i,j,rfl,rfl,q⟩:=h;obtain⟨t,rfl⟩:=c;obtain⟨e,rfl⟩:=d;exact a i j t e s _ _ ⟨.int (g i j),H,I.tok _,⟨_,rfl⟩,q⟩
theorem jf0{f:Value->Value->Sem Value}{g:Int->Int->Bool}
  (a:∀(i j:Int) (t u:Tok) (s:Shared) (Q:Value->Shared->Prop) (E:Value->Shared->Prop),Q (.bool (g i j)) s->wpAny (model X.prog X.w) X.A (f (.int i t) (.int j u)) Q E s) :
  OpR X f (rI0 λi j=>.bl (g i j)):=by
 intro b s σ H x y v u Q I c d h;obtain⟨i,j,rfl,rfl,q⟩:=h;obtain⟨t,rfl⟩:=c;obtain⟨e,rfl⟩:=d;exact a i j t e s _ _ ⟨.bl (g i j),H,I,rfl,q⟩
def jft(i j:Int):Prop:=0<=j/\j<=1000000/\i.natAbs < 2 ^ 64
theorem jdB:OpR X (binaryOp .Add) (rI0 λi j=>.int (i+j)):=jgw λ_ _ _ _ _ _ _ q=>add_int q
theorem jeS:OpR X (binaryOp .Sub) (rI0 λi j=>.int (i - j)):=jgw λ_ _ _ _ _ _ _ q=>sub_int q
theorem jeK:OpR X (binaryOp .Mod) (rI (λ_ j=>0 < j) λi j=>.int (i % j)):=opI λi j _ _ _ _ _ a q=>by
 have b:(0:Int) < j:=a;exact mod_int' (by omega) (by rw[Int.fmod_eq_emod_of_nonneg i (by omega)];exact q)
theorem jeW:OpR X (binaryOp .Pow) (rI jft λi j=>.int (i ^ j.toNat)):=opI λ_ _ _ _ _ _ _ a q=>pow_int_small a.1 a.2.1 a.2.2 q
end
noncomputable def jfD:V->V->Bool
 | .non,.non=>true | .non,.int _=>true | .int _,.non=>true | .non,.bl _=>true | .bl _,.non=>true | .non,.str _=>true | .str _,.non=>true
 | .int _,.int _=>true | .bl _,.bl _=>true | .str _,.str _=>true | .byt _,.byt _=>true
 | .int _,.str _=>true | .str _,.int _=>true | .bl _,.str _=>true | .str _,.bl _=>true
 | _,_=>false
noncomputable def rEq:R2:=λx y H Q=>jfD x y=true/\Q (.bl (decide (x=y))) H
noncomputable def rNe:R2:=λx y H Q=>jfD x y=true/\Q (.bl (!decide (x=y))) H
theorem Qf{i j:Int}:decide (V.int i=V.int j)=(i==j):=by
 rw[Bool.eq_iff_iff];simp
theorem ur{i j:Bool}:decide (V.bl i=V.bl j)=(i==j):=by
 rw[Bool.eq_iff_iff];simp
theorem xY{i j:Str}:decide (V.str i=V.str j)=(i==j):=by
 rw[Bool.eq_iff_iff];simp
theorem ui{i j:Array UInt8}:decide (V.byt i=V.byt j)=(i.toList==j.toList):=by
 rw[Bool.eq_iff_iff];cases i;cases j;simp
section
variable {X:Cx}{a b c:Expr}{ta tb tc:TE}{pos:Pos}
theorem jB{pins:List (Addr×Obj)}{σ:St}{H:Hp}{s:Shared}{Q:VK}{k a:Bool}(I:Inv X pins σ H s)(q:Q (.bl k) H)(e:k=a):EP X pins σ Q (.bool a) s:=by
 subst e;exact⟨.bl k,H,I,rfl,q⟩
theorem jgd:OpR X (compareOp .Eq) rEq:=by
 intro e s σ H x y v u Q I d a h;obtain⟨c,q⟩:=h;cases x with
 | non =>
  cases d;cases y with
  | non=>cases a;exact PySem.EqNone.eq_none_none (jB I q (by simp))
  | bl j=>cases a;exact PySem.EqNone.eq_none_bool (jB I q (by simp))
  | int j=>obtain⟨b,rfl⟩:=a;exact PySem.EqNone.eq_none_int (jB I q (by simp))
  | str j=>obtain⟨b,rfl⟩:=a;exact PySem.EqNone.eq_none_str (jB I q (by simp))
  | _=>exact absurd (show false=true from c) M4
 | bl i =>
  cases d;cases y with
  | non=>cases a;exact PySem.EqNone.eq_bool_none (jB I q (by simp))
  | bl j=>cases a;exact eq_bool (jB I q ur)
  | str j=>obtain⟨b,rfl⟩:=a;exact PySem.EqMixed.eq_bool_str (jB I q (by simp))
  | _=>exact absurd (show false=true from c) M4
 | int i =>
  obtain⟨t,rfl⟩:=d;cases y with
  | non=>cases a;exact PySem.EqNone.eq_int_none (jB I q (by simp))
  | int j=>obtain⟨b,rfl⟩:=a;exact eq_int (jB I q Qf)
  | str j=>obtain⟨b,rfl⟩:=a;exact PySem.EqMixed.eq_int_str (jB I q (by simp))
  | _=>exact absurd (show false=true from c) M4
 | str i =>
  obtain⟨t,rfl⟩:=d;cases y with
  | non=>cases a;exact PySem.EqNone.eq_str_none (jB I q (by simp))
  | bl j=>cases a;exact PySem.EqMixed.eq_str_bool (jB I q (by simp))
  | int j=>obtain⟨b,rfl⟩:=a;exact PySem.EqMixed.eq_str_int (jB I q (by simp))
  | str j=>obtain⟨b,rfl⟩:=a;exact eq_str (jB I q xY)
  | _=>exact absurd (show false=true from c) M4
 | byt i =>
  obtain⟨t,rfl⟩:=d;cases y with
  | byt j=>obtain⟨b,rfl⟩:=a;exact PySem.W.eq_bytes (jB I q ui)
  | _=>exact absurd (show false=true from c) M4
 | _=>cases y<;>exact absurd (show false=true from c) M4
theorem jge:OpR X (compareOp .NotEq) rNe:=by
 intro e s σ H x y v u Q I d a h;obtain⟨c,q⟩:=h;cases x with
 | non =>
  cases d;cases y with
  | non=>cases a;exact PySem.EqNone.ne_none_none (jB I q (by simp))
  | bl j=>cases a;exact PySem.EqNone.ne_none_bool (jB I q (by simp))
  | int j=>obtain⟨b,rfl⟩:=a;exact PySem.EqNone.ne_none_int (jB I q (by simp))
  | str j=>obtain⟨b,rfl⟩:=a;exact PySem.EqNone.ne_none_str (jB I q (by simp))
  | _=>exact absurd (show false=true from c) M4
 | bl i =>
  cases d;cases y with
  | non=>cases a;exact PySem.EqNone.ne_bool_none (jB I q (by simp))
  | bl j=>cases a;exact ne_bool (jB I q (congrArg not ur))
  | str j=>obtain⟨b,rfl⟩:=a;exact PySem.EqMixed.ne_bool_str (jB I q (by simp))
  | _=>exact absurd (show false=true from c) M4
 | int i =>
  obtain⟨t,rfl⟩:=d;cases y with
  | non=>cases a;exact PySem.EqNone.ne_int_none (jB I q (by simp))
  | int j=>obtain⟨b,rfl⟩:=a;exact ne_int (jB I q (congrArg not Qf))
  | str j=>obtain⟨b,rfl⟩:=a;exact PySem.EqMixed.ne_int_str (jB I q (by simp))
  | _=>exact absurd (show false=true from c) M4
 | str i =>
  obtain⟨t,rfl⟩:=d;cases y with
  | non=>cases a;exact PySem.EqNone.ne_str_none (jB I q (by simp))
  | bl j=>cases a;exact PySem.EqMixed.ne_str_bool (jB I q (by simp))
  | int j=>obtain⟨b,rfl⟩:=a;exact PySem.EqMixed.ne_str_int (jB I q (by simp))
  | str j=>obtain⟨b,rfl⟩:=a;exact ne_str (jB I q (congrArg not xY))
  | _=>exact absurd (show false=true from c) M4
 | byt i =>
  obtain⟨t,rfl⟩:=d;cases y with
  | byt j=>obtain⟨b,rfl⟩:=a;exact PySem.W.ne_bytes (jB I q (congrArg not ui))
  | _=>exact absurd (show false=true from c) M4
 | _=>cases y<;>exact absurd (show false=true from c) M4
theorem jfI:OpR X (compareOp .Lt) (rI0 λi j=>.bl (decide (i < j))):=jf0 λ_ _ _ _ _ _ _ q=>lt_int q
theorem jf2:OpR X (compareOp .LtE) (rI0 λi j=>.bl (decide (i<=j))):=jf0 λ_ _ _ _ _ _ _ q=>le_int q
theorem jgm:OpR X (compareOp .Gt) (rI0 λi j=>.bl (decide (j < i))):=jf0 λ_ _ _ _ _ _ _ q=>gt_int q
theorem uz:OpR X (compareOp .In) (λx y H Q=>∃ i j,x=.str i/\y=.str j/\Q (.bl (!(Builtin.Str.occurrences j i 0 j.length 1).isEmpty)) H):=by
 intro a s σ H x y v u Q I b c h;obtain⟨i,j,rfl,rfl,q⟩:=h;obtain⟨t,rfl⟩:=b;obtain⟨d,rfl⟩:=c;exact in_str (jB I q rfl)
theorem jeA:OpR X (compareOp .Is) (λx y H Q=>y=.non/\Q (.bl (decide (x=.non))) H):=by
 intro a s σ H x y v u Q I b c h;obtain⟨rfl,q⟩:=h;cases c;refine is_none_gen (jB I q ?_);cases x<;>first
  | (cases b;rfl)
  | (obtain⟨t,rfl⟩:=b;rfl)
theorem Kr:OpR X (compareOp .NotIn) (λx y H Q=>∃ i j,x=.str i/\y=.str j/\Q (.bl (!(!(Builtin.Str.occurrences j i 0 j.length 1).isEmpty))) H):=by
 intro a s σ H x y v u Q I b c h;obtain⟨i,j,rfl,rfl,q⟩:=h;obtain⟨t,rfl⟩:=b;obtain⟨d,rfl⟩:=c;exact notIn_str (jB I q rfl)
theorem YU(b:Expr){a:CmpOp}(h:a≠.In:=by decide)(h2:a≠.NotIn:=by decide):behindInMarks a b=false:=by
 have c:(a==CmpOp.In)=false:=by cases a<;>first | rfl | exact absurd rfl h
 have d:(a==CmpOp.NotIn)=false:=by cases a<;>first | rfl | exact absurd rfl h2
 cases b<;>simp[behindInMarks,c,d]
theorem jcm{d:CmpOp}{r:R2}(e:OpR X (compareOp d) r)(f:PE X a ta)(g:PE X b tb)(i:behindInMarks d b=false):PE X (.Compare a [d] [b] pos) (tOp r ta tb):=by
 intro c s σ H Q I h;exact wpAny_Compare1 (jfS f g I h λv u j x y k l m n q=>e c j σ k x y v u Q l m n q) i
noncomputable def wM(t:TE):TT:=λσ H Q=>t σ H λx H'=>∃ k,x=.bl k/\Q k H'
theorem jbv{f:CmpOp}{r:R2}(g:OpR X (compareOp f) r)(i:PE X a ta)(j:PE X b tb)(l:behindInMarks f b=false):PT X (.Compare a [f] [b] pos) (wM (tOp r ta tb)):=by
 intro d s σ H Q I h;refine wpAny_isTrue_Compare1 (thn (i d s σ H _ I h) λv m ⟨x,n,o,p,q⟩=>thn (j d m σ n _ o q) λu t ⟨y,w,A,B,C⟩ =>
  thn (g d t σ w x y v u _ A p B C) λc J ⟨z,D,E,F,k,e,G⟩=>?_) l
 subst e;cases F;exact wpAny_truthy_bool ⟨D,E,G⟩
noncomputable def wq(r r':R2)(ta tb tc:TE):TE:=λσ H Q=>ta σ H λx H1=>tb σ H1 λy H2=>r x y H2 λz H3=>∃ k,z=.bl k /\
 (if k=true then tc σ H3 λw' H4=>r' y w' H4 Q else Q (.bl false) H3)
theorem jag{i g:CmpOp}{r l:R2}(q:OpR X (compareOp i) r)(j:OpR X (compareOp g) l)(t:PE X a ta)(w:PE X b tb)(A:PE X c tc)
  (B:lastMarks [i,g] [b,c]=false:=by with_unfolding_all rfl):PT X (.Compare a [i,g] [b,c] pos) (wM (wq r l ta tb tc)):=by
 intro f s σ H Q I h;refine isTrue_chain (thn (t f s σ H _ I h) λv C ⟨x,D,E,F,G⟩=>test_link (thn (w f C σ D _ E G) λu J ⟨y,K,L,m,M⟩ =>
  thn (q f J σ K x y v u _ L F m M) λd N ⟨z,n,o,O,k,e,p⟩=>?_)) B
 subst e;cases O;refine wpAny_truthy_bool ?_;cases k with
 | false =>
  obtain⟨k',P,R⟩:=p;cases P;exact ite_ff ⟨n,o,R⟩
 | true =>
  refine ite_tt (test_last (thn (A f N σ n _ o p) λS T ⟨U,V,W,Y,Z⟩=>thn (j f T σ V y U u S _ W m Y Z) λd' s5 ⟨z2,H5,I5,r5,k2,e2,q5⟩=>?_));subst e2;cases r5;exact wpAny_truthy_bool ⟨H5,I5,q5⟩
theorem VU:(sizeLine:Nat) < 2 ^ 63:=by rw[sizeLine_eq];decide
theorem zg:OpR X (binaryOp .Add) (λx y H Q=>∃ i j,x=.str i/\y=.str j/\i.length+j.length<=sizeLine/\Q (.str (i++j)) H):=by
 intro a s σ H x y v u Q I b c h;obtain⟨i,j,rfl,rfl,d,q⟩:=h;obtain⟨t,rfl⟩:=b;obtain⟨e,rfl⟩:=c;exact add_str (λe f=>⟨.str (i++j),H,I.tok _,⟨_,rfl⟩,q⟩) d
theorem jcB{x:V}{us:List Value}(r:Vals [x] us):∃ u,us=[u]/\RelV x u:=by
 cases r with
 | cons a b=>cases b;exact⟨_,rfl,a⟩
theorem V7:CallR X (.type "str") (λxs H Q=>∃ i,xs=[.int i]/\i.natAbs.log2 < 1920/\Q (.str (toString i)) H):=by
 intro a s σ H xs c Q I r h;obtain⟨i,rfl,b,q⟩:=h;obtain⟨u,rfl,t,rfl⟩:=jcB r;exact PySem.P.str_of_int b ⟨.str _,H,I.tok _,⟨_,rfl⟩,q⟩
def jgg(K:PySem.W.Frag)(x:V)(H:Hp)(n:Nat):Prop :=
 match x with
 | .str y=>y.length<=sizeLine/\n=y.length
 | .byt y=>y.size<=sizeLine/\n=y.size
 | .ref p=>(∃ xs,SqL K H p xs/\n=xs.length) \/ ∃ xs,SqT K H p xs/\n=xs.length
 | _=>False
theorem jas:CallR X (.builtin "len") (λxs H Q=>∃ x n,xs=[x]/\jgg X.K x H n/\Q (.int n) H):=by
 intro i s σ H xs l Q I r h;obtain⟨x,n,rfl,e,q⟩:=h;obtain⟨u,rfl,c⟩:=jcB r;have m:=VU;have o:sizeLine=16777216:=sizeLine_eq;cases x with
 | str y =>
  obtain⟨t,rfl⟩:=c;obtain⟨j,b⟩:y.length<=sizeLine/\n=y.length:=e;subst b;exact len_str (by omega) ⟨.int _,H,I.tok _,⟨_,rfl⟩,q⟩
 | byt y =>
  obtain⟨t,rfl⟩:=c;obtain⟨j,b⟩:y.size<=sizeLine/\n=y.size:=e;subst b;exact PySem.W.len_bytes (by omega) ⟨.int _,H,I.tok _,⟨_,rfl⟩,q⟩
 | ref p =>
  cases c;have b:(∃ xs,SqL X.K H p xs/\n=xs.length) \/ ∃ xs,SqT X.K H p xs/\n=xs.length:=e;rcases b with⟨xs,d,b⟩ | ⟨xs,d,b⟩
  ·subst b;obtain⟨f,g,pl,k⟩:=I.list d;have a:=g.length;exact Calls.call_len_list pl.isList (by simp only[N3];omega) ⟨.int xs.length,H,I.tok _,⟨_,by simp only[N3];rw[a]⟩,q⟩
  ·subst b;obtain⟨f,g,pl,k⟩:=I.tuple d;have a:=g.length;exact len_tuple pl (by simp only[N3];omega) ⟨.int xs.length,H,I.tok _,⟨_,by simp only[N3];rw[a]⟩,q⟩
 | _=>exact(show False from e).elim
end
structure ObjM(h:Heap)(x dx C:Addr)(mA:Str->Option Value):Prop where
 obj:h.get? x=some (PySem.W.instObj C dx)
 ns:h.Ns1 dx mA
 ne:dx≠x
theorem xG{h:Heap}{dx:Addr}{c:Str->Option Value}(n:h.Ns1 dx c):∃ od,h.get? dx=some od/\∀ name,PySem.W.lookIn name od=some (c name):=by
 obtain⟨o,d,l,f,hd,g,_,i⟩:=n;refine⟨o,f,λname=>?_⟩;have e:=i name;unfold nsFind findBy at e;rw[<- Array.find?_toList] at e;unfold PySem.W.lookIn;rw[hd];dsimp only;split
 ·rename_i y q;rw[q] at e;exact congrArg some e
 ·rename_i q;rw[q] at e;have a:d.toList.any (·.refKey)=false:=by
   rw[List.any_eq_false];intro y j;obtain⟨z,t,b⟩:=g y (Array.mem_toList_iff.mp j);simp[DictEntry.refKey,b]
  have k:¬ d.toList.any (·.refKey)=true:=by rw[a];exact M4
  rw[if_neg k];exact congrArg some e
theorem RelO.some_of{v:V}{o:Option Value}(r:RelO (some v) o):∃ u,o=some u/\RelV v u:=by
 cases o with
 | none=>exact(show False from r).elim
 | some u=>exact⟨u,rfl,r⟩
theorem w8{v:V}{u:Value}(r:RelV v u):PySem.W.handedIn u=true:=by
 cases v with
 | non=>cases(show u=Value.none from r);rfl
 | bl b=>cases(show u=Value.bool b from r);rfl
 | int i=>obtain⟨t,e⟩:=(show ∃ t,u=Value.int i t from r);cases e;rfl
 | str x=>obtain⟨t,e⟩:=(show ∃ t,u=Value.str x t from r);cases e;rfl
 | byt b=>obtain⟨t,e⟩:=(show ∃ t,u=Value.bytes b t from r);cases e;rfl
 | flt b=>obtain⟨t,e⟩:=(show ∃ t,u=Value.float b t from r);cases e;rfl
 | ref a=>cases(show u=Value.ref a from r);rfl
 | ty n=>cases(show u=Value.type n from r);rfl
structure Cls(K:PySem.W.Frag)(C:Addr):Prop where
 pg:PySem.W.plainGet K C Str.empty=true
 hd:PySem.W.hasDictIn K C=true
 po:PySem.W.plainOver K C=true
 sa:PySem.W.findIn K (.ref C) "__setattr__" = some (some (.builtin "object.__setattr__"))
def YT(K:PySem.W.Frag)(C:Addr)(f:Str):Prop:=PySem.W.findIn K (.ref C) f=some none
structure Con(K:PySem.W.Frag)(C:Addr)(f:Str)(v:V)(u:Value):Prop where
 at_:PySem.W.findIn K (.ref C) f=some (some u)
 rel:RelV v u
 get:PySem.W.specialIn K u "__get__" = some none
 cp:PySem.W.copiedNames.contains f=false
structure Meth(K:PySem.W.Frag)(C:Addr)(m:Str)(f:Addr):Prop where
 at_:PySem.W.findIn K (.ref C) m=some (some (.ref f))
 fn:PySem.W.isFn K (.ref f)=true
 kp:PySem.W.keepIn K (.ref f)=true
section
variable {X:Cx}{pins:List (Addr×Obj)}{σ:St}{H:Hp}{s:Shared}{a C dx:Addr}{fs:List (Str×V)}{f:Str}{v:V}{A:Around}{E:Value->Shared->Prop}
theorem jcF{prog:Program}{w:World}{env:Env}{e:Expr}{f:Str}{pos:Pos}{s:Shared}{Q:Value->Shared->Prop}(a:attributeBase e f env (eval e env)=eval e env)
  (h:wpAny (model prog w) A (eval e env) (λo s₁=>wpAny (model prog w) A (getAttr o f true) Q E s₁) E s):wpAny (model prog w) A (eval (.Attribute e f pos) env) Q E s :=
 Attribute_any_ h (by rw[arm_eval_Attribute,a])
end
section
variable {X:Cx}{pins:List (Addr×Obj)}{σ:St}{H:Hp}{s:Shared}{A:Around}{E:Value->Shared->Prop}{Q:Value->Shared->Prop}{c:Value}{b:Bool}
inductive TyOf (K:PySem.W.Frag) (H:Hp):V->Value->Prop where
 | non:TyOf K H .non (.type "NoneType")
 | bl (x:Bool):TyOf K H (.bl x) (.type "bool")
 | int (i:Int):TyOf K H (.int i) (.type "int")
 | str (x:Str):TyOf K H (.str x) (.type "str")
 | flt (x:UInt64):TyOf K H (.flt x) (.type "float")
 | lst {a:Addr}{xs:List V}(e:H a=some (.lst xs)):TyOf K H (.ref a) (.type "list")
 | frz {a:Addr}{o:Obj}{xs:List V}(e:H a=some (.frz o (.lst xs))):TyOf K H (.ref a) (.type "list")
 | tup {a:Addr}{xs:List V}(e:H a=some (.tup xs)):TyOf K H (.ref a) (.type "tuple")
 | dK {a:Addr}{kvs:List (Key×V)}(e:H a=some (.dK kvs)):TyOf K H (.ref a) (.type "dict")
 | dT {a:Addr}{kvs:List (List Key×V)}(e:H a=some (.dT kvs)):TyOf K H (.ref a) (.type "dict")
 | ins {a C dx:Addr}{fs:List (Str×V)}(e:H a=some (.ins C dx fs)) (cl:Cls K C) (ha:PySem.W.findIn K (.ref C) "__class__" = some (some (.builtin "object.__class__")))
   (hn:PySem.W.specialIn K (.builtin "object.__class__") "__get__" = some (some (.builtin "getset_descriptor.__get__"))) (htk:PySem.W.takesIn K (.builtin "object.__class__")=some true)
   (hm:PySem.W.mroIn K C (.type "object")=some true):TyOf K H (.ref a) (.ref C)
end
structure Room(k:Nat)(A:Around):Prop where
 hd:A.handled=none
 dp:A.depth+3*k+5 < recursionLimit
 un:A.units+16*k+200 < cLine
theorem Room.mono{j k:Nat}{A:Around}(r:Room k A)(h:j<=k):Room j A:=⟨r.hd,by have:=r.dp;omega,by have:=r.un;omega⟩
theorem Room.deeper{k:Nat}{A:Around}(r:Room (k+1) A)(env:Env):Room k (A.deeper env) :=
 ⟨r.hd,by have:=r.dp;show A.depth+1+3*k+5 < _;omega,by have:=r.un;show A.units+3+16*k+200 < _;omega⟩
theorem zv{A:Around}{C:Addr}{us:List Value}{kw:List (Str×Value)}:(A.under (.builtin "type.__call__" ⟨.ref C::us,kw⟩)).depth=A.depth+1:=by
 first | rfl | simp[Around.under,Code.weight,Code.isCreation,Code.isGuard,Code.isCaller,Code.frames,Code.isFrame,guardIds]
theorem zJ{A:Around}{C:Addr}{us:List Value}{kw:List (Str×Value)}:(A.under (.builtin "type.__call__" ⟨.ref C::us,kw⟩)).units=A.units+1:=by
 first | rfl | simp[Around.under,Code.cUnits,Code.frames,Code.isFrame]
theorem Room.make{k:Nat}{A:Around}(r:Room (k+1) A)(C:Addr)(us:List Value)(kw:List (Str×Value)):Room k (A.under (.builtin "type.__call__" ⟨.ref C::us,kw⟩)) :=
 ⟨r.hd,by have:=r.dp;rw[zv];omega,by have:=r.un;rw[zJ];omega⟩
theorem Room.depth{k:Nat}{A:Around}(r:Room k A):A.depth < recursionLimit:=by have:=r.dp;omega
theorem Room.units{k:Nat}{A:Around}(r:Room k A):A.units+64 < cLine:=by have:=r.un;omega
noncomputable def xf:TA:=λ_ H Q=>Q [] H
noncomputable def vt(ta:TE)(tr:TA):TA:=λσ H Q=>ta σ H λx H1=>tr σ H1 λxs H2=>Q (x::xs) H2
section
variable {X:Cx}{e:Expr}{es:List Expr}{te:TE}{t:TA}{pos:Pos}
theorem Yx:PA X [] xf:=λ_ _ _ _ H Q I h=>Calls.spliced_nil ⟨[],H,I,.nil,h⟩
theorem yS(b:PE X e te)(c:PA X es t)(d:starEach (e::es) X.env=(false,eval e X.env)::starEach es X.env:=by rfl):PA X (e::es) (vt te t):=by
 intro pos a s σ H Q I h;rw[d];show wpAny _ _ (spliced ((false,eval e X.env)::backTo pos (starEach es X.env))) _ _ s;refine Calls.spliced_cons (thn (b a s σ H _ I h) λu f ⟨x,g,i,j,k⟩=>?_);exact thn (c pos a f σ g _ i k) λq r ⟨l,m,n,o,p⟩=>⟨x::l,m,n,.cons j o,p⟩
noncomputable def jfM(t:TA):TE:=λσ H Q=>t σ H λxs H1=>xs.length<=sizeLine/\∀ p,H1 p=none->Q (.ref p) (upd H1 p (.lst xs))
theorem jd2(h:PA X es t):PE X (.List es pos) (jfM t):=by
 intro a s σ H Q I g;refine wpAny_List_spliced (thn (h pos a s σ H _ I g) λi c ⟨j,d,f,r,z,q⟩=>⟨by rw[<- r.length];exact z,?_⟩);have k:d c.heap.objs.size=none:=f.hok.fresh (M9 _);refine⟨.ref c.heap.objs.size,upd d c.heap.objs.size (.lst j),f.laid (t':=c.toks) (λb u e=>L8 _ e) (M9 _) ?_,rfl,q _ k⟩;exact⟨z,i,0,r,X4 _ rfl⟩
end
noncomputable abbrev Sp:=List V->Hp->VK->XK->Prop
noncomputable abbrev CXT:=List Env->Hp->Shared->XK->Value->Shared->Prop
structure Env0(P:Program)(w:World)(K:PySem.W.Frag)(mg:Str->Option Value)(base:Heap)(A:Around)(outer:List Env)(s:Shared)(H:Hp):Prop where
 frames:A.frames=some outer
 mod:Mod K mg base
 bs:∀ b o,base.get? b=some o->s.heap.get? b=some o/\H b=none
 bsz:base.objs.size<=s.heap.objs.size
 funs:s.heap.FunFrames base outer
 frf:∀ b∈frs outer,H b=none
 hok:HOk P w H s.heap
 bare:AllBare s.gens
def CE(outer:List Env)(P:Program)(w:World)(H:Hp)(s:Shared)(Q:VK)(u:Value)(s':Shared):Prop :=
 ∃ v H',s'.os=s.os/\AllBare s'.gens/\Un (frs outer) [] H H' s.heap s'.heap/\HOk P w H' s'.heap/\RelV v u/\Q v H'
def CR(CX:CXT)(outer:List Env)(P:Program)(w:World)(H:Hp)(s:Shared)(Q:VK)(E:XK)(r:Result)(s':Shared):Prop :=
 match r with
 | .ok (.ret u)=>CE outer P w H s Q u s'
 | .ok _=>False
 | .error e=>CX outer H s E e s'
structure FnOk(P:Program)(w:World)(K:PySem.W.Frag)(mg:Str->Option Value)(base:Heap)(CX:CXT)(k:Nat)(f:Addr)(fd:FuncData)(ps:List Str)(sp:Sp):Prop where
 len:∀ vs H Q E,sp vs H Q E->vs.length=ps.length
 run:∀(A:Around) (outer:List Env) (s:Shared) (H:Hp) (args:Args) (us:List Value) (vs:List V) (Q:VK) (E:XK),Room k A->Env0 P w K mg base A outer s H->BindsTo s fd args (ps.zip us)->Vals vs us->sp vs H Q E ->
  codeAny (model P w) A (.call (.ref f) args) (CR CX outer P w H s Q E) s
theorem FnOk.imp{P:Program}{w:World}{K:PySem.W.Frag}{mg:Str->Option Value}{base:Heap}{CX:CXT}{k:Nat}{f:Addr}{fd:FuncData}{ps:List Str}{sp a:Sp}(F:FnOk P w K mg base CX k f fd ps sp)
  (h:∀ vs H Q E,a vs H Q E->sp vs H Q E):FnOk P w K mg base CX k f fd ps a :=
 ⟨λvs H Q E q=>F.len vs H Q E (h _ _ _ _ q),λA outer s H args b vs Q E c d e g i=>F.run A outer s H args b vs Q E c d e g (h _ _ _ _ i)⟩
theorem Env0.make{P:Program}{w:World}{K:PySem.W.Frag}{mg:Str->Option Value}{base:Heap}{A:Around}{outer:List Env}{s:Shared}{H:Hp}(e:Env0 P w K mg base A outer s H)(C:Addr)(us:List Value)(kw:List (Str×Value)) :
  Env0 P w K mg base (A.under (.builtin "type.__call__" ⟨.ref C::us,kw⟩)) outer s H:=⟨by first | exact e.frames | (simpa [Around.under,Code.envs,Code.isFrame,pushEnvs] using e.frames),e.mod,e.bs,e.bsz,e.funs,e.frf,e.hok,e.bare⟩
section
variable {X:Cx}{pins:List (Addr×Obj)}{σ:St}{H:Hp}{s s':Shared}
theorem Inv.env0(I:Inv X pins σ H s):Env0 X.prog X.w X.K X.mg X.base X.A X.stack s H :=
 ⟨I.ok.frames,I.ok.mod,I.bs,N7 I.ok.bsz I.sz,I.stack,I.stkFree,I.hok,I.bare⟩
theorem Inv.after{Q:VK}{u:Value}(I:Inv X pins σ H s)(h:CE X.stack X.prog X.w H s Q u s'):EP X pins σ Q u s':=by
 obtain⟨v,c,os,bare,un,hok,r,q⟩:=h;obtain⟨e,g,d,t,a⟩:=s';obtain rfl:a=s.os:=os;exact⟨v,c,I.call (h':=e) (g':=g) (d':=d) (t':=t) (ch:=[]) un hok bare (λb z=>absurd z (by simp)),r,q⟩
end
noncomputable def zZ(sp:Sp)(dvs:List V)(E:XK)(t:TA):TE:=λσ H Q=>t σ H λvs H1=>sp (vs++dvs) H1 Q E
def Binds(K:PySem.W.Frag)(fd:FuncData)(ps:List Str)(ds:List Value):Prop :=
 ∀(s:Shared) (us:List Value),K.In s.heap->(us++ds).length=ps.length->BindsTo s fd ⟨us,[]⟩ (ps.zip (us++ds))
theorem Binds.all{K:PySem.W.Frag}{fd:FuncData}{ps:List Str}(h:∀ us:List Value,us.length=ps.length->bindArgs fd ⟨us,[]⟩=pure (ps.zip us)):Binds K fd ps []:=λs us _ a=>by
 rw[N0] at a ⊢;exact .of_eq (h us a)
def Q6(CX:CXT)(X:Cx)(E:XK):Prop:=∀(pins:List (Addr×Obj)) (σ:St) (H:Hp) (s:Shared) (e:Value) (s':Shared),Inv X pins σ H s->CX X.stack H s E e s'->X.xe e s'
section
variable {X:Cx}{CX:CXT}{k:Nat}{f C:Addr}{fd:FuncData}{ps:List Str}{sp:Sp}{dvs:List V}{ds:List Value}{E:XK}{x m:Str}{p pos apos:Pos}{e o:Expr}{es:List Expr}{ta:TE}{t:TA}
theorem jeq{pins:List (Addr×Obj)}{σ:St}{H:Hp}{s:Shared}{Q:VK}{us:List Value}{vs:List V}(F:FnOk X.prog X.w X.K X.mg X.base CX k f fd ps sp)(c:Room k X.A)(d:Binds X.K fd ps ds)(hd:Vals dvs ds)(g:Q6 CX X E)
  (I:Inv X pins σ H s) (r:Vals vs us) (h:sp (vs++dvs) H Q E):wpAny (model X.prog X.w) X.A (call (.ref f) us) (EP X pins σ Q) X.xe s:=by
 have b:Vals (vs++dvs) (us++ds):=r.append hd;have i:(us++ds).length=ps.length:=by rw[<- b.length];exact F.len _ _ _ _ h
 refine wpAny_call (codeAny_mono (F.run X.A X.stack s H ⟨us,[]⟩ (us++ds) (vs++dvs) Q E c I.env0 (d s us I.kIn i) b h) λr j a=>?_);cases r with
 | error e=>exact g pins σ H s e j I a
 | ok l =>
  cases l with
  | ret u=>exact I.after a
  | next=>exact False.elim a
  | brk=>exact False.elim a
  | cont=>exact False.elim a
theorem xI(F:FnOk X.prog X.w X.K X.mg X.base CX k f fd ps sp)(g:Room k X.A)(i:Gl X x)(j:X.mg x=some (.ref f))(l:PySem.W.keepIn X.K (.ref f)=true)(m:Binds X.K fd ps ds)(hd:Vals dvs ds)(n:Q6 CX X E)
  (o:PA X (e::es) t) (b:(x==("__debug__" : Str))=false:=by decide) (u:starEach (e::es) X.env=(false,eval e X.env)::starEach es X.env:=by rfl) (c:(backTo pos (starEach es X.env)).any (·.1)=false:=by rfl) :
  PE X (.Call (.Name x p) (e::es) [] pos) (zZ sp dvs E t):=by
 intro a s σ H Q I h;refine wpAny_Call_Name_kw (qd I i j ?_ b);refine PySem.W.callWith_K (h₀:=X.base) I.ok.mod.kin l (thn (o pos a s σ H _ I h) λv y ⟨z,B,d,r,q⟩=>⟨d.kIn,?_⟩) u c;exact jeq F g m hd n d r q
structure Mk(K:PySem.W.Frag)(C f:Addr):Prop where
 makes:PySem.W.makesIn K C=true
 init:PySem.W.findIn K (.ref C) "__init__" = some (some (.ref f))
 fn:PySem.W.isFn K (.ref f)=true
 kp:PySem.W.keepIn K (.ref C)=true
end
def PK(X:Cx)(kws:List Keyword)(t:TA):Prop :=
 ∀(pos:Pos) (pins:List (Addr×Obj)) (s:Shared) (σ:St) (H:Hp) (Q:List V->Hp->Prop),Inv X pins σ H s->t σ H Q->wpAny (model X.prog X.w) X.A (evalAll ((backToKw pos (keywordEach kws X.env)).map (·.2))) (AP X pins σ Q) X.xe s
section
variable {X:Cx}{CX:CXT}{k:Nat}{f C:Addr}{fd:FuncData}{ps ks:List Str}{sp:Sp}{E:XK}{x m:Str}{p pos apos kpos:Pos}{e o:Expr}{es:List Expr}{kws:List Keyword}{te ta:TE}{t tk:TA}{nm:Option Str}
structure KBinds(K:PySem.W.Frag)(fd:FuncData)(ps ks:List Str)(g:List Value->List Value->List Value)(gV:List V->List V->List V):Prop where
 to:∀(s:Shared) (us ws:List Value),K.In s.heap->(g us ws).length=ps.length->BindsTo s fd ⟨us,ks.zip ws⟩ (ps.zip (g us ws))
 rel:∀{vs:List V}{us:List Value}{zs:List V}{ws:List Value},Vals vs us->Vals zs ws->Vals (gV vs zs) (g us ws)
variable {g:List Value->List Value->List Value}{gV:List V->List V->List V}
end
structure FnScope(N P:List Str)(sc:Scope):Prop where
 kind:sc.kind=.function
 co:sc.isCoroutine=false
 gen:sc.isGenerator=false
 nd:N.Nodup
 pre:N.take P.length=P
 par:∀ x∈P,sc.names.lookup x=some .local \/ sc.names.lookup x=some .cell
 nofree:∀ y∈sc.names,y.2≠.free
theorem Kg{kindOf:Str->Option NameKind}{x:Str}:∀{binds:List (Str×Value)}{m:Str->Option Value},(∀ v,(x,v)∉binds)->bindL kindOf binds m x=m x
 | [],_,_=>rfl
 | (n,v)::r,m,h=>by
  unfold bindL;rw[Kg λw a=>h w (L6 _ a)];split
  ·have:x≠n:=by rintro rfl;exact h v L7
   simp[this]
  ·rfl
theorem V9{kindOf:Str->Option NameKind}{x:Str}:∀{binds:List (Str×Value)}{m:Str->Option Value},(∀ v,(x,v)∉binds)->bindC kindOf binds m x=m x
 | [],_,_=>rfl
 | (n,v)::r,m,h=>by
  unfold bindC;rw[V9 λw a=>h w (L6 _ a)];split
  ·rfl
  ·have:x≠n:=by rintro rfl;exact h v L7
   simp[this]
theorem VX{kindOf:Str->Option NameKind}{x:Str}{v:Value}:∀{P:List Str}{vs:List Value}{i:Nat}{m:Str->Option Value},P.Nodup->P[i]?=some x->vs[i]?=some v->kindOf x=some .local ->
  bindL kindOf (P.zip vs) m x=some v
 | [],_,_,_,_,h,_,_=>by simp at h
 | _::_,[],_,_,_,_,h,_=>by simp at h
 | p::P,w::vs,0,m,nd,a,b,c=>by
  simp at a b;subst a;subst b;show bindL kindOf ((p,w)::P.zip vs) m p=_;unfold bindL;rw[Kg λv d=>(List.nodup_cons.mp nd).1 (List.of_mem_zip d).1,if_pos c];simp
 | p::P,w::vs,i+1,m,nd,a,b,c=>by
  show bindL kindOf ((p,w)::P.zip vs) m x=_;unfold bindL;exact VX (i:=i) (List.nodup_cons.mp nd).2 (by simpa using a) (by simpa using b) c
theorem Kc{kindOf:Str->Option NameKind}{x:Str}{v:Value}:∀{P:List Str}{vs:List Value}{i:Nat}{m:Str->Option Value},P.Nodup->P[i]?=some x->vs[i]?=some v->kindOf x≠some .local ->
  bindC kindOf (P.zip vs) m x=some v
 | [],_,_,_,_,h,_,_=>by simp at h
 | _::_,[],_,_,_,_,h,_=>by simp at h
 | p::P,w::vs,0,m,nd,a,b,c=>by
  simp at a b;subst a;subst b;show bindC kindOf ((p,w)::P.zip vs) m p=_;unfold bindC;rw[V9 λv d=>(List.nodup_cons.mp nd).1 (List.of_mem_zip d).1,if_neg c];simp
 | p::P,w::vs,i+1,m,nd,a,b,c=>by
  show bindC kindOf ((p,w)::P.zip vs) m x=_;unfold bindC;exact Kc (i:=i) (List.nodup_cons.mp nd).2 (by simpa using a) (by simpa using b) c
noncomputable def start(N:List Str)(vs:List V):St:=vs.map some++List.replicate (N.length - vs.length) none
noncomputable def zf(CX:CXT)(P:Program)(w:World)(K:PySem.W.Frag)(mg:Str->Option Value)(base:Heap)(N:List Str)(qual:Str)(scope:Scope)(f:Addr)(cd:Value)(A:Around)(outer:List Env)(s:Shared)(H:Hp)(E:XK):Cx where
 prog:=P
 w:=w
 K:=K
 mg:=mg
 base:=base
 A:=A.deeper (envOfC qual scope s.heap.objs.size f cd)
 N:=N
 s₀:=s
 H₀:=H
 env:=envOfC qual scope s.heap.objs.size f cd
 outer:=outer
 stack:=envOfC qual scope s.heap.objs.size f cd::outer
 ex:=[]
 calm:=true
 fn:=λ_=>true
 pn:=[]
 xe:=λe s'=>wpAny (model P w) (A.deeper (envOfC qual scope s.heap.objs.size f cd)) (leaving (envOfC qual scope s.heap.objs.size f cd) e) (λ_ s''=>CX outer H s E e s'') (λe' s''=>CX outer H s E e' s'') s'
theorem QH{a:Scope}{n:Nat}{x:Str}(h:a.names.lookup x=some .cell):∃ c,(cellsFrom n a.names []).lookup x=some c:=by
 have q:=PySem.W.cellsFrom_some a.names n [] (.inl h);exact Option.isSome_iff_exists.mp q
theorem wo{CX:CXT}{P:Program}{w:World}{K:PySem.W.Frag}{mg:Str->Option Value}{base:Heap}{N ps:List Str}{qual:Str}{scope:Scope}{f:Addr}{cd:Value}{A:Around}{outer:List Env}{s s1:Shared}{H:Hp}{E:XK}{us:List Value}{vs:List V}
  (S:FnScope N ps scope) (hd:A.handled=none) (g:Env0 P w K mg base A outer s H) (J:vs.length=ps.length) (r:Vals vs us)
  (x:InCallC s s.heap.objs.size (bindL (envOfC qual scope s.heap.objs.size f cd).kindOf (ps.zip us) λ_=>none) (cellsFrom (s.heap.objs.size+1) scope.names []) (bindC (envOfC qual scope s.heap.objs.size f cd).kindOf (ps.zip us) λ_=>none) s1) :
  Inv (zf CX P w K mg base N qual scope f cd A outer s H E) [] (start N vs) H s1:=by
 have F:ps.length<=N.length:=by have:=congrArg List.length S.pre;rw[X3] at this;omega
 obtain⟨t,L,rfl,C⟩:=x.done;have j:∀ b:Addr,b∉(zf CX P w K mg base N qual scope f cd A outer s H E).ex:=λb z=>absurd (show b∈([]:List Addr) from z) (by simp);refine⟨⟨g.mod,S.kind,rfl,rfl,M9 _,λy z c t d=>?_,λy l=>?_,λy c _ h=>?_,λ_=>hd,Around.frames_deeper g.frames,.inr ⟨rfl,rfl⟩,λb z=>absurd z (j b),g.bs,g.bsz,λb _ _=>j b,λb z=>absurd z (j b),g.funs,g.frf⟩,
  rfl,g.bare,Un.kept C,⟨_,x.toInCall.ns,λi y v t d M=>?_⟩,λy c h=>⟨_,x.cell y c h⟩,g.hok.fresh (M9 _),λy c h=>?_,λp m=>absurd (show p∈([]:List (Addr×Obj)) from m) (by simp),g.hok.kept C,?_⟩
 ·exact name_of_addr x.apart (PySem.mem_of_lookup t) (PySem.mem_of_lookup d)
 ·have l:scope.names.lookup y=some .cell \/ scope.names.lookup y=some .free:=l;rcases l with l | l
  ·exact QH l
  ·exact absurd rfl (S.nofree _ (PySem.mem_of_lookup l))
 ·exact Nat.le_of_lt (x.above y c (PySem.mem_of_lookup h))
 ·have B:i < vs.length:=by
   unfold start at d;by_cases B:i < vs.length
   ·exact B
   ·rw[List.getElem?_append_right (by simpa using B)] at d;rw[List.getElem?_replicate] at d;split at d<;>cases d
  have G:vs[i]?=some v:=by
   unfold start at d;rw[List.getElem?_append_left (by simpa using B),List.getElem?_map] at d;cases e:vs[i]? with
   | none=>rw[e] at d;cases d
   | some a=>rw[e] at d;cases d;rfl
  obtain⟨u,D,I⟩:=r.get G;have m:ps[i]?=some y:=by
   rw[<- S.pre,List.getElem?_take_of_lt (by omega)];exact t
  have o:ps.Nodup:=by rw[<- S.pre];exact S.nd.sublist (List.take_sublist _ _)
  refine⟨u,I,?_⟩;rcases S.par y (List.mem_of_getElem? m) with k | k
  ·exact .inl ⟨k,VX o m D k⟩
  ·obtain⟨c,e⟩:=QH (n:=s.heap.objs.size+1) k;refine .inr ⟨.inl k,c,e,?_⟩;have q:=x.cell y c e;rw[Kc o m D (by show scope.names.lookup y≠_;rw[k];decide)] at q;exact q
 ·exact g.hok.fresh (Nat.le_of_lt (x.above y c (PySem.mem_of_lookup h)))
 ·unfold start;show _=N.length;rw[N4,L0,List.length_replicate];omega
theorem jeI{CX:CXT}{P:Program}{w:World}{K:PySem.W.Frag}{mg:Str->Option Value}{base:Heap}{k:Nat}{f:Addr}{name qual:Str}{params:Arguments}{body:List Stmt}{scope:Scope}{D kV h pm a ct oc:Value}{an od:Option Addr}
  {m:Array (Option Value)}{N ps:List Str}{sp:Sp}(L:K.lookup f=some ⟨oc,od,.func (PySem.W.fnOf name qual params body scope D kV h pm an a ct),m⟩) (p:PySem.W.codeIn K a qual=true) (S:FnScope N ps scope)
  (len:∀ vs H Q E,sp vs H Q E->vs.length=ps.length)
  (c:∀(A:Around) (outer:List Env) (s:Shared) (H:Hp) (vs:List V) (Q:VK) (E:XK),Room k (A.deeper (envOfC qual scope s.heap.objs.size f a))->sp vs H Q E ->
   ∃ t,PSs (zf CX P w K mg base N qual scope f a A outer s H E) body t/\t { nx:=λ_ H'=>Q .non H',rt:=Q } (start N vs) H) :
  FnOk P w K mg base CX (k+1) f (PySem.W.fnOf name qual params body scope D kV h pm an a ct) ps sp:=by
 refine⟨len,λA outer s H args M vs Q E z i O r j=>?_⟩;have R:=len _ _ _ _ j;have F:K.In s.heap:=i.mod.kin.keeps λb o e=>(i.bs b o e).1;have lim:s.heap.NoLimit:=i.mod.nolimit.keeps λb o e=>(i.bs b o e).1;have d:∀ y∈ps.zip M,scope.names.lookup y.1=some .local \/ (scope.names.lookup y.1=some .cell/\((cellsFrom (s.heap.objs.size+1) scope.names []).lookup y.1).isSome=true):=λ⟨n,v⟩ T=>by
  rcases S.par n (List.of_mem_zip T).1 with q | q
  ·exact .inl q
  ·exact .inr ⟨q,PySem.W.cellsFrom_some _ _ _ (.inl q)⟩
 refine codeAny_call_function z.depth (F _ _ L) rfl S.co S.gen rfl (PySem.W.codeRec_of F p) (O _ _ _ _ ?_);refine wpAny_newFunctionEnv_cells S.kind d λenv U G x=>?_;subst U;refine⟨lim.keeps x.toInCall.keep,codeAny_func ?_⟩;obtain⟨t,X,Y⟩:=c A outer s H vs Q E (z.deeper _) j;have I:Inv (zf CX P w K mg base N qual scope f a A outer s H E) [] (start N vs) H G:=wo S z.hd i R r x;refine wpAny_mono (X [] G (start N vs) H _ I Y) (λZ B g=>?_) λe B g=>g;have fin:∀{l:St}{H':Hp}{v:V}{u:Value},Inv (zf CX P w K mg base N qual scope f a A outer s H E) [] l H' B->RelV v u->Q v H'->CE outer P w H s Q u B :=
  λ{l H' v u} J C q=>⟨v,H',J.os,J.bare,J.base,J.hok,C,q⟩
 cases Z with
 | ret u =>
  obtain⟨v,l,H',J,C,q⟩:=g;exact fin J C q
 | next =>
  obtain⟨l,H',J,q⟩:=g;exact fin (v:=V.non) (u:=Value.none) J rfl q
 | brk =>
  obtain⟨_,_,_,q⟩:=g;exact False.elim q
 | cont =>
  obtain⟨_,_,_,q⟩:=g;exact False.elim q
section
variable {X:Cx}{x:Str}{p pos:Pos}{e:Expr}{es:List Expr}{t:TA}{id T:String}{r:List V->Hp->VK->Prop}
noncomputable def tCB(r:List V->Hp->VK->Prop)(t:TA):TE:=λσ H Q=>t σ H λvs H1=>r vs H1 Q
theorem JJ(d:CallR X (.builtin id) r)(f:Gl X x)(g:X.mg x=none)(i:bootBuiltins x=some (.builtin id))(j:PA X (e::es) t)(k:x≠"__name__":=by decide)(b:(x==("__debug__" : Str))=false:=by decide)
  (l:starEach (e::es) X.env=(false,eval e X.env)::starEach es X.env:=by rfl) (c:(backTo pos (starEach es X.env)).any (·.1)=false:=by rfl):PE X (.Call (.Name x p) (e::es) [] pos) (tCB r t):=by
 intro a s σ H Q I h;refine wpAny_Call_Name_kw (Yd I f g i ?_ k b);exact PyProof.Rows.callWith_builtin1 (thn (j pos a s σ H _ I h) λm n ⟨o,q,u,v,w⟩=>d a n σ q o m Q u v w) l c
theorem w4(d:CallR X (.type T) r)(f:Gl X x)(g:X.mg x=none)(i:bootBuiltins x=some (.type T))(j:PA X (e::es) t)(k:x≠"__name__":=by decide)(b:(x==("__debug__" : Str))=false:=by decide)
  (l:starEach (e::es) X.env=(false,eval e X.env)::starEach es X.env:=by rfl) (c:(backTo pos (starEach es X.env)).any (·.1)=false:=by rfl):PE X (.Call (.Name x p) (e::es) [] pos) (tCB r t):=by
 intro a s σ H Q I h;refine wpAny_Call_Name_kw (Yd I f g i ?_ k b);exact PyProof.Rows.callWith_type1 (thn (j pos a s σ H _ I h) λm n ⟨o,q,u,v,w⟩=>d a n σ q o m Q u v w) l c
end
end L2
namespace HT
open PySem PyProof.Rows
section
open PySem.SeqAt
open PySem.AutoSeq1 (wpAny_loadPart')
open PySem.MeetsSeq PySem.MeetsSeq2 PySem.MeetsSeq3
end
section
variable {prog:Program}{w:World}{A:Around}{E:Value->Shared->Prop}{s:Shared}
theorem cat_tup{t b:Addr}{vs ws:List Value}{Q:Value->Shared->Prop}(r:IsTup s.heap t vs.toArray)(u:IsTup s.heap b ws.toArray)(l:vs≠[])
  (h1:ws=[]->Q (.ref t) s) (h2:ws≠[]->Q (.ref s.heap.objs.size) { s with heap:=s.heap.push { cls:=.type "tuple",data:=.seq (vs++ws).toArray } })
  (j:vs.length+ws.length<=sizeLine):wpAny (model prog w) A (binaryOp .Add (.ref t) (.ref b)) Q E s:=by
 obtain⟨⟨cls,dd,data,m⟩,h,o,n,hd⟩:=id r;obtain⟨⟨p,c,k,d⟩,a,f,q,g⟩:=id u;simp only at o hd f g;subst o hd f g;have e:vs.toArray++ws.toArray=(vs++ws).toArray:=by simp
 by_cases i:ws=[]
 ·exact concat_meets ⟨_,h,rfl⟩ ⟨_,a,rfl⟩ noFill_tuple_add seq_tuple_add PySem.F.slot_tuple_add PySem.F.entry_tuple_add (PySem.F.args_tuple_add_2 _ _)
   (tuple_addW1 t b vs.toArray ws.toArray n q dd c m d (by simpa using l) (by simp[i])) ⟨h,a,h1 i⟩
 ·refine concat_meets ⟨_,h,rfl⟩ ⟨_,a,rfl⟩ noFill_tuple_add seq_tuple_add PySem.F.slot_tuple_add PySem.F.entry_tuple_add (PySem.F.args_tuple_add_2 _ _)
   (tuple_addW2 t b vs.toArray ws.toArray n q dd c m d (by simpa using l) (by simpa using i) (by rw[N3,N3];exact j)) ⟨h,a,?_⟩
  rw[e];exact h2 i
noncomputable def sIx(n d:Nat):Option Int->Nat
 | none=>d
 | some v=>if v < 0 then(v+(n:Int)).toNat else min v.toNat n
theorem sIx_none(n d:Nat):sIx n d none=d:=rfl
theorem sIx_nat(n d k:Nat):sIx n d (some (k:Int))=min k n:=by
 show(if(k:Int) < 0 then((k:Int)+(n:Int)).toNat else min (k:Int).toNat n)=min k n;rw[if_neg (by omega),N8]
theorem sIx_le(n d:Nat)(hd:d<=n)(o:Option Int):sIx n d o<=n:=by
 cases o with
 | none=>exact hd
 | some v =>
  show(if v < 0 then(v+(n:Int)).toNat else min v.toNat n)<=n;by_cases a:v < 0
  ·rw[if_pos a];omega
  ·rw[if_neg a];exact Nat.min_le_right _ _
theorem wU(v:Int)(n d:Nat):(if v < 0 then max (v+(n:Int)) 0 else min v (n:Int))=((sIx n d (some v):Nat):Int):=by
 show(if v < 0 then max (v+(n:Int)) 0 else min v (n:Int))=(((if v < 0 then(v+(n:Int)).toNat else min v.toNat n):Nat):Int);by_cases a:v < 0
 ·simp only[if_pos a];omega
 ·simp only[if_neg a];omega
theorem zh(lo hi:Option Int)(n:Nat):Builtin.Slice.sliceAdjust lo hi 1 (n:Int)=(((sIx n 0 lo:Nat):Int),((sIx n n hi:Nat):Int)):=by
 have a:¬ ((1:Int) < 0):=by omega
 unfold Builtin.Slice.sliceAdjust;simp only[a,if_false];refine Prod.ext ?_ ?_
 ·cases lo with
  | none=>rfl
  | some v=>exact wU v n 0
 ·cases hi with
  | none=>rfl
  | some v=>exact wU v n n
theorem zq(i j:Nat):Builtin.Slice.slicePlaces (i:Int) (j:Int) 1=j - i:=by
 unfold Builtin.Slice.slicePlaces;have a:(1:Int) > 0:=by omega
 simp only[a,if_true,Int.ediv_one];split<;>omega
theorem YI{v:Value}{o:Option Int}{Q:Option Int->Shared->Prop}(p:IsPart v o)(h:Q o s):wpAny (model prog w) A (Builtin.Slice.slicePartIndex v) Q E s:=by
 cases p with
 | none=>exact slicePart_none h
 | int i t=>exact slicePart_int h
theorem JE{sl:Addr}{c d:Value}{lo hi:Option Int}{n:Nat}{Q:Int×Int×Nat->Shared->Prop}(e:s.heap.IsSliceOf sl c d .none)(pl:IsPart c lo)(f:IsPart d hi)
  (h:Q (((sIx n 0 lo:Nat):Int),1,sIx n n hi - sIx n 0 lo) s):wpAny (model prog w) A (Builtin.Slice.sliceApplied (.ref sl) (pure (n:Int))) Q E s:=by
 obtain⟨os,a,g,b⟩:=id e;unfold Builtin.Slice.sliceApplied Builtin.Slice.sliceFields;refine L3 (L3 (U5 a b (x:=c) rfl (L3 (U5 a b (x:=d) rfl (L3 (U5 a b (x:=.none) rfl (M7 ?_)))))));refine L3 (slicePart_none ?_);show wpAny _ _ (if((1:Int)==0)=true then _ else _) _ _ s;rw[if_neg (by decide)];refine L3 (YI pl (L3 (YI f (L3 (M7 ?_)))));show wpAny _ _ (match Builtin.Slice.sliceAdjust lo hi 1 (n:Int) with | (lo,hi)=>pure (lo,(1:Int),Builtin.Slice.slicePlaces lo hi 1)) _ _ s;rw[zh lo hi n];show wpAny _ _ (pure (((sIx n 0 lo:Nat):Int),(1:Int),Builtin.Slice.slicePlaces ((sIx n 0 lo:Nat):Int) ((sIx n n hi:Nat):Int) 1)) _ _ s;rw[zq];exact M7 h
theorem jaN(xs:Array Value)(i k:Nat):((List.range k).filterMap λ(m:Nat)=>xs[((i:Int)+(m:Int)*1).toNat]?).toArray=((xs.toList.drop i).take k).toArray:=by
 have e:(λ(m:Nat)=>xs[((i:Int)+(m:Int)*1).toNat]?)=λm=>xs[i+m]?:=by
  funext m
  have:((i:Int)+(m:Int)*1).toNat=i+m:=by omega
  rw[this]
 rw[e];have:=pick_run xs i k;rw[List.filterMap_map] at this;have a:((λx=>xs[x]?) ∘ λx=>i+x)=λm=>xs[i+m]?:=rfl;rw[a] at this;rw[this]
theorem getItem_tuple_cut{t sl:Addr}{a:Array Value}{i j:Value}{lo hi:Option Int}{Q:Value->Shared->Prop}(c:IsTup s.heap t a)(k:s.heap.IsSliceOf sl i j .none)(pl:IsPart i lo)(l:IsPart j hi)
  (n:¬ (sIx a.size 0 lo=0/\sIx a.size a.size hi=a.size))
  (h:Q (.ref s.heap.objs.size) { s with heap:=s.heap.push { cls:=.type "tuple",data:=.seq ((a.toList.drop (sIx a.size 0 lo)).take (sIx a.size a.size hi - sIx a.size 0 lo)).toArray } })
  (o:a.size<=sizeLine):wpAny (model prog w) A (getItem (.ref t) (.ref sl)) Q E s:=by
 have b:sizeOk (.seq ((a.toList.drop (sIx a.size 0 lo)).take (sIx a.size a.size hi - sIx a.size 0 lo)).toArray):=by
  show((a.toList.drop (sIx a.size 0 lo)).take (sIx a.size a.size hi - sIx a.size 0 lo)).toArray.size<=sizeLine;rw[N3,X3,List.length_drop,Array.length_toList];omega
 have r:sIx a.size a.size hi<=a.size:=sIx_le _ _ (M9 _) hi;obtain⟨os,d,e,p⟩:=id k;have f:s.TypeIs (.ref sl) "slice":=⟨os,d,e⟩;unfold getItem
 try with_reducible refine wpAny_holding ?_
 first | refine L3 (M7 ?_) | skip
 refine L3 (wpAny_sequenceKey c.typeIs (by decide) ?_);refine L3 (wpAny_callSpecial?_slot (name:=Str.ofString "__getitem__") c.typeIs PyProof.Rows.slot_tuple_getitem
  (wpAny_call_entry PyProof.Rows.slot_tuple_getitem c.typeIs entry_tuple_getitem ?_ (args_tuple_getitem _ _)))
 show wpAny _ _ (Builtin.Tuple.tupleItemsOf (.ref t) >>= _) _ _ s;refine L3 (tupleItemsOf_ c ?_);refine L3 (wpAny_typeOf f ?_);rw[if_pos (by decide)];refine L3 (JE k pl l ?_);have g:¬ ((((sIx a.size 0 lo:Nat):Int)==0&&(1:Int)==1&&(sIx a.size a.size hi - sIx a.size 0 lo)==a.size)=true):=by
  intro q;rw[M0,M0] at q;have u:((sIx a.size 0 lo:Nat):Int)=0:=eq_of_beq q.1.1;have v:sIx a.size a.size hi - sIx a.size 0 lo=a.size:=eq_of_beq q.2;exact n ⟨by omega,by omega⟩
 show wpAny _ _ (if(((sIx a.size 0 lo:Nat):Int)==0&&(1:Int)==1&&(sIx a.size a.size hi - sIx a.size 0 lo)==a.size)=true then _ else _) _ _ s;rw[if_neg g,jaN]
 first
  | exact L3 (m:=Builtin.Tuple.tupleExact _) (wpAny_newObj_type (M7 ⟨_,rfl,M7 h⟩) b)
  | exact L3 (m:=Builtin.Tuple.tupleExact _) (wpAny_newObj_type (L3 (M7 (M7 ⟨_,rfl,M7 h⟩))) b)
  | exact L3 (L3 (m:=Builtin.Tuple.tupleExact _) (wpAny_newObj_type (M7 (M7 ⟨_,rfl,M7 h⟩)) b))
  | exact L3 (L3 (m:=Builtin.Tuple.tupleExact _) (wpAny_newObj_type (M7 ⟨_,rfl,M7 h⟩) b))
end
end HT
namespace L2
open PySem PySem.Spec PyProof.Rows
noncomputable abbrev TO:=St->Hp->(Option Int->Hp->Prop)->Prop
def PO(X:Cx)(e:Option Expr)(t:TO):Prop :=
 ∀(pins:List (Addr×Obj)) (s:Shared) (σ:St) (H:Hp) (Q:Option Int->Hp->Prop),Inv X pins σ H s->t σ H Q ->
  wpAny (model X.prog X.w) X.A (evalPart e X.env) (λu s'=>∃ o H',Inv X pins σ H' s'/\IsPart u o/\Q o H') X.xe s
noncomputable def Qn:TO:=λ_ H Q=>Q none H
noncomputable def jcI(t:TE):TO:=λσ H Q=>t σ H λx H1=>∃ i,x=.int i/\Q (some i) H1
section
variable {X:Cx}{e:Expr}{te:TE}{lo hi:Option Expr}{tl th:TO}{pos p2:Pos}
theorem jcn:PO X none Qn:=by
 intro a s σ H Q I h;rw[evalPart_none];exact M7 ⟨none,H,I,.none,h⟩
theorem jdc(h:PE X e te):PO X (some e) (jcI te):=by
 intro a s σ H Q I b;rw[evalPart_some];refine thn (h a s σ H _ I b) λu j ⟨x,c,d,f,g⟩=>?_;obtain⟨i,rfl,q⟩:=g;obtain⟨t,rfl⟩:=f;exact⟨some i,c,d,.int i t,q⟩
def SlR(X:Cx)(r:V->Option Int->Option Int->Hp->VK->Prop):Prop :=
 ∀(pins:List (Addr×Obj)) (s:Shared) (σ:St) (H:Hp) (x:V) (v vl vu:Value) (lo hi:Option Int) (sl:Addr) (Q:VK),Inv X pins σ H s->RelV x v->s.heap.IsSliceOf sl vl vu .none->IsPart vl lo->IsPart vu hi->r x lo hi H Q ->
  ∃ T id,typeLookup (.type T) "__getitem__" = pure (some (.builtin id))/\s.TypeIs v T/\wpAny (model X.prog X.w) X.A (getItem v (.ref sl)) (EP X pins σ Q) X.xe s
theorem SlR.or{r b:V->Option Int->Option Int->Hp->VK->Prop}(h:SlR X r)(h':SlR X b):SlR X (λx lo hi H Q=>r x lo hi H Q \/ b x lo hi H Q):=by
 intro a s σ H x v c d lo hi e Q I f g pl i q;rcases q with q | q
 ·exact h a s σ H x v c d lo hi e Q I f g pl i q
 ·exact h' a s σ H x v c d lo hi e Q I f g pl i q
noncomputable def tSl(r:V->Option Int->Option Int->Hp->VK->Prop)(te:TE)(tl th:TO):TE:=λσ H Q=>te σ H λx H1=>tl σ H1 λl H2=>th σ H2 λu H3=>r x l u H3 Q
theorem jay{r:V->Option Int->Option Int->Hp->VK->Prop}(i:SlR X r)(j:PE X e te)(k:PO X lo tl)(m:PO X hi th):PE X (.Subscript e (.Slice lo hi none p2) pos) (tSl r te tl th):=by
 intro a s σ H Q I h;refine Subscript_ (thn (j a s σ H _ I h) λv n ⟨x,o,p,t,y⟩=>?_);refine wpAny_Slice (thn (k a n σ o _ p y) λd z ⟨l,B,C,pl,D⟩=>thn (m a z σ B _ C D) λf c ⟨u,g,E,F,G⟩=>?_);rw[evalPart_none];refine M7 ?_;have J:Inv X a σ g { c with heap:=c.heap.push { cls:=.type "slice",data:=.fields #[d,f,.none] } }:=E.kept (t':=c.toks) λb N q=>L8 _ q;obtain⟨T,id,K,L,M⟩:=i a { c with heap:=c.heap.push { cls:=.type "slice",data:=.fields #[d,f,.none] } } σ g x v d f l u c.heap.objs.size Q J t (Heap.IsSliceOf.new ..) pl F G;show wpAny (model X.prog X.w) X.A (subscriptTail e (.Slice lo hi none p2) v (.ref c.heap.objs.size)) (EP X a σ Q) X.xe { c with heap:=c.heap.push { cls:=.type "slice",data:=.fields #[d,f,.none] } };exact tail_any (ops:=[.ref c.heap.objs.size,v]) L K M (by with_unfolding_all rfl)
noncomputable def jbl(xs:List V)(lo hi:Option Int):List V:=(xs.drop (HT.sIx xs.length 0 lo)).take (HT.sIx xs.length xs.length hi - HT.sIx xs.length 0 lo)
theorem J6(xs:List V)(lo hi:Option Int):(jbl xs lo hi).length<=xs.length:=by
 unfold jbl;rw[X3,List.length_drop];omega
def jgu(K:PySem.W.Frag):V->Option Int->Option Int->Hp->VK->Prop:=λx lo hi H Q=>∃ a xs,x=.ref a/\SqT K H a xs /\
 ¬ (HT.sIx xs.length 0 lo=0/\HT.sIx xs.length xs.length hi=xs.length)/\∀ p,H p=none->Q (.ref p) (upd H p (.tup (jbl xs lo hi)))
theorem jdR:SlR X (jgu X.K):=by
 intro i s σ H x v u w e f y Q I l m pl n h;obtain⟨a,d,rfl,p,t,q⟩:=h;cases l;obtain⟨g,r,j,k⟩:=I.tuple p;have c:g.toArray.size=d.length:=by rw[N3];exact r.length.symm
 refine⟨"tuple",_,PyProof.Rows.slot_tuple_getitem.lookup,j.typeIs,?_⟩;refine HT.getItem_tuple_cut j m pl n (by rw[c];exact t) ?_ (by rw[c];exact k);rw[c];refine⟨.ref s.heap.objs.size,_,I.laid (t':=s.toks) (o:=.tup (jbl d e f)) (λb z q=>L8 _ q) (M9 _) ?_,rfl,q _ (I.hok.fresh (M9 _))⟩;exact⟨N7 (J6 d e f) k,_,(r.drop (HT.sIx d.length 0 e)).take (HT.sIx d.length d.length f - HT.sIx d.length 0 e),IsTupN.new _ _⟩
noncomputable def jfe(K:PySem.W.Frag):R2:=λx y H Q=>∃ a b xs ys,x=.ref a/\y=.ref b/\SqT K H a xs/\SqT K H b ys/\xs≠[]/\xs.length+ys.length<=sizeLine /\
 (ys=[]->Q (.ref a) H)/\(ys≠[]->∀ p,H p=none->Q (.ref p) (upd H p (.tup (xs++ys))))
theorem Vals.nil_iff{xs:List V}{us:List Value}(r:Vals xs us):us=[]↔xs=[]:=by
 cases r with
 | nil=>simp
 | cons _ _=>simp
theorem jbK:OpR X (binaryOp .Add) (jfe X.K):=by
 intro e s σ H x y v u Q I i j h;obtain⟨a,b,k,l,rfl,rfl,m,n,p,f,r,t⟩:=h;cases i;cases j;obtain⟨A,d,p1,_⟩:=I.tuple m;obtain⟨g,c,p2,_⟩:=I.tuple n;refine HT.cat_tup p1 p2 (λz=>p (d.nil_iff.mp z)) (λz=>⟨.ref a,H,I,rfl,r (c.nil_iff.mp z)⟩) (λz=>?_) (by rw[<- d.length,<- c.length];exact f);refine⟨.ref s.heap.objs.size,_,I.laid (t':=s.toks) (o:=.tup (k++l)) (λb B q=>L8 _ q) (M9 _) ?_,rfl,t (λw=>z (c.nil_iff.mpr w)) _ (I.hok.fresh (M9 _))⟩;exact⟨by rw[N4];exact f,_,d.append c,IsTupN.new _ _⟩
end
noncomputable def ixN(n:Nat)(i:Int):Option Nat:=if 0<=i then(if i < n then some i.toNat else none) else if -(n:Int)<=i then some (i+n).toNat else none
noncomputable def atI{α:Type}(xs:List α)(i:Int):Option α:=(ixN xs.length i).bind λj=>xs[j]?
theorem Qx{n:Nat}{i:Int}{j:Nat}(h:ixN n i=some j):seqIndex? i n=some j/\j < n/\-(n:Int)<=i/\i < n:=by
 unfold ixN at h;by_cases b:0<=i
 ·rw[if_pos b] at h;by_cases a:i < n
  ·rw[if_pos a] at h;have e:i.toNat=j:=X0 h;exact⟨by rw[seqIndex_of b a,e],by omega,by omega,a⟩
  ·rw[if_neg a] at h;cases h
 ·rw[if_neg b] at h;by_cases a:-(n:Int)<=i
  ·rw[if_pos a] at h;have e:(i+n).toNat=j:=X0 h;exact⟨by rw[seqIndex_neg (by omega) a,e],by omega,a,by omega⟩
  ·rw[if_neg a] at h;cases h
theorem K7{α:Type}{xs:List α}{i:Int}{v:α}(h:atI xs i=some v):∃ j,seqIndex? i xs.length=some j/\xs[j]?=some v/\j < xs.length/\-(xs.length:Int)<=i/\i < xs.length:=by
 unfold atI at h;cases e:ixN xs.length i with
 | none=>rw[e] at h;cases h
 | some j =>
  rw[e] at h;obtain⟨a,b,c,d⟩:=Qx e;exact⟨j,a,h,b,c,d⟩
def xZ(b:Expr):Prop:=∀ o i,subscripted b false o i=operate [o,i] (getItem o i)
def IxR(X:Cx)(r:R2):Prop :=
 ∀(value slice:Expr) (pins:List (Addr×Obj)) (s:Shared) (σ:St) (H:Hp) (x y:V) (v u:Value) (Q:VK),Inv X pins σ H s->RelV x v->RelV y u->r x y H Q ->
  subscripted slice false v u=operate [v,u] (getItem v u)->wpAny (model X.prog X.w) X.A (subscriptTail value slice v u) (EP X pins σ Q) X.xe s
def MtR(X:Cx)(id:String)(r:V->List V->Hp->VK->Prop):Prop :=
 ∀(pins:List (Addr×Obj)) (s:Shared) (σ:St) (H:Hp) (x:V) (xs:List V) (v:Value) (us:List Value) (Q:VK),Inv X pins σ H s->RelV x v->Vals xs us->r x xs H Q ->
  wpAny (model X.prog X.w) X.A (call (.builtin id) (v::us)) (EP X pins σ Q) X.xe s
section
variable {X:Cx}{a b:Expr}{ta tb:TE}{pos:Pos}
theorem IxR.or{r b:R2}(h:IxR X r)(h':IxR X b):IxR X (λx y H Q=>r x y H Q \/ b x y H Q):=by
 intro value slice a s σ H x y v u Q I c d q e;rcases q with q | q
 ·exact h value slice a s σ H x y v u Q I c d q e
 ·exact h' value slice a s σ H x y v u Q I c d q e
theorem jgc{r:R2}(d:IxR X r)(e:PE X a ta)(f:PE X b tb)(g:xZ b):PE X (.Subscript a b pos) (tOp r ta tb):=by
 intro c s σ H Q I h;exact Subscript_ (jfS e f I h λv u i x y j k l m q=>d a b c i σ j x y v u Q k l m q (g _ _))
noncomputable def jgx(K:PySem.W.Frag):R2:=λx y H Q=>∃ p xs i v,x=.ref p/\y=.int i/\SqL K H p xs/\atI xs i=some v/\Q v H
noncomputable def jgA(K:PySem.W.Frag):R2:=λx y H Q=>∃ p xs i v,x=.ref p/\y=.int i/\SqT K H p xs/\atI xs i=some v/\Q v H
noncomputable def jgt:R2:=λx y H Q=>∃ z i c,x=.str z/\y=.int i/\z.length<=sizeLine/\atI z.cps.toList i=some c/\Q (.str ⟨#[c]⟩) H
theorem ix_list:IxR X (jgx X.K):=by
 intro value slice a s σ H x y v u Q I l m h f;obtain⟨p,F,i,z,rfl,rfl,n,o,q⟩:=h;cases l;obtain⟨t,rfl⟩:=m;obtain⟨c,r,pl,G⟩:=I.list n;obtain⟨j,b,A,J,B,C⟩:=K7 o;obtain⟨w,g,d⟩:=r.get A;have D:=r.length;have L:=VU;have fin:EP X a σ Q w s:=⟨z,H,I,d,q⟩;by_cases k:0<=i
 ·have e:i.toNat=j:=by
   rw[seqIndex_of k C] at b;exact X0 b
  exact item_listR pl.isList k (by omega) (by rw[e];simpa using g) fin f
 ·have e:(i+(c.toArray.size:Int)).toNat=j:=by
   rw[seqIndex_neg (by omega) B] at b;rw[N3,<- D];exact X0 b
  exact subscriptTail_builtinR (x:=w) pl.isList.typeIs slot_list_getitem.lookup
   (wpAny_getItem_list_neg (Q:=λr E=>r=w/\EP X a σ Q r E) pl.isList (by omega) (by rw[N3]<;>omega) (by omega) (by rw[e];simpa using g) ⟨rfl,fin⟩) f
theorem ix_tup:IxR X (jgA X.K):=by
 intro value slice a s σ H x y v u Q I c d h e;obtain⟨p,B,i,z,rfl,rfl,f,g,q⟩:=h;cases c;obtain⟨t,rfl⟩:=d;obtain⟨k,r,pl,C⟩:=I.tuple f;obtain⟨j,l,m,D,E,F⟩:=K7 g;obtain⟨w,n,b⟩:=r.get m;have o:=r.length;have G:=VU;have fin:EP X a σ Q w s:=⟨z,H,I,b,q⟩;exact subscriptTail_builtinR (x:=w) pl.typeIs slot_tuple_getitem.lookup
  (getItem_tuple (j:=j) (Q:=λr A=>r=w/\EP X a σ Q r A) pl (by omega) (by omega) (by rw[N3,<- o];exact l) (by simpa using n) ⟨rfl,fin⟩) e
theorem jd6:IxR X jgt:=by
 intro value slice a s σ H x y v u Q I d e h f;obtain⟨z,i,c,rfl,rfl,r,g,q⟩:=h;obtain⟨t,rfl⟩:=d;obtain⟨w,rfl⟩:=e;obtain⟨j,b,k,A,l,m⟩:=K7 g;have n:z.cps.toList.length=z.length:=by simp[Str.length]
 rw[n] at b l m;have B:=VU;exact tail_any (typeIs_str s z t) slot_str_getitem.lookup (getItem_str (c:=c) (by
  have o:decide (i < -(2 ^ 63:Int))=false:=U8 (by omega);have p:decide (i ≥ 2 ^ 63)=false:=U8 (by omega);rw[o,p,Bool.or_false]) (by rw[b];simpa using k) ⟨.str ⟨#[c]⟩,H,I.tok _,⟨_,rfl⟩,q⟩) f
noncomputable def rIx(K:PySem.W.Frag):R2:=λx y H Q=>jgx K x y H Q \/ jgA K x y H Q \/ jgt x y H Q
theorem jdY:IxR X (rIx X.K):=ix_list.or (ix_tup.or jd6)
theorem zF(its:List Value)(n j:Nat)(u:Value):Obj.mapSeq (·.setIfInBounds j u) { cls:=.type "list",data:=.seq its.toArray n }={ cls:=.type "list",data:=.seq (its.set j u).toArray n }:=by
 simp[Obj.mapSeq]
theorem Inv.lst{pins:List (Addr×Obj)}{σ:St}{H:Hp}{s:Shared}{p:Addr}{xs:List V}(I:Inv X pins σ H s)(h:H p=some (.lst xs)) :
  ∃(its:List Value) (n:Nat),Vals xs its/\s.heap.get? p=some { cls:=.type "list",data:=.seq its.toArray n }/\xs.length<=sizeLine:=by
 obtain⟨z,its,n,r,e⟩:=I.hok p _ h;exact⟨its,n,r,e,z⟩
theorem Inv.lstUpd{pins:List (Addr×Obj)}{σ:St}{H:Hp}{s:Shared}{p:Addr}{xs ys:List V}{its its':List Value}{n a:Nat}{f:Obj->Obj}(I:Inv X pins σ H s)(h:H p=some (.lst xs))
  (d:s.heap.get? p=some { cls:=.type "list",data:=.seq its.toArray n }) (c:f { cls:=.type "list",data:=.seq its.toArray n }={ cls:=.type "list",data:=.seq its'.toArray a }) (r:Vals ys its') (g:ys.length<=sizeLine) (t:Nat) :
  Inv X pins σ (upd H p (.lst ys)) { s with heap:=s.heap.update p f,toks:=t }:=by
 have e:(s.heap.update p f).get? p=some { cls:=.type "list",data:=.seq its'.toArray a }:=by
  rw[Heap.get?_update_self f d (by rw[c]<;>rfl),c]
 refine I.write (x:=p) (e:=p) (by rw[h];trivial) (.inl rfl) (λb u i q=>(Heap.get?_update_other _ _ (Ne.symm i)).trans q) ⟨_,e⟩ ?_;exact⟨g,its',a,r,e⟩
def jbE:V->V->V->Hp->(Hp->Prop)->Prop:=λo i v H Q=>∃ p xs k j,o=.ref p/\i=.int k/\H p=some (.lst xs)/\ixN xs.length k=some j/\Q (upd H p (.lst (xs.set j v)))
theorem uU:jgs X jbE:=by
 intro a s σ H o i v E F u Q I y z A h;obtain⟨p,B,k,j,rfl,rfl,g,C,q⟩:=h;cases y;obtain⟨t,rfl⟩:=z;obtain⟨b,n,r,d,D⟩:=I.lst g;obtain⟨c,G,l,m⟩:=Qx C;have e:=r.length;have J:=VU;have w:Inv X a σ (upd H p (.lst (B.set j v))) { s with heap:=s.heap.update p (Obj.mapSeq (·.setIfInBounds j u)) } :=
  I.lstUpd g d (zF b n j u) (r.set A j) (by rw[List.length_set];exact D) s.toks
 by_cases x:0<=k
 ·have f:k.toNat=j:=by
   rw[seqIndex_of x m] at c;exact X0 c
  exact PySem.W.ki_setAt d x (by omega) (by rw[N3,<- e];exact m) (by rw[f];exact⟨_,w,q⟩)
 ·have f:(k+(b.toArray.size:Int)).toNat=j:=by
   rw[seqIndex_neg (by omega) l] at c;rw[N3,<- e];exact X0 c
  exact PySem.W.ki_setBack d (by omega) (by rw[N3,<- e];exact l) (by omega) (by rw[f];exact⟨_,w,q⟩)
theorem Kv(lo hi:Option Int)(n:Nat):(sliceBounds lo hi none n).1=((HT.sIx n 0 lo:Nat):Int)/\(sliceBounds lo hi none n).2.1=((HT.sIx n n hi:Nat):Int)/\(sliceBounds lo hi none n).2.2=1:=by
 refine⟨?_,?_,rfl⟩
 ·cases lo with
  | none=>simp[sliceBounds,HT.sIx]
  | some i =>
   simp only[sliceBounds,HT.sIx,Option.getD_none,show(1:Int) > 0 by decide,if_true];by_cases h:i < 0
   ·simp only[h,if_true]<;>omega
   ·simp only[h,if_false]<;>omega
 ·cases hi with
  | none=>simp[sliceBounds,HT.sIx]
  | some i =>
   simp only[sliceBounds,HT.sIx,Option.getD_none,show(1:Int) > 0 by decide,if_true];by_cases h:i < 0
   ·simp only[h,if_true]<;>omega
   ·simp only[h,if_false]<;>omega
theorem Vl(its:List Value)(lo hi:Option Int):slicePick its.toArray lo hi none=((its.drop (HT.sIx its.length 0 lo)).take (HT.sIx its.length its.length hi - HT.sIx its.length 0 lo)).toArray:=by
 obtain⟨a,b,c⟩:=Kv lo hi its.toArray.size;unfold slicePick;rw[a,b,c];simp only[sliceRange_one,pick_run,N3]<;>rfl
def jgG(K:PySem.W.Frag):V->Option Int->Option Int->Hp->VK->Prop:=λx lo hi H Q=>∃ a xs,x=.ref a/\SqL K H a xs/\∀ p,H p=none->Q (.ref p) (upd H p (.lst (jbl xs lo hi)))
theorem jb5:SlR X (jgG X.K):=by
 intro g s σ H x v t u e f w Q I j k pl l h;obtain⟨a,c,rfl,m,q⟩:=h;cases j;obtain⟨n,r,i,p⟩:=I.list m;have d:=r.length;refine⟨"list",_,slot_list_getitem.lookup,i.isList.typeIs,?_⟩;refine wpAny_getItem_list_slice i.isList k pl l .none (by simp) ?_ (by rw[N3]<;>omega);rw[Vl,<- d];refine⟨.ref s.heap.objs.size,_,I.laid (t':=s.toks) (o:=.lst (jbl c e f)) (λb y q=>L8 _ q) (M9 _) ?_,rfl,q _ (I.hok.fresh (M9 _))⟩;exact⟨N7 (J6 c e f) p,_,0,(r.drop (HT.sIx c.length 0 e)).take (HT.sIx c.length c.length f - HT.sIx c.length 0 e),X4 _ rfl⟩
noncomputable def Yi:V->Bool
 | .non=>true
 | .bl _=>true
 | .int _=>true
 | .str _=>true
 | _=>false
noncomputable def eqV:V->V->Bool
 | .non,.non=>true
 | .bl a,.bl b=>a==b
 | .bl a,.int b=>(if a then 1 else 0)==b
 | .int a,.bl b=>a==(if b then 1 else 0)
 | .int a,.int b=>a==b
 | .str a,.str b=>a==b
 | _,_=>false
theorem jed{A:Around}{s:Shared}{y x:V}{u v:Value}(e:RelV y u)(c:RelV x v)(g:Yi y=true)(f:Yi x=true):SeqAt.EqAt A s u v (eqV y x):=by
 cases y with
 | non =>
  cases e;cases x with
  | non=>cases c;exact SeqAt.EqAt.same _
  | bl b=>cases c;exact SeqAt.EqAt.none_bool b
  | int b=>obtain⟨t,rfl⟩:=c;exact SeqAt.EqAt.none_int b t
  | str b=>obtain⟨t,rfl⟩:=c;exact SeqAt.EqAt.none_str b t
  | _=>exact absurd (show false=true from f) M4
 | bl a =>
  cases e;cases x with
  | non=>cases c;exact SeqAt.EqAt.bool_none a
  | bl b=>cases c;exact SeqAt.EqAt.bool_bool a b
  | int b=>obtain⟨t,rfl⟩:=c;exact SeqAt.EqAt.bool_int a b t
  | str b=>obtain⟨t,rfl⟩:=c;exact SeqAt.EqAt.bool_str a b t
  | _=>exact absurd (show false=true from f) M4
 | int a =>
  obtain⟨d,rfl⟩:=e;cases x with
  | non=>cases c;exact SeqAt.EqAt.int_none a d
  | bl b=>cases c;exact SeqAt.EqAt.int_bool a d b
  | int b=>obtain⟨t,rfl⟩:=c;exact SeqAt.EqAt.int_int a d b t
  | str b=>obtain⟨t,rfl⟩:=c;exact SeqAt.EqAt.int_str a d b t
  | _=>exact absurd (show false=true from f) M4
 | str a =>
  obtain⟨d,rfl⟩:=e;cases x with
  | non=>cases c;exact SeqAt.EqAt.str_none a d
  | bl b=>cases c;exact SeqAt.EqAt.str_bool a d b
  | int b=>obtain⟨t,rfl⟩:=c;exact SeqAt.EqAt.str_int a d b t
  | str b=>obtain⟨t,rfl⟩:=c;exact SeqAt.EqAt.str_str a d b t
  | _=>exact absurd (show false=true from f) M4
 | _=>exact absurd (show false=true from g) M4
noncomputable def eqU(x:V)(u:Value):Bool:=match u with
 | .none=>eqV .non x
 | .bool b=>eqV (.bl b) x
 | .int i _=>eqV (.int i) x
 | .str z _=>eqV (.str z) x
 | _=>false
theorem jbj{x y:V}{u:Value}(r:RelV y u)(f:Yi y=true):eqU x u=eqV y x:=by
 cases y with
 | non=>cases r;rfl
 | bl b=>cases r;rfl
 | int i=>obtain⟨t,rfl⟩:=r;rfl
 | str z=>obtain⟨t,rfl⟩:=r;rfl
 | _=>exact absurd (show false=true from f) M4
theorem JX{x:V}:∀{xs:List V}{us:List Value},Vals xs us->xs.all Yi=true->us.any (eqU x)=xs.any λy=>eqV y x
 | _,_,.nil,_=>rfl
 | y::xs,u::us,.cons r t,f=>by
  rw[List.all_cons,M0] at f;rw[List.any_cons,List.any_cons,jbj r f.1,JX t f.2]
theorem qC{A:Around}{s:Shared}{x:V}{v:Value}(b:RelV x v)(c:Yi x=true):∀{xs:List V}{us:List Value},Vals xs us->xs.all Yi=true->∀ u∈us,SeqAt.EqAt A s u v (eqU x u)
 | _,_,.nil,_=>λu a=>by cases a
 | y::xs,u::us,.cons r t,f=>λd a=>by
  rw[List.all_cons,M0] at f;rcases M5.mp a with rfl | a
  ·rw[jbj r f.1];exact jed r b f.1 c
  ·exact qC b c t f.2 d a
noncomputable def inV(x:V)(xs:List V):Bool:=xs.any λy=>eqV y x
noncomputable def rIn(K:PySem.W.Frag)(neg:Bool):R2:=λx y H Q=>∃ p xs,y=.ref p/\(SqL K H p xs \/ SqT K H p xs)/\Yi x=true/\xs.all Yi=true/\Q (.bl (if neg then !inV x xs else inV x xs)) H
theorem x4:OpR X (compareOp .In) (rIn X.K false):=by
 intro d s σ H x y v u Q I e g h;obtain⟨p,j,rfl,b,f,fs,q⟩:=h;cases g;rcases b with b | b
 ·obtain⟨a,r,pl,i⟩:=I.list b;refine SeqAt.in_listAt (eqU x) pl.isList (λw c=>qC e f r fs w (by simpa using c)) ⟨.bl _,H,I,rfl,?_⟩;rw[show a.toArray.any (eqU x)=a.any (eqU x) by simp,JX r fs];exact q
 ·obtain⟨a,r,pl,i⟩:=I.tuple b;refine SeqAt.in_tupleAt (eqU x) pl (λw c=>qC e f r fs w (by simpa using c)) ⟨.bl _,H,I,rfl,?_⟩;rw[show a.toArray.any (eqU x)=a.any (eqU x) by simp,JX r fs];exact q
theorem KF:OpR X (compareOp .NotIn) (rIn X.K true):=by
 intro d s σ H x y v u Q I e g h;obtain⟨p,j,rfl,b,f,fs,q⟩:=h;cases g;rcases b with b | b
 ·obtain⟨a,r,pl,i⟩:=I.list b;refine SeqAt.notIn_listAt (eqU x) pl.isList (λw c=>qC e f r fs w (by simpa using c)) ⟨.bl _,H,I,rfl,?_⟩;rw[show a.toArray.any (eqU x)=a.any (eqU x) by simp,JX r fs];exact q
 ·obtain⟨a,r,pl,i⟩:=I.tuple b;refine SeqAt.notIn_tupleAt (eqU x) pl (λw c=>qC e f r fs w (by simpa using c)) ⟨.bl _,H,I,rfl,?_⟩;rw[show a.toArray.any (eqU x)=a.any (eqU x) by simp,JX r fs];exact q
theorem CallR.or{f:Value}{r b:List V->Hp->VK->Prop}(h:CallR X f r)(h':CallR X f b):CallR X f (λxs H Q=>r xs H Q \/ b xs H Q):=by
 intro a s σ H xs c Q I d q;rcases q with q | q
 ·exact h a s σ H xs c Q I d q
 ·exact h' a s σ H xs c Q I d q
theorem V2:CallR X (.type "list") (λxs H Q=>∃ p ys,xs=[.ref p]/\(SqL X.K H p ys \/ SqT X.K H p ys)/\∀ l,H l=none->Q (.ref l) (upd H l (.lst ys))):=by
 intro g s σ H xs y Q I r h;obtain⟨p,ys,rfl,i,q⟩:=h;obtain⟨u,rfl,x⟩:=jcB r;cases x;have fin:∀(a:List Value),Vals ys a->ys.length<=sizeLine->∀(c:Heap) (d:Nat),(∀ b v,s.heap.get? b=some v->c.get? b=some v) ->
   c.get? s.heap.objs.size=some { cls:=.type "list",dict:=none,data:=.seq a.toArray d,slots:=#[] }->EP X g σ Q (.ref s.heap.objs.size) { s with heap:=c }:=λa f j c d kp e =>
  ⟨.ref s.heap.objs.size,_,I.laid (t':=s.toks) kp (M9 _) (show ObjOk X.prog X.w _ c _ (.lst ys) from⟨j,a,d,f,e⟩),rfl,q _ (I.hok.fresh (M9 _))⟩
 rcases i with i | i
 ·obtain⟨a,f,pl,j⟩:=I.list i;have k:=f.length;obtain⟨o,m,t,n,hd⟩:=pl.isList;exact call_list_seq p (.inl rfl) m t hd (λc d kp e=>fin a f j c d kp e) (by simp only[N3]<;>omega)
 ·obtain⟨a,f,pl,j⟩:=I.tuple i;have k:=f.length;obtain⟨o,m,t,n,hd⟩:=pl;exact call_list_seq p (.inr rfl) m t hd (λc d kp e=>fin a f j c d kp e) (by simp only[N3]<;>omega)
def tyV(K:PySem.W.Frag)(T:String)(x:V)(H:Hp):Prop:=match x with
 | .str _=>T = "str"
 | .int _=>T = "int"
 | .ref p=>(T = "list"/\∃ xs,SqL K H p xs) \/ (T = "tuple"/\∃ o,K.lookup p=some o/\o.cls=.type "tuple"/\o.dict=none) \/
   (T = "dict"/\((∃ kvs,H p=some (.dK kvs)) \/ ∃ kvs,H p=some (.dT kvs))) \/ (T = "set"/\∃ S n,H p=some (.set S n))
 | _=>False
theorem jeu{pins:List (Addr×Obj)}{σ:St}{H:Hp}{s:Shared}{T:String}{x:V}{v:Value}(I:Inv X pins σ H s)(r:RelV x v)(ty:tyV X.K T x H) :
  s.TypeIs v T/\∀ a,v=.ref a->∃ ob,s.heap.get? a=some ob/\ob.dict=none:=by
 cases x with
 | str z =>
  obtain⟨t,rfl⟩:=r;cases(show T = "str" from ty);exact⟨typeIs_str s z t,λ_ e=>nomatch e⟩
 | int i =>
  obtain⟨t,rfl⟩:=r;cases(show T = "int" from ty);exact⟨typeIs_int s i t,λ_ e=>nomatch e⟩
 | ref p =>
  cases r;rcases ty with⟨rfl,k,g⟩ | ⟨rfl,o,b,h,hd⟩ | ⟨rfl,b⟩ | ⟨rfl,S,n,b⟩
  ·obtain⟨j,_,pl,_⟩:=I.list g;refine⟨pl.isList.typeIs,λa e=>?_⟩;cases e;obtain⟨o,n,e,c,hd,_⟩:=pl;exact⟨o,e,hd⟩
  ·refine⟨⟨o,I.kIn p o b,h⟩,λa e=>?_⟩;cases e;exact⟨o,I.kIn _ o b,hd⟩
  ·have z:∃ o,s.heap.get? p=some o/\o.ExactDict:=by
    rcases b with⟨d,b⟩ | ⟨d,b⟩
    ·obtain⟨_,_,_,_,o,_,_,e,ex,_⟩:=I.hok p _ b;exact⟨o,e,ex⟩
    ·obtain⟨_,_,_,_,o,_,_,e,ex,_⟩:=I.hok p _ b;exact⟨o,e,ex⟩
   obtain⟨o,e,ex⟩:=z;refine⟨⟨o,e,ex.1⟩,λa f=>?_⟩;cases f;exact⟨o,e,ex.2.1⟩
  ·obtain⟨o,_,_,_,e,ex,_⟩:=I.hok p _ b;refine⟨⟨o,e,ex.1⟩,λa f=>?_⟩;cases f;exact⟨o,e,ex.2.1⟩
 | _=>exact False.elim ty
noncomputable def tBM(K:PySem.W.Frag)(T:String)(r:V->List V->Hp->VK->Prop)(to:TE)(t:TA):TE:=λσ H Q=>to σ H λx H1=>tyV K T x H1/\t σ H1 λxs H2=>r x xs H2 Q
variable {o e:Expr}{es:List Expr}{to:TE}{t:TA}{name:Str}{apos cpos:Pos}{T id:String}{r:V->List V->Hp->VK->Prop}
theorem jbH(pa:PlainAttrs T)(slot:Slot T name id)(g:typeOf (.builtin id)=pure (.type "method_descriptor"))(l:MtR X id r)(m:PE X o to)(n:PA X (e::es) t)
  (c:attributeBase o name X.env (eval o X.env)=eval o X.env:=by rfl)
  (f:((backTo cpos (starEach (e::es) X.env)).all (λx=>!x.1)&&(backToKw cpos (keywordEach [] X.env)).all (λx=>x.1.isSome)
   && decide ((e::es).length+([]:List Keyword).length+(if([]:List Keyword).isEmpty then 0 else 1) < 30))=true:=by rfl)
  (d:(apos.endLine==cpos.line)=true:=by rfl) (p:starEach (e::es) X.env=(false,eval e X.env)::starEach es X.env:=by rfl) (b:(backTo cpos (starEach es X.env)).any (·.1)=false:=by rfl) :
  PE X (.Call (.Attribute o name apos) (e::es) [] cpos) (tBM X.K T r to t):=by
 intro a s σ H Q I h;refine wpAny_Call_method_late c f d rfl (thn (m a s σ H _ I h) λv q ⟨x,u,i,j,ty,w⟩=>?_);obtain⟨y,z⟩:=jeu i j ty;refine⟨T,id,pa,slot,g,y,z,?_⟩;have k:=n cpos a q σ u _ i w;rw[p] at k ⊢;refine Calls.callWith_builtin (by show(false||(backTo cpos (starEach es X.env)).any (·.1))=false;rw[b]<;>rfl) (Calls.evalArgs_plain ?_);exact thn k λA B ⟨C,D,E,F,G⟩=>l a B σ D x C v A Q E j F G
end
def MtM(X:Cx)(id:String)(r:V->List V->Hp->VK->Prop):Prop :=
 ∀(pins:List (Addr×Obj)) (s:Shared) (σ:St) (H:Hp) (x:V) (xs:List V) (v:Value) (us:List Value) (Q:VK),Inv X pins σ H s->RelV x v->Vals xs us->r x xs H Q ->
  wpAny (model X.prog X.w) X.A (call (.builtin id) (v::us)) (EP X pins σ Q) X.xe s
theorem Vals.one:∀{x:V}{us:List Value},Vals [x] us->∃ u,us=[u]/\RelV x u
 | _,_,.cons r .nil=>⟨_,rfl,r⟩
theorem Vals.two:∀{x y:V}{us:List Value},Vals [x,y] us->∃ u v,us=[u,v]/\RelV x u/\RelV y v
 | _,_,_,.cons r (.cons q .nil)=>⟨_,_,rfl,r,q⟩
section
variable {X:Cx}{pins:List (Addr×Obj)}{σ:St}{H:Hp}{s:Shared}{l b:Addr}{xs ys zs:List V}
theorem Inv.lset{its its':List Value}{n:Nat}{f:Array Value->Array Value}{t':Nat}(I:Inv X pins σ H s)(a:H l=some (.lst xs))
  (e:s.heap.get? l=some { cls:=.type "list",data:=.seq its.toArray n }) (b:f its.toArray=its'.toArray) (c:Vals ys its') (d:ys.length<=sizeLine) :
  Inv X pins σ (upd H l (.lst ys)) { s with heap:=s.heap.update l (Obj.mapSeq f),toks:=t' }:=by
 have q:=PySem.IsL.update e f;rw[b] at q;refine I.write (x:=l) (e:=l) (by rw[a];exact trivial) (.inl rfl) (λb' u g h=>(Heap.get?_update_other s.heap (Obj.mapSeq f) (Ne.symm g)).trans h) ⟨_,q⟩ ?_;exact⟨d,its',_,c,q⟩
theorem Inv.lnew{its:List Value}{t':Nat}(I:Inv X pins σ H s)(a:Vals ys its)(b:ys.length<=sizeLine) :
  Inv X pins σ (upd H s.heap.objs.size (.lst ys)) { s with heap:=s.heap.push { cls:=.type "list",data:=.seq its.toArray },toks:=t' } :=
 I.laid (λ_ _ q=>L8 _ q) (M9 _) ⟨b,its,0,a,X4 _ rfl⟩
theorem Inv.fresh(I:Inv X pins σ H s):H s.heap.objs.size=none:=I.hok.fresh (M9 _)
theorem Inv.lstM(I:Inv X pins σ H s)(a:H l=some (.lst xs)):xs.length<=sizeLine/\∃(its:List Value) (n:Nat),Vals xs its/\xs.length=its.length/\s.heap.get? l=some { cls:=.type "list",data:=.seq its.toArray n }:=by
 obtain⟨z,its,n,r,e⟩:=I.hok l _ a;exact⟨z,its,n,r,r.length,e⟩
end
section
variable {X:Cx}
def KO:V->List V->Hp->VK->Prop:=λx vs H Q=>∃ l xs y,x=.ref l/\vs=[y]/\H l=some (.lst xs)/\xs.length < sizeLine/\Q .non (upd H l (.lst (xs++[y])))
theorem V8:MtM X "list.append" KO:=by
 intro b s σ H x i v j Q I d f h;obtain⟨l,k,y,rfl,rfl,c,m,q⟩:=h;cases d;obtain⟨u,rfl,g⟩:=f.one;obtain⟨z,a,n,r,o,e⟩:=I.lstM c;refine call_meets F.slot_list_append ⟨_,e,rfl⟩ F.entry_list_append (F.args_list_append_2 _ _) (PySem.list_append l a.toArray n u (by rw[N3];omega)) ⟨e,?_⟩;refine⟨.non,_,I.lset (its':=a++[u]) c e (by simp) (r.append (.cons g .nil)) ?_,rfl,q⟩;rw[N4,List.length_singleton];omega
end
end L2
namespace Att
open PySem PySem.W PySem.Calls PyProof.Rows
theorem Ym{P:Params}{h:Heap}:∀(ns:List Int) (vs:List Value),WellAll P h vs (ns.map WData.int)->IntsAre vs ns:=by
 intro ns
 induction ns with
 | nil =>
  intro vs w;rw[List.map_nil] at w;cases w;exact .nil
 | cons n ns c =>
  intro vs w;rw[L5] at w;cases w with
  | cons a b =>
   cases a;exact .cons _ _ (c _ b)
theorem script_of{l:OpenLaw}{n:Nat}(o:l.most=some n){P:Params}{h:Heap}{args:List WData}{b:List Value}
  (c:l.row.toRowW.claim.pre args=true) (j:WellAll P h b args) :
  ∃ a vs ns,b=[Value.ref a]/\args=[WData.list (ns.map WData.int)]/\h.get? a=some { cls:=.type "list",data:=.seq vs.toArray }/\IntsAre vs ns/\ns.length<=n:=by
 have k:WShape.hasAll [] args [.list .int]=true:=(pre_splitW c).1;have m:l.pre.holds [] { args:=args }=true:=(pre_splitW c).2;obtain⟨d,r,rfl,p,s⟩:=hasAllW_cons k;obtain rfl:=hasAllW_nil s;obtain⟨y,rfl,t⟩:=hasW_list p;obtain⟨ns,rfl⟩:=items_int t;have e:ns.length<=n:=by
  unfold OpenLaw.pre at m;have g:(WTm.not (.lt (.lit (.int (n:Int))) (.len (.arg 0)))).holds [] { args:=[.list (ns.map .int)] }=true:=by
   have g:=(holds_andW m).1;rw[o] at g;exact g
  have i:=condW_of g (w_not (w_lt w_lit (w_len_list (w_arg rfl))));rw[L0] at i;refine Nat.le_of_not_lt λq=>?_;have u:(n:Int) < ((ns.length:Nat):Int):=by omega
  first
   | (rw[U7 u] at i;exact absurd i (by decide))
   | (simp at i;omega)
 cases j with
 | cons v w =>
  cases w;cases v with
  | list x f=>exact⟨_,_,ns,rfl,rfl,x,Ym ns _ f,e⟩
theorem post_true(l:OpenLaw)(args:List WData):l.row.toRowW.claim.post args (.bool true) args=true :=
 postW_of (r:=l.row.toRowW) (X:=(true==true))
  (show WShape.has [] (.bool true) .bool=true by first | rfl | decide | simp[WShape.has,WShape.arms,WShape.armsAll])
  (show(WTm.eq .res (.lit (.bool true))).value [] { args:=args,res:=some (.bool true),after:=args }=some (.bool (true==true)) from w_eq_bool (w_res rfl) w_lit) rfl
end Att
namespace L2
open PySem PySem.Spec PyProof.Rows
theorem VA:∀{vs:List Value}{ns:List Int},IntsAre vs ns->Vals (ns.map V.int) vs
 | _,_,.nil=>.nil
 | _,_,.cons n t h=>.cons ⟨t,rfl⟩ (VA h)
def jfT(H:Hp):Prop:=∀ b,H b=none \/ ∃ o xs,H b=some (.frz o (.lst xs))
theorem jaj{P:Program}{w:World}{K:PySem.W.Frag}{mg I:Str->Option Value}{CX:CXT}{k:Nat}{fa a:Addr}{fd:FuncData}{x:Str}{sp:Sp}{c:Shared}{vs:List Value}{ns:List Int}
  (Q:K.In c.heap) (p:c.heap.Ns mainGlobals mg) (g:c.heap.Ns builtinsNs I) (J:∀ x:Str,x≠"__name__"->I x=bootBuiltins x) (t:c.heap.NoLimit) (Y:c.gens = #[])
  (G:c.heap.get? a=some { cls:=.type "list",data:=.seq vs.toArray }) (hi:IntsAre vs ns) (R:ns.length<=sizeLine) (Z:Room k callerA)
  (F:∀ base:Heap,K.In base->base.Ns mainGlobals mg->FnOk P w K mg base CX k fa fd [x] sp) (l:∀(s:Shared) (u:Value),BindsTo s fd ⟨[u],[]⟩ [(x,u)])
  (L:∀ H:Hp,jfT H->SqL K H a (ns.map V.int)->sp [.ref a] H (λv _=>v=.bl true) λ_ _ _=>False)
  (M:∀ H e s',CX [] H c (λ_ _ _=>False) e s'->False) :
  codeAny (model P w) callerA (.call (.ref fa) ⟨[.ref a],[]⟩) (λr s'=>r=.ok (.ret (.bool true))/\OldK c.heap s'.heap/\s'.os=c.os/\AllBare s'.gens) c:=by
 have S:=VA hi;have y:=hi.length
 -- from an abstract heap in which nothing but the script may be tracked
 have j:∀ H:Hp,jfT H->SqL K H a (ns.map V.int)->HOk P w H c.heap->(∀ b,H b≠none->b=a)->(H a≠none->K.lookup a=none) ->
   codeAny (model P w) callerA (.call (.ref fa) ⟨[.ref a],[]⟩) (λr s'=>r=.ok (.ret (.bool true))/\OldK c.heap s'.heap/\s'.os=c.os/\AllBare s'.gens) c:=by
  intro H T hS hok U hK;have f:∀{b:Addr}{o:Obj},c.heap.get? b=some o->H b=none->(uS c.heap H).get? b=some o:=λe n=>jaJ e n;have N:∀{b:Addr}{o:Obj}{A:Array DictEntry}{B:Nat},c.heap.get? b=some o->o.data=.dict A B->H b=none:=λ{b o A B} e d=>by
   cases q:H b with
   | none=>rfl
   | some u =>
    have O:b=a:=U b (by rw[q];simp);subst O;rw[G] at e;cases e;have d':Data.seq vs.toArray _=Data.dict A B:=d;cases d'
  have i:∀{b:Addr}{m:Str->Option Value},c.heap.Ns b m->(uS c.heap H).Ns b m:=λ{b m} ⟨o,A,B,e,d,r⟩=>⟨o,A,B,f e (N e d),d,r⟩;have C:K.In (uS c.heap H):=λb o e=>f (Q b o e) (by
   cases q:H b with
   | none=>rfl
   | some u =>
    have O:b=a:=U b (by rw[q];simp);subst O;rw[hK (by rw[q];simp)] at e;cases e)
  have hM:Mod K mg (uS c.heap H):=⟨C,i p,⟨I,i g,J⟩,let ⟨mc,h1,h2⟩:=t;⟨mc,i h1,h2⟩⟩;have e0:Env0 P w K mg (uS c.heap H) callerA [] c H:=⟨rfl,hM,λb o e=>jda e,Nat.le_of_eq (wW _ _),trivial,λb g=>absurd (show b∈([]:List Addr) from g) (by simp),hok,.of_eq Y⟩;refine codeAny_mono ((F _ C (i p)).run callerA [] c H ⟨[.ref a],[]⟩ [.ref a] [.ref a] _ _ Z e0 (l c (.ref a)) (.cons rfl .nil) (L H T hS)) λr s' h=>?_;cases r with
  | error e=>exact(M H e s' h).elim
  | ok fl =>
   cases fl with
   | next=>exact False.elim h
   | brk=>exact False.elim h
   | cont=>exact False.elim h
   | ret u =>
    obtain⟨v,H',os,bare,un,D,r',q⟩:=h;have q':v=.bl true:=q;subst q';obtain rfl:u=Value.bool true:=r';refine⟨rfl,OldK.of_keep λb o e=>?_,os,bare⟩;cases q:H b with
    | none=>exact un.keep b o e q (by intro z;exact absurd (show b∈([]:List Addr) from z) (by simp)) (by simp)
    | some u =>
     rcases T b with z | ⟨ob,xs,z⟩
     ·rw[q] at z;cases z
     ·have z2:=un.frzs b ob _ z;obtain⟨X,_⟩:=hok b _ z;obtain⟨e2,_⟩:=D b _ z2;rw[e] at X;cases X;exact e2
 cases hk:K.lookup a with
 | some o =>
  -- the script is one of the module's own objects
  have e:=Q a o hk;rw[G] at e;cases e;refine j (λ_=>none) (λ_=>.inl rfl) (.inr ⟨_,vs.toArray,_,hk,rfl,rfl,rfl,by rw[N3,y];exact R,by simpa using S⟩) (λb u z=>by have E:(none:Option HO)=some u:=z;cases E) (λb z=>absurd rfl z) λz=>absurd rfl z
 | none =>
  refine j (λb=>if b=a then some (.frz { cls:=.type "list",data:=.seq vs.toArray } (.lst (ns.map V.int))) else none) (λb=>?_) (.inl (.inr ⟨{ cls:=.type "list",data:=.seq vs.toArray },if_pos rfl⟩)) (λb u z=>?_) (λb z=>?_) λ_=>hk
  ·by_cases g:b=a
   ·exact .inr ⟨_,_,if_pos g⟩
   ·exact .inl (if_neg g)
  ·by_cases g:b=a
   ·have E:=(if_pos g).symm.trans z;cases E;subst g;exact⟨G,by rw[L0];exact R,vs,_,S,G⟩
   ·have E:=(if_neg g).symm.trans z;cases E
  ·by_cases g:b=a
   ·exact g
   ·exact absurd (if_neg g) z
noncomputable def jbX(s:Stmt)(j:Nat):Stmt:=match s with
 | .ClassDef _ _ _ body _ _ _ _ _ _ _=>body.getD j (.Pass ⟨0,0,0,0⟩)
 | _=>.Pass ⟨0,0,0,0⟩
noncomputable def vo(s:Stmt):Arguments:=match s with
 | .FunctionDef _ a _ _ _ _ _ _ _ _=>a
 | _=>{ posonlyargs:=[],args:=[],vararg:=none,kwonlyargs:=[],kw_defaults:=[],kwarg:=none,defaults:=[] }
noncomputable def yg(s:Stmt):List Stmt:=match s with
 | .FunctionDef _ _ b _ _ _ _ _ _ _=>b
 | _=>[]
noncomputable def jg(s:Stmt):Scope:=match s with
 | .FunctionDef _ _ _ _ _ _ sc _ _ _=>sc
 | _=>{ kind:=.function,names:=[],isGenerator:=false,isCoroutine:=false }
noncomputable abbrev CX0:CXT:=λ_ _ _ _ _ _=>False
noncomputable abbrev E0:XK:=λ_ _ _=>False
theorem jfE{X:Cx}:Q6 CX0 X E0:=λ_ _ _ _ _ _ _ h=>h.elim
structure Fun(K:PySem.W.Frag)(x qual:Str)(st:Stmt)(f:Addr)(fd:FuncData):Prop where
 ex:∃(oc:Value) (od:Option Addr) (kV doc pm:Value) (an:Option Addr) (cdv ct:Value) (osl:Array (Option Value)),
  fd=PySem.W.fnOf x qual (vo st) (yg st) (jg st) .none kV doc pm an cdv ct/\K.lookup f=some ⟨oc,od,.func fd,osl⟩/\PySem.W.codeIn K cdv qual=true
 kp:PySem.W.keepIn K (.ref f)=true
section
variable {P:Program}{w:World}{K:PySem.W.Frag}{mg:Str->Option Value}{base:Heap}
theorem Fun.ok{x qual:Str}{st:Stmt}{f:Addr}{fd:FuncData}{N ps:List Str}{k:Nat}{sp:Sp}(F:Fun K x qual st f fd)(S:FnScope N ps (jg st))(len:∀ vs H Q E,sp vs H Q E->vs.length=ps.length)
  (a:∀(cdv:Value) (A:Around) (outer:List Env) (s:Shared) (H:Hp) (vs:List V) (Q:VK) (E:XK),Room k (A.deeper (envOfC qual (jg st) s.heap.objs.size f cdv))->sp vs H Q E ->
   ∃ t,PSs (zf CX0 P w K mg base N qual (jg st) f cdv A outer s H E).nox (yg st) t/\t { nx:=λ_ H'=>Q .non H',rt:=Q } (start N vs) H):FnOk P w K mg base CX0 (k+1) f fd ps sp:=by
 obtain⟨j,od,kV,d,l,m,cdv,ct,e,rfl,g,b⟩:=F.ex;refine jeI g b S len λA outer s H vs Q E i c=>?_;obtain⟨t,h,q⟩:=a cdv A outer s H vs Q E i c;exact⟨t,h.nox,q⟩
theorem Fun.binds{x qual:Str}{st:Stmt}{f:Addr}{fd:FuncData}{ps:List Str}(F:Fun K x qual st f fd)
  (h:∀(kV doc pm:Value) (an:Option Addr) (cdv ct:Value) (us:List Value),us.length=ps.length->bindArgs (PySem.W.fnOf x qual (vo st) (yg st) (jg st) .none kV doc pm an cdv ct) ⟨us,[]⟩=pure (ps.zip us)):Binds K fd ps []:=by
 obtain⟨c,od,kV,doc,pm,an,cdv,ct,a,rfl,d,b⟩:=F.ex;exact .all (h kV doc pm an cdv ct)
theorem Vz{x qual:Str}{st:Stmt}{f:Addr}{oc:Value}{od an:Option Addr}{d:Array (Option Value)}{kV b pm a ct:Value}(l:K.lookup f=some ⟨oc,od,.func (PySem.W.fnOf x qual (vo st) (yg st) (jg st) .none kV b pm an a ct),d⟩)
  (c:PySem.W.codeIn K a qual=true) (k:PySem.W.keepIn K (.ref f)=true):Fun K x qual st f (PySem.W.fnOf x qual (vo st) (yg st) (jg st) .none kV b pm an a ct):=⟨⟨oc,od,kV,b,pm,an,a,ct,d,rfl,l,c⟩,k⟩
end
theorem ux{n:Nat}(h:n<=1000):n < sizeLine:=Nat.lt_of_le_of_lt h (by decide)
section
variable {X:Cx}
theorem pv(i:Nat){x:Str}{pos:Pos}(b:X.N[i]?=some x:=by rfl)(c:Vis X.env.scope x:=by first | exact Or.inl rfl | exact Or.inr (Or.inl rfl) | exact Or.inr (Or.inr rfl))(hd:(x==("__debug__" : Str))=false:=by decide)
  (a:(x==("__classdict__" : Str))=false:=by decide):PE X (.Name x pos) (KH i):=KC b c hd a
end
theorem jbk{A B:Prop}(h:B):if false=true then A else B:=by
 rw[if_neg M4];exact h
theorem jaS{A B:Prop}(h:A):if true=true then A else B:=by
 rw[if_pos rfl];exact h
theorem VZ(I:Nat->Shared->Prop)
  (b:∀ n s,I n s->wpAny (model prog w) A (pyNext it) (λr s₁=>match r with
   | none=>R (.ok .next) s₁
   | some v=>wpAny (model prog w) A (letOwnedTupleGo target it v) (λ_ s₁'=>wpAny (model prog w) A (assign target env v) (λ_ s₂ =>
     wpAny (model prog w) A (forIn ifs true λc r=>if r=true then do let ok <- isTrue c env (eval c env);pure (ForInStep.yield ok) else pure (ForInStep.yield r)) (λok s₃ =>
      if ok=true then wpAny (model prog w) A (eval elt env) (λx s₄ =>
       wpAny (model prog w) A (call (.builtin "list.append") [acc,x]) (λ_ s₅=>∃ m,m < n/\I m s₅) (λ_ _=>False) s₄) (λ_ _=>False) s₃
      else ∃ m,m < n/\I m s₃) (λ_ _=>False) s₂) (λ_ _=>False) s₁') (λ_ _=>False) s₁) (λ_ _=>False) s)
  (n:Nat) (h:I n s) :
  codeAny (model prog w) A (.compLoop (.ListComp elt [⟨target,iter,ifs,0⟩] scope pos) 0 it acc env) R s:=by
 have a:∀{α:Type}{t:Sem α}{Q:α->Shared->Prop}{E:Value->Shared->Prop}{s:Shared},wpAny (model prog w) A t Q (λ_ _=>False) s->wpAny (model prog w) A t Q E s :=
  λh=>wpAny_mono h (λ_ _ x=>x) λ_ _ z=>z.elim
 refine codeAny_loop rfl I (λn s g=>?_) n h;show wpAny _ A ((compTurn (.ListComp elt [⟨target,iter,ifs,0⟩] scope pos) 0 it acc env).onRaise (λx=>do noteFrame x env;theTreesLotGoes x)) _ _ s;refine wpAny_noted ?_;rw[compTurn_list];refine L3 (wpAny_standAt (L3 (thn (a (b n s g)) λr s₁ e=>?_)));cases r with
 | none=>exact M7 e
 | some v =>
  refine L3 (thn (a e) λ_ s₁' d=>L3 (thn (a d) λ_ s₂ i=>L3 (thn (a i) λok s₃ f=>?_)));cases ok with
  | false=>exact M7 ⟨rfl,f⟩
  | true =>
   exact L3 (L3 (thn (a f) λx s₄ j=>L3 (thn (a j) λ_ s₅ k=>M7 (M7 ⟨rfl,k⟩))))
noncomputable def wJ(env:Env):List (Str×NameKind)->List (Str×Addr)->List (Str×Addr)
 | [],cs=>cs
 | (n,k)::r,cs=>wJ env r (if k==NameKind.free then(match env.cells.lookup n with | some a=>(n,a)::cs | none=>cs) else cs)
noncomputable def uH(scope:Scope)(env:Env):List (Str×Addr):=wJ env scope.names []
theorem jcg:∀(l:List (Str×NameKind)) (cs:List (Str×Addr)),(∀ n k,(n,k)∈l->k=NameKind.free->∃ c,env.cells.lookup n=some c) ->
  (forIn (m:=Sem) l cs λx r=>match x with | (n,k)=>if k==NameKind.free then do let a <- cellOf env n;pure (ForInStep.yield ((n,a)::r)) else pure (ForInStep.yield r))=pure (wJ env l cs)
 | [],cs,_=>rfl
 | (n,k)::r,cs,h=>by
  rw[List.forIn_cons];by_cases b:(k==NameKind.free)=true
  ·obtain⟨c,j⟩:=h n k L7 (by simpa using b);have o:cellOf env n=pure c:=by unfold cellOf;rw[j]
   have d:=jcg (env:=env) r ((n,c)::cs) λe f g i=>h e f (L6 _ g) i;simp only[b,if_true,o,pure_bind];rw[d]
   conv=>rhs;unfold wJ
   simp only[b,if_true,j]
  ·have d:=jcg (env:=env) r cs λe f g i=>h e f (L6 _ g) i;simp only[b,if_false,pure_bind,Bool.false_eq_true];rw[d]
   conv=>rhs;unfold wJ
   simp only[b,if_false,Bool.false_eq_true]
theorem zp(h:∀ n k,(n,k)∈scope.names->k=NameKind.free->∃ c,env.cells.lookup n=some c):closureFor scope env=pure (uH scope env):=by
 have e:=jcg (env:=env) scope.names [] h;unfold closureFor uH;show(forIn (m:=Sem) scope.names [] λx r=>match x with | (n,k)=>if k==NameKind.free then do let a <- cellOf env n;pure (ForInStep.yield ((n,a)::r)) else pure (ForInStep.yield r)) >>= (λb=>pure b)=_;rw[e,pure_bind]
theorem jbo:∀(l:List (Str×NameKind)) (cs:List (Str×Addr)),(x,c)∈wJ env l cs->(x,c)∈cs \/ env.cells.lookup x=some c
 | [],_,h=>.inl h
 | (n,k)::r,cs,h=>by
  unfold wJ at h;rcases jbo r _ h with z | z
  ·split at z
   ·split at z
    ·rename_i a b;rcases M5.mp z with e | e
     ·cases e;exact .inr b
     ·exact .inl e
    ·exact .inl z
   ·exact .inl z
  ·exact .inr z
theorem xB:∀(l:List (Str×NameKind)) (cs:List (Str×Addr)),(x,c)∈cs->(x,c)∈wJ env l cs
 | [],_,h=>h
 | (n,k)::r,cs,h=>by
  unfold wJ;refine xB r _ ?_;split
  ·split
   ·exact L6 _ h
   ·exact h
  ·exact h
theorem jbb(a:env.cells.lookup x=some c):∀(l:List (Str×NameKind)) (cs:List (Str×Addr)),(x,NameKind.free)∈l->(x,c)∈wJ env l cs
 | [],_,h=>nomatch h
 | (n,k)::r,cs,h=>by
  unfold wJ;rcases M5.mp h with e | e
  ·cases e;refine xB r _ ?_;simp only[beq_self_eq_true,if_true,a];exact L7
  ·exact jbb a r _ e
theorem qR:∀{l:List (Str×β)}{c:β},(x,c)∈l->∃ d,l.lookup x=some d
 | (n,a)::r,c,h=>by
  rw[List.lookup_cons];cases e:x==n with
  | true=>exact⟨a,rfl⟩
  | false =>
   rcases M5.mp h with z | z
   ·cases z;simp at e
   ·exact qR z
theorem Yl(h:(uH scope env).lookup x=some c):env.cells.lookup x=some c:=by
 rcases jbo scope.names [] (PySem.mem_of_lookup h) with z | z
 ·exact nomatch z
 ·exact z
theorem xH(a:env.cells.lookup x=some c)(f:(x,NameKind.free)∈scope.names):(uH scope env).lookup x=some c:=by
 obtain⟨d,e⟩:=qR (jbb a scope.names [] f);have b:(uH scope env).lookup x=some d:=e;rw[b,<- Yl b,a]
theorem qf(h:(n,k)∈(relabel scope env).names):(n,k)∈scope.names \/ (k=.cell/\(n,NameKind.free)∈scope.names):=by
 unfold relabel at h;obtain⟨⟨a,b⟩,c,e⟩:=M6.mp h;dsimp only at e;split at e
 ·rename_i d;cases e;have:b=NameKind.free:=by
   simp only[M0,beq_iff_eq] at d;exact d.1.1
  subst this;exact .inr ⟨rfl,c⟩
 ·cases e;exact .inl c
noncomputable def jQ(X:Cx)(scope:Scope)(N':List Str)(C:Addr)(s₃:Shared)(H₃:Hp)(fp:List Addr):Cx :=
 { X with N:=N',s₀:=s₃,H₀:=H₃,env:=compEnvC scope (uH scope X.env) C X.env,outer:=X.stack,stack:=X.stack,ex:=fp,fn:=λ_=>false,pn:=[],xe:=λ_ _=>False }
noncomputable def yz(ix:List (Option Nat))(σ:St):St:=ix.map λo=>o.bind λj=>(σ[j]?).join
structure BlockOk(X:Cx)(scope:Scope)(N':List Str)(ix:List (Option Nat)):Prop where
 kind:scope.kind=.function
 nocell:∀ y∈scope.names,y.2≠.cell
 names:∀ y∈scope.names,y.2=.local->scope.names.lookup y.1=some .local
 uniq:∀ y∈scope.names,y.2=.free->scope.names.lookup y.1=some .free
 outer:∀ y∈scope.names,y.2=.free->X.env.kindOf y.1=some .cell \/ X.env.kindOf y.1=some .free
 nd:N'.Nodup
 len:ix.length=N'.length
 at_:∀(i j:Nat) (x:Str),ix[i]?=some (some j)->N'[i]?=some x->X.N[j]?=some x/\(x,NameKind.free)∈scope.names
 func:X.env.scope.kind=.function
noncomputable abbrev BW:=Nat->Nat->St->Hp->Prop
def jaV(tc:TT)(te:TE)(g:TG)(J:It)(p:Addr)(σ':St)(H1:Hp)(Q:Hp->Prop):Prop :=
 ∃ W:BW,(∃ m,W 0 m σ' H1)/\∀ i m σ2 H2,W i m σ2 H2->(J.stop i H2/\Q H2) \/
  (J.go i H2/\∀ x H3,J.yld i H2 x H3->g x σ2 H3 λσ4 H4=>tc σ4 H4 λb H5=>if b=true then
   te σ4 H5 λy H6=>∃ ys,H6 p=some (.lst ys)/\ys.length < sizeLine/\∃ m',m' < m/\W (i+1) m' σ4 (upd H6 p (.lst (ys++[y])))
   else ∃ m',m' < m/\W (i+1) m' σ4 H5)
noncomputable def xR(wi:TI)(g:TG)(tc:TT)(te:TE)(ix:List (Option Nat)):TE:=λσ H Q=>wi σ H λJ H1=>∀ p,H1 p=none->jaV tc te g J p (yz ix σ) (upd H1 p (.lst [])) λH2=>Q (.ref p) H2
def PIf(X:Cx)(ifs:List Expr)(tc:TT):Prop:=(ifs=[]/\tc=λ_ H Q=>Q true H) \/ ∃ c,ifs=[c]/\PT X c tc
theorem xA(B:BlockOk X scope N' ix)(I:Inv X pins σ H s)(A:∀ b∈fp,xh X pins H b)(D:∀ b∈fp,b < s.heap.objs.size)
  (E:h₁.Ns s.heap.objs.size (λ_=>none)) (C:∀ b o,s.heap.get? b=some o->h₁.get? b=some o) :
  Inv (jQ X scope N' s.heap.objs.size s H fp) [] (yz ix σ) H { s with heap:=h₁,toks:=t }:=by
 have fresh:H s.heap.objs.size=none:=I.hok.fresh (M9 _);have f:∀ x c,(uH scope X.env).lookup x=some c->X.env.cells.lookup x=some c:=λx c e=>Yl e;refine⟨⟨I.ok.mod,B.kind,I.ok.glob,I.ok.blt,M9 _,λx y c F G=>I.ok.inj x y c (f x c F) (f y c G),λx O=>?_,(λx c h=>nomatch h),I.ok.hd,I.ok.frames,.inl rfl,λb g=>⟨N6 (D b g),λx c e=>(A b g).2.2.2.2.1 x c (f x c e)⟩,
  λb o e=>I.bs b o e,N7 I.ok.bsz I.sz,λb o e g=>?_,λb g z=>?_,I.stack,I.stkFree⟩,rfl,I.bare,Un.kept C,⟨_,E,λi x v F G P=>?_⟩,λx c e=>?_,fresh,λx c e=>I.freeC x c (f x c e),(λp Q=>nomatch (show p∈([]:List (Addr×Obj)) from Q)),I.hok.kept C,?_⟩
 ·have J:(relabel scope X.env).names.lookup x=some .cell \/ (relabel scope X.env).names.lookup x=some .free:=O;have n:(x,NameKind.free)∈scope.names:=by
   rcases J with q | q
   ·rcases qf (PySem.mem_of_lookup q) with z | z
    ·exact absurd rfl (B.nocell _ z)
    ·exact z.2
   ·rcases qf (PySem.mem_of_lookup q) with z | z
    ·exact z
    ·exact absurd z.1 (by decide)
  obtain⟨c,K⟩:=I.ok.has x (B.outer _ n rfl);exact⟨c,xH K n⟩
 ·rcases(A b g).2.2.2.1 with z | z
  ·exact I.ok.noex b o e z
  ·exact absurd (U3 (N1 e) (N7 I.ok.bsz z)) (Nat.lt_irrefl _)
 ·rcases M5.mp (I.stkSub b z) with q | q
  ·exact(A b g).2.1 q
  ·exact(A b g).2.2.1 q
 ·have a:(yz ix σ)[i]?=some (some v):=G;unfold yz at a;rw[List.getElem?_map] at a;cases e:ix[i]? with
  | none=>rw[e] at a;cases a
  | some o =>
   rw[e] at a;cases o with
   | none=>cases a
   | some j =>
    have d:(σ[j]?).join=some v:=X0 a;have R:σ[j]?=some (some v):=by
     cases q:σ[j]? with
     | none=>rw[q] at d;cases d
     | some u=>rw[q] at d;rw[show u=some v from d]
    obtain⟨S,n⟩:=B.at_ i j x e F;have w:=B.outer _ n rfl;obtain⟨m,U,T⟩:=I.loc;obtain⟨u,r,l⟩:=T j x v S R (w.elim (λz=>.inr (.inl z)) λz=>.inr (.inr z));refine⟨u,r,.inr ?_⟩;rcases l with⟨k,_⟩ | ⟨_,c,K,z⟩
    ·rcases w with y | y<;>rw[k] at y<;>cases y
    ·refine⟨?_,c,xH K n,?_⟩
     ·rcases P with y | y | y
      ·have:(x,NameKind.local)∈(relabel scope X.env).names:=PySem.mem_of_lookup y;rcases qf this with L | L
       ·have N:=B.names _ L rfl;rw[B.uniq _ n rfl] at N;cases N
       ·exact absurd L.1 (by decide)
      ·exact .inl y
      ·exact .inr y
     ·obtain⟨o,M,hd⟩:=z;exact⟨o,C c o M,hd⟩
 ·obtain⟨v,o,M,hd⟩:=I.cell x c (f x c e);exact⟨v,o,C c o M,hd⟩
 ·show(yz ix σ).length=N'.length;unfold yz;rw[L0,B.len]
theorem Inv.other(I:Inv X pins σ H s)(f:xh X pins H C)(a:Heap.SameBut C s.heap h'):Inv X pins σ H { s with heap:=h' } :=
 I.turned (t':=s.toks) (λb o c e=>a.extBut b o c e) f.1 f.2.1 f.2.2.2.1 f.2.2.2.2.1 f.2.2.2.2.2
theorem Kw{X:Cx}{ifs:List Expr}{N':List Str}{ix:List (Option Nat)}{pins:List (Addr×Obj)}{s:Shared}{Q:Addr->Hp->Prop}{use:Option (Value->Sem Unit)}{QQ:Value->Shared->Prop}(B:BlockOk X scope N' ix)(hc:X.calm=true)(hi:PI X tg iter wi)
  (hg:∀ C s H fp,PG (jQ X scope N' C s H fp) tg g) (hif:∀ C s H fp,PIf (jQ X scope N' C s H fp) ifs tc) (he:∀ C s H fp,PE (jQ X scope N' C s H fp) elt te)
  (hs:∀ x,foldedSetIterable iter X.env x=pure x) (I:Inv X pins σ H s)
  (h:wi σ H λJ H1=>∀ p,H1 p=none->jaV tc te g J p (yz ix σ) (upd H1 p (.lst [])) (Q p))
  (hend:∀ p C s' H',Q p H'->Inv X pins σ H' s'->xh X pins H' C->(∃ m,s'.heap.Ns C m)->compPost (model X.prog X.w) X.A X.xe use QQ (.ref p) C (.ok .next) s') :
  wpAny (model X.prog X.w) X.A (comprehension (.ListComp elt [⟨tg,iter,ifs,0⟩] scope pos) scope X.env pos' (newList []) false (eval iter X.env) use) QQ X.xe s:=by
 have V:closureFor scope X.env=pure (uH scope X.env):=zp λn k hm hk=>I.ok.has n (B.outer _ hm hk);refine wpAny_comprehension_free rfl hs V B.kind B.names (thn (hi pins s σ H _ I h) λv s1 h1=>thn h1 λitv a h2=>?_);obtain⟨it,fp,tn,J,M,rfl,I2,T,Y,f2,h2⟩:=h2;refine wpAny_newObj_type (wpAny_newFunctionEnv B.nocell (by intro y hy;simp at hy) (λh₁ O P=>?_) B.kind);dsimp only at O P ⊢;have fr2:M a.heap.objs.size=none:=I2.fresh
 -- the new list
 have I3:Inv X pins σ (upd M a.heap.objs.size (.lst [])) { a with heap:=a.heap.push { cls:=.type "list",data:=.seq ([]:List Value).toArray } }:=I2.lnew (t':=a.toks) .nil (U4 _);generalize hs3:({ a with heap:=a.heap.push { cls:=.type "list",data:=.seq ([]:List Value).toArray } }:Shared)=s3 at I3;have e3:s3.heap=a.heap.push { cls:=.type "list",data:=.seq ([]:List Value).toArray }:=by rw[<- hs3]
 have hk3:∀ b o,a.heap.get? b=some o->s3.heap.get? b=some o:=λb o e=>by rw[e3];exact L8 _ e
 have lt3:∀ b∈fp,b < s3.heap.objs.size:=λb f=>by
  obtain⟨o,e,_⟩:=T.obj _ _ Y b f;exact N1 (hk3 b o e)
 have nep:∀ b∈fp,b≠a.heap.objs.size:=λb f z=>by
  obtain⟨o,e,_⟩:=T.obj _ _ Y b f;exact absurd (N1 e) (by rw[z];exact Nat.lt_irrefl _)
 have N:∀ b∈fp,xh X pins (upd M a.heap.objs.size (.lst [])) b:=λb f=>⟨by rw[jh (nep b f)];exact(f2 b f).1,(f2 b f).2⟩;have sz3:s3.heap.objs.size=(a.heap.push { cls:=.type "list",data:=.seq ([]:List Value).toArray }).objs.size:=by rw[e3]
 have hk4:∀ b o,s3.heap.get? b=some o->h₁.get? b=some o:=λb o e=>by
  refine P.extBut b o ?_ (L8 _ (by rw[e3] at e;exact e));intro z;exact absurd (N1 e) (by rw[z,sz3];exact Nat.lt_irrefl _)
 have hns4:h₁.Ns s3.heap.objs.size (λ_=>none):=by
  rw[sz3];exact O
 have I4:Inv (jQ X scope N' s3.heap.objs.size s3 (upd M a.heap.objs.size (.lst [])) fp) [] (yz ix σ) (upd M a.heap.objs.size (.lst [])) { s3 with heap:=h₁,toks:=a.toks }:=xA B I3 N lt3 hns4 hk4;have st4:tn 0 h₁:=T.keep _ _ _ Y λb f o e=>hk4 b o (hk3 b o e);obtain⟨W,⟨m0,w0⟩,turn⟩:=h2 _ fr2;have hg':=hg s3.heap.objs.size s3 (upd M a.heap.objs.size (.lst [])) fp;have R:=hif s3.heap.objs.size s3 (upd M a.heap.objs.size (.lst [])) fp;have he':=he s3.heap.objs.size s3 (upd M a.heap.objs.size (.lst [])) fp;generalize j:jQ X scope N' s3.heap.objs.size s3 (upd M a.heap.objs.size (.lst [])) fp=X' at I4 hg' R he';have Z:X'.prog=X.prog:=by rw[<- j];rfl
 have eW:X'.w=X.w:=by rw[<- j];rfl
 have eK:X'.K=X.K:=by rw[<- j];rfl
 have eA:X'.A=X.A:=by rw[<- j];rfl
 have eC:X'.calm=true:=by rw[<- j];exact hc
 have eE:X'.env=compEnvC scope (uH scope X.env) s3.heap.objs.size X.env:=by rw[<- j];rfl
 have eX:X'.xe=λ_ _=>False:=by rw[<- j];rfl
 have F:∀{H':Hp},(∀ b∈fp,H' b=none)->∀ b∈fp,xh X' [] H' b:=λhn b f=>by
  refine⟨hn b f,?_,?_,?_,?_,?_⟩
  ·rw[eE];exact N6 (lt3 b f)
  ·rw[<- j];intro z;rcases M5.mp (I3.stkSub b z) with q | q
   ·exact(N b f).2.1 q
   ·exact(N b f).2.2.1 q
  ·rw[<- j];exact .inl f
  ·rw[eE];exact λx c e=>(N b f).2.2.2.2.1 x c (Yl e)
  ·rw[<- j];exact(λp hp=>nomatch (show p∈([]:List (Addr×Obj)) from hp))
 -- the end of the block
 have fin:∀{l:St}{H':Hp}{s':Shared},Inv X' [] l H' s'->Q a.heap.objs.size H'->compPost (model X.prog X.w) X.A X.xe use QQ (.ref a.heap.objs.size) s3.heap.objs.size (.ok .next) s':=λ{l H' s'} J q=>by
  have hL:X'.env.locals=s3.heap.objs.size:=by rw[eE];rfl
  have un:Un (frs X.stack) fp (upd M a.heap.objs.size (.lst [])) H' s3.heap s'.heap:=by
   have z:=J.base;rw[<- j] at z;exact z
  have hos:s'.os=s3.os:=by
   have z:=J.os;rw[<- j] at z;exact z
  have hok:HOk X.prog X.w H' s'.heap:=by
   have z:=J.hok;rw[Z,eW] at z;exact z
  have fc:H' s3.heap.objs.size=none:=by
   have z:=J.free;rw[hL] at z;exact z
  have I5:Inv X pins σ H' s':=by
   obtain⟨hh,gg,dd,tt,oo⟩:=s';obtain rfl:oo=s3.os:=hos;exact I3.call (h':=hh) (g':=gg) (d':=dd) (t':=tt) (ch:=fp) un hok J.bare λb f=>⟨(N b f).2.2.2.1,(N b f).2.1,(N b f).2.2.2.2.1,(N b f).2.2.2.2.2⟩
  obtain⟨m,hn,_⟩:=J.loc;rw[hL] at hn;exact hend _ _ s' H' q I5 (I3.fpOk (M9 _) fc) ⟨m,hn⟩
 have loop:∀ s',s'=({ s3 with heap:=h₁,toks:=a.toks }:Shared)->codeAny (model X.prog X.w) X.A (.compLoop (.ListComp elt [⟨tg,iter,ifs,0⟩] scope pos) 0 (.ref it) (.ref a.heap.objs.size) X'.env) (compPost (model X.prog X.w) X.A X.xe use QQ (.ref a.heap.objs.size) s3.heap.objs.size) s':=by
  rintro s' rfl;refine VZ (λn s'=>∃ i l H',Inv X' [] l H' s'/\tn i s'.heap/\(∀ b∈fp,H' b=none)/\W i n l H') ?_ m0 ⟨0,_,_,I4,st4,λb f=>(N b f).1,w0⟩;rintro n s5 ⟨i,σ5,H5,I5,st5,fr5,w5⟩;have it5:=T.item X' Z eW eK eC i [] s5 σ5 H5 (λ_ _=>False) I5 (F fr5) st5;have dn5:=T.done X' Z eW eK eC i [] s5 σ5 H5 (λ_ _=>False) I5 (F fr5) st5;rw[eA] at it5 dn5;rcases turn i n σ5 H5 w5 with⟨stop,qn⟩ | ⟨go,step⟩
  ·refine thn (dn5 stop) λr s6 ⟨hr,I6⟩=>?_;subst hr;exact fin I6 qn
  ·refine thn (it5 go) λr s6 ⟨u,hr,h6⟩=>?_;subst hr;refine thn h6 λ_ s7 ⟨x,H7,I7,r7,y7,st7,fr7⟩=>?_;have I7':=I7.pinned (F fr7) (T.obj _ _ st7);have a7:=hg' _ s7 σ5 H7 x u _ I7' r7 (step x H7 y7);rw[Z,eW,eA,eX] at a7;refine thn a7 λ_ s8 ⟨G,H8,I8,q8⟩=>?_;have L:∀{t:Shared}{E:Hp},Inv X' ([]++Y1 fp s7.heap) G E t->(∃ D,D < n/\W (i+1) D G E)->∃ m,m < n/\∃ i l H',Inv X' [] l H' t/\tn i t.heap/\(∀ b∈fp,H' b=none)/\W i m l H':=λ{t E} S ⟨D,hm,w9⟩=>by
    refine⟨D,hm,i+1,G,E,S.unpinned,T.keep _ _ _ st7 λb f o e=>(S.pin (b,o) (U2 _ (U2 _ (v7 f e)))).1,λb f=>?_,w9⟩;obtain⟨o,e,d⟩:=T.obj _ _ st7 b f;exact(S.pin (b,o) (U2 _ (U2 _ (v7 f e)))).2.1
   have rest:∀(b:Bool) (t:Shared) (E:Hp),Inv X' ([]++Y1 fp s7.heap) G E t->(if b=true then te G E λy H6=>∃ ys,H6 a.heap.objs.size=some (.lst ys)/\ys.length < sizeLine/\∃ D,D < n/\W (i+1) D G (upd H6 a.heap.objs.size (.lst (ys++[y])))
     else ∃ D,D < n/\W (i+1) D G E) ->
     if b=true then wpAny (model X.prog X.w) X.A (eval elt X'.env) (λx s₄=>wpAny (model X.prog X.w) X.A (call (.builtin "list.append") [.ref a.heap.objs.size,x]) (λ_ s₅=>∃ m,m < n/\∃ i l H',Inv X' [] l H' s₅/\tn i s₅.heap/\(∀ b∈fp,H' b=none)/\W i m l H') (λ_ _=>False) s₄) (λ_ _=>False) t
     else ∃ m,m < n/\∃ i l H',Inv X' [] l H' t/\tn i t.heap/\(∀ b∈fp,H' b=none)/\W i m l H':=λb t E S q9=>by
    cases b with
    | false =>
     rw[if_neg M4] at q9 ⊢;exact L S q9
    | true =>
     rw[if_pos rfl] at q9 ⊢;have a9:=he' _ t G E _ S q9;rw[Z,eW,eA,eX] at a9;refine thn a9 λyv s10 ⟨y,H10,I10,r10,ys,e10,l10,q10⟩=>?_;have a10:=V8 _ s10 G H10 (.ref a.heap.objs.size) [y] (.ref a.heap.objs.size) [yv] (λ_ H'=>∃ D,D < n/\W (i+1) D G H') I10 rfl (.cons r10 .nil) ⟨_,ys,y,rfl,rfl,e10,l10,q10⟩;rw[Z,eW,eA,eX] at a10;exact thn a10 λ_ s11 ⟨_,H11,I11,_,q11⟩=>L I11 q11
   rcases R with⟨e1,e2⟩ | ⟨c,e1,e2⟩
   ·subst e1;rw[e2] at q8;exact wpAny_tests_nil (rest true s8 H8 I8 q8)
   ·subst e1;have a8:=e2 _ s8 G H8 _ I8 q8;rw[Z,eW,eA,eX] at a8;exact wpAny_tests_one (thn a8 λb t ⟨E,S,q9⟩=>rest b t E S q9)
 have U:codeAny (model X.prog X.w) X.A (.compStart (.ListComp elt [⟨tg,iter,ifs,0⟩] scope pos) 0 (.ref it) (.ref a.heap.objs.size) X'.env) (compPost (model X.prog X.w) X.A X.xe use QQ (.ref a.heap.objs.size) s3.heap.objs.size) { s3 with heap:=h₁,toks:=a.toks } :=
  codeAny_compStart_list (loop _ rfl) (T.self _ 0 _ _ _ st4 (loop _ rfl))
 rw[eE] at U;subst hs3;exact U
theorem jbY(B:BlockOk X scope N' ix)(d:X.calm=true)(hi:PI X tg iter wi)
  (e:∀ C s H fp,PG (jQ X scope N' C s H fp) tg g) (a:∀ C s H fp,PIf (jQ X scope N' C s H fp) ifs tc) (i:∀ C s H fp,PE (jQ X scope N' C s H fp) elt te)
  (j:∀ x,foldedSetIterable iter X.env x=pure x:=by intro _;rfl):PE X (.ListComp elt [⟨tg,iter,ifs,0⟩] scope pos) (xR wi g tc te ix):=by
 intro c s σ H Q I h;rw[eval_ListComp];exact Kw (use:=none) (Q:=λp b=>Q (.ref p) b) B d hi e a i j I h λp C o b q k f ⟨m,l⟩=>⟨m,l,λr n=>⟨.ref p,b,k.other f n,rfl,q⟩⟩
theorem zN(B:BlockOk X scope N' ix)(E:X.calm=true)(hi:PI X tg iter wi)
  (F:∀ C s H fp,PG (jQ X scope N' C s H fp) tg g) (d:∀ C s H fp,PIf (jQ X scope N' C s H fp) ifs tc) (G:∀ C s H fp,PE (jQ X scope N' C s H fp) elt te)
  (J:X.N.Nodup) (j:X.N[i]?=some x) (K:Loc X.env.scope x)
  (k:swapsWith (.ListComp elt [⟨tg,iter,ifs,0⟩] scope pos) (some (.Name x pos')) spos.line X.env=pure true)
  (L:∀ x,foldedSetIterable iter X.env x=pure x:=by intro _;rfl)
  (M:X.fn x=true \/ X.env.scope.names.lookup x=some .local:=by first | exact .inl rfl | exact .inr rfl | assumption) :
  PS X (.Assign [.Name x pos'] (.ListComp elt [⟨tg,iter,ifs,0⟩] scope pos) spos) (jbM (xR wi g tc te ix) (Vg i)):=by
 intro a s σ H D I h;rw[exec_Assign_Name_used _ _ _ _ k];refine L3 (wpAny_standAt (L3 ?_));show wpAny _ X.A (do let _ <- comprehension (.ListComp elt [⟨tg,iter,ifs,0⟩] scope pos) scope X.env _ (newList []) false (eval iter X.env) (some (assign (.Name x pos') X.env))) _ _ s;refine L3 (thn (Kw (use:=some (assign (.Name x pos') X.env)) (QQ:=λ_ b=>SP X a D .next b) (Q:=λp c=>D.nx (σ.set i (some (.ref p))) c) B E hi F d G L I h λp C b c q r f ⟨m,O⟩=>?_) λ_ b P=>M7 (M7 P));obtain⟨o,R,S,T,t⟩:=id O;have hd:∀ v,o.data≠.cell v:=λv z=>by
  obtain⟨l,_⟩:=t;rw[l] at z;cases z
 have U:Inv X (a++[(C,o)]) σ c b:=r.pins_of λu n=>by
  rcases N2.mp n with z | z
  ·exact r.pin u (U2 _ z)
  ·have e:u=(C,o):=by simpa using z
   subst e;exact⟨T,f.1,f.2.1,f.2.2.1,hd⟩
 refine wpAny_assign_Name (JR U J j K (v:=.ref p) rfl (λW w=>?_) M);have y:=w.pin (C,o) (U2 _ (U2 _ (M8.mpr rfl)));refine⟨m,⟨o,R,S,y.1,t⟩,λY V=>⟨_,c,(w.unpinned).other ⟨y.2.1,f.2⟩ V,q⟩⟩
noncomputable def S(l:List Nat):Str:=⟨l.toArray⟩
theorem yx(l:List Nat):(S l).cps.toList=l:=by simp[S]
theorem vz(l:List Nat):(S l).length=l.length:=by simp[S,Str.length]
theorem jgZ(x:Str):x=S x.cps.toList:=by
 obtain⟨a⟩:=x;simp[S]
theorem jdl(h:S a=S b):a=b:=by
 rw[<- yx a,<- yx b,h]
theorem jfP(a b:List Nat):(S a=S b)=(a=b):=propext ⟨jdl,λh=>by rw[h]⟩
theorem jbs(a b:List Nat):S a++S b=S (a++b):=by
 apply PyProof.Rows.ext_toList;rw[PySem.W.KT.app_list,yx,yx,yx]
theorem jcs(c:Nat):(⟨#[c]⟩:Str)=S [c]:=rfl
noncomputable def qo{α:Type}(xs:List α)(lo hi:Option Int):List α:=(xs.drop (HT.sIx xs.length 0 lo)).take (HT.sIx xs.length xs.length hi - HT.sIx xs.length 0 lo)
theorem jcQ(xs:List α)(k:Nat):qo xs none (some (k:Int))=xs.take k:=by
 unfold qo;rw[HT.sIx_none,HT.sIx_nat];simp[List.take_eq_take_iff]
theorem wg(xs:List α)(k:Nat):qo xs (some (k:Int)) none=xs.drop k:=by
 unfold qo;rw[HT.sIx_none,HT.sIx_nat];by_cases h:k<=xs.length
 ·rw[Nat.min_eq_left h,List.take_of_length_le];rw[List.length_drop]
  lia
 ·have e:xs.drop k=[]:=List.drop_eq_nil_of_le (by lia);rw[e,Nat.min_eq_right (by lia)];simp
theorem xJ(lo hi:Option Int)(n:Nat):Builtin.Str.strSliceIndices lo hi 1 n=(List.range (HT.sIx n n hi - HT.sIx n 0 lo)).map (HT.sIx n 0 lo+·):=by
 have a:∀(o:Option Int) (d:Nat),(match o with | none=>(d:Int) | some i=>(let i:=if i < 0 then i+(n:Int) else i;if(1:Int) > 0 then max 0 (min i n) else max (-1) (min i (n - 1))))=((HT.sIx n d o:Nat):Int):=by
  intro o d;cases o with
  | none=>rfl
  | some v =>
   show(if(1:Int) > 0 then max 0 (min (if v < 0 then v+(n:Int) else v) n) else _)=(((if v < 0 then(v+(n:Int)).toNat else min v.toNat n):Nat):Int);rw[if_pos (by decide)];by_cases b:v < 0
   ·rw[if_pos b,if_pos b];lia
   ·rw[if_neg b,if_neg b];lia
 rw[<- sliceRange_one,<- a lo 0,<- a hi n];rfl
theorem jcH(l:List Nat)(lo hi:Option Int):Txt.slice (S l) lo hi=S (qo l lo hi):=by
 have i:HT.sIx l.length l.length hi<=l.length:=HT.sIx_le _ _ (M9 _) _;have j:HT.sIx l.length 0 lo<=l.length:=HT.sIx_le _ _ (U4 _) _;have e:(Builtin.Str.strSliceIndices lo hi 1 (S l).length).filterMap ((S l).cps[·]?)=qo l lo hi:=by
  rw[vz,xJ];have h:=StrLaws.picks l (HT.sIx l.length l.length hi - HT.sIx l.length 0 lo) (HT.sIx l.length 0 lo);by_cases c:HT.sIx l.length 0 lo<=HT.sIx l.length l.length hi
  ·have d:=h (by lia);unfold qo;rw[<- d];simp[S]
  ·have z:HT.sIx l.length l.length hi - HT.sIx l.length 0 lo=0:=by lia
   unfold qo;rw[z];simp
 unfold Txt.slice;split
 ·rename_i b;have f:(Builtin.Str.strSliceIndices lo hi 1 (S l).length).length=(S l).length:=by
   simp only[beq_self_eq_true,Bool.true_and] at b;exact beq_iff_eq.mp b
  rw[vz,xJ,L0,List.length_range] at f;unfold qo;by_cases a:l.length=0
  ·have:l=[]:=List.length_eq_zero_iff.mp a;subst this;simp
  ·have g:HT.sIx l.length 0 lo=0:=by lia
   rw[g,List.drop_zero,List.take_of_length_le (by lia)]
 ·rw[e];rfl
def jgy:V->Option Int->Option Int->Hp->VK->Prop:=λx lo hi H Q=>∃ l,x=.str (S l)/\l.length<=sizeLine/\Q (.str (S (qo l lo hi))) H
theorem jbp(p:IsPart v o):∃ q:Option (Int×Tok),v=partValue q/\q.map (·.1)=o:=by
 cases p with
 | none=>exact⟨none,rfl,rfl⟩
 | int i t=>exact⟨some (i,t),rfl,rfl⟩
theorem jeB:SlR X jgy:=by
 intro c s σ H x v w y a b z Q I g i pl j h;obtain⟨l,rfl,m,q⟩:=h;obtain⟨t,rfl⟩:=g;obtain⟨d,rfl,n⟩:=jbp pl;obtain⟨e,rfl,o⟩:=jbp j;refine⟨"str",_,F.slot_str_getitem.lookup,typeIs_str _ _ _,wpAny_getItem_str_slice (l:=d) (u:=e) (st:=none) i rfl ?_⟩;have p:Txt.slice (S l) a b=S (qo l a b):=jcH l a b;have key:∀ f k,EP X c σ Q (.str (Txt.slice (S l) a b) f) { s with toks:=k }:=λf k=>by
  rw[p];exact⟨.str (S (qo l a b)),H,I.tok k,⟨f,rfl⟩,q⟩
 have r:sliceMade (S l) t d e none=(if((1:Int)==1&&(Builtin.Str.strSliceIndices a b 1 (S l).length).length==(S l).length)=true then Made.val (.str (S l) t) else Made.str ⟨((Builtin.Str.strSliceIndices a b 1 (S l).length).filterMap ((S l).cps[·]?)).toArray⟩):=by
  unfold sliceMade slicePicked;rw[n,o];rfl
 rw[r];refine post_val_or_str ⟨?_,λf k=>key f k⟩;exact N7 (Txt.slice_le (S l) a b) (by rw[vz];exact m)
noncomputable def Its(l:List Nat):It:=⟨λi _=>i < l.length,λi H x H'=>H'=H/\∃ c,l[i]?=some c/\x=.str (S [c]),λi _=>l.length<=i⟩
theorem jar{tg:Expr}{P:Program}{w:World}{K:PySem.W.Frag}(a:Addr)(l:List Nat)(t:Tok)(ty:String)(j:ty = "str_ascii_iterator" \/ ty = "str_iterator")
  (W:∀ A:Around,A.handled=none->Walks P w A a [a] [a] (S l).cps.size (SignAt (S l)) (λi h=>h.IsStrIter a ty (S l) t i)):Turn P w K tg (Its l) [a] a (λi h=>h.IsStrIter a ty (S l) t i) where
 mem:=by simp
 obj:=λi h st b f=>by
  have e:b=a:=by simpa using f
  subst e;obtain⟨o,e,c,d⟩:=st;exact⟨o,e,λv z=>by rw[d] at z;cases z⟩
 keep:=λi h m st k=>by
  obtain⟨o,e,r⟩:=st;exact⟨o,k a (by simp) o e,r⟩
 item:=by
  intro X F G J p i g s σ H E I q st L;subst F G J;obtain⟨x,y,T,B,C,D⟩:=q a (by simp);have U:=W X.A (I.ok.hd p);have M:(S l).cps.size=l.length:=by simp[S]
  refine U.item i s _ _ (by rw[M];exact L) st λv m Q V n Y=>?_;obtain⟨c,u,N,rfl⟩:=V;have Z:Inv X g σ H { s with heap:=m,toks:=Q }:=I.turned (λb o f e=>Y b o (by simpa using f) e) x y B C D;obtain⟨o,e,ct,d⟩:=id n;refine⟨_,rfl,jaH (s:={ s with heap:=m,toks:=Q }) e ct d (by rcases j with z | z<;>subst z<;>decide) ⟨.str (S [c]),H,Z,⟨u,rfl⟩,⟨rfl,c,by simpa [S] using N,rfl⟩,n,λb f=>(q b f).1⟩⟩
 done:=by
  intro X F G J p i g s σ H E I q st L;subst F G J;obtain⟨x,y,T,B,C,D⟩:=q a (by simp);have R:(S l).cps[i]?=none:=by
   have:l.length<=i:=L;simp[S,this]
  rcases j with z | z
  ·subst z;exact wpAny_pyNext_ascii_end (I.ok.hd p) st R λm O=>⟨rfl,I.turned (t':=s.toks) (λb o f e=>O b o f e) x y B C D⟩
  ·subst z;exact wpAny_pyNext_wide_end (I.ok.hd p) st R λm O=>⟨rfl,I.turned (t':=s.toks) (λb o f e=>O b o f e) x y B C D⟩
 self:=λ_ _ _ _ _ st h=>by
  rcases j with z | z
  ·subst z;exact wpAny_pyIter_striter_ascii st h
  ·subst z;exact wpAny_pyIter_striter_wide st h
theorem jdC:OpR X (compareOp .In) (λx y H Q=>∃ c l,x=.str (S [c])/\y=.str (S l)/\Q (.bl (decide (c∈l))) H):=by
 intro a s σ H x y v u Q I b d h;obtain⟨c,l,rfl,rfl,q⟩:=h;refine uz a s σ H _ _ v u Q I b d ⟨_,_,rfl,rfl,?_⟩;rw[<- jcs,StrLaws.found_one,yx];exact q
theorem uF:OpR X (compareOp .NotIn) (λx y H Q=>∃ c l,x=.str (S [c])/\y=.str (S l)/\Q (.bl (!decide (c∈l))) H):=by
 intro a s σ H x y v u Q I b d h;obtain⟨c,l,rfl,rfl,q⟩:=h;refine Kr a s σ H _ _ v u Q I b d ⟨_,_,rfl,rfl,?_⟩;rw[<- jcs,StrLaws.found_one,yx];exact q
theorem jbt:OpR X (binaryOp .Add) (λx y H Q=>∃ a b,x=.str (S a)/\y=.str (S b)/\a.length+b.length<=sizeLine/\Q (.str (S (a++b))) H):=by
 intro c s σ H x y v u Q I d e h;obtain⟨a,b,rfl,rfl,f,q⟩:=h;refine zg c s σ H _ _ v u Q I d e ⟨_,_,rfl,rfl,by rw[vz,vz];exact f,?_⟩;rw[jbs];exact q
theorem jcG:OpR X (binaryOp .Mult) (rI (λi j=>Builtin.Int.intBits i<=2 ^ 20/\Builtin.Int.intBits j<=2 ^ 20) λi j=>.int (i*j)):=opI λ_ _ _ _ _ _ _ a q=>mul_int q (IntMulOk.of_bits a.1 a.2)
theorem z9(h:i.natAbs < 2 ^ m)(a:m<=2 ^ 20):Builtin.Int.intBits i<=2 ^ 20:=N7 (PySem.intBits_le_iff.mpr h) a
theorem K5{A:Around}{bs:List Bool}{its:List Value}(r:Vals (bs.map V.bl) its):TruthOf P w A (λi v=>its.toArray[i]?=some v) (λi=>bs.getD i false):=by
 intro i v s Q E c d;have a:its[i]?=some v:=by simpa using c
 have h:i < its.length:=(L9.mp a).1;have e:=r.length;rw[L0] at e;have f:(bs.map V.bl)[i]?=some (V.bl (bs.getD i false)):=by
  rw[List.getElem?_map,List.getD_eq_getElem?_getD,X2 (by lia)];rfl
 obtain⟨u,b,g⟩:=r.get f;rw[a] at b;cases b;cases g;exact M7 d
theorem wY:∀(bs:List Bool),(List.range bs.length).all (λi=>bs.getD i false)=bs.all (λb=>b):=by
 intro bs;rw[Bool.eq_iff_iff,List.all_eq_true,List.all_eq_true];constructor
 ·intro h b d;obtain⟨i,c,e⟩:=List.mem_iff_getElem.mp d;have:=h i (List.mem_range.mpr c);rw[List.getD_eq_getElem?_getD,X2 c,e] at this;exact this
 ·intro h i c;have a:=List.mem_range.mp c;rw[List.getD_eq_getElem?_getD,X2 a];exact h _ (List.getElem_mem a)
theorem uQ(j:X.calm=true):CallR X (.builtin "all") (λxs H Q=>∃(p:Addr) (bs:List Bool),xs=[.ref p]/\SqL X.K H p (bs.map V.bl)/\Q (.bl (bs.all λb=>b)) H):=by
 intro d s σ H xs v Q I r h;obtain⟨p,bs,rfl,k,q⟩:=h;obtain⟨u,rfl,l⟩:=r.one;cases l;obtain⟨a,f,pl,w⟩:=I.list k;have c:p < s.heap.objs.size:=by
  obtain⟨o,n,e,_⟩:=pl;exact N1 e
 have g:=f.length;rw[L0] at g;refine call_all_walk (wpAny_pyIter_list pl.isList ⟨s.heap.objs.size,_,_,_,_,_,λi=>bs.getD i false,rfl,Walks.list (A:=X.A.in1) (by exact I.ok.hd j) s.heap.objs.size p (N6 c) a.toArray,⟨⟨_,X4 _ rfl,rfl,rfl⟩,?_⟩,K5 f,λx y m=>?_⟩)
 ·obtain⟨o,e,r⟩:=pl.isList;exact⟨o,L8 _ e,r⟩
 ·rw[N3,<- g,wY];refine⟨.bl (bs.all λb=>b),H,I.kept λb o e=>m b o ?_ (L8 _ e),rfl,q⟩;intro t;have:b=s.heap.objs.size:=by simpa using t
  exact absurd (N1 e) (by rw[this];exact Nat.lt_irrefl _)
def SqX(K:PySem.W.Frag)(H:Hp)(a:Addr)(xs:List V):Prop :=
 Rd H a (.lst xs) \/ ∃(its:Array Value) (n:Nat),K.lookup a=some { cls:=.type "list",data:=.seq its n }/\its.size<=sizeLine/\Vals xs its.toList
theorem SqX.sq{K:PySem.W.Frag}{H:Hp}{a:Addr}{xs:List V}(h:SqX K H a xs):SqL K H a xs:=by
 rcases h with h | ⟨b,n,c,d,r⟩
 ·exact .inl h
 ·exact .inr ⟨_,b,n,c,rfl,rfl,rfl,d,r⟩
theorem SqX.of{K:PySem.W.Frag}{H:Hp}{a:Addr}{xs:List V}(h:H a=some (.lst xs)):SqX K H a xs:=.inl (.inl h)
theorem Inv.listX(I:Inv X pins σ H s)(h:SqX X.K H a xs):∃(its:List Value) (n:Nat),Vals xs its/\s.heap.get? a=some { cls:=.type "list",data:=.seq its.toArray n }/\xs.length<=sizeLine:=by
 rcases h with h | ⟨its,n,b,c,r⟩
 ·obtain⟨z,its,n,r,e⟩:=h.ok I.hok;exact⟨its,n,r,e,z⟩
 ·refine⟨its.toList,n,r,by simpa using I.kIn a _ b,?_⟩;have e:=r.length;simp only[Array.length_toList] at e
  lia
noncomputable def jel(K:PySem.W.Frag):R2:=λx y H Q=>∃ l b xs zs,x=.ref l/\y=.ref b/\SqX K H l xs/\SqX K H b zs/\xs.length+zs.length<=sizeLine/\∀ p,H p=none->Q (.ref p) (upd H p (.lst (xs++zs)))
theorem jc8:OpR X (binaryOp .Add) (jel X.K):=by
 intro d s σ H x y v u Q I g i h;obtain⟨l,b,t,w,rfl,rfl,j,k,z,q⟩:=h;cases g;cases i;obtain⟨c,n,r,e,_⟩:=I.listX j;obtain⟨a,A,f,m,_⟩:=I.listX k;have B:=r.length;have o:=f.length;refine PySem.P.add_list e m ?_ (by rw[N3,N3];lia);have p:c.toArray++a.toArray=(c++a).toArray:=by simp
 rw[p];exact⟨.ref _,_,I.lnew (t':=s.toks) (r.append f) (by rw[N4];lia),rfl,q _ I.fresh⟩
theorem Qm{ns:List Int}(h:PySem.W.WData.layableAll [PySem.W.WData.list (ns.map PySem.W.WData.int)]=true):∀ x∈ns,Builtin.Int.intBits x<=2 ^ 20:=by
 intro x c;have f:(PySem.W.WData.list (ns.map PySem.W.WData.int)).layable=true:=(PySem.W.layW_cons h).1;have e:PySem.W.ofPy (.list (ns.map .int))=PySem.W.WData.list (ns.map PySem.W.WData.int):=by
  have g:∀ a:List Int,PySem.W.ofPys (a.map PyData.int)=a.map PySem.W.WData.int:=by
   intro a
   induction a with
   | nil=>rfl
   | cons m a i=>simp[PySem.W.ofPys,PySem.W.ofPy,i]
  simp[PySem.W.ofPy,g]
 have b:=PySem.W.lay0_ofPy (s:=.list .int) (d:=.list (ns.map .int)) rfl (by simp[Shape.has]) (by rw[e];exact f);have j:PyData.layable0 (.list (ns.map .int))=true:=by
  simp[PyData.layableAll0] at b;exact b
 exact PyData.bits_item_of_ints j c
theorem walk_ofB{l:PySem.W.OpenLaw}{n k:Nat}{j:List Str}{Q:(Str->Option Value)->Heap->Prop}{M:World->Heap->Prop}{d:DefRec}{K:Params->PySem.W.Frag}{CX:World->CXT}{sp:World->Sp} 
  (R:l.most=some n) (A:n<=sizeLine) (B:d.params.defaults=[]) (S:Room k callerA)
  (U:∀(w:World) (h:Heap),M w h->(K w.params).In h)
  (F:∀(w:World) (mg:Str->Option Value) (fa:Addr) (h:Heap),(K w.params).In h->h.Ns mainGlobals mg->mg d.name=some (.ref fa) ->
   ∃ fd:FuncData,(∀(s:Shared) (u:Value),BindsTo s fd ⟨[u],[]⟩ [(x,u)]) /\
    ∀ base:Heap,(K w.params).In base->base.Ns mainGlobals mg->FnOk l.prog w (K w.params) mg base (CX w) k fa fd [x] (sp w))
  (C:∀(w:World) (H:Hp) (a:Addr) (ns:List Int),ns.length<=n->(∀ x∈ns,Builtin.Int.intBits x<=2 ^ 20)->jfT H->SqX (K w.params) H a (ns.map V.int)->sp w [.ref a] H (λv _=>v=.bl true) λ_ _ _=>False)
  (D:∀(w:World) (H:Hp) (s:Shared) (e:Value) (s':Shared),CX w [] H s (λ_ _ _=>False) e s'->False) :
  PySem.W.WalkO q j Q M l.row.toRowW d [] (λf vs=>PySem.call f vs):=by
 intro w s₀ X mg mb G Y fa o pm cd Z dV kV ho hd hcd N E hg args O as y z hrd I hlo;obtain rfl:dV=.none:=PySem.W.Dflts.none N B;obtain rfl:kV=.none:=PySem.W.Dflts.noKw N;obtain⟨a,vs,ns,rfl,rfl,c,p,i⟩:=Att.script_of R y I;have t:=Qm z;have J:=U w _ Y;obtain⟨fd,hb,hF⟩:=F w mg fa _ J G.T.g E;refine PySem.W.enter_call (codeAny_mono (jaj J G.T.g G.T.b G.T.builtins G.T.nolimit hg c p (N7 i A) S hF hb (λH hO hS=>C w H a ns i t hO ?_) λH e s'=>D w H X e s') λr s' hq=>?_)
 ·rcases hS with h | ⟨o,its,m,P,_,_,L,hz,r⟩
  ·exact .inl h
  ·have e:=J a o P;rw[c] at e;cases e;cases L;exact .inr ⟨_,_,P,hz,r⟩
 ·obtain⟨rfl,h2,h3,h4⟩:=hq;exact⟨.inl ⟨.bool true,.bool true,[],rfl,λ_=>rfl,.bool true,Att.post_true l _,λ_=>⟨List.Pairwise.nil,λ_ hm=>(nomatch hm)⟩⟩,h2,h3,h4⟩
noncomputable def Vq(sc:Scope)(N:List Str)(scope:Scope)(N':List Str)(ix:List (Option Nat)):Bool :=
 decide (scope.kind=.function)&&decide (sc.kind=.function)&&scope.names.all (λy=>decide (y.2≠.cell))&&scope.names.all (λy=>!decide (y.2=.local)||decide (scope.names.lookup y.1=some .local)) &&
 scope.names.all (λy=>!decide (y.2=.free)||(decide (scope.names.lookup y.1=some .free)&&(decide (sc.names.lookup y.1=some .cell)||decide (sc.names.lookup y.1=some .free))))&&decide N'.Nodup&&decide (ix.length=N'.length) &&
 (List.range ix.length).all (λi=>match ix[i]? with | some (some j)=>(match N'[i]? with | some x=>decide (N[j]?=some x)&&decide ((x,NameKind.free)∈scope.names) | none=>true) | _=>true)
theorem jbO{X:Cx}{scope:Scope}{N':List Str}{b:List (Option Nat)}(c:Scope)(N:List Str)(h1:X.env.scope=c)(h2:X.N=N)(h:Vq c N scope N' b=true):BlockOk X scope N' b:=by
 subst h1;subst h2;unfold Vq at h;simp only[M0,decide_eq_true_eq,List.all_eq_true,Bool.or_eq_true,Bool.not_eq_true',decide_eq_false_iff_not] at h;obtain⟨⟨⟨⟨⟨⟨⟨f,g⟩,k⟩,l⟩,d⟩,m⟩,n⟩,o⟩:=h;refine⟨f,k,λy a e=>?_,λy a e=>?_,λy a e=>?_,m,n,λi j x h1 h2=>?_,g⟩
 ·exact(l y a).elim (λz=>absurd e z) id
 ·exact(d y a).elim (λz=>absurd e z) λz=>z.1
 ·exact(d y a).elim (λz=>absurd e z) λz=>z.2
 ·have p:i < b.length:=(L9.mp h1).1;have z:=o i (List.mem_range.mpr p);rw[h1] at z;dsimp only at z;rw[h2] at z;dsimp only at z;simp only[M0,decide_eq_true_eq] at z;exact z
structure FnFact(K:PySem.W.Frag)(mg:Str->Option Value)(x qual:Str)(st:Stmt)(f:Addr)(fd:FuncData)(ps:List Str):Prop where
 fn:Fun K x qual st f fd
 mgf:mg x=some (.ref f)
 bd:Binds K fd ps []
section
variable {X:Cx}{k:Nat}{f:Addr}{fd:FuncData}{ps:List Str}{sp:Sp}{x qual:Str}{st:Stmt}{p pos:Pos}{e:Expr}{es:List Expr}{t:TA}
theorem jfz(F:FnFact X.K X.mg x qual st f fd ps)(G:FnOk X.prog X.w X.K X.mg X.base CX0 k f fd ps sp)(c:Room k X.A)(d:PA X (e::es) t)(g:Gl X x:=by rfl)(a:(x==("__debug__" : Str))=false:=by decide)
  (h:starEach (e::es) X.env=(false,eval e X.env)::starEach es X.env:=by rfl) (b:(backTo pos (starEach es X.env)).any (·.1)=false:=by rfl):PE X (.Call (.Name x p) (e::es) [] pos) (zZ sp [] E0 t) :=
 xI G c g F.mgf F.fn.kp F.bd .nil jfE d a h b
theorem Vy:∀(l:List (Str×Tok)),Vals (l.map λp=>V.str p.1) (strValues l)
 | []=>.nil
 | (x,t)::r=>.cons ⟨t,rfl⟩ (Vy r)
theorem jao:MtR X "str.split" (λx vs H Q=>∃ a b,x=.str a/\vs=[.str b]/\(b.length==0)=false/\a.length+2<=sizeLine/\∀ p,H p=none->Q (.ref p) (upd H p (.lst ((Txt.split a b).map V.str)))):=by
 intro c s σ H x vs v r Q I i j h;obtain⟨a,b,rfl,rfl,f,w,q⟩:=h;obtain⟨t,rfl⟩:=i;obtain⟨u,rfl,m⟩:=j.one;obtain⟨d,rfl⟩:=m;have fin:∀(l:List (Str×Tok)) (k:Nat),l.map (·.1)=Txt.split a b->l.length<=sizeLine->EP X c σ Q (.ref s.heap.objs.size) { s with toks:=k,heap:=s.heap.push { cls:=.type "list",data:=.seq (strValues l).toArray } }:=λl k e n=>by
  have o:(Txt.split a b).map V.str=l.map λp=>V.str p.1:=by
   rw[<- e,List.map_map];rfl
  refine⟨.ref s.heap.objs.size,_,I.lnew (t':=k) (Vy l) (by rw[L0];exact n),rfl,?_⟩;rw[<- o];exact q _ I.fresh
 have g:(Builtin.Str.partsBetween a (Builtin.Str.occurrences a b 0 a.length (a.length+1)) b.length).length<=sizeLine:=by
  have y:=StrLaws.occ_length_le a b 0 a.length (a.length+1);rw[length_partsBetween];lia
 cases h1:(decide (a.length < b.length)||decide (Builtin.Str.strKind a < Builtin.Str.strKind b))
 ·cases hf:(Builtin.Str.occurrences a b 0 a.length (a.length+1)).isEmpty
  ·refine call_meets F.slot_str_split (typeIs_str _ _ _) F.entry_str_split (F.args_str_split_2 _ _) (meets_str_split_sep a b t d h1 f hf (by lia) g) ?_;show EP X c σ Q (.ref s.heap.objs.size) { s with toks:=_,heap:=s.heap.push { cls:=.type "list",data:=.seq (strsFrom s.toks (Builtin.Str.partsBetween a (Builtin.Str.occurrences a b 0 a.length (a.length+1)) b.length)).toArray } };rw[strsFrom_eq];refine fin (numbered s.toks _) _ ((numbered_texts _ _).trans ((if_neg (ne_true_of_eq_false h1)).trans (if_neg (ne_true_of_eq_false hf))).symm) ?_;have e:=congrArg List.length (numbered_texts s.toks (Builtin.Str.partsBetween a (Builtin.Str.occurrences a b 0 a.length (a.length+1)) b.length));rw[L0] at e;rw[e];exact g
  ·exact call_meets F.slot_str_split (typeIs_str _ _ _) F.entry_str_split (F.args_str_split_2 _ _) (meets_str_split_not_found a b t d h1 f hf)
    (fin [(a,t)] s.toks ((if_neg (ne_true_of_eq_false h1)).trans (if_pos hf)).symm (by show 1<=sizeLine;decide))
 ·exact call_meets F.slot_str_split (typeIs_str _ _ _) F.entry_str_split (F.args_str_split_2 _ _) (meets_str_split_cannot_occur a b t d h1)
   (fin [(a,t)] s.toks (if_pos h1).symm (by show 1<=sizeLine;decide))
end
theorem uc:CallR X (.type "int") (λxs H Q=>∃ w:List Nat,xs=[.str (S w)]/\NumText.AllDigits w/\w≠[]/\w.length<=600/\Q (.int (NumText.digitsVal w:Nat)) H):=by
 intro a s σ H xs d Q I r h;obtain⟨w,rfl,hd,b,f,q⟩:=h;obtain⟨u,rfl,c⟩:=r.one;obtain⟨t,rfl⟩:=c;have e:intText? (S w)=some ((NumText.digitsVal w:Nat):Int):=by
  have z:=intText_digits (x:=S w) (by rw[yx];exact hd) (by rw[yx];exact b) (by rw[vz];lia);rw[yx] at z;exact z
 exact PySem.W.KIN.call_text e (by rw[vz];lia) ⟨.int _,H,I.tok _,⟨_,rfl⟩,q⟩
noncomputable def vJ(m:Nat):List Nat:=(Nat.toDigits 10 m).map Char.toNat
theorem jek(m:Nat):Str.ofString (toString ((m:Nat):Int))=S (vJ m):=by
 apply PyProof.Rows.ext_toList;rw[PySem.W.KIN.signs_num,yx];rfl
theorem Ve(m:Nat):NumText.digitsVal (vJ m)=m:=PySem.W.KIN.val_back m
theorem qD(a:1<=k)(b:m < 10 ^ k):(vJ m).length<=k:=by
 unfold vJ;rw[L0];exact PyProof.Rows.digits10_le a b
theorem wS(h:m < 2 ^ 200):m.log2 < 1920:=by
 by_cases a:m=0
 ·subst a;decide
 ·have:=(Nat.log2_lt a (k:=200)).mpr h
  lia
theorem Yo:CallR X (.type "str") (λxs H Q=>∃ i:Int,xs=[.int i]/\0<=i/\i < 2 ^ 200/\Q (.str (S (vJ i.toNat))) H):=by
 intro a s σ H xs b Q I r h;obtain⟨i,rfl,c,d,q⟩:=h;obtain⟨m,rfl⟩:∃ m:Nat,i=(m:Int):=⟨i.toNat,by lia⟩;rw[N8] at q;refine V7 a s σ H _ b Q I r ⟨_,rfl,wS (by lia),?_⟩;have e:=jek m;show Q (.str (Str.ofString (toString ((m:Nat):Int)))) H;rw[e];exact q
theorem J7:CallR X (.type "str") (λxs H Q=>∃ x,xs=[.str x]/\Q (.str x) H):=by
 intro a s σ H xs c Q I r h;obtain⟨x,rfl,q⟩:=h;obtain⟨u,rfl,b⟩:=r.one;obtain⟨t,rfl⟩:=b;exact PySem.P.str_of_str ⟨.str x,H,I,⟨_,rfl⟩,q⟩
theorem jbA:OpR X (binaryOp .Mult) (λx y H Q=>∃(a:List Nat) (n:Int),x=.str (S a)/\y=.int n/\a.length<=1000/\0<=n/\n<=1000/\Q (.str (S (List.replicate n.toNat a).flatten)) H):=by
 intro f s σ H x y v u Q I g i h;obtain⟨a,n,rfl,rfl,j,B,l,q⟩:=h;obtain⟨k,rfl⟩:∃ k:Nat,n=(k:Int):=⟨n.toNat,by lia⟩;have m:k<=1000:=by lia
 rw[N8] at q;obtain⟨t,rfl⟩:=g;obtain⟨o,rfl⟩:=i;have p:a.length*k<=1000*1000:=Nat.mul_le_mul j m;have hok:MulOk (S a) (k:Int):=by
  refine⟨by simp;lia,λd c=>?_,λd c=>?_⟩
  ·rw[vz];have r:(1:Int)<=k:=by lia
   have C:(1000:Int)<=(2 ^ 63 - 1) / (k:Int):=by
    rw[Int.le_ediv_iff_mul_le (by lia)];have:(1000:Int)*k<=1000*1000:=by lia
    lia
   lia
  ·rw[vz,N8];unfold Builtin.Str.tooLong;have r:a.length*k<=sizeLine:=N7 p (by decide);exact U8 (by lia)
 have e:Txt.mul (S a) (k:Int)=S (List.replicate k a).flatten:=by
  have w:∀(n:Nat) (b:Array Nat),((List.replicate n a.toArray).foldl (·++·) b).toList=b.toList++(List.replicate n a).flatten:=by
   intro n
   induction n with
   | zero=>intro b;simp
   | succ n A=>intro b;rw[List.replicate_succ,List.foldl_cons,A];simp[List.replicate_succ]
  unfold Txt.mul;apply PyProof.Rows.ext_toList;rw[yx];by_cases d:(k:Int) < 1
  ·have:k=0:=by lia
   subst this;simp[Str.empty]
  ·rw[if_neg d];by_cases c:((k:Int)==1||(S a).length==0)=true
   ·rw[if_pos c,yx];rw[vz] at c;simp at c;rcases c with z | z
    ·have:k=1:=by lia
     subst this;simp
    ·subst z;simp
   ·rw[if_neg c,N8];have z:=w k #[];simp only[X1] at z;exact z
 refine SB.mul hok λo D=>?_;rw[e];exact⟨.str _,H,I.tok _,⟨_,rfl⟩,q⟩
end L2
namespace QD
open PySem L2
inductive KA where
 | int (i:Int) | str (s:List Nat)
 deriving DecidableEq
inductive D where
 | non | bl (b:Bool) | int (i:Int) | str (s:List Nat)
 | tup (l:List D) | lst (o:Bool) (l:List D)
 | dK (o:Bool) (ks:List KA) (l:List D)
 | dT (o:Bool) (ks:List (List KA)) (l:List D)
 | ins (o:Bool) (c:Nat) (ns:List Str) (l:List D)
 | dead
  | exc (c:Nat) (p:Int)
def xo(C a dx:Addr):Heap->Prop:=λh=>∃ o vs,h.get? a=some o/\o.cls=.ref C/\o.dict=some dx/\o.data=.fields vs
mutual
noncomputable def fz:D->D
 | .tup l=>.tup (fzs l)
 | .lst _ l=>.lst false (fzs l)
 | .dK _ ks l=>.dK false ks (fzs l)
 | .dT _ ks l=>.dT false ks (fzs l)
 | .ins _ c ns l=>.ins false c ns (fzs l)
 | .non=>.non | .bl b=>.bl b | .int i=>.int i | .str s=>.str s | .dead=>.dead | .exc c p=>.exc c p
noncomputable def fzs:List D->List D
 | []=>[]
 | d::l=>fz d::fzs l
end
mutual
noncomputable def frz:D->Bool
 | .tup l=>frzs l
 | .lst o l=>!o&&frzs l
 | .dK o _ l=>!o&&frzs l
 | .dT o _ l=>!o&&frzs l
 | .ins o _ _ l=>!o&&frzs l
 | .non=>true | .bl _=>true | .int _=>true | .str _=>true | .dead=>true | .exc _ _=>true
noncomputable def frzs:List D->Bool
 | []=>true
 | d::l=>frz d&&frzs l
end
mutual
theorem jbm:∀ d:D,frz d=true->fz d=d
 | .tup l,h=>by rw[frz] at h;rw[fz,yW l h]
 | .lst o l,h=>by rw[frz,M0] at h;rw[fz,yW l h.2];cases o<;>simp_all
 | .dK o ks l,h=>by rw[frz,M0] at h;rw[fz,yW l h.2];cases o<;>simp_all
 | .dT o ks l,h=>by rw[frz,M0] at h;rw[fz,yW l h.2];cases o<;>simp_all
 | .ins o c ns l,h=>by rw[frz,M0] at h;rw[fz,yW l h.2];cases o<;>simp_all
 | .non,_=>rfl | .bl _,_=>rfl | .int _,_=>rfl | .str _,_=>rfl | .dead,_=>rfl | .exc _ _,_=>rfl
theorem yW:∀ l:List D,frzs l=true->fzs l=l
 | [],_=>rfl
 | d::l,h=>by rw[frzs,M0] at h;rw[fzs,jbm d h.1,yW l h.2]
end
mutual
theorem jd8:∀ d:D,frz (fz d)=true
 | .tup l=>by rw[fz,frz];exact kj l
 | .lst o l=>by rw[fz,frz,kj l];rfl
 | .dK o ks l=>by rw[fz,frz,kj l];rfl
 | .dT o ks l=>by rw[fz,frz,kj l];rfl
 | .ins o c ns l=>by rw[fz,frz,kj l];rfl
 | .non=>rfl | .bl _=>rfl | .int _=>rfl | .str _=>rfl | .dead=>rfl | .exc _ _=>rfl
theorem kj:∀ l:List D,frzs (fzs l)=true
 | []=>rfl
 | d::l=>by rw[fzs,frzs,jd8 d,kj l];rfl
end
theorem vn:∀ l:List D,fzs l=l.map fz
 | []=>rfl
 | d::l=>by rw[fzs,vn l];rfl
theorem Y8:∀ l:List D,frzs l=l.all frz
 | []=>rfl
 | d::l=>by rw[frzs,Y8 l];rfl
structure RC where
 K:PySem.W.Frag
 cls:Nat->Addr
noncomputable def kaV:KA->Key
 | .int i=>.inl i
 | .str s=>.inr (S s)
noncomputable abbrev Zn:=Addr->Prop
def FT(R:RC)(Z:Zn)(H:Hp)(a:Addr)(vs:List V):Prop :=
 (Z a/\Rd H a (.tup vs)) \/ ∃(o:Obj) (its:Array Value) (n:Nat),R.K.lookup a=some o/\o.cls=.type "tuple"/\o.data=.seq its n/\its.size<=sizeLine/\Vals vs its.toList/\o.dict=none
def FL(R:RC)(Z:Zn)(H:Hp)(a:Addr)(vs:List V):Prop :=
 (Z a/\Rd H a (.lst vs)) \/ ∃(its:Array Value) (n:Nat),R.K.lookup a=some { cls:=.type "list",data:=.seq its n }/\its.size<=sizeLine/\Vals vs its.toList
def DkA(o:Bool)(H:Hp)(a:Addr)(kvs:List (Key×V)):Prop:=bif o then H a=some (.dK kvs) else Rd H a (.dK kvs)
mutual
def Rep(R:RC)(Z:Zn)(H:Hp):D->V->List Addr->Prop
 | .non,v,O=>v=.non/\O=[]
 | .bl b,v,O=>v=.bl b/\O=[]
 | .int i,v,O=>v=.int i/\O=[]
 | .str s,v,O=>v=.str (S s)/\O=[]
 | .dead,_,O=>O=[]
 | .exc c p,v,O=>∃ a dx,v=.ref a/\Z a/\Z dx/\H a=some (.ext (xo (R.cls c) a dx))/\H dx=some (.xd [("place",.int p)])/\O=[]
 | .tup l,v,O=>∃ a vs,v=.ref a/\FT R Z H a vs/\Reps R Z H l vs O
 | .lst o l,v,O=>∃ a vs O',v=.ref a/\Reps R Z H l vs O'/\bif o then H a=some (.lst vs)/\O=a::O' else FL R Z H a vs/\O'=[]/\O=[]
 | .dK o ks l,v,O=>∃ a vs O',v=.ref a/\Reps R Z H l vs O'/\ks.length=l.length/\DkA o H a ((ks.map kaV).zip vs)/\bif o then O=a::O' else Z a/\O'=[]/\O=[]
 | .dT o ks l,v,O=>∃ a vs O',v=.ref a/\Reps R Z H l vs O'/\ks.length=l.length/\H a=some (.dT ((ks.map (List.map kaV)).zip vs))/\bif o then O=a::O' else Z a/\O'=[]/\O=[]
 | .ins o c ns l,v,O=>∃ a dx vs O',v=.ref a/\Reps R Z H l vs O'/\ns.length=l.length/\H a=some (.ins (R.cls c) dx (ns.zip vs))/\bif o then O=a::O' else Z a/\O'=[]/\O=[]
def Reps(R:RC)(Z:Zn)(H:Hp):List D->List V->List Addr->Prop
 | [],vs,O=>vs=[]/\O=[]
 | d::ds,vs,O=>∃ v vs' O1 O2,vs=v::vs'/\O=O1++O2/\Rep R Z H d v O1/\Reps R Z H ds vs' O2
end
section
variable {R:RC}{Z Z':Zn}{H H':Hp}
theorem FT.sq{a:Addr}{vs:List V}(h:FT R Z H a vs):SqT R.K H a vs:=by
 rcases h with⟨_,h⟩ | ⟨o,b,n,c,d,e,f,g,_⟩
 ·exact .inl h
 ·exact .inr ⟨o,b,n,c,d,e,f,g⟩
theorem FL.sqx{a:Addr}{vs:List V}(h:FL R Z H a vs):SqX R.K H a vs:=by
 rcases h with⟨_,h⟩ | h
 ·exact .inl h
 ·exact .inr h
theorem FL.sq{a:Addr}{vs:List V}(h:FL R Z H a vs):SqL R.K H a vs:=h.sqx.sq
theorem Rd.agree{a:Addr}{u:HO}(e:H' a=H a)(h:Rd H a u):Rd H' a u:=by
 unfold Rd at h ⊢;rw[e];exact h
theorem FT.frame{a:Addr}{vs:List V}(b:∀ a,Z a->Z' a)(c:∀ a,Z a->H' a=H a)(h:FT R Z H a vs):FT R Z' H' a vs:=by
 rcases h with⟨z,h⟩ | h
 ·exact .inl ⟨b a z,Rd.agree (c a z) h⟩
 ·exact .inr h
theorem FL.frame{a:Addr}{vs:List V}(b:∀ a,Z a->Z' a)(c:∀ a,Z a->H' a=H a)(h:FL R Z H a vs):FL R Z' H' a vs:=by
 rcases h with⟨z,h⟩ | h
 ·exact .inl ⟨b a z,Rd.agree (c a z) h⟩
 ·exact .inr h
mutual
theorem Rep.frame(hz:∀ a,Z a->Z' a)(hH:∀ a,Z a->H' a=H a):∀{d:D}{v:V}{O:List Addr},Rep R Z H d v O->(∀ a∈O,H' a=H a)->Rep R Z' H' d v O
 | .non,_,_,h,_=>by rw[Rep] at h ⊢;exact h
 | .bl _,_,_,h,_=>by rw[Rep] at h ⊢;exact h
 | .int _,_,_,h,_=>by rw[Rep] at h ⊢;exact h
 | .str _,_,_,h,_=>by rw[Rep] at h ⊢;exact h
 | .dead,_,_,h,_=>by rw[Rep] at h ⊢;exact h
 | .exc _ _,_,_,h,_=>by
  rw[Rep] at h ⊢;obtain⟨a,dx,e,z1,z2,h1,h2,h3⟩:=h;exact⟨a,dx,e,hz a z1,hz dx z2,(hH a z1).trans h1,(hH dx z2).trans h2,h3⟩
 | .tup l,_,_,h,hO=>by
  rw[Rep] at h ⊢;obtain⟨a,vs,e,t,r⟩:=h;exact⟨a,vs,e,t.frame hz hH,Reps.frame hz hH r hO⟩
 | .lst o l,_,_,h,hO=>by
  rw[Rep] at h ⊢;obtain⟨a,vs,O',e,r,h⟩:=h;cases o with
  | true =>
   obtain⟨h1,rfl⟩:=h;exact⟨a,vs,O',e,Reps.frame hz hH r λb hb=>hO b (L6 _ hb),by rw[cond_true,hO a L7];exact⟨h1,rfl⟩⟩
  | false =>
   obtain⟨h1,rfl,rfl⟩:=h;exact⟨a,vs,[],e,Reps.frame hz hH r (λb hb=>nomatch hb),h1.frame hz hH,rfl,rfl⟩
 | .dK o ks l,_,_,h,hO=>by
  rw[Rep] at h ⊢;obtain⟨a,vs,O',e,r,hl,hd,h⟩:=h;cases o with
  | true =>
   have h:=(show _=_ from h);subst h;exact⟨a,vs,O',e,Reps.frame hz hH r λb hb=>hO b (L6 _ hb),hl,by show H' a=some _;rw[hO a L7];exact hd,rfl⟩
  | false =>
   obtain⟨h1,rfl,rfl⟩:=h;exact⟨a,vs,[],e,Reps.frame hz hH r (λb hb=>nomatch hb),hl,Rd.agree (hH a h1) hd,hz a h1,rfl,rfl⟩
 | .dT o ks l,_,_,h,hO=>by
  rw[Rep] at h ⊢;obtain⟨a,vs,O',e,r,hl,hd,h⟩:=h;cases o with
  | true =>
   have h:=(show _=_ from h);subst h;exact⟨a,vs,O',e,Reps.frame hz hH r λb hb=>hO b (L6 _ hb),hl,by rw[hO a L7];exact hd,rfl⟩
  | false =>
   obtain⟨h1,rfl,rfl⟩:=h;exact⟨a,vs,[],e,Reps.frame hz hH r (λb hb=>nomatch hb),hl,by rw[hH a h1];exact hd,hz a h1,rfl,rfl⟩
 | .ins o c ns l,_,_,h,hO=>by
  rw[Rep] at h ⊢;obtain⟨a,dx,vs,O',e,r,hl,hd,h⟩:=h;cases o with
  | true =>
   have h:=(show _=_ from h);subst h;exact⟨a,dx,vs,O',e,Reps.frame hz hH r λb hb=>hO b (L6 _ hb),hl,by rw[hO a L7];exact hd,rfl⟩
  | false =>
   obtain⟨h1,rfl,rfl⟩:=h;exact⟨a,dx,vs,[],e,Reps.frame hz hH r (λb hb=>nomatch hb),hl,by rw[hH a h1];exact hd,hz a h1,rfl,rfl⟩
theorem Reps.frame(hz:∀ a,Z a->Z' a)(hH:∀ a,Z a->H' a=H a):∀{l:List D}{vs:List V}{O:List Addr},Reps R Z H l vs O->(∀ a∈O,H' a=H a)->Reps R Z' H' l vs O
 | [],_,_,h,_=>by rw[Reps] at h ⊢;exact h
 | d::l,_,_,h,hO=>by
  rw[Reps] at h ⊢;obtain⟨v,vs,O1,O2,e,rfl,r1,r2⟩:=h;exact⟨v,vs,O1,O2,e,rfl,Rep.frame hz hH r1 λa ha=>hO a (List.mem_append_left _ ha),Reps.frame hz hH r2 λa ha=>hO a (U2 _ ha)⟩
end
mutual
theorem Rep.nil:∀{d:D}{v:V}{O:List Addr},Rep R Z H d v O->frz d=true->O=[]
 | .non,_,_,h,_=>by rw[Rep] at h;exact h.2
 | .bl _,_,_,h,_=>by rw[Rep] at h;exact h.2
 | .int _,_,_,h,_=>by rw[Rep] at h;exact h.2
 | .str _,_,_,h,_=>by rw[Rep] at h;exact h.2
 | .dead,_,_,h,_=>by rw[Rep] at h;exact h
 | .exc _ _,_,_,h,_=>by rw[Rep] at h;obtain⟨_,_,_,_,_,_,_,h⟩:=h;exact h
 | .tup l,_,_,h,f=>by
  rw[Rep] at h;rw[frz] at f;obtain⟨a,vs,e,t,r⟩:=h;exact Reps.nil r f
 | .lst o l,_,_,h,f=>by
  rw[Rep] at h;rw[frz] at f;obtain⟨a,vs,O',e,r,h⟩:=h;cases o with
  | true=>exact absurd f (by simp)
  | false=>exact h.2.2
 | .dK o ks l,_,_,h,f=>by
  rw[Rep] at h;rw[frz] at f;obtain⟨a,vs,O',e,r,hl,hd,h⟩:=h;cases o with
  | true=>exact absurd f (by simp)
  | false=>exact h.2.2
 | .dT o ks l,_,_,h,f=>by
  rw[Rep] at h;rw[frz] at f;obtain⟨a,vs,O',e,r,hl,hd,h⟩:=h;cases o with
  | true=>exact absurd f (by simp)
  | false=>exact h.2.2
 | .ins o c ns l,_,_,h,f=>by
  rw[Rep] at h;rw[frz] at f;obtain⟨a,dx,vs,O',e,r,hl,hd,h⟩:=h;cases o with
  | true=>exact absurd f (by simp)
  | false=>exact h.2.2
theorem Reps.nil:∀{l:List D}{vs:List V}{O:List Addr},Reps R Z H l vs O->frzs l=true->O=[]
 | [],_,_,h,_=>by rw[Reps] at h;exact h.2
 | d::l,_,_,h,f=>by
  rw[Reps] at h;rw[frzs,M0] at f;obtain⟨v,vs,O1,O2,e,rfl,r1,r2⟩:=h;rw[Rep.nil r1 f.1,Reps.nil r2 f.2];rfl
end
mutual
theorem Rep.freeze:∀{d:D}{v:V}{O:List Addr},Rep R Z H d v O->(∀ a,Z a->Z' a)->(∀ a∈O,Z' a)->Rep R Z' H (fz d) v []
 | .non,_,_,h,_,_=>by rw[Rep] at h;rw[fz,Rep];exact⟨h.1,rfl⟩
 | .bl _,_,_,h,_,_=>by rw[Rep] at h;rw[fz,Rep];exact⟨h.1,rfl⟩
 | .int _,_,_,h,_,_=>by rw[Rep] at h;rw[fz,Rep];exact⟨h.1,rfl⟩
 | .str _,_,_,h,_,_=>by rw[Rep] at h;rw[fz,Rep];exact⟨h.1,rfl⟩
 | .dead,_,_,h,_,_=>by rw[fz,Rep]
 | .exc _ _,_,_,h,hz,_=>by
  rw[Rep] at h;rw[fz,Rep];obtain⟨a,dx,e,z1,z2,h1,h2,_⟩:=h;exact⟨a,dx,e,hz a z1,hz dx z2,h1,h2,rfl⟩
 | .tup l,_,_,h,hz,hO=>by
  rw[Rep] at h;rw[fz,Rep];obtain⟨a,vs,e,t,r⟩:=h;exact⟨a,vs,e,t.frame hz λ_ _=>rfl,Reps.freeze r hz hO⟩
 | .lst o l,_,_,h,hz,hO=>by
  rw[Rep] at h;rw[fz,Rep];obtain⟨a,vs,O',e,r,h⟩:=h;cases o with
  | true =>
   obtain⟨h1,rfl⟩:=h;exact⟨a,vs,[],e,Reps.freeze r hz λb hb=>hO b (L6 _ hb),.inl ⟨hO a L7,.inl h1⟩,rfl,rfl⟩
  | false =>
   obtain⟨h1,rfl,rfl⟩:=h;exact⟨a,vs,[],e,Reps.freeze r hz (λb hb=>nomatch hb),h1.frame hz (λ_ _=>rfl),rfl,rfl⟩
 | .dK o ks l,_,_,h,hz,hO=>by
  rw[Rep] at h;rw[fz,Rep];obtain⟨a,vs,O',e,r,hl,hd,h⟩:=h;have hl':ks.length=(fzs l).length:=by rw[vn,L0];exact hl
  cases o with
  | true =>
   have h:=(show _=_ from h);subst h;exact⟨a,vs,[],e,Reps.freeze r hz λb hb=>hO b (L6 _ hb),hl',.inl hd,hO a L7,rfl,rfl⟩
  | false =>
   obtain⟨h1,rfl,rfl⟩:=h;exact⟨a,vs,[],e,Reps.freeze r hz (λb hb=>nomatch hb),hl',hd,hz a h1,rfl,rfl⟩
 | .dT o ks l,_,_,h,hz,hO=>by
  rw[Rep] at h;rw[fz,Rep];obtain⟨a,vs,O',e,r,hl,hd,h⟩:=h;have hl':ks.length=(fzs l).length:=by rw[vn,L0];exact hl
  cases o with
  | true =>
   have h:=(show _=_ from h);subst h;exact⟨a,vs,[],e,Reps.freeze r hz λb hb=>hO b (L6 _ hb),hl',hd,hO a L7,rfl,rfl⟩
  | false =>
   obtain⟨h1,rfl,rfl⟩:=h;exact⟨a,vs,[],e,Reps.freeze r hz (λb hb=>nomatch hb),hl',hd,hz a h1,rfl,rfl⟩
 | .ins o c ns l,_,_,h,hz,hO=>by
  rw[Rep] at h;rw[fz,Rep];obtain⟨a,dx,vs,O',e,r,hl,hd,h⟩:=h;have hl':ns.length=(fzs l).length:=by rw[vn,L0];exact hl
  cases o with
  | true =>
   have h:=(show _=_ from h);subst h;exact⟨a,dx,vs,[],e,Reps.freeze r hz λb hb=>hO b (L6 _ hb),hl',hd,hO a L7,rfl,rfl⟩
  | false =>
   obtain⟨h1,rfl,rfl⟩:=h;exact⟨a,dx,vs,[],e,Reps.freeze r hz (λb hb=>nomatch hb),hl',hd,hz a h1,rfl,rfl⟩
theorem Reps.freeze:∀{l:List D}{vs:List V}{O:List Addr},Reps R Z H l vs O->(∀ a,Z a->Z' a)->(∀ a∈O,Z' a)->Reps R Z' H (fzs l) vs []
 | [],_,_,h,_,_=>by rw[Reps] at h;rw[fzs,Reps];exact⟨h.1,rfl⟩
 | d::l,_,_,h,hz,hO=>by
  rw[Reps] at h;rw[fzs,Reps];obtain⟨v,vs,O1,O2,e,rfl,r1,r2⟩:=h;exact⟨v,vs,[],[],e,rfl,Rep.freeze r1 hz λa ha=>hO a (List.mem_append_left _ ha),Reps.freeze r2 hz λa ha=>hO a (U2 _ ha)⟩
end
theorem Reps.length:∀{l:List D}{vs:List V}{O:List Addr},Reps R Z H l vs O->vs.length=l.length
 | [],_,_,h=>by rw[Reps] at h;rw[h.1];rfl
 | d::l,_,_,h=>by
  rw[Reps] at h;obtain⟨v,vs,b,c,rfl,rfl,e,a⟩:=h;rw[M3,M3,Reps.length a]
theorem Reps.append:∀{l m:List D}{vs ws:List V}{O P:List Addr},Reps R Z H l vs O->Reps R Z H m ws P->Reps R Z H (l++m) (vs++ws) (O++P)
 | [],m,_,_,_,_,h,k=>by rw[Reps] at h;obtain⟨rfl,rfl⟩:=h;exact k
 | d::l,m,_,_,_,_,h,k=>by
  rw[Reps] at h;obtain⟨v,vs,a,e,rfl,rfl,b,c⟩:=h;rw[List.cons_append,Reps];exact⟨v,_,a,_,rfl,List.append_assoc ..,b,Reps.append c k⟩
theorem Reps.one{d:D}{v:V}{O:List Addr}(h:Rep R Z H d v O):Reps R Z H [d] [v] O:=by
 rw[Reps];exact⟨v,[],O,[],rfl,(N0 O).symm,h,by rw[Reps];exact⟨rfl,rfl⟩⟩
theorem Reps.cons{d:D}{v:V}{O P:List Addr}{l:List D}{vs:List V}(h:Rep R Z H d v O)(k:Reps R Z H l vs P):Reps R Z H (d::l) (v::vs) (O++P):=by
 rw[Reps];exact⟨v,vs,O,P,rfl,rfl,h,k⟩
theorem Reps.empty:Reps R Z H [] [] []:=by rw[Reps];exact⟨rfl,rfl⟩
theorem Reps.at:∀{l:List D}{vs:List V}{O:List Addr}{i:Nat}{d:D},Reps R Z H l vs O->l[i]?=some d ->
  ∃ v A P B,vs[i]?=some v/\O=A++P++B/\Rep R Z H d v P/\∀{Z':Zn}{H':Hp}{d':D}{v':V}{P':List Addr},Rep R Z' H' d' v' P'->(∀ a,Z a->Z' a)->(∀ a,Z a->H' a=H a)->(∀ a∈A,H' a=H a)->(∀ a∈B,H' a=H a)->Reps R Z' H' (l.set i d') (vs.set i v') (A++P'++B)
 | [],_,_,_,_,_,e=>by simp at e
 | c::l,_,_,0,d,h,e=>by
  rw[Reps] at h;obtain⟨v,vs,b,j,rfl,rfl,m,n⟩:=h;have e:c=d:=by simpa using e
  subst e;refine⟨v,[],b,j,rfl,rfl,m,λr f g o p=>?_⟩;rw[List.set_cons_zero,List.set_cons_zero,Reps];exact⟨_,vs,_,j,rfl,rfl,r,Reps.frame f g n p⟩
 | c::l,_,_,i+1,d,h,e=>by
  rw[Reps] at h;obtain⟨v,vs,b,j,rfl,rfl,m,n⟩:=h;obtain⟨w,A,P,B,s,rfl,t,k⟩:=Reps.at (i:=i) (d:=d) n (by simpa using e);refine⟨w,b++A,P,B,by simpa using s,by simp,t,λ{Z' H' d' v' P'} r f g o p=>?_⟩;rw[List.set_cons_succ,List.set_cons_succ,Reps];exact⟨v,_,b,A++P'++B,rfl,by simp,Rep.frame f g m λa q=>o a (List.mem_append_left _ q),k r f g (λa q=>o a (U2 _ q)) p⟩
theorem Reps.item{l:List D}{vs:List V}{i:Nat}{d:D}(h:Reps R Z H l vs [])(e:l[i]?=some d):∃ v,vs[i]?=some v/\Rep R Z H d v []:=by
 obtain⟨v,A,P,B,a,b,r,_⟩:=h.at e;have:P=[]:=by
  have:=congrArg List.length b;simp at this;exact List.eq_nil_of_length_eq_zero (by omega)
 subst this;exact⟨v,a,r⟩
theorem Reps.take:∀{l:List D}{vs:List V}(n:Nat),Reps R Z H l vs []->Reps R Z H (l.take n) (vs.take n) []
 | _,_,0,_=>by simp;exact .empty
 | [],_,n+1,h=>by rw[Reps] at h;rw[h.1];exact .empty
 | d::l,_,n+1,h=>by
  rw[Reps] at h;obtain⟨v,vs,c,f,rfl,e,a,b⟩:=h;obtain⟨rfl,rfl⟩:=List.append_eq_nil_iff.mp e.symm;rw[List.take_succ_cons,List.take_succ_cons];exact .cons a (Reps.take n b)
theorem Reps.drop:∀{l:List D}{vs:List V}(n:Nat),Reps R Z H l vs []->Reps R Z H (l.drop n) (vs.drop n) []
 | _,_,0,h=>h
 | [],_,n+1,h=>by rw[Reps] at h;rw[h.1];exact .empty
 | d::l,_,n+1,h=>by
  rw[Reps] at h;obtain⟨v,vs,b,c,rfl,e,f,a⟩:=h;obtain⟨rfl,rfl⟩:=List.append_eq_nil_iff.mp e.symm;rw[List.drop_succ_cons,List.drop_succ_cons];exact Reps.drop n a
structure WF(Z:Zn)(H:Hp)(O:List Addr):Prop where
 nd:O.Nodup
 nz:∀ a∈O,¬ Z a
 od:∀ a∈O,H a≠none
 zd:∀ a,Z a->H a≠none
structure Go(Z:Zn)(H:Hp)(O:List Addr)(Z':Zn)(H':Hp)(O':List Addr):Prop where
 wf:WF Z' H' O'
 zz:∀ a,Z a->Z' a
 fr:∀ a,H a≠none->a∉O->H' a=H a
 zn:∀ a,Z' a->Z a \/ a∈O \/ H a=none
 sub:∀ a∈O',a∈O \/ H a=none
 dm:∀ a,H a≠none->H' a≠none
variable {O O' O'' A B:List Addr}{Z'':Zn}{H'':Hp}
theorem Go.refl(w:WF Z H O):Go Z H O Z H O:=⟨w,λ_ z=>z,λ_ _ _=>rfl,λ_ z=>.inl z,λ_ h=>.inl h,λ_ h=>h⟩
theorem Go.trans(g:Go Z H O Z' H' O')(k:Go Z' H' O' Z'' H'' O''):Go Z H O Z'' H'' O'':=by
 refine⟨k.wf,λa z=>k.zz a (g.zz a z),λa h n=>?_,λa z=>?_,λa h=>?_,λa h=>k.dm a (g.dm a h)⟩
 ·rw[k.fr a (g.dm a h) λb=>(g.sub a b).elim n λe=>h e,g.fr a h n]
 ·rcases k.zn a z with z | z | z
  ·exact g.zn a z
  ·rcases g.sub a z with q | q
   ·exact .inr (.inl q)
   ·exact .inr (.inr q)
  ·by_cases h:H a=none
   ·exact .inr (.inr h)
   ·exact absurd z (g.dm a h)
 ·rcases k.sub a h with q | q
  ·exact g.sub a q
  ·by_cases h:H a=none
   ·exact .inr h
   ·exact absurd q (g.dm a h)
theorem Go.zH(w:WF Z H O)(g:Go Z H O Z' H' O'):∀ a,Z a->H' a=H a:=λa z=>g.fr a (w.zd a z) λh=>w.nz a h z
theorem WF.sub(w:WF Z H O)(h:∀ a∈O',a∈O)(n:O'.Nodup):WF Z H O':=⟨n,λa z=>w.nz a (h a z),λa z=>w.od a (h a z),w.zd⟩
theorem WF.mid(w:WF Z H (A++O++B)):WF Z H O:=w.sub (λa h=>by simp[h]) (by have:=w.nd;simp[U6] at this;exact this.2.1.1)
theorem Go.frame(w:WF Z H (A++O++B))(g:Go Z H O Z' H' O'):Go Z H (A++O++B) Z' H' (A++O'++B):=by
 have nd:=w.nd;simp only[U6,N2] at nd;have new:∀ a∈O',a∉A/\a∉B:=λa h=>by
  rcases g.sub a h with q | q
  ·exact⟨λz=>nd.1.2.2 a z a q rfl,λz=>nd.2.2 a (.inr q) a z rfl⟩
  ·exact⟨λz=>w.od a (by simp[z]) q,λz=>w.od a (by simp[z]) q⟩
 have keep:∀ a,a∈A \/ a∈B->a∉O:=λa h z=>by
  rcases h with h | h
  ·exact nd.1.2.2 a h a z rfl
  ·exact nd.2.2 a (.inr z) a h rfl
 refine⟨⟨?_,λa h z=>?_,λa h=>?_,g.wf.zd⟩,g.zz,λa h n=>?_,λa z=>?_,λa h=>?_,g.dm⟩
 ·simp only[U6,N2];exact⟨⟨nd.1.1,g.wf.nd,λa h b k e=>(new b k).1 (e▸h)⟩,nd.2.1,λa h b k e=>by
   rcases h with h | h
   ·exact nd.2.2 a (.inl h) b k e
   ·exact(new a h).2 (e▸k)⟩
 ·simp only[N2] at h;rcases h with(h | h) | h
  ·rcases g.zn a z with q | q | q
   ·exact w.nz a (by simp[h]) q
   ·exact keep a (.inl h) q
   ·exact w.od a (by simp[h]) q
  ·exact g.wf.nz a h z
  ·rcases g.zn a z with q | q | q
   ·exact w.nz a (by simp[h]) q
   ·exact keep a (.inr h) q
   ·exact w.od a (by simp[h]) q
 ·simp only[N2] at h;rcases h with(h | h) | h
  ·exact g.dm a (w.od a (by simp[h]))
  ·exact g.wf.od a h
  ·exact g.dm a (w.od a (by simp[h]))
 ·simp only[N2,not_or] at n;exact g.fr a h n.1.2
 ·rcases g.zn a z with q | q | q
  ·exact .inl q
  ·exact .inr (.inl (by simp[q]))
  ·exact .inr (.inr q)
 ·simp only[N2] at h ⊢;rcases h with(h | h) | h
  ·exact .inl (.inl (.inl h))
  ·rcases g.sub a h with q | q
   ·exact .inl (.inl (.inr q))
   ·exact .inr q
  ·exact .inl (.inr h)
theorem Go.drop(g:Go Z H O Z' H' O')(h:∀ a∈O'',a∈O')(n:O''.Nodup):Go Z H O Z' H' O'':=⟨g.wf.sub h n,g.zz,g.fr,g.zn,λa q=>g.sub a (h a q),g.dm⟩
theorem Go.dropR(g:Go Z H O Z' H' (A++B)):Go Z H O Z' H' A:=g.drop (λa h=>by simp[h]) (U6.mp g.wf.nd).1
theorem Go.freeze(w:WF Z H O):Go Z H O (λa=>Z a \/ a∈O) H [] :=
 ⟨⟨List.nodup_nil,λa h=>(nomatch h),λa h=>(nomatch h),λa h=>h.elim (w.zd a) (w.od a)⟩,λa z=>.inl z,λ_ _ _=>rfl,λa z=>z.elim .inl λq=>.inr (.inl q),λa h=>(nomatch h),λ_ h=>h⟩
theorem Go.newF{p:Addr}{o:HO}(w:WF Z H O)(hp:H p=none):Go Z H O (λa=>Z a \/ a=p) (upd H p o) O:=by
 have ne:∀ a,H a≠none->a≠p:=λa h e=>h (e▸hp);refine⟨⟨w.nd,λa h z=>z.elim (w.nz a h) (ne a (w.od a h)),λa h=>?_,λa z=>?_⟩,λa z=>.inl z,λa h _=>jh (ne a h),λa z=>z.elim .inl λe=>.inr (.inr (e▸hp)),λa h=>.inl h,λa h=>?_⟩
 ·rw[jh (ne a (w.od a h))];exact w.od a h
 ·by_cases e:a=p
  ·rw[e,jz];exact λh=>nomatch h
  ·rw[jh e];exact w.zd a (z.resolve_right e)
 ·rw[jh (ne a h)];exact h
theorem Go.newO{p:Addr}{o:HO}(w:WF Z H O)(hp:H p=none):Go Z H O Z (upd H p o) (p::O):=by
 have ne:∀ a,H a≠none->a≠p:=λa h e=>h (e▸hp);refine⟨⟨List.nodup_cons.mpr ⟨λh=>w.od p h hp,w.nd⟩,λa h z=>?_,λa h=>?_,λa z=>?_⟩,λa z=>z,λa h _=>jh (ne a h),λa z=>.inl z,λa h=>?_,λa h=>?_⟩
 ·rcases M5.mp h with e | e
  ·exact w.zd a z (e▸hp)
  ·exact w.nz a e z
 ·rcases M5.mp h with e | e
  ·rw[e,jz];exact λh=>nomatch h
  ·rw[jh (ne a (w.od a e))];exact w.od a e
 ·rw[jh (ne a (w.zd a z))];exact w.zd a z
 ·rcases M5.mp h with e | e
  ·exact .inr (e▸hp)
  ·exact .inl e
 ·rw[jh (ne a h)];exact h
theorem Go.put{p:Addr}{o:HO}(w:WF Z H O)(hp:p∈O):Go Z H O Z (upd H p o) O:=by
 have b:∀ a,upd H p o a=none->a≠p/\H a=none:=λa h=>by
  by_cases e:a=p
  ·rw[e,jz] at h;cases h
  ·rw[jh e] at h;exact⟨e,h⟩
 exact⟨⟨w.nd,w.nz,λa h z=>w.od a h (b a z).2,λa z e=>w.zd a z (b a e).2⟩,λa z=>z,λa h n=>jh λe=>n (e▸hp),λa z=>.inl z,λa h=>.inl h,λa h z=>h (b a z).2⟩
end
noncomputable abbrev Rh:=List (Option D)
def Slots(R:RC)(Z:Zn)(H:Hp):Rh->St->List Addr->Prop
 | [],σ,O=>σ=[]/\O=[]
 | none::ρ,σ,O=>∃ s σ',σ=s::σ'/\Slots R Z H ρ σ' O
 | some d::ρ,σ,O=>∃ v σ' O1 O2,σ=some v::σ'/\O=O1++O2/\Rep R Z H d v O1/\Slots R Z H ρ σ' O2
theorem Slots.frame(c:∀ a,Z a->Z' a)(f:∀ a,Z a->H' a=H a):∀{ρ:Rh}{σ:St}{O:List Addr},Slots R Z H ρ σ O->(∀ a∈O,H' a=H a)->Slots R Z' H' ρ σ O
 | [],_,_,h,_=>h
 | none::ρ,_,_,h,b=>by
  obtain⟨s,g,e,r⟩:=h;exact⟨s,g,e,Slots.frame c f r b⟩
 | some d::ρ,_,_,h,b=>by
  obtain⟨v,g,j,k,e,rfl,l,m⟩:=h;exact⟨v,g,j,k,e,rfl,l.frame c f λa i=>b a (List.mem_append_left _ i),Slots.frame c f m λa i=>b a (U2 _ i)⟩
theorem Slots.put:∀{ρ:Rh}{σ:St}{O:List Addr}{i:Nat},Slots R Z H ρ σ O->i < ρ.length->∃ A P B,O=A++P++B /\
  (∀ d,ρ[i]?=some (some d)->∃ v,σ[i]?=some (some v)/\Rep R Z H d v P) /\
  (∀{Z':Zn}{H':Hp}{d':D}{v':V}{P':List Addr},Rep R Z' H' d' v' P'->(∀ a,Z a->Z' a)->(∀ a,Z a->H' a=H a)->(∀ a∈A,H' a=H a)->(∀ a∈B,H' a=H a)->Slots R Z' H' (ρ.set i (some d')) (σ.set i (some v')) (A++P'++B)) /\
  Slots R Z H (ρ.set i none) σ (A++B)
 | [],_,_,_,_,j=>absurd j (Nat.not_lt_zero _)
 | none::ρ,_,_,0,h,j=>by
  obtain⟨s,b,rfl,r⟩:=h;refine⟨[],[],_,rfl,λd e=>by simp at e,λq f g l k=>?_,?_⟩
  ·exact⟨_,b,_,_,rfl,rfl,q,Slots.frame f g r k⟩
  ·exact⟨s,b,rfl,r⟩
 | some c::ρ,_,_,0,h,j=>by
  obtain⟨v,b,m,x,rfl,rfl,n,o⟩:=h;refine⟨[],m,x,rfl,λd e=>?_,λq f g l k=>?_,?_⟩
  ·have e:c=d:=by simpa using e
   subst e;exact⟨v,rfl,n⟩
  ·exact⟨_,b,_,_,rfl,rfl,q,Slots.frame f g o k⟩
  ·exact⟨_,b,rfl,o⟩
 | none::ρ,_,_,i+1,h,j=>by
  obtain⟨s,b,rfl,r⟩:=h;obtain⟨A,P,B,rfl,p,t,u⟩:=Slots.put (i:=i) r (by simpa using j);refine⟨A,P,B,rfl,λd e=>p d (by simpa using e),λq f g l k=>?_,?_⟩
  ·exact⟨s,_,rfl,t q f g l k⟩
  ·exact⟨s,b,rfl,u⟩
 | some c::ρ,_,_,i+1,h,j=>by
  obtain⟨v,b,m,x,rfl,rfl,n,o⟩:=h;obtain⟨A,P,B,rfl,p,t,u⟩:=Slots.put (i:=i) o (by simpa using j);refine⟨m++A,P,B,by simp,λd e=>p d (by simpa using e),λ{Z' H' d' v' P'} q f g l k=>?_,?_⟩
  ·exact⟨v,_,m,A++P'++B,rfl,by simp,n.frame f g λa w=>l a (List.mem_append_left _ w),t q f g (λa w=>l a (U2 _ w)) k⟩
  ·exact⟨v,b,m,A++B,rfl,by simp,n,u⟩
theorem JQ:∀{l:List α}{i:Nat}{x:α},l[i]?=some x->l.set i x=l
 | [],_,_,h=>by simp at h
 | y::l,0,x,h=>by simp at h;subst h;rfl
 | y::l,i+1,x,h=>by rw[List.set_cons_succ,JQ (by simpa using h)]
noncomputable abbrev FE:=Rh->Option (D×Rh)
noncomputable abbrev FT':=Rh->Option (Bool×Rh)
noncomputable abbrev FA:=Rh->Option (List D×Rh)
def DE(R:RC)(te:TE)(f:FE):Prop:=∀{σ:St}{ρ ρ':Rh}{Z:Zn}{H:Hp}{O:List Addr}{d:D},WF Z H O->Slots R Z H ρ σ O->f ρ=some (d,ρ') ->
 ∀{Q:VK},(∀{v:V}{Z':Zn}{H':Hp}{P O':List Addr},Go Z H O Z' H' (P++O')->Rep R Z' H' d v P->Slots R Z' H' ρ' σ O'->Q v H')->te σ H Q
def DT(R:RC)(tt:TT)(f:FT'):Prop:=∀{σ:St}{ρ ρ':Rh}{Z:Zn}{H:Hp}{O:List Addr}{b:Bool},WF Z H O->Slots R Z H ρ σ O->f ρ=some (b,ρ') ->
 ∀{Q:Bool->Hp->Prop},(∀{Z':Zn}{H':Hp}{O':List Addr},Go Z H O Z' H' O'->Slots R Z' H' ρ' σ O'->Q b H')->tt σ H Q
def DA(R:RC)(ta:TA)(f:FA):Prop:=∀{σ:St}{ρ ρ':Rh}{Z:Zn}{H:Hp}{O:List Addr}{ds:List D},WF Z H O->Slots R Z H ρ σ O->f ρ=some (ds,ρ') ->
 ∀{Q:List V->Hp->Prop},(∀{vs:List V}{Z':Zn}{H':Hp}{P O':List Addr},Go Z H O Z' H' (P++O')->Reps R Z' H' ds vs P->Slots R Z' H' ρ' σ O'->Q vs H')->ta σ H Q
inductive Out where
 | nx (ρ:Rh) | rt (d:D) (ρ:Rh) | bk (ρ:Rh) | ct (ρ:Rh)
noncomputable abbrev FS:=Rh->Option Out
def Keep(pm:List Nat)(σ σ':St):Prop:=∀ i∈pm,σ'[i]?=σ[i]?
def OutOk(R:RC)(pm:List Nat)(Z:Zn)(H:Hp)(O:List Addr)(σ:St)(D':Ends):Out->Prop
 | .nx ρ'=>∀{σ':St}{Z':Zn}{H':Hp}{O':List Addr},Go Z H O Z' H' O'->Slots R Z' H' ρ' σ' O'->Keep pm σ σ'->D'.nx σ' H'
 | .bk ρ'=>∀{σ':St}{Z':Zn}{H':Hp}{O':List Addr},Go Z H O Z' H' O'->Slots R Z' H' ρ' σ' O'->Keep pm σ σ'->D'.bk σ' H'
 | .ct ρ'=>∀{σ':St}{Z':Zn}{H':Hp}{O':List Addr},Go Z H O Z' H' O'->Slots R Z' H' ρ' σ' O'->Keep pm σ σ'->D'.ct σ' H'
 | .rt d ρ'=>∀{v:V}{σ':St}{Z':Zn}{H':Hp}{P O':List Addr},Go Z H O Z' H' (P++O')->Rep R Z' H' d v P->Slots R Z' H' ρ' σ' O'->Keep pm σ σ'->D'.rt v H'
def DS(R:RC)(pm:List Nat)(ts:TS)(f:FS):Prop:=∀{σ:St}{ρ:Rh}{Z:Zn}{H:Hp}{O:List Addr}{o:Out},WF Z H O->Slots R Z H ρ σ O->f ρ=some o->∀{D':Ends},OutOk R pm Z H O σ D' o->ts D' σ H
def DG(R:RC)(pm:List Nat)(tg:TG)(f:D->Rh->Option Rh):Prop:=∀{σ:St}{ρ ρ':Rh}{Z:Zn}{H:Hp}{O P:List Addr}{d:D}{v:V},WF Z H (P++O)->Rep R Z H d v P->Slots R Z H ρ σ O->f d ρ=some ρ' ->
 ∀{Q:St->Hp->Prop},(∀{σ':St}{Z':Zn}{H':Hp}{O':List Addr},Go Z H (P++O) Z' H' O'->Slots R Z' H' ρ' σ' O'->Keep pm σ σ'->Q σ' H')->tg v σ H Q
theorem Keep.refl(pm:List Nat)(σ:St):Keep pm σ σ:=λ_ _=>rfl
theorem Keep.trans(h:Keep pm σ σ')(k:Keep pm σ' σ''):Keep pm σ σ'':=λi a=>(k i a).trans (h i a)
theorem Keep.set(h:i∉pm):Keep pm σ (σ.set i x):=λj a=>by
 have ne:i≠j:=λe=>h (by rw[e];exact a);rw[List.getElem?_set,if_neg ne]
noncomputable def dMv(i:Nat):FE:=λρ=>match ρ[i]? with
 | some (some d)=>some (d,ρ.set i none)
 | _=>none
theorem jf3:DE R (KH i) (dMv i):=by
 intro σ ρ p Z H O d w h e Q k;unfold dMv at e;split at e
 ·rename_i c j;have l:i < ρ.length:=(L9.mp j).1;obtain⟨A,P,B,rfl,m,s,n⟩:=h.put l;obtain⟨v,o,r⟩:=m c j;cases e;refine⟨v,o,k (P:=P) ((Go.refl w).drop (λa q=>?_) ?_) r n⟩
  ·simp at q ⊢;rcases q with q | q | q<;>simp[q]
  ·have nd:=w.nd;simp only[U6,N2] at nd ⊢;exact⟨nd.1.2.1,⟨nd.1.1,nd.2.1,λa f b g=>nd.2.2 a (.inl f) b g⟩,λa f b g e=>g.elim (λq=>nd.1.2.2 b q a f e.symm) λq=>nd.2.2 a (.inr f) b q e⟩
 ·cases e
theorem jeh(h:n<=1000):n<=sizeLine:=Nat.le_of_lt (ux h)
theorem Rep.tupNew(w:WF Z H O)(hp:H p=none)(r:Reps R Z H l vs O):Rep R (λa=>Z a \/ a=p) (upd H p (.tup vs)) (.tup l) (.ref p) O:=by
 have ne:∀ a,H a≠none->a≠p:=λa h e=>h (e▸hp);rw[Rep];exact⟨p,vs,rfl,.inl ⟨.inr rfl,.inl jz⟩,r.frame (λa z=>.inl z) (λa z=>jh (ne a (w.zd a z))) λa h=>jh (ne a (w.od a h))⟩
theorem Rep.lstNew(w:WF Z H O)(hp:H p=none)(r:Reps R Z H l vs O):Rep R Z (upd H p (.lst vs)) (.lst true l) (.ref p) (p::O):=by
 have ne:∀ a,H a≠none->a≠p:=λa h e=>h (e▸hp);rw[Rep];exact⟨p,vs,O,rfl,r.frame (λa z=>z) (λa z=>jh (ne a (w.zd a z))) λa h=>jh (ne a (w.od a h)),jz,rfl⟩
theorem Rep.bl_of(r:Rep R Z H (.bl b) v O):v=.bl b/\O=[]:=by rw[Rep] at r;exact r
theorem Rep.bl_mk:Rep R Z H (.bl b) (.bl b) []:=by rw[Rep];exact⟨rfl,rfl⟩
theorem OutOk.pre(g:Go Z H O Z1 H1 O1)(kp:Keep pm σ σ1)(k:OutOk R pm Z H O σ D' o):OutOk R pm Z1 H1 O1 σ1 D' o:=by
 cases o with
 | nx ρ=>exact λa b c=>k (g.trans a) b (kp.trans c)
 | bk ρ=>exact λa b c=>k (g.trans a) b (kp.trans c)
 | ct ρ=>exact λa b c=>k (g.trans a) b (kp.trans c)
 | rt d ρ=>exact λa e b c=>k (g.trans a) e b (kp.trans c)
noncomputable def jF:FS:=λρ=>some (.nx ρ)
noncomputable def jK(f g:FS):FS:=λρ=>match f ρ with
 | some (.nx ρ1)=>g ρ1
 | o=>o
theorem jcX:DS R pm jcq jF:=by
 intro σ ρ Z H O o w h e a k;cases e;exact k (Go.refl w) h (Keep.refl _ _)
theorem jbd(i:DS R pm t f)(j:DS R pm u g):DS R pm (jdg t u) (jK f g):=by
 intro σ ρ Z H O o w h e a k;unfold jK at e;cases e1:f ρ with
 | none=>rw[e1] at e;cases e
 | some l =>
  rw[e1] at e;refine i w h e1 (D':={ a with nx:=u a }) ?_;cases l with
  | nx b=>exact λ{p q r s} c m n=>j c.wf m e (k.pre c n)
  | bk b=>cases e;exact k
  | ct b=>cases e;exact k
  | rt d b=>cases e;exact k
noncomputable def yj(fa:FE):FS:=λρ=>match fa ρ with
 | none=>none
 | some (x,ρ1)=>some (.rt x ρ1)
theorem jeD(a:DE R ta fa):DS R pm (jfc ta) (yj fa):=by
 intro σ ρ Z H O o w h e f k;unfold yj at e;cases e1:fa ρ with
 | none=>rw[e1] at e;cases e
 | some p =>
  obtain⟨x,g⟩:=p;rw[e1] at e;cases e;exact a w h e1 λb c d=>k b c d (Keep.refl _ _)
noncomputable def sIf(ft:FT')(f g:FS):FS:=λρ=>match ft ρ with
 | none=>none
 | some (b,ρ1)=>bif b then f ρ1 else g ρ1
theorem jeQ(d:DT R tt ft)(i:DS R pm t f)(j:DS R pm u g):DS R pm (jdv tt t u) (sIf ft f g):=by
 intro σ ρ Z H O o w h e l k;unfold sIf at e;cases e1:ft ρ with
 | none=>rw[e1] at e;cases e
 | some p =>
  obtain⟨c,m⟩:=p;rw[e1] at e;dsimp only at e;refine d w h e1 λ{n q r} a b=>?_;cases c with
  | true=>exact jaS (i a.wf b e (k.pre a (Keep.refl _ _)))
  | false=>exact jbk (j a.wf b e (k.pre a (Keep.refl _ _)))
noncomputable def qU:FS:=λ_=>none
noncomputable def jJ(pm:List Nat)(i:Nat):D->Rh->Option Rh:=λd ρ=>bif decide (i < ρ.length)&&!decide (i∈pm) then some (ρ.set i (some d)) else none
theorem x5:DG R pm (Vg i) (jJ pm i):=by
 intro σ ρ m Z H O P d v w r h e Q k;unfold jJ at e;by_cases f:i < ρ.length
 ·by_cases g:i∈pm
  ·rw[U7 g] at e;simp at e
  ·rw[U7 f,U8 g] at e;cases e;obtain⟨A,n,B,rfl,o,l,p⟩:=h.put f;refine k (O':=A++P++B) ((Go.refl w).drop (λa q=>?_) ?_) (l r (λ_ z=>z) (λ_ _=>rfl) (λ_ _=>rfl) (λ_ _=>rfl)) (Keep.set g)
   ·simp at q ⊢;rcases q with q | q | q<;>simp[q]
   ·have nd:=w.nd;simp only[U6,N2] at nd ⊢;exact⟨⟨nd.2.1.1.1,nd.1,λa j b c e=>nd.2.2 b c a (.inl (.inl j)) e.symm⟩,nd.2.1.2.1,λa j b c e=>j.elim (λq=>nd.2.1.2.2 a (.inl q) b c e) λq=>nd.2.2 a q b (.inr c) e⟩
 ·rw[U8 f] at e;simp at e
noncomputable def yD(fa:FE)(g:D->Rh->Option Rh):FS:=λρ=>match fa ρ with
 | none=>none
 | some (x,ρ1)=>match g x ρ1 with
  | none=>none
  | some ρ2=>some (.nx ρ2)
theorem wP(b:DE R ta fa)(c:DG R pm tg g):DS R pm (jbM ta tg) (yD fa g):=by
 intro σ ρ Z H O o w h e n k;unfold yD at e;cases e1:fa ρ with
 | none=>rw[e1] at e;cases e
 | some p =>
  obtain⟨x,d⟩:=p;rw[e1] at e;dsimp only at e;cases e2:g x d with
  | none=>rw[e2] at e;cases e
  | some q =>
   rw[e2] at e;cases e;exact b w h e1 λa f i=>c a.wf f i e2 λj l m=>k (Go.trans a j) l m
def DGs(R:RC)(pm:List Nat)(tg:TGs)(f:List D->Rh->Option Rh):Prop:=∀{σ:St}{ρ ρ':Rh}{Z:Zn}{H:Hp}{O P:List Addr}{ds:List D}{vs:List V},WF Z H (P++O)->Reps R Z H ds vs P->Slots R Z H ρ σ O->f ds ρ=some ρ' ->
 ∀{Q:St->Hp->Prop},(∀{σ':St}{Z':Zn}{H':Hp}{O':List Addr},Go Z H (P++O) Z' H' O'->Slots R Z' H' ρ' σ' O'->Keep pm σ σ'->Q σ' H')->tg vs σ H Q
noncomputable def gN:List D->Rh->Option Rh:=λds ρ=>match ds with
 | []=>some ρ
 | _=>none
noncomputable def gC(g:D->Rh->Option Rh)(gs:List D->Rh->Option Rh):List D->Rh->Option Rh:=λds ρ=>match ds with
 | []=>none
 | d::r=>match g d ρ with
  | none=>none
  | some ρ1=>gs r ρ1
noncomputable def gT(n:Nat)(gs:List D->Rh->Option Rh):D->Rh->Option Rh:=λd ρ=>match d with
 | .tup l=>bif decide (l.length=n) then gs l ρ else none
 | _=>none
noncomputable abbrev PF:=Rh->Option D
noncomputable abbrev PTf:=Rh->Option Bool
noncomputable abbrev PAf:=Rh->Option (List D)
section
variable {R:RC}{Z Z':Zn}{H H':Hp}
mutual
theorem Rep.dom:∀{d:D}{v:V}{O:List Addr},Rep R Z H d v O->∀ a∈O,H a≠none
 | .non,_,_,h,a,ha=>by rw[Rep] at h;rw[h.2] at ha;cases ha
 | .bl _,_,_,h,a,ha=>by rw[Rep] at h;rw[h.2] at ha;cases ha
 | .int _,_,_,h,a,ha=>by rw[Rep] at h;rw[h.2] at ha;cases ha
 | .str _,_,_,h,a,ha=>by rw[Rep] at h;rw[h.2] at ha;cases ha
 | .dead,_,_,h,a,ha=>by rw[Rep] at h;rw[h] at ha;cases ha
 | .exc _ _,_,_,h,a,ha=>by rw[Rep] at h;obtain⟨_,_,_,_,_,_,_,h⟩:=h;rw[h] at ha;cases ha
 | .tup l,_,_,h,a,ha=>by
  rw[Rep] at h;obtain⟨b,vs,e,t,r⟩:=h;exact Reps.dom r a ha
 | .lst o l,_,_,h,a,ha=>by
  rw[Rep] at h;obtain⟨b,vs,O',e,r,h⟩:=h;cases o with
  | true =>
   obtain⟨h1,rfl⟩:=h;rcases M5.mp ha with e | e
   ·rw[e,h1];exact λz=>(nomatch z)
   ·exact Reps.dom r a e
  | false=>rw[h.2.2] at ha;cases ha
 | .dK o ks l,_,_,h,a,ha=>by
  rw[Rep] at h;obtain⟨b,vs,O',e,r,hl,hd,h⟩:=h;cases o with
  | true =>
   have h:=(show _=_ from h);subst h;rcases M5.mp ha with e | e
   ·rw[e,hd];exact λz=>(nomatch z)
   ·exact Reps.dom r a e
  | false=>rw[h.2.2] at ha;cases ha
 | .dT o ks l,_,_,h,a,ha=>by
  rw[Rep] at h;obtain⟨b,vs,O',e,r,hl,hd,h⟩:=h;cases o with
  | true =>
   have h:=(show _=_ from h);subst h;rcases M5.mp ha with e | e
   ·rw[e,hd];exact λz=>(nomatch z)
   ·exact Reps.dom r a e
  | false=>rw[h.2.2] at ha;cases ha
 | .ins o c ns l,_,_,h,a,ha=>by
  rw[Rep] at h;obtain⟨b,dx,vs,O',e,r,hl,hd,h⟩:=h;cases o with
  | true =>
   have h:=(show _=_ from h);subst h;rcases M5.mp ha with e | e
   ·rw[e,hd];exact λz=>(nomatch z)
   ·exact Reps.dom r a e
  | false=>rw[h.2.2] at ha;cases ha
theorem Reps.dom:∀{l:List D}{vs:List V}{O:List Addr},Reps R Z H l vs O->∀ a∈O,H a≠none
 | [],_,_,h,a,ha=>by rw[Reps] at h;rw[h.2] at ha;cases ha
 | d::l,_,_,h,a,ha=>by
  rw[Reps] at h;obtain⟨v,vs,O1,O2,e,rfl,r1,r2⟩:=h;rcases N2.mp ha with q | q
  ·exact Rep.dom r1 a q
  ·exact Reps.dom r2 a q
end
theorem Slots.dom:∀{ρ:Rh}{σ:St}{O:List Addr},Slots R Z H ρ σ O->∀ a∈O,H a≠none
 | [],_,_,h,a,b=>by rw[h.2] at b;cases b
 | none::ρ,_,_,h,a,b=>by obtain⟨s,c,rfl,r⟩:=h;exact Slots.dom r a b
 | some d::ρ,_,_,h,a,b=>by
  obtain⟨v,c,g,i,rfl,rfl,e,f⟩:=h;rcases N2.mp b with q | q
  ·exact e.dom a q
  ·exact Slots.dom f a q
abbrev Zd(Z:Zn)(H:Hp):Prop:=∀ a,Z a->H a≠none
theorem wf0(z:Zd Z H):WF Z H []:=⟨List.nodup_nil,λa h=>(nomatch h),λa h=>(nomatch h),z⟩
theorem Go.id(z:Zd Z H):Go Z H [] Z H []:=Go.refl (wf0 z)
theorem Go.same{P:List Addr}(g:Go Z H [] Z' H' P):∀ a,H a≠none->H' a=H a:=λa h=>g.fr a h (λz=>(nomatch z))
theorem Go.rep{P O:List Addr}{d:D}{v:V}(z:Zd Z H)(g:Go Z H [] Z' H' P)(r:Rep R Z H d v O):Rep R Z' H' d v O:=r.frame g.zz (λa h=>g.same a (z a h)) λa h=>g.same a (r.dom a h)
theorem Go.reps{P O:List Addr}{l:List D}{vs:List V}(z:Zd Z H)(g:Go Z H [] Z' H' P)(r:Reps R Z H l vs O):Reps R Z' H' l vs O:=r.frame g.zz (λa h=>g.same a (z a h)) λa h=>g.same a (r.dom a h)
theorem Go.slots{P O:List Addr}{ρ:Rh}{σ:St}(z:Zd Z H)(g:Go Z H [] Z' H' P)(r:Slots R Z H ρ σ O):Slots R Z' H' ρ σ O:=r.frame g.zz (λa h=>g.same a (z a h)) λa h=>g.same a (r.dom a h)
theorem Go.pair{P a:List Addr}{Z'':Zn}{H'':Hp}(g:Go Z H [] Z' H' P)(k:Go Z' H' [] Z'' H'' a):Go Z H [] Z'' H'' (P++a):=by
 have w:WF Z' H' (P++[]++[]):=by simpa using g.wf
 have f:=k.frame w;exact g.trans (by simpa using f)
theorem Go.to0{O P:List Addr}(g:Go Z H O Z' H' P):Go Z H O Z' H' []:=g.drop (λa h=>(nomatch h)) List.nodup_nil
theorem Go.widen{P O:List Addr}(w:WF Z H O)(g:Go Z H [] Z' H' P):Go Z H O Z' H' (P++O):=by
 have f:=g.frame (A:=[]) (B:=O) (by simpa using w);simpa using f
def PP(R:RC)(te:TE)(p:PF):Prop:=∀{σ:St}{ρ:Rh}{Z:Zn}{H:Hp}{O:List Addr}{d:D},Zd Z H->Slots R Z H ρ σ O->p ρ=some d ->
 ∀{Q:VK},(∀{v:V}{Z':Zn}{H':Hp}{P:List Addr},Go Z H [] Z' H' P->Rep R Z' H' d v P->Q v H')->te σ H Q
def PB(R:RC)(te:TE)(p:PF):Prop:=∀{σ:St}{ρ:Rh}{Z:Zn}{H:Hp}{O:List Addr}{d:D},Zd Z H->Slots R Z H ρ σ O->p ρ=some d ->
 ∀{Q:VK},(∀{v:V}{Z':Zn}{H':Hp}{P:List Addr},Go Z H [] Z' H' []->Rep R Z' H' d v P->Q v H')->te σ H Q
def PPs(R:RC)(ta:TA)(p:PAf):Prop:=∀{σ:St}{ρ:Rh}{Z:Zn}{H:Hp}{O:List Addr}{ds:List D},Zd Z H->Slots R Z H ρ σ O->p ρ=some ds ->
 ∀{Q:List V->Hp->Prop},(∀{vs:List V}{Z':Zn}{H':Hp}{P:List Addr},Go Z H [] Z' H' P->Reps R Z' H' ds vs P->Q vs H')->ta σ H Q
def PBs(R:RC)(ta:TA)(p:PAf):Prop:=∀{σ:St}{ρ:Rh}{Z:Zn}{H:Hp}{O:List Addr}{ds:List D},Zd Z H->Slots R Z H ρ σ O->p ρ=some ds ->
 ∀{Q:List V->Hp->Prop},(∀{vs:List V}{Z':Zn}{H':Hp}{P:List Addr},Go Z H [] Z' H' []->Reps R Z' H' ds vs P->Q vs H')->ta σ H Q
def PTt(R:RC)(tt:TT)(p:PTf):Prop:=∀{σ:St}{ρ:Rh}{Z:Zn}{H:Hp}{O:List Addr}{b:Bool},Zd Z H->Slots R Z H ρ σ O->p ρ=some b ->
 ∀{Q:Bool->Hp->Prop},(∀{Z':Zn}{H':Hp},Go Z H [] Z' H' []->Q b H')->tt σ H Q
theorem PP.b{te:TE}{p:PF}(h:PP R te p):PB R te p:=λz s e _ k=>h z s e λg r=>k g.to0 r
theorem PPs.b{te:TA}{p:PAf}(h:PPs R te p):PBs R te p:=λz s e _ k=>h z s e λg r=>k g.to0 r
noncomputable def pF(p:PF):PF:=λρ=>match p ρ with
 | some d=>bif frz d then some d else none
 | none=>none
theorem PB.f{te:TE}{p:PF}(h:PB R te p):PP R te (pF p):=by
 intro σ ρ Z H O d z s e Q k;unfold pF at e;cases e1:p ρ with
 | none=>rw[e1] at e;cases e
 | some c =>
  rw[e1] at e;dsimp only at e;cases hf:frz c with
  | false=>rw[hf] at e;cases e
  | true =>
   rw[hf] at e;cases e;exact h z s e1 λg r=>by
    cases r.nil hf;exact k g r
noncomputable def dP(p:PF):FE:=λρ=>match p ρ with
 | some d=>some (d,ρ)
 | none=>none
noncomputable def dPT(p:PTf):FT':=λρ=>match p ρ with
 | some d=>some (d,ρ)
 | none=>none
theorem PP.d{te:TE}{p:PF}(h:PP R te p):DE R te (dP p):=by
 intro σ ρ a Z H O d w s e Q k;unfold dP at e;cases e1:p ρ with
 | none=>rw[e1] at e;cases e
 | some c =>
  rw[e1] at e;cases e;exact h w.zd s e1 λg r=>k (g.widen w) r (g.slots w.zd s)
theorem PTt.d{te:TT}{p:PTf}(h:PTt R te p):DT R te (dPT p):=by
 intro σ ρ a Z H O d w s e Q k;unfold dPT at e;cases e1:p ρ with
 | none=>rw[e1] at e;cases e
 | some c =>
  rw[e1] at e;cases e;exact h w.zd s e1 λg=>k (by simpa using g.widen w) (g.slots w.zd s)
noncomputable def pV(i:Nat):PF:=λρ=>match ρ[i]? with
 | some (some d)=>some d
 | _=>none
noncomputable def pC(d:D):PF:=λ_=>some d
theorem jeF{i:Nat}:PB R (KH i) (pV i):=by
 intro σ ρ Z H O d z s e Q k;unfold pV at e;split at e
 ·rename_i c a;cases e;obtain⟨A,P,B,rfl,b,_⟩:=s.put (L9.mp a).1;obtain⟨v,f,r⟩:=b d a;exact⟨v,f,k (Go.id z) r⟩
 ·cases e
theorem jbL{d:D}{v:V}(a:∀(Z:Zn) (H:Hp),Rep R Z H d v []):PP R (tC v) (pC d):=by
 intro σ ρ Z H O b z s e Q k;cases e;exact k (Go.id z) (a Z H)
theorem Rep.int_mk{i:Int}:Rep R Z H (.int i) (.int i) []:=by rw[Rep];exact⟨rfl,rfl⟩
theorem Rep.str_mk{s:List Nat}:Rep R Z H (.str s) (.str (S s)) []:=by rw[Rep];exact⟨rfl,rfl⟩
theorem Rep.non_mk:Rep R Z H .non .non []:=by rw[Rep];exact⟨rfl,rfl⟩
theorem Rep.int_of{i:Int}{v:V}{O:List Addr}(r:Rep R Z H (.int i) v O):v=.int i/\O=[]:=by rw[Rep] at r;exact r
theorem Rep.str_of{s:List Nat}{v:V}{O:List Addr}(r:Rep R Z H (.str s) v O):v=.str (S s)/\O=[]:=by rw[Rep] at r;exact r
theorem Rep.non_of{v:V}{O:List Addr}(r:Rep R Z H .non v O):v=.non/\O=[]:=by rw[Rep] at r;exact r
def BO(R:RC)(r:R2)(g:D->D->Option D):Prop:=∀{Z:Zn}{H:Hp}{x y d:D}{v u:V}{O1 O2:List Addr},Zd Z H->Rep R Z H x v O1->Rep R Z H y u O2->g x y=some d ->
 ∀{Q:VK},(∀{w:V}{Z':Zn}{H':Hp}{P:List Addr},Go Z H [] Z' H' P->Rep R Z' H' d w P->Q w H')->r v u H Q
def BO'(R:RC)(r:R2)(g:D->D->Option D):Prop:=∀{Z:Zn}{H:Hp}{x y d:D}{v u:V}{O1 O2:List Addr},Zd Z H->Rep R Z H x v O1->Rep R Z H y u O2->g x y=some d ->
 ∀{Q:VK},(∀{w:V}{P:List Addr},Rep R Z H d w P->Q w H)->r v u H Q
def BC(R:RC)(r:List V->Hp->VK->Prop)(g:List D->Option D):Prop:=∀{Z:Zn}{H:Hp}{xs:List D}{d:D}{vs:List V}{O:List Addr},Zd Z H->Reps R Z H xs vs O->g xs=some d ->
 ∀{Q:VK},(∀{w:V}{Z':Zn}{H':Hp}{P:List Addr},Go Z H [] Z' H' P->Rep R Z' H' d w P->Q w H')->r vs H Q
noncomputable def p2(g:D->D->Option D)(pa pb:PF):PF:=λρ=>match pa ρ with
 | none=>none
 | some x=>match pb ρ with
  | none=>none
  | some y=>g x y
noncomputable def p1(g:D->Option D)(pa:PF):PF:=λρ=>match pa ρ with
 | none=>none
 | some x=>g x
theorem VQ{r:R2}{g:D->D->Option D}{ta tb:TE}{pa pb:PF}(c:BO R r g)(f:PB R ta pa)(h:PB R tb pb):PP R (tOp r ta tb) (p2 g pa pb):=by
 intro σ ρ Z H O d z s e Q k;unfold p2 at e;cases e1:pa ρ with
 | none=>rw[e1] at e;cases e
 | some x =>
  rw[e1] at e;dsimp only at e;cases e2:pb ρ with
  | none=>rw[e2] at e;cases e
  | some y =>
   rw[e2] at e;refine f z s e1 λ{v n o p} a i=>?_;refine h a.wf.zd (a.slots z s) e2 λ{u q t w} b j=>?_;exact c b.wf.zd (b.rep a.wf.zd i) j e λl m=>k ((a.pair b).pair l) m
theorem jfH{r:R2}{g:D->D->Option D}{ta tb:TE}{pa pb:PF}(c:BO' R r g)(f:PB R ta pa)(h:PB R tb pb):PB R (tOp r ta tb) (p2 g pa pb):=by
 intro σ ρ Z H O d z s e Q k;unfold p2 at e;cases e1:pa ρ with
 | none=>rw[e1] at e;cases e
 | some x =>
  rw[e1] at e;dsimp only at e;cases e2:pb ρ with
  | none=>rw[e2] at e;cases e
  | some y =>
   rw[e2] at e;refine f z s e1 λ{v m n o} a i=>?_;refine h a.wf.zd (a.slots z s) e2 λ{u p q t} b j=>?_;exact c b.wf.zd (b.rep a.wf.zd i) j e λl=>k (a.pair b) l
noncomputable def pN:PAf:=λ_=>some []
noncomputable def jc(pa:PF)(pr:PAf):PAf:=λρ=>match pa ρ with
 | none=>none
 | some x=>match pr ρ with
  | none=>none
  | some xs=>some (x::xs)
theorem pps_nil:PPs R xf pN:=by
 intro σ ρ Z H O d z s e Q k;cases e;exact k (Go.id z) Reps.empty
theorem uR{ta:TE}{pa:PF}{tr:TA}{pr:PAf}(c:PP R ta pa)(f:PPs R tr pr):PPs R (vt ta tr) (jc pa pr):=by
 intro σ ρ Z H O d z s e Q k;unfold jc at e;cases e1:pa ρ with
 | none=>rw[e1] at e;cases e
 | some x =>
  rw[e1] at e;dsimp only at e;cases e2:pr ρ with
  | none=>rw[e2] at e;cases e
  | some i =>
   rw[e2] at e;cases e;refine c z s e1 λ{v j l m} a g=>?_;refine f a.wf.zd (a.slots z s) e2 λ{u n o p} b h=>?_;exact k (a.pair b) (.cons (b.rep a.wf.zd g) h)
theorem jdd:PBs R xf pN:=pps_nil.b
theorem jan{ta:TE}{pa:PF}{tr:TA}{pr:PAf}(c:PB R ta pa)(f:PBs R tr pr):PBs R (vt ta tr) (jc pa pr):=by
 intro σ ρ Z H O d z s e Q k;unfold jc at e;cases e1:pa ρ with
 | none=>rw[e1] at e;cases e
 | some x =>
  rw[e1] at e;dsimp only at e;cases e2:pr ρ with
  | none=>rw[e2] at e;cases e
  | some i =>
   rw[e2] at e;cases e;refine c z s e1 λ{v j l m} a g=>?_;refine f a.wf.zd (a.slots z s) e2 λ{u n o p} b h=>?_;exact k (a.pair b) (.cons (b.rep a.wf.zd g) h)
noncomputable def pCB(g:List D->Option D)(pa:PAf):PF:=λρ=>match pa ρ with
 | none=>none
 | some xs=>g xs
theorem jer{r:List V->Hp->VK->Prop}{g:List D->Option D}{ta:TA}{pa:PAf}(b:BC R r g)(c:PBs R ta pa):PP R (tCB r ta) (pCB g pa):=by
 intro σ ρ Z H O d z s e Q k;unfold pCB at e;cases e1:pa ρ with
 | none=>rw[e1] at e;cases e
 | some x =>
  rw[e1] at e;exact c z s e1 λ{v j l m} a f=>b a.wf.zd f e λh i=>k (by simpa using a.pair h) i
noncomputable def lim(n:Nat):Bool:=decide (n<=100000)
theorem JS{n:Nat}(h:lim n=true):n<=sizeLine:=N7 (U9 h) (by decide)
theorem ja7{n:Nat}(h:lim n=true):n < sizeLine:=Nat.lt_of_le_of_lt (U9 h) (by decide)
noncomputable def YF(pa:PAf):PF:=pCB (λxs=>bif lim xs.length then some (.lst true xs) else none) pa
theorem jdI{ta:TA}{pa:PAf}(f:PPs R ta pa):PP R (jfM ta) (YF pa):=by
 intro σ ρ Z H O d z s e Q k;unfold YF pCB at e;cases e1:pa ρ with
 | none=>rw[e1] at e;cases e
 | some g =>
  rw[e1] at e;dsimp only at e;cases hl:lim g.length with
  | false=>rw[hl] at e;cases e
  | true =>
   rw[hl] at e;cases e;exact f z s e1 λ{v h i j} a b=>⟨by rw[b.length];exact JS hl,λp c=>k (a.trans (Go.newO a.wf c)) (Rep.lstNew a.wf c b)⟩
noncomputable def jp(pa:PF):PTf:=λρ=>match pa ρ with
 | some (.bl b)=>some b
 | _=>none
noncomputable def uG(pa pb:PTf):PTf:=λρ=>match pa ρ with
 | none=>none
 | some b=>bif b then pb ρ else some false
noncomputable def qOr(pa pb:PTf):PTf:=λρ=>match pa ρ with
 | none=>none
 | some b=>bif b then some true else pb ρ
noncomputable def xn(pa:PTf):PTf:=λρ=>match pa ρ with
 | none=>none
 | some b=>some (!b)
theorem KN{ta:TE}{pa:PF}(a:PB R ta pa):PTt R (wM ta) (jp pa):=by
 intro σ ρ Z H O b z s e Q k;unfold jp at e;split at e
 ·rename_i c d;cases e;refine a z s d λ{v h i j} f g=>?_;obtain⟨rfl,rfl⟩:=g.bl_of;exact⟨b,rfl,k f⟩
 ·cases e
theorem jfa{ta tb:TT}{pa pb:PTf}(d:PTt R ta pa)(f:PTt R tb pb):PTt R (jfO ta tb) (uG pa pb):=by
 intro σ ρ Z H O b z s e Q k;unfold uG at e;cases e1:pa ρ with
 | none=>rw[e1] at e;cases e
 | some c =>
  rw[e1] at e;dsimp only at e;refine d z s e1 λ{h i} a=>?_;cases c with
  | true=>exact jaS (f a.wf.zd (a.slots z s) e λg=>k (a.pair g))
  | false=>cases e;exact jbk (k a)
theorem jfQ{ta tb:TT}{pa pb:PTf}(d:PTt R ta pa)(f:PTt R tb pb):PTt R (tOr ta tb) (qOr pa pb):=by
 intro σ ρ Z H O b z s e Q k;unfold qOr at e;cases e1:pa ρ with
 | none=>rw[e1] at e;cases e
 | some c =>
  rw[e1] at e;dsimp only at e;refine d z s e1 λ{h i} a=>?_;cases c with
  | true=>cases e;exact jaS (k a)
  | false=>exact jbk (f a.wf.zd (a.slots z s) e λg=>k (a.pair g))
theorem jbx{ta:TT}{pa:PTf}(a:PTt R ta pa):PTt R (jf7 ta) (xn pa):=by
 intro σ ρ Z H O b z s e Q k;unfold xn at e;cases e1:pa ρ with
 | none=>rw[e1] at e;cases e
 | some c =>
  rw[e1] at e;cases e;exact a z s e1 λ{f g} d=>k d
noncomputable def jdf(pa pb:PF):PF:=λρ=>match pa ρ with
 | some (.bl b)=>bif b then pb ρ else some (.bl false)
 | _=>none
theorem jd9{ta tb:TE}{pa pb:PF}(b:PB R ta pa)(f:PP R tb pb):PP R (jbW ta tb) (jdf pa pb):=by
 intro σ ρ Z H O d z s e Q k;unfold jdf at e;split at e
 ·rename_i c g;refine b z s g λ{v l m n} a h=>?_;obtain⟨rfl,rfl⟩:=h.bl_of;refine⟨c,rfl,?_⟩;cases c with
  | true=>exact jaS (f a.wf.zd (a.slots z s) e λi j=>k (by simpa using a.pair i) j)
  | false=>cases e;exact jbk (k a .bl_mk)
 ·cases e
noncomputable def pIf(pt:PTf)(pa pb:PF):PF:=λρ=>match pt ρ with
 | none=>none
 | some b=>bif b then pa ρ else pb ρ
theorem jfF{g:TT}{ta tb:TE}{pt:PTf}{pa pb:PF}(h:PTt R g pt)(i:PP R ta pa)(j:PP R tb pb):PP R (tIf g ta tb) (pIf pt pa pb):=by
 intro σ ρ Z H O d z s e Q k;unfold pIf at e;cases e1:pt ρ with
 | none=>rw[e1] at e;cases e
 | some c =>
  rw[e1] at e;dsimp only at e;refine h z s e1 λ{l m} a=>?_;cases c with
  | true=>exact jaS (i a.wf.zd (a.slots z s) e λb f=>k (by simpa using a.pair b) f)
  | false=>exact jbk (j a.wf.zd (a.slots z s) e λb f=>k (by simpa using a.pair b) f)
noncomputable def JB(g g':D->D->Option D)(pa pb pc:PF):PF:=λρ=>match pa ρ with
 | none=>none
 | some x=>match pb ρ with
  | none=>none
  | some y=>match g x y with
   | some (.bl b)=>bif b then(match pc ρ with
    | none=>none
    | some w=>g' y w) else some (.bl false)
   | _=>none
theorem u7{r m:R2}{g g':D->D->Option D}{ta tb tc:TE}{pa pb pc:PF}(o:BO R r g)(i:BO R m g')(p:PB R ta pa)(q:PB R tb pb)(t:PB R tc pc):PP R (wq r m ta tb tc) (JB g g' pa pb pc):=by
 intro σ ρ Z H O d z s e Q k;unfold JB at e;cases e1:pa ρ with
 | none=>rw[e1] at e;cases e
 | some x =>
  rw[e1] at e;dsimp only at e;cases e2:pb ρ with
  | none=>rw[e2] at e;cases e
  | some y =>
   rw[e2] at e;dsimp only at e;refine p z s e1 λ{v G I J} c w=>?_;refine q c.wf.zd (c.slots z s) e2 λ{u K L M} f n=>?_;have j:=c.pair f;split at e
   ·rename_i b A;refine o f.wf.zd (f.rep c.wf.zd w) n A λ{N Z3 P S} h B=>?_;obtain⟨rfl,rfl⟩:=B.bl_of;have a:=j.pair h;refine⟨b,rfl,?_⟩;cases b with
    | false=>cases e;exact jbk (k (by simpa using a) .bl_mk)
    | true =>
     refine jaS ?_;cases e4:pc ρ with
     | none=>rw[cond_true,e4] at e;cases e
     | some T =>
      rw[cond_true,e4] at e;refine t h.wf.zd (a.slots z s) e4 λ{U V W X} l C=>?_;exact i l.wf.zd (l.rep h.wf.zd (h.rep f.wf.zd n)) C e λE F=>k (by simpa using(a.pair l).pair E) F
   ·cases e
end
section
variable {R:RC}{Z Z':Zn}{H H':Hp}{pm:List Nat}
def jfs(R:RC)(J:It)(Z:Zn)(H:Hp)(xs:List D):Prop:=∀{Z1:Zn}{H1:Hp},(∀ a,Z a->Z1 a)->(∀ a,Z a->H1 a=H a)->Zd Z1 H1->∀ i:Nat,
 (xs.length<=i->J.stop i H1)/\∀ x,xs[i]?=some x->J.go i H1/\∀ u H2,J.yld i H1 u H2->∃ Z2,Go Z1 H1 [] Z2 H2 []/\Rep R Z2 H2 x u []
def PIt(R:RC)(wi:TI)(p:PAf):Prop:=∀{σ:St}{ρ:Rh}{Z:Zn}{H:Hp}{O:List Addr}{xs:List D},Zd Z H->Slots R Z H ρ σ O->p ρ=some xs ->
 ∀{Q:It->Hp->Prop},(∀{J:It}{Z':Zn}{H':Hp},Go Z H [] Z' H' []->jfs R J Z' H' xs->Q J H')->wi σ H Q
noncomputable def jgf(K:PySem.W.Frag)(tl:TE):TI:=λσ H Q=>tl σ H λx H1 =>
 (∃ a,x=.ref a/\(∃ xs,SqL K H1 a xs)/\Q (Itl K a) H1) \/ (∃ a,x=.ref a/\(∃ xs,SqT K H1 a xs)/\Q (Itt K a) H1) \/ ∃ l,x=.str (S l)/\Q (Its l) H1
theorem jdn{X:Cx}{tg l:Expr}{tl:TE}(B:PE X l tl):PI X tg l (jgf X.K tl):=by
 intro d s σ H Q I h;have n:∀ v c,EP X d σ (λx g=>(∃ a,x=.ref a/\(∃ j,SqL X.K g a j)/\Q (Itl X.K a) g) \/ (∃ a,x=.ref a/\(∃ j,SqT X.K g a j)/\Q (Itt X.K a) g) \/ ∃ l,x=.str (S l)/\Q (Its l) g) v c->wpAny (model X.prog X.w) X.A (pyIter v) (PIE X d σ tg Q) X.xe c:=by
  rintro v c ⟨x,g,f,r,C⟩
  -- each by the layer's own rule,at a name that holds the value
  rcases C with⟨a,rfl,⟨j,u⟩,q⟩ | ⟨a,rfl,⟨j,u⟩,q⟩ | ⟨l,rfl,q⟩
  ·cases r;obtain⟨k,D,p,E⟩:=f.list u;refine wpAny_pyIter_list p.isList ?_;refine⟨c.heap.objs.size,[c.heap.objs.size],_,_,g,rfl,f.kept (t':=c.toks) λb o e=>L8 _ e,ww a _,⟨_,X4 _ rfl,rfl,rfl⟩,λb m=>?_,q⟩;have e:b=c.heap.objs.size:=by simpa using m
   subst e;exact f.fpOk (M9 _) (f.hok.fresh (M9 _))
  ·cases r;obtain⟨k,D,p,E⟩:=f.tuple u;refine wpAny_pyIter_tuple (show c.heap.IsTuple a k.toArray from p) ?_;refine⟨c.heap.objs.size,[c.heap.objs.size],_,_,g,rfl,f.kept (t':=c.toks) λb o e=>L8 _ e,zC a _,⟨_,X4 _ rfl,rfl,rfl⟩,λb m=>?_,q⟩;have e:b=c.heap.objs.size:=by simpa using m
   subst e;exact f.fpOk (M9 _) (f.hok.fresh (M9 _))
  ·obtain⟨t,rfl⟩:=r;have fin:∀(ty:String),(ty = "str_ascii_iterator" \/ ty = "str_iterator")->(∀ A:Around,A.handled=none->Walks X.prog X.w A c.heap.objs.size [c.heap.objs.size] [c.heap.objs.size] (S l).cps.size (SignAt (S l)) (λi h=>h.IsStrIter c.heap.objs.size ty (S l) t i)) ->
     PIE X d σ tg Q (.ref c.heap.objs.size) { c with heap:=c.heap.push { cls:=.type ty,data:=.fields #[.str (S l) t,.int 0 0] } }:=λty y W=>by
    refine⟨c.heap.objs.size,[c.heap.objs.size],_,_,g,rfl,f.kept (t':=c.toks) λb o e=>L8 _ e,jar _ l t ty y W,⟨_,X4 _ rfl,rfl,rfl⟩,λb m=>?_,q⟩;have e:b=c.heap.objs.size:=by simpa using m
    subst e;exact f.fpOk (M9 _) (f.hok.fresh (M9 _))
   cases ha:(S l).cps.all (· < 128)
   ·exact wpAny_pyIter_wide ha (fin _ (.inr rfl) λF z=>Walks.strWide z _ (S l) t)
   ·exact wpAny_pyIter_ascii ha (fin _ (.inl rfl) λF z=>Walks.strAscii z _ (S l) t)
 exact thn (B d s σ H _ I h) n
noncomputable def Y5:D->Option (List D)
 | .lst _ l=>some (fzs l)
 | .tup l=>some (fzs l)
 | .str s=>some (s.map λc=>.str [c])
 | _=>none
theorem jeH{s:List Nat}:jfs R (Its s) Z H (s.map λc=>.str [c]):=by
 intro d h j k zd i;refine⟨λf=>by show s.length<=i;simpa using f,λx a=>?_⟩;rw[List.getElem?_map] at a;cases e:s[i]? with
 | none=>rw[e] at a;cases a
 | some c =>
  rw[e] at a;cases a;refine⟨(L9.mp e).1,λu l g=>?_⟩;obtain⟨rfl,m,b,rfl⟩:=g;rw[e] at b;cases b;exact⟨d,Go.id zd,.str_mk⟩
theorem Go.fz{P:List Addr}(g:Go Z H [] Z' H' P):Go Z H [] (λa=>Z' a \/ a∈P) H' []:=g.trans (Go.freeze g.wf)
noncomputable def Kl(lo:Int)(n:Nat):List D:=(List.range n).map λ(i:Nat)=>D.int (lo+(i:Int))
theorem jd3{lo:Int}{n:Nat}:jfs R (Itr lo n) Z H (Kl lo n):=by
 intro c e f g zd i;refine⟨λb=>by show n<=i;simpa [Kl] using b,λx a=>?_⟩;unfold Kl at a;rw[List.getElem?_map] at a;by_cases b:i < n
 ·rw[List.getElem?_range b] at a;cases a;refine⟨b,λu h d=>?_⟩;obtain⟨rfl,rfl⟩:=d;exact⟨c,Go.id zd,.int_mk⟩
 ·rw[List.getElem?_eq_none (by simpa using b)] at a;cases a
noncomputable def YQ(i:Int):Bool:=Nat.ble i.natAbs 4611686018427387903
theorem VM{i:Int}(h:YQ i=true):-(2 ^ 62)<=i/\i < 2 ^ 62:=by
 have h:=Nat.le_of_ble_eq_true h;constructor<;>omega
noncomputable def VY(p:PAf):PAf:=λρ=>match p ρ with
 | some [.int j]=>bif YQ j then some (Kl 0 j.toNat) else none
 | _=>none
theorem Reps.one_of{d:D}{vs:List V}{O:List Addr}(r:Reps R Z H [d] vs O):∃ v,vs=[v]/\Rep R Z H d v O:=by
 rw[Reps] at r;obtain⟨v,b,e,f,rfl,rfl,c,a⟩:=r;rw[Reps] at a;obtain⟨rfl,rfl⟩:=a;exact⟨v,rfl,by simpa using c⟩
theorem Reps.two_of{d e:D}{vs:List V}{O:List Addr}(r:Reps R Z H [d,e] vs O):∃ v u O1 O2,vs=[v,u]/\O=O1++O2/\Rep R Z H d v O1/\Rep R Z H e u O2:=by
 rw[Reps] at r;obtain⟨v,a,O1,O2,rfl,rfl,b,c⟩:=r;obtain⟨u,rfl,f⟩:=c.one_of;exact⟨v,u,O1,O2,rfl,rfl,b,f⟩
theorem jcY{ta:TA}{p:PAf}(h:PBs R ta p):PIt R (jch ta) (VY p):=by
 intro σ ρ Z H O f z s e Q k;unfold VY at e;split at e
 ·rename_i j a;cases hs:YQ j with
  | false=>rw[hs] at e;cases e
  | true =>
   rw[hs] at e;cases e;refine h z s a λ{v g i l} b c=>?_;obtain⟨u,rfl,d⟩:=c.one_of;obtain⟨rfl,_⟩:=d.int_of;exact⟨j,rfl,(VM hs).1,(VM hs).2,k b jd3⟩
 ·cases e
def PGt(R:RC)(pm:List Nat)(tg:TG)(f:D->Rh->Option Rh):Prop:=∀{σ:St}{ρ ρ':Rh}{Z:Zn}{H:Hp}{O:List Addr}{d:D}{v:V},Rep R Z H d v []->Slots R Z H ρ σ O->f d ρ=some ρ' ->
 ∀{Q:St->Hp->Prop},(∀{σ':St}{O':List Addr},(∀ a∈O',a∈O)->(O.Nodup->O'.Nodup)->Slots R Z H ρ' σ' O'->Keep pm σ σ'->Q σ' H)->tg v σ H Q
def jea(R:RC)(pm:List Nat)(tg:TGs)(f:List D->Rh->Option Rh):Prop:=∀{σ:St}{ρ ρ':Rh}{Z:Zn}{H:Hp}{O:List Addr}{ds:List D}{vs:List V},Reps R Z H ds vs []->Slots R Z H ρ σ O->f ds ρ=some ρ' ->
 ∀{Q:St->Hp->Prop},(∀{σ':St}{O':List Addr},(∀ a∈O',a∈O)->(O.Nodup->O'.Nodup)->Slots R Z H ρ' σ' O'->Keep pm σ σ'->Q σ' H)->tg vs σ H Q
theorem uY{i:Nat}:PGt R pm (Vg i) (jJ pm i):=by
 intro σ ρ m Z H O d v r h e Q k;unfold jJ at e;by_cases c:i < ρ.length
 ·by_cases f:i∈pm
  ·rw[U7 f] at e;simp at e
  ·rw[U7 c,U8 f] at e;cases e;obtain⟨A,n,B,rfl,o,g,p⟩:=h.put c;refine k (O':=A++[]++B) (λa q=>?_) (λnd=>?_) (g r (λ_ z=>z) (λ_ _=>rfl) (λ_ _=>rfl) (λ_ _=>rfl)) (Keep.set f)
   ·simp at q ⊢;rcases q with q | q<;>simp[q]
   ·simp only[U6,N2] at nd;simp only[N0,U6];exact⟨nd.1.1,nd.2.1,λa j b l e=>nd.2.2 a (.inl j) b l e⟩
 ·rw[U8 c] at e;simp at e
theorem u1:jea R pm jfL gN:=by
 intro σ ρ c Z H O b d r h e Q k;unfold gN at e;cases b with
 | cons _ _=>cases e
 | nil =>
  cases e;rw[Reps] at r;obtain⟨rfl,_⟩:=r;exact⟨rfl,k (λa h=>h) (λh=>h) h (Keep.refl _ _)⟩
theorem xO{t:TG}{u:TGs}{g:D->Rh->Option Rh}{c:List D->Rh->Option Rh}(i:PGt R pm t g)(j:jea R pm u c):jea R pm (jc9 t u) (gC g c):=by
 intro σ ρ B Z H O f C r h e Q k;unfold gC at e;cases f with
 | nil=>cases e
 | cons d f =>
  dsimp only at e;cases e1:g d ρ with
  | none=>rw[e1] at e;cases e
  | some E =>
   rw[e1] at e;dsimp only at e;rw[Reps] at r;obtain⟨v,b,F,G,rfl,l,m,n⟩:=r;obtain⟨rfl,rfl⟩:=List.append_eq_nil_iff.mp l.symm;exact⟨v,b,rfl,i m h e1 λo p s w=>j n s e λx y z A=>k (λa q=>o a (x a q)) (λq=>y (p q)) z (w.trans A)⟩
theorem jca{n:Nat}{u:TGs}{c:List D->Rh->Option Rh}(g:jea R pm u c):PGt R pm (jfJ R.K n u) (gT n c):=by
 intro σ ρ m Z H O d v r h e Q k;cases d with
 | tup l =>
  unfold gT at e;dsimp only at e;by_cases b:l.length=n
  ·rw[U7 b,cond_true] at e;rw[Rep] at r;obtain⟨a,i,rfl,j,f⟩:=r;exact⟨a,i,rfl,j.sq,by rw[f.length];exact b,g f h e k⟩
  ·rw[U8 b,cond_false] at e;cases e
 | _=>cases e
noncomputable def kq(g:D->Rh->Option Rh)(f:FS):List D->FS
 | [],ρ=>some (.nx ρ)
 | x::xs,ρ=>match g x ρ with
  | none=>none
  | some ρ1=>match f ρ1 with
   | none=>none
   | some (.nx ρ2)=>kq g f xs ρ2
   | some (.ct ρ2)=>kq g f xs ρ2
   | some (.bk ρ2)=>some (.nx ρ2)
   | some (.rt d ρ2)=>some (.rt d ρ2)
noncomputable def wV(p:PAf)(g:D->Rh->Option Rh)(f:FS):FS:=λρ=>match p ρ with
 | none=>none
 | some xs=>kq g f xs ρ
theorem qp{α:Type}{l:List α}{i:Nat}{x:α}(h:l[i]?=some x):l.drop i=x::l.drop (i+1):=by
 obtain⟨a,rfl⟩:=L9.mp h;exact List.drop_eq_getElem_cons a
theorem jaU{wi:TI}{tg:TG}{tb:TS}{p:PAf}{g:D->Rh->Option Rh}{f:FS}(hi:PIt R wi p)(hg:PGt R pm tg g)(hf:DS R pm tb f):DS R pm (jdG wi tg tb) (wV p g f):=by
 intro σ ρ Z H O o w s e D' k;unfold wV at e;cases e1:p ρ with
 | none=>rw[e1] at e;cases e
 | some c =>
  rw[e1] at e;dsimp only at e;refine hi w.zd s e1 λ{J x L} W it=>?_;have h:Go Z H O x L O:=by simpa using W.widen w
  refine⟨λi m Q y=>m=c.length - i/\i<=c.length/\∃ M A B,Go x L O A y B/\Slots R A y M Q B/\Keep pm σ Q/\kq g f (c.drop i) M=some o,
   ⟨c.length,rfl,U4 _,ρ,x,O,Go.refl h.wf,W.slots w.zd s,Keep.refl _ _,e⟩,?_⟩
  rintro i m Q y ⟨rfl,hi',M,A,B,l,X,kp,b⟩;have C:=it (Z1:=A) (H1:=y) l.zz (λa z=>l.zH h.wf a z) l.wf.zd i;by_cases E:i < c.length
  ·right
   have Y:c[i]?=some c[i]:=by simp[E]
   obtain⟨go,yl⟩:=C.2 _ Y;rw[qp Y] at b;unfold kq at b;cases e3:g c[i] M with
   | none=>rw[e3] at b;cases b
   | some ρ1 =>
    rw[e3] at b;dsimp only at b;cases e4:f ρ1 with
    | none=>rw[e4] at b;cases b
    | some o1 =>
     rw[e4] at b;refine⟨go,λS n=>∃ j q N,Go x L O q n N/\Slots R q n j S N/\Keep pm σ S/\kq g f (c.drop (i+1)) j=some o,λS n ⟨j,q,N,a1,a2,a3,a4⟩=>⟨c.length - (i+1),by omega,rfl,E,j,q,N,a1,a2,a3,a4⟩,λu n hy=>?_⟩;obtain⟨q,g2,r2⟩:=yl u n hy;have F:Go A y B q n B:=by simpa using g2.widen l.wf
     refine hg r2 (g2.slots l.wf.zd X) e3 λ{σ3 O3} sub nd s3 P=>?_;have G:Go x L O q n O3:=(l.trans F).drop sub (nd F.wf.nd);refine hf G.wf s3 e4 ?_;cases o1 with
     | nx j=>exact λ{T I U K} r t v=>⟨j,I,K,G.trans r,t,kp.trans (P.trans v),b⟩
     | ct j=>exact λ{T I U K} r t v=>⟨j,I,K,G.trans r,t,kp.trans (P.trans v),b⟩
     | bk j=>cases b;exact λ{T I U K} r t v=>k (h.trans (G.trans r)) t (kp.trans (P.trans v))
     | rt d j=>cases b;exact λ{v4 T I U P4 K} r r4 t v=>k (h.trans (G.trans r)) r4 t (kp.trans (P.trans v))
  ·left
   have V:i=c.length:=by omega
   refine⟨C.1 (by omega),?_⟩;rw[V,List.drop_length] at b;cases b;exact k (h.trans l) X kp
noncomputable def j7(ix:List (Option Nat))(ρ:Rh):Rh:=ix.map λo=>o.bind λj=>(ρ[j]?).join
theorem Yb{ρ:Rh}{σ:St}{O:List Addr}(s:Slots R Z H ρ σ O):∀ ix:List (Option Nat),∃ O',Slots R Z H (j7 ix ρ) (yz ix σ) O'
 | []=>⟨[],rfl,rfl⟩
 | o::ix=>by
  obtain⟨O',b⟩:=Yb s ix;show ∃ O',Slots R Z H ((o.bind λj=>(ρ[j]?).join)::j7 ix ρ) ((o.bind λj=>(σ[j]?).join)::yz ix σ) O';cases e:o.bind λj=>(ρ[j]?).join with
  | none=>exact⟨O',_,_,rfl,b⟩
  | some d =>
   cases o with
   | none=>cases e
   | some j =>
    have a:(ρ[j]?).join=some d:=e;have c:ρ[j]?=some (some d):=by
     cases q:ρ[j]? with
     | none=>rw[q] at a;cases a
     | some u=>rw[q] at a;rw[show u=some d from a]
    obtain⟨A,P,B,_,f,_⟩:=s.put (L9.mp c).1;obtain⟨v,g,r⟩:=f d c;refine⟨P++O',v,_,P,O',?_,rfl,r,b⟩;show((σ[j]?).join::yz ix σ)=some v::yz ix σ;rw[g];rfl
noncomputable def qT:PTf:=λ_=>some true
theorem jdb:PTt R (λ_ H Q=>Q true H) qT:=by
 intro σ ρ Z H O b z s e Q k;cases e;exact k (Go.id z)
noncomputable def yT(g:D->Rh->Option Rh)(q:PTf)(p:PF):List D->Rh->Option (List D)
 | [],_=>some []
 | x::xs,ρ=>match g x ρ with
  | none=>none
  | some ρ1=>match q ρ1 with
   | none=>none
   | some b=>bif b then(match p ρ1 with
    | none=>none
    | some y=>match yT g q p xs ρ1 with
     | none=>none
     | some ys=>some (y::ys)) else yT g q p xs ρ1
noncomputable def J0(pi:PAf)(g:D->Rh->Option Rh)(q:PTf)(p:PF)(ix:List (Option Nat)):PF:=λρ=>match pi ρ with
 | none=>none
 | some xs=>bif lim xs.length then(match yT g q p xs (j7 ix ρ) with
  | none=>none
  | some ys=>some (.lst true ys)) else none
noncomputable def spP(R:RC)(m:List D->Option D)(n:Nat):Sp:=λvs H Q _=>∃ Z ds d,Zd Z H/\ds.length=n/\Reps R Z H ds vs []/\m ds=some d/\∀{v:V}{Z':Zn}{H':Hp}{P:List Addr},Go Z H [] Z' H' P->Rep R Z' H' d v P->Q v H'
noncomputable def fnP(n:Nat)(f:FS):List D->Option D:=λds=>match f (ds.map some++List.replicate (n - ds.length) none) with
 | some (.rt d _)=>some d
 | some (.nx _)=>some .non
 | _=>none
theorem Jj:∀ n:Nat,Slots R Z H (List.replicate n none) (List.replicate n none) []
 | 0=>⟨rfl,rfl⟩
 | n+1=>⟨none,_,rfl,Jj n⟩
theorem Jl:∀{ds:List D}{vs:List V}{O:List Addr}{ρ:Rh}{σ:St}{P:List Addr},Reps R Z H ds vs O->Slots R Z H ρ σ P->Slots R Z H (ds.map some++ρ) (vs.map some++σ) (O++P)
 | [],_,_,_,_,_,r,s=>by rw[Reps] at r;obtain⟨rfl,rfl⟩:=r;exact s
 | d::ds,_,_,_,_,_,r,s=>by
  rw[Reps] at r;obtain⟨v,a,b,f,rfl,rfl,c,e⟩:=r;exact⟨v,_,b,_,rfl,List.append_assoc ..,c,Jl e s⟩
theorem jcT{N:List Str}{ts:TS}{f:FS}{vs:List V}{Q:VK}{E:XK}{n:Nat}(c:DS R [] ts f)(h:spP R (fnP N.length f) n vs H Q E):ts { nx:=λ_ H'=>Q .non H',rt:=Q } (L2.start N vs) H:=by
 obtain⟨Z,a,d,z,l,r,e,k⟩:=h;unfold fnP at e;have s:Slots R Z H (a.map some++List.replicate (N.length - a.length) none) (L2.start N vs) []:=by
  have q:=Jl r (Jj (R:=R) (Z:=Z) (H:=H) (N.length - a.length));unfold L2.start;rw[r.length];exact q
 split at e
 ·rename_i m i b;cases e;exact c (wf0 z) s b λg j _ _=>k g.dropR j
 ·rename_i i b;cases e;exact c (wf0 z) s b λg _ _=>k (P:=[]) g.to0 .non_mk
 ·cases e
theorem jbw{m:List D->Option D}{n:Nat}{vs:List V}{Q:VK}{E:XK}(h:spP R m n vs H Q E):vs.length=n:=by
 obtain⟨Z,b,d,z,a,r,_⟩:=h;rw[r.length,a]
mutual
noncomputable def y3:D->Bool
 | .tup l=>yb l
 | .lst o l=>o&&yb l
 | .dK o _ l=>o&&yb l
 | .dT o _ l=>o&&yb l
 | .ins o _ _ l=>o&&yb l
 | .non=>true | .bl _=>true | .int _=>true | .str _=>true | .dead=>true | .exc _ _=>false
noncomputable def yb:List D->Bool
 | []=>true
 | d::l=>y3 d&&yb l
end
mutual
theorem Rep.thaw(ht:∀ a vs,Z a->Rd H a (.tup vs)->Z' a):∀{d:D}{v:V}{O:List Addr},Rep R Z H d v O->y3 d=true->Rep R Z' H d v O
 | .non,_,_,h,_=>by rw[Rep] at h ⊢;exact h
 | .bl _,_,_,h,_=>by rw[Rep] at h ⊢;exact h
 | .int _,_,_,h,_=>by rw[Rep] at h ⊢;exact h
 | .str _,_,_,h,_=>by rw[Rep] at h ⊢;exact h
 | .dead,_,_,h,_=>by rw[Rep] at h ⊢;exact h
 | .exc _ _,_,_,_,f=>by rw[y3] at f;cases f
 | .tup l,_,_,h,f=>by
  rw[Rep] at h ⊢;rw[y3] at f;obtain⟨a,vs,e,t,r⟩:=h;refine⟨a,vs,e,?_,Reps.thaw ht r f⟩;rcases t with⟨z,q⟩ | q
  ·exact .inl ⟨ht a vs z q,q⟩
  ·exact .inr q
 | .lst o l,_,_,h,f=>by
  rw[Rep] at h ⊢;rw[y3,M0] at f;obtain⟨a,vs,O',e,r,h⟩:=h;cases f.1;exact⟨a,vs,O',e,Reps.thaw ht r f.2,h⟩
 | .dK o ks l,_,_,h,f=>by
  rw[Rep] at h ⊢;rw[y3,M0] at f;obtain⟨a,vs,O',e,r,h⟩:=h;cases f.1;exact⟨a,vs,O',e,Reps.thaw ht r f.2,h⟩
 | .dT o ks l,_,_,h,f=>by
  rw[Rep] at h ⊢;rw[y3,M0] at f;obtain⟨a,vs,O',e,r,h⟩:=h;cases f.1;exact⟨a,vs,O',e,Reps.thaw ht r f.2,h⟩
 | .ins o c ns l,_,_,h,f=>by
  rw[Rep] at h ⊢;rw[y3,M0] at f;obtain⟨a,dx,vs,O',e,r,h⟩:=h;cases f.1;exact⟨a,dx,vs,O',e,Reps.thaw ht r f.2,h⟩
theorem Reps.thaw(ht:∀ a vs,Z a->Rd H a (.tup vs)->Z' a):∀{l:List D}{vs:List V}{O:List Addr},Reps R Z H l vs O->yb l=true->Reps R Z' H l vs O
 | [],_,_,h,_=>by rw[Reps] at h ⊢;exact h
 | d::l,_,_,h,f=>by
  rw[Reps] at h ⊢;rw[yb,M0] at f;obtain⟨v,vs,O1,O2,e,rfl,r1,r2⟩:=h;exact⟨v,vs,O1,O2,e,rfl,Rep.thaw ht r1 f.1,Reps.thaw ht r2 f.2⟩
end
mutual
theorem Rep.notTup:∀{d:D}{v:V}{O:List Addr},Rep R Z H d v O->∀ a∈O,∀ vs,¬ Rd H a (.tup vs)
 | .non,_,_,h,a,ha=>by rw[Rep] at h;rw[h.2] at ha;cases ha
 | .bl _,_,_,h,a,ha=>by rw[Rep] at h;rw[h.2] at ha;cases ha
 | .int _,_,_,h,a,ha=>by rw[Rep] at h;rw[h.2] at ha;cases ha
 | .str _,_,_,h,a,ha=>by rw[Rep] at h;rw[h.2] at ha;cases ha
 | .dead,_,_,h,a,ha=>by rw[Rep] at h;rw[h] at ha;cases ha
 | .exc _ _,_,_,h,a,ha=>by rw[Rep] at h;obtain⟨_,_,_,_,_,_,_,h⟩:=h;rw[h] at ha;cases ha
 | .tup l,_,_,h,a,ha=>by
  rw[Rep] at h;obtain⟨b,vs,e,t,r⟩:=h;exact Reps.notTup r a ha
 | .lst o l,_,_,h,a,ha=>by
  rw[Rep] at h;obtain⟨b,vs,O',e,r,h⟩:=h;cases o with
  | true =>
   obtain⟨h1,rfl⟩:=h;rcases M5.mp ha with e | e
   ·subst e;rintro ws (q | ⟨_,q⟩)<;>rw[h1] at q<;>cases q
   ·exact Reps.notTup r a e
  | false=>rw[h.2.2] at ha;cases ha
 | .dK o ks l,_,_,h,a,ha=>by
  rw[Rep] at h;obtain⟨b,vs,O',e,r,hl,hd,h⟩:=h;cases o with
  | true =>
   have h:=(show _=_ from h);subst h;rcases M5.mp ha with e | e
   ·subst e;rintro ws (q | ⟨_,q⟩)<;>rw[hd] at q<;>cases q
   ·exact Reps.notTup r a e
  | false=>rw[h.2.2] at ha;cases ha
 | .dT o ks l,_,_,h,a,ha=>by
  rw[Rep] at h;obtain⟨b,vs,O',e,r,hl,hd,h⟩:=h;cases o with
  | true =>
   have h:=(show _=_ from h);subst h;rcases M5.mp ha with e | e
   ·subst e;rintro ws (q | ⟨_,q⟩)<;>rw[hd] at q<;>cases q
   ·exact Reps.notTup r a e
  | false=>rw[h.2.2] at ha;cases ha
 | .ins o c ns l,_,_,h,a,ha=>by
  rw[Rep] at h;obtain⟨b,dx,vs,O',e,r,hl,hd,h⟩:=h;cases o with
  | true =>
   have h:=(show _=_ from h);subst h;rcases M5.mp ha with e | e
   ·subst e;rintro ws (q | ⟨_,q⟩)<;>rw[hd] at q<;>cases q
   ·exact Reps.notTup r a e
  | false=>rw[h.2.2] at ha;cases ha
theorem Reps.notTup:∀{l:List D}{vs:List V}{O:List Addr},Reps R Z H l vs O->∀ a∈O,∀ vs,¬ Rd H a (.tup vs)
 | [],_,_,h,a,ha=>by rw[Reps] at h;rw[h.2] at ha;cases ha
 | d::l,_,_,h,a,ha=>by
  rw[Reps] at h;obtain⟨v,vs,O1,O2,e,rfl,r1,r2⟩:=h;rcases N2.mp ha with q | q
  ·exact Rep.notTup r1 a q
  ·exact Reps.notTup r2 a q
end
noncomputable def yr(m:List D->Option D)(p:PAf):PF:=λρ=>match p ρ with
 | none=>none
 | some ds=>match m (fzs ds) with
  | none=>none
  | some d=>bif frzs ds||y3 d then some d else none
theorem xD(l:List D):(fzs l).length=l.length:=by rw[vn,L0]
theorem jci{m:List D->Option D}{ta:TA}{p:PAf}{n:Nat}(y:PBs R ta p)(A:∀ ρ ds,p ρ=some ds->ds.length=n):PP R (zZ (spP R m n) [] E0 ta) (yr m p):=by
 intro σ ρ Z H O d z s e Q k;unfold yr at e;cases e1:p ρ with
 | none=>rw[e1] at e;cases e
 | some ds =>
  rw[e1] at e;dsimp only at e;cases e2:m (fzs ds) with
  | none=>rw[e2] at e;cases e
  | some c =>
   rw[e2] at e;dsimp only at e;cases f:frzs ds||y3 c with
   | false=>rw[f] at e;cases e
   | true =>
    rw[f] at e;cases e;refine y z s e1 λ{I i o j} r l=>?_;have B:=r.wf.zd;have C:Zd (λa=>i a \/ a∈j) o:=λa h=>h.elim (B a) (l.dom a);refine⟨λa=>i a \/ a∈j,fzs ds,d,C,by rw[xD];exact A ρ ds e1,by rw[N0];exact l.freeze (λa z=>.inl z) λa z=>.inr z,e2,λ{v t u P} b x=>?_⟩;rw[Bool.or_eq_true] at f;rcases f with f | f
    ·cases l.nil f;have g:Go i o [] t u P:=⟨b.wf,λa z=>b.zz a (.inl z),b.fr,λa z=>(b.zn a z).imp (λq=>q.resolve_right (λq=>(nomatch q))) id,b.sub,b.dm⟩;exact k (by simpa using r.pair g) x
    ·have g:Go i o [] (λa=>t a/\(a∉j \/ i a)) u P:=by
      refine⟨⟨b.wf.nd,λa h q=>b.wf.nz a h q.1,b.wf.od,λa q=>b.wf.zd a q.1⟩,λa z=>⟨b.zz a (.inl z),.inr z⟩,b.fr,λa z=>?_,b.sub,b.dm⟩;rcases b.zn a z.1 with(q | q) | q
      ·exact .inl q
      ·exact .inl (z.2.resolve_left λn=>n q)
      ·exact .inr q
     have E:Rep R (λa=>t a/\(a∉j \/ i a)) u d v P:=by
      refine x.thaw (λa F G ta=>⟨G,?_⟩) f;by_cases w:a∈j
      ·exact absurd (Rd.agree (b.same a (l.dom a w)).symm ta) (l.notTup a w F)
      ·exact .inl w
     exact k (by simpa using r.pair g) E
noncomputable def sFz(i:Nat)(f:FS):FS:=λρ=>match ρ[i]? with
 | some (some d)=>f (ρ.set i (some (fz d)))
 | _=>f ρ
theorem jfW{i:Nat}{t:TS}{f:FS}(h:DS R pm t f):DS R pm t (sFz i f):=by
 intro σ ρ Z H O o w s e m k;unfold sFz at e;split at e
 ·rename_i d hd;obtain⟨A,P,B,rfl,c,j,_⟩:=s.put (L9.mp hd).1;obtain⟨v,l,r⟩:=c d hd;have g:Go Z H (A++P++B) (λa=>Z a \/ a∈P) H (A++[]++B):=(Go.freeze w.mid).frame w;have b:=j (r.freeze (Z':=λa=>Z a \/ a∈P) (λa z=>.inl z) λa z=>.inr z) (λa z=>.inl z) (λ_ _=>rfl) (λ_ _=>rfl) (λ_ _=>rfl);rw[JQ l] at b;exact h g.wf b e (k.pre g (Keep.refl _ _))
 ·exact h w s e k
noncomputable def ja0(i:Nat)(p:PF):FS:=λρ=>match p ρ with
 | none=>none
 | some d=>match ρ[i]? with
  | some (some (.lst true l))=>bif lim l.length then some (.nx (ρ.set i (some (.lst true (l++[d]))))) else none
  | _=>none
theorem jey{i:Nat}{te:TE}{p:PF}(h:PP R te p):DS R pm (jcS (tBM R.K "list" KO (KH i) (vt te xf))) (ja0 i p):=by
 intro σ ρ Z H O o w s e D' k;unfold ja0 at e;cases e1:p ρ with
 | none=>rw[e1] at e;cases e
 | some d =>
  rw[e1] at e;dsimp only at e;split at e
  ·rename_i l V;cases hlim:lim l.length with
   | false=>rw[hlim] at e;cases e
   | true =>
    rw[hlim] at e;cases e;obtain⟨A,P,B,rfl,k1,k2,_⟩:=s.put (L9.mp V).1;obtain⟨v,W,r⟩:=k1 _ V;rw[Rep] at r;obtain⟨a,j,t,rfl,X,L,rfl⟩:=r;refine⟨.ref a,W,.inl ⟨rfl,j,SqL.of L⟩,?_⟩;refine h w.zd s e1 λ{u C m D} n r1=>?_;have M:m a=some (.lst j):=by rw[n.same a (by rw[L];exact λz=>(nomatch z))];exact L
    refine⟨a,j,u,rfl,rfl,M,by rw[X.length];exact ja7 hlim,?_⟩;have G:Go Z H (A++(a::t)++B) C m (A++(a::(t++D))++B):=by
     have q:=n.widen w;refine q.drop (λb c=>by simp at c ⊢;rcases c with c | c | c | c | c<;>simp[c]) ?_;have nd:=q.wf.nd;simp only[U6,N2,List.nodup_cons,M5,not_or] at nd ⊢;obtain⟨Y,⟨⟨N,⟨Q,n4⟩,I⟩,n6,E⟩,J⟩:=nd;refine⟨⟨N,⟨⟨Q,λq=>J a q a (.inl (.inr (.inl rfl))) rfl⟩,n4,Y,λx f y g e=>J y g x (.inl (.inr (.inr f))) e.symm⟩,λx f y g e=>?_⟩,n6,λx f y g e=>?_⟩
     ·rcases g with g | g | g
      ·exact I x f y (.inl g) e
      ·exact I x f y (.inr g) e
      ·exact J y g x (.inl (.inl f)) e.symm
     ·rcases f with f | f | f | f
      ·exact E x (.inl f) y g e
      ·exact E x (.inr (.inl f)) y g e
      ·exact E x (.inr (.inr f)) y g e
      ·exact J x f y (.inr g) e
    have gB:Go C m (A++(a::(t++D))++B) C (upd m a (.lst (j++[u]))) (A++(a::(t++D))++B):=Go.put G.wf (by simp);have nd:=G.wf.nd;simp only[U6,N2,List.nodup_cons,M5,not_or] at nd;obtain⟨⟨Y,⟨⟨N,Q⟩,n4⟩,I⟩,n6,E⟩:=nd;have F:∀ b,C b->upd m a (.lst (j++[u])) b=m b:=λb c=>jh λz=>G.wf.nz a (by simp) (z▸c);have hr:Rep R C (upd m a (.lst (j++[u]))) (.lst true (l++[d])) (.ref a) (a::(t++D)):=by
     rw[Rep];refine⟨a,j++[u],t++D,rfl,?_,jz,rfl⟩;refine((n.reps w.zd X).append (.one r1)).frame (λb z=>z) F λb c=>jh λz=>?_;subst z;rcases N2.mp c with q | q
     ·exact N q
     ·exact Q q
    have S:∀ b,Z b->upd m a (.lst (j++[u])) b=H b:=λb c=>by rw[F b (n.zz b c)];exact n.same b (w.zd b c)
    have T:∀ b∈A,upd m a (.lst (j++[u])) b=H b:=λb c=>by
     rw[jh λz=>I b c b (.inl z) rfl];exact n.same b (w.od b (by simp[c]))
    have U:∀ b∈B,upd m a (.lst (j++[u])) b=H b:=λb c=>by
     rw[jh λz=>E b (.inr (.inl z)) b c rfl];exact n.same b (w.od b (by simp[c]))
    have sl:=k2 hr (λb z=>n.zz b z) S T U;rw[JQ W] at sl;exact k (G.trans gB) sl (Keep.refl _ _)
  ·cases e
end
end QD
namespace L2
open PySem PySem.Spec PyProof.Rows
section
variable {X:Cx}{pins:List (Addr×Obj)}{σ:St}{H:Hp}{s:Shared}{h':Heap}
theorem Inv.turnedNew{t':Nat}{wr:List Addr}{T:Addr}{xs:List V}{its:Array Value}(I:Inv X pins σ H s)(k:∀ b o,b∉wr->s.heap.get? b=some o->h'.get? b=some o)(g:∀ b∈wr,xh X pins H b)
  (h:s.heap.objs.size<=T) (j:IsTupN h' T its) (l:Vals xs its.toList) (p:xs.length<=sizeLine):Inv X pins σ (upd H T (.tup xs)) { s with heap:=h',toks:=t' }:=by
 have t:=I.hok.fresh h;have i:∀ b u,H b=some u->b∉wr:=λb u e z=>by rw[(g b z).1] at e;cases e
 have d:∀ b u,H b=some u->b≠T:=λb u e z=>by rw[z,t] at e;cases e
 refine I.step (g':=s.gens) (d':=s.drawn) (ch:=wr) (λb f=>?_) (λb o _ _ a e _=>k b o a e) (λb o _ _ a e _=>⟨o.slots,k b o a e⟩) (λb o _ e n=>?_)
  (λb o a e=>⟨o,k b o a e⟩) (λb w e=>by rw[jh (d b _ e)];exact e) (λb o u e=>by rw[jh (d b _ e)];exact e) (λb G e=>⟨#[],by rw[jh (d b _ e),e];simp⟩) (λm x=>?_) (λb u e=>?_) I.bare
 ·obtain⟨_,y,_,A,B,C⟩:=g b f;exact⟨A,y,B,C⟩
 ·rw[jh (λz=>absurd (N1 e) (by rw[z];exact Nat.not_lt.mpr h))];exact n
 ·obtain⟨o,D,E,F,r⟩:=x;refine⟨o,D,E,k _ o (λz=>(g _ z).2.1 rfl) F,r⟩
 ·by_cases f:b=T
  ·subst f;rw[jz] at e;cases e;exact⟨p,its.toList,l,by simpa using j⟩
  ·rw[jh f] at e;refine(I.hok b u e).stay (λc v a q=>k c v ?_ q) (λc q=>by rw[jh (d c _ q)];exact q) λc w q=>by rw[jh (d c _ q)];exact q
   rcases a with z | z
   ·rw[z];exact i b u e
   ·exact i c _ z
theorem Inv.turnedL{t':Nat}{wr:List Addr}(I:Inv X pins σ H s)(k:∀ b o,b∉wr->s.heap.get? b=some o->h'.get? b=some o)(d:∀ b∈wr,xh X pins H b):Inv X pins σ H { s with heap:=h',toks:=t' }:=by
 have f:∀ b u,H b=some u->b∉wr:=λb u e z=>by rw[(d b z).1] at e;cases e
 refine I.step (g':=s.gens) (d':=s.drawn) (ch:=wr) (λb g=>?_) (λb o _ _ a e _=>k b o a e) (λb o _ _ a e _=>⟨o.slots,k b o a e⟩) (λb o _ e n=>n)
  (λb o a e=>⟨o,k b o a e⟩) (λb y e=>e) (λb o u e=>e) (λb A e=>⟨#[],by rw[e];simp⟩) (λm h=>?_) (λb u e=>?_) I.bare
 ·obtain⟨_,i,_,j,l,p⟩:=d b g;exact⟨j,i,l,p⟩
 ·obtain⟨o,t,w,x,r⟩:=h;refine⟨o,t,w,k _ o (λz=>(d _ z).2.1 rfl) x,r⟩
 ·refine(I.hok b u e).stay (λc v a q=>k c v ?_ q) (λ_ q=>q) λ_ _ q=>q;rcases a with z | z
  ·rw[z];exact f b u e
  ·exact f c _ z
end
noncomputable def Ite(K:PySem.W.Frag)(l:Addr):It :=
 ⟨λi H=>∃ xs x,SqL K H l xs/\xs[i]?=some x,λi H x H'=>∃ p v,(∀ xs,SqL K H l xs->xs[i]?=some v)/\x=.ref p/\H p=none/\H'=upd H p (.tup [.int i,v]),λi H=>∃ xs,SqL K H l xs/\xs.length<=i⟩
theorem ut{P:Program}{w:World}{K:PySem.W.Frag}{r:List Expr}{n:Nat}{pos:Pos}(e a l:Addr)(t:e≠a)(hle:l≠e)(hli:l≠a) :
  Turn P w K (.Tuple r n pos) (Ite K l) [e,a] e (λi h=>(∃ old,IsEnum h e a i old)/\h.IsListIter a l i) where
 mem:=by simp
 obj:=λi h st b f=>by
  obtain⟨⟨old,g⟩,o,J,L,hd⟩:=st;rcases(by simpa using f:b=e \/ b=a) with z | z
  ·subst z;exact⟨_,g,λv q=>by cases q⟩
  ·subst z;exact⟨o,J,λv q=>by rw[hd] at q;cases q⟩
 keep:=λi h h' st k=>by
  obtain⟨⟨old,g⟩,c⟩:=st;exact⟨⟨old,k e (by simp) _ g⟩,c.at λo q=>k a (by simp) o q⟩
 item:=by
  intro X M N O L i y s σ H E I D st Q;subst M N O;obtain⟨Z,x,F,R⟩:=Q;obtain⟨A,S,p,hz⟩:=I.list F;obtain⟨u,hu,ru⟩:=S.get R;obtain⟨⟨old,g⟩,c⟩:=st;refine wpAny_pyNext_enum_item g c p.isList (x:=u) (by simpa using hu) t λU J B hT hsz hk=>?_;refine⟨_,rfl,wpAny_letOwnedTupleGo_enum (s:={ s with heap:=U,toks:=s.toks+1 }) J λG V d=>?_⟩;replace d:Heap.SameBut e U G:=d;have j:e < s.heap.objs.size:=N1 g;have C:G.get? s.heap.objs.size=_:=(d.2 _ (Nat.ne_of_gt j)).trans hT;have kk:∀ b o,b∉[e,a]->s.heap.get? b=some o->G.get? b=some o:=λb o f q=>by
   have m:b≠e/\b≠a:=by simpa using f
   exact(d.2 b m.1).trans (hk b o m.1 m.2 q)
  have I1:=I.turnedNew (h':=G) (t':=s.toks+1) (wr:=[e,a]) (T:=s.heap.objs.size) (xs:=[.int i,x]) (its:=#[.int i s.toks,u]) kk D (M9 _) ⟨⟨_,C,rfl,_,rfl⟩,_,C,rfl⟩ (.cons ⟨_,rfl⟩ (.cons ru .nil)) (by show 2<=sizeLine;decide);refine⟨.ref s.heap.objs.size,_,I1,rfl,⟨_,x,(λys hy=>by rw[I.list_inj hy F];exact R),rfl,I.hok.fresh (M9 _),rfl⟩,⟨⟨_,by simpa using V⟩,B.at λo q=>(d.2 a t.symm).trans q⟩,λb f=>?_⟩;rw[jh]
  ·exact(D b f).1
  ·intro z;have:b < s.heap.objs.size:=by
    obtain⟨oi,Y,_⟩:=id c;rcases(by simpa using f:b=e \/ b=a) with q | q
    ·rw[q];exact j
    ·rw[q];exact N1 Y
   exact absurd this (by rw[z];exact Nat.lt_irrefl _)
 done:=by
  intro X M N O L i y s σ H E I D st Q;subst M N O;obtain⟨Z,F,R⟩:=Q;obtain⟨A,S,p,hz⟩:=I.list F;obtain⟨⟨old,g⟩,c⟩:=st;have hl:=S.length;exact wpAny_pyNext_enum_end (I.ok.hd L) g c p.isList (by simp;lia) λU eb=>⟨rfl,I.turnedL (t':=s.toks) (wr:=[e,a]) (λb o f q=>eb b o (by simp at f;exact f.2) q) D⟩
 self:=λ_ _ _ _ _ st h=>wpAny_pyIter_enum st.1.choose_spec h
noncomputable def jcd(K:PySem.W.Frag)(tl:TA):TI:=λσ H R=>tl σ H λvs H1=>∃ a xs,vs=[.ref a]/\SqL K H1 a xs/\R (Ite K a) H1
section
variable {X:Cx}
theorem jcA{f:List Expr}{n:Nat}{g p pos:Pos}{a:Expr}{ta:TA}(w:Gl X "enumerate")(x:X.mg "enumerate" = none)(y:PA X [a] ta)(A:starEach [a] X.env=[(false,eval a X.env)]:=by rfl) :
  PI X (.Tuple f n g) (.Call (.Name "enumerate" p) [a] [] pos) (jcd X.K ta):=by
 intro d s σ H R I h;refine Call_ (Yd I w x (show bootBuiltins "enumerate" = some (.type "enumerate") by decide +kernel) (PyProof.Rows.callWith_type1 (thn (y pos d s σ H _ I h) λN c ⟨O,r,k,B,C⟩=>?_) A rfl));obtain⟨l,P,rfl,D,q⟩:=C;obtain⟨u,rfl,E⟩:=B.one;cases E;obtain⟨F,Q,pl,S⟩:=k.list D;have i:l < c.heap.objs.size:=by
  obtain⟨o,_,e,_⟩:=pl;exact N1 e
 refine call_enumerate_list pl.isList λt v m G J=>?_;have L:Inv X d σ r { c with heap:=t }:=k.kept (t':=c.toks) J;refine PySem.wpAny_pyIter_enum (s:={ c with heap:=t }) v ?_;refine⟨c.heap.objs.size+1,[c.heap.objs.size+1,c.heap.objs.size],_,_,r,rfl,L,ut _ _ l (Nat.succ_ne_self _) (N6 (Nat.lt_succ_of_lt i)) (N6 i),⟨⟨_,v⟩,m⟩,λb M=>?_,q⟩;have j:c.heap.objs.size<=b:=by
  rcases(by simpa using M:b=c.heap.objs.size+1 \/ b=c.heap.objs.size) with z | z
  ·rw[z];exact Nat.le_succ _
  ·rw[z];exact M9 _
 exact k.fpOk j (k.hok.fresh j)
end
theorem jaI(n a b:Nat)(h1:a < n)(h2:b < n):ZipApart (n+4) (n+2) (n+3) n (n+1) a b:=by
 constructor<;>(show @Ne Nat _ _)<;>lia
section
variable {X:Cx}
inductive TyQ (K:PySem.W.Frag) (H:Hp):V->String->Prop where
 | non:TyQ K H .non "NoneType"
 | bl (x:Bool):TyQ K H (.bl x) "bool"
 | int (i:Int):TyQ K H (.int i) "int"
 | str (x:Str):TyQ K H (.str x) "str"
 | lst {a:Addr}{xs:List V}(e:SqL K H a xs):TyQ K H (.ref a) "list"
 | tup {a:Addr}{xs:List V}(e:SqT K H a xs):TyQ K H (.ref a) "tuple"
 | dK {a:Addr}{kvs:List (Key×V)}(e:H a=some (.dK kvs)):TyQ K H (.ref a) "dict"
theorem VH:CallR X (.builtin "isinstance") (λxs H Q=>∃ x T t b,xs=[x,.ty T]/\TyQ X.K H x t/\PySem.W.kitOne X.K (.type t) (.type T)=some b/\Q (.bl b) H):=by
 intro d s σ H xs B Q I r h;obtain⟨x,T,t,b,rfl,ty,e,q⟩:=h;obtain⟨u,v,rfl,c,A⟩:=r.two;cases A;have fin:∀ k,EP X d σ Q (.bool b) { s with toks:=k }:=λk=>⟨.bl b,H,I.tok k,rfl,q⟩;cases ty with
 | non=>cases(show u=Value.none from c);exact PySem.W.kia_one PySem.W.kitx_none I.kIn True.intro e (λz=>nomatch z) fin
 | bl y=>cases(show u=Value.bool y from c);exact PySem.W.kia_one PySem.W.kitx_bool I.kIn True.intro e (λz=>nomatch z) fin
 | int i=>obtain⟨t,q⟩:=(show ∃ t,u=Value.int i t from c);cases q;exact PySem.W.kia_one PySem.W.kitx_int I.kIn True.intro e (λz=>nomatch z) fin
 | str y=>obtain⟨t,q⟩:=(show ∃ t,u=Value.str y t from c);cases q;exact PySem.W.kia_one PySem.W.kitx_str I.kIn True.intro e (λz=>nomatch z) fin
 | @lst a xs f =>
  cases(show u=Value.ref a from c);obtain⟨l,_,⟨o,n,g,j,_,_⟩,_⟩:=I.list f;exact PySem.W.kia_one PySem.W.kitx_list I.kIn ⟨o,g,j⟩ e (λz=>nomatch z) fin
 | @tup a xs f =>
  cases(show u=Value.ref a from c);obtain⟨l,_,⟨o,g,j,_⟩,_⟩:=I.tuple f;exact PySem.W.kia_one PySem.W.kitx_tuple I.kIn ⟨o,g,j⟩ e (λz=>nomatch z) fin
 | @dK a m f =>
  cases(show u=Value.ref a from c);obtain⟨_,_,C,_,p⟩:=(show ObjOk X.prog X.w H s.heap a (.dK m) from I.hok a _ f);obtain⟨o,D,E,g,j,_⟩:=p;exact PySem.W.kia_one PySem.W.kitx_dict I.kIn ⟨o,g,j.1⟩ e (λz=>nomatch z) fin
end
end L2
namespace QD
open PySem L2
section
variable {X:Cx}{R:RC}{Z Z':Zn}{H H':Hp}
theorem JD{f:Value->Value->Sem Value}{r b:R2}(h:OpR X f r)(h':OpR X f b):OpR X f (λx y H Q=>r x y H Q \/ b x y H Q):=by
 intro a s σ H x y v u Q I c d q;rcases q with q | q
 ·exact h a s σ H x y v u Q I c d q
 ·exact h' a s σ H x y v u Q I c d q
theorem Rep.lst_of{o:Bool}{l:List D}{v:V}{O:List Addr}(r:Rep R Z H (.lst o l) v O):∃ a vs O',v=.ref a/\SqX R.K H a vs/\Reps R Z H l vs O':=by
 rw[Rep] at r;obtain⟨a,vs,O',rfl,b,h⟩:=r;cases o with
 | true=>exact⟨a,vs,O',rfl,SqX.of h.1,b⟩
 | false=>exact⟨a,vs,O',rfl,FL.sqx h.1,b⟩
theorem Rep.tup_of{l:List D}{v:V}{O:List Addr}(r:Rep R Z H (.tup l) v O):∃ a vs,v=.ref a/\SqT R.K H a vs/\Reps R Z H l vs O:=by
 rw[Rep] at r;obtain⟨a,vs,rfl,h,b⟩:=r;exact⟨a,vs,rfl,h.sq,b⟩
theorem Reps.frozen{l:List D}{vs:List V}{O:List Addr}(r:Reps R Z H l vs O)(f:frzs l=true):Reps R Z H l vs []:=by
 cases r.nil f;exact r
noncomputable def jcx(i:Int):Bool:=decide (Builtin.Int.intBits i<=2 ^ 20)
theorem xr{i:Int}(h:i.natAbs < 2 ^ 1000):jcx i=true:=U7 (z9 h (by decide))
noncomputable def jq(x y:D):Option D:=match x with
 | .int i=>(match y with
  | .int j=>some (.int (i+j))
  | _=>none)
 | .str a=>(match y with
  | .str b=>bif lim (a.length+b.length) then some (.str (a++b)) else none
  | _=>none)
 | .lst _ a=>(match y with
  | .lst _ b=>bif lim (a.length+b.length)&&(frzs a&&frzs b) then some (.lst true (a++b)) else none
  | _=>none)
 | .tup a=>(match y with
  | .tup b=>bif lim (a.length+b.length)&&(frzs a&&frzs b)&&!a.isEmpty then some (.tup (a++b)) else none
  | _=>none)
 | _=>none
noncomputable def jf5:R2:=λx y H Q=>∃ a b,x=.str (S a)/\y=.str (S b)/\a.length+b.length<=sizeLine/\Q (.str (S (a++b))) H
noncomputable def jb2(K:PySem.W.Frag):R2:=λx y H Q=>rI0 (λi j=>.int (i+j)) x y H Q \/ jf5 x y H Q \/ jel K x y H Q \/ jfe K x y H Q
theorem jbF:OpR X (binaryOp .Add) (jb2 X.K):=JD jdB (JD jbt (JD jc8 jbK))
theorem jeC:BO R (jb2 R.K) jq:=by
 intro Z H x y d v u E F z f h e Q k;cases x with
 | int i =>
  cases y with
  | int j =>
   cases e;obtain⟨rfl,_⟩:=f.int_of;obtain⟨rfl,_⟩:=h.int_of;exact .inl ⟨i,j,rfl,rfl,k (Go.id z) .int_mk⟩
  | _=>cases e
 | str a =>
  cases y with
  | str b =>
   simp only[jq] at e;cases hl:lim (a.length+b.length) with
   | false=>rw[hl] at e;cases e
   | true =>
    rw[hl] at e;cases e;obtain⟨rfl,_⟩:=f.str_of;obtain⟨rfl,_⟩:=h.str_of;exact .inr (.inl ⟨a,b,rfl,rfl,JS hl,k (Go.id z) .str_mk⟩)
  | _=>cases e
 | lst o a =>
  cases y with
  | lst G b =>
   simp only[jq] at e;cases hl:lim (a.length+b.length)&&(frzs a&&frzs b) with
   | false=>rw[hl] at e;cases e
   | true =>
    rw[hl] at e;cases e;simp only[M0] at hl;obtain⟨p,l,I,rfl,m,c⟩:=f.lst_of;obtain⟨q,n,A,rfl,r,rt⟩:=h.lst_of;have s:=(c.frozen hl.2.1).append (rt.frozen hl.2.2);exact .inr (.inr (.inl ⟨p,q,l,n,rfl,rfl,m,r,by rw[c.length,rt.length];exact JS hl.1,λb g=>k (Go.newO (wf0 z) g) (Rep.lstNew (wf0 z) g s)⟩))
  | _=>cases e
 | tup a =>
  cases y with
  | tup b =>
   simp only[jq] at e;cases hl:lim (a.length+b.length)&&(frzs a&&frzs b)&&!a.isEmpty with
   | false=>rw[hl] at e;cases e
   | true =>
    rw[hl] at e;cases e;simp only[M0] at hl;obtain⟨p,l,rfl,m,c⟩:=f.tup_of;obtain⟨q,n,rfl,r,rt⟩:=h.tup_of;have s:=(c.frozen hl.1.2.1).append (rt.frozen hl.1.2.2);have t:l≠[]:=by
     intro B;have:=c.length;rw[B] at this;have w:a=[]:=List.eq_nil_of_length_eq_zero this.symm;rw[w] at hl;simp at hl
    refine .inr (.inr (.inr ⟨p,q,l,n,rfl,rfl,m,r,t,by rw[c.length,rt.length];exact JS hl.1.1,(λw=>?_),λ_ b g=>k (Go.newF (wf0 z) g) (Rep.tupNew (wf0 z) g s)⟩));have C:b=[]:=List.eq_nil_of_length_eq_zero (by rw[<- rt.length,w];rfl);subst C;rw[N0] at k;have D:=c.nil hl.1.2.1;subst D;exact k (Go.id z) f
  | _=>cases e
 | _=>cases e
noncomputable def two(f:Int->Int->Option D):D->D->Option D
 | .int i,.int j=>f i j
 | _,_=>none
theorem two_of{f:Int->Int->Option D}{x y d:D}(e:two f x y=some d):∃ i j,x=.int i/\y=.int j/\f i j=some d:=by
 cases x with
 | int i =>
  cases y with
  | int j=>exact⟨i,j,rfl,rfl,e⟩
  | _=>cases e
 | _=>cases y<;>cases e
noncomputable def YC:D->D->Option D:=two λi j=>some (.int (i - j))
theorem jdU:BO R (rI0 λi j=>.int (i - j)) YC:=by
 intro Z H x y d v u c f z a b e Q k;replace e:=two_of e;obtain⟨i,j,rfl,rfl,e⟩:=e;cases e;obtain⟨rfl,_⟩:=a.int_of;obtain⟨rfl,_⟩:=b.int_of;exact⟨i,j,rfl,rfl,k (Go.id z) .int_mk⟩
noncomputable def yP(x y:D):Option D:=match y with
 | .int n=>(match x with
  | .int i=>bif jcx i&&jcx n then some (.int (i*n)) else none
  | .str a=>bif decide (a.length<=1000)&&(decide (0<=n)&&decide (n<=1000)) then some (.str (List.replicate n.toNat a).flatten) else none
  | _=>none)
 | _=>none
noncomputable def jb6:R2:=λx y H Q=>rI (λi j=>Builtin.Int.intBits i<=2 ^ 20/\Builtin.Int.intBits j<=2 ^ 20) (λi j=>.int (i*j)) x y H Q \/
 ∃(a:List Nat) (n:Int),x=.str (S a)/\y=.int n/\a.length<=1000/\0<=n/\n<=1000/\Q (.str (S (List.replicate n.toNat a).flatten)) H
theorem jcO:OpR X (binaryOp .Mult) jb6:=JD jcG jbA
theorem jei:BO R jb6 yP:=by
 intro Z H x y d v u f g z b c e Q k;cases y with
 | int n =>
  cases x with
  | int i =>
   simp only[yP] at e;cases hl:jcx i&&jcx n with
   | false=>rw[hl] at e;cases e
   | true =>
    rw[hl] at e;cases e;rw[M0] at hl;obtain⟨rfl,_⟩:=b.int_of;obtain⟨rfl,_⟩:=c.int_of;exact .inl ⟨i,n,rfl,rfl,⟨U9 hl.1,U9 hl.2⟩,k (Go.id z) .int_mk⟩
  | str a =>
   simp only[yP] at e;cases hl:decide (a.length<=1000)&&(decide (0<=n)&&decide (n<=1000)) with
   | false=>rw[hl] at e;cases e
   | true =>
    rw[hl] at e;cases e;simp only[M0,decide_eq_true_eq] at hl;obtain⟨rfl,_⟩:=b.str_of;obtain⟨rfl,_⟩:=c.int_of;exact .inr ⟨a,n,rfl,rfl,hl.1,hl.2.1,hl.2.2,k (Go.id z) .str_mk⟩
  | _=>cases e
 | _=>cases e
noncomputable def K1(j:Int):Bool:=decide (0 < j)&&decide (j < 2 ^ 300)
theorem x8{j:Int}(h:K1 j=true):0 < j/\j.natAbs.log2 < 9000:=by
 unfold K1 at h;simp only[M0,decide_eq_true_eq] at h;refine⟨h.1,?_⟩;have a:j.natAbs < 2 ^ 300:=by omega
 have b:j.natAbs≠0:=by omega
 have:=(Nat.log2_lt b (k:=300)).mpr a;omega
theorem uL:OpR X (binaryOp .FloorDiv) (rI (λ_ j=>K1 j=true) λi j=>.int (i / j)):=opI λi j t u s Q E a q=>by
 obtain⟨b,c⟩:=x8 a;have e:i / j=i.fdiv j:=(Int.fdiv_eq_ediv_of_nonneg i (Int.le_of_lt b)).symm;rw[e] at q;exact PyProof.Rows.floordiv_int (by omega) q (.inl (PyProof.noPylong_of_log2 c))
noncomputable def j4:D->D->Option D:=two λi j=>bif K1 j then some (.int (i / j)) else none
noncomputable def jy:D->D->Option D:=two λi j=>bif decide (0 < j) then some (.int (i % j)) else none
noncomputable def zo:D->D->Option D:=two λi j=>bif decide (0<=j)&&decide (j<=100)&&decide (i.natAbs < 2 ^ 64) then some (.int (i ^ j.toNat)) else none
theorem jdX:BO R (rI (λ_ j=>K1 j=true) λi j=>.int (i / j)) j4:=by
 intro Z H x y d v u c f z a b e Q k;replace e:=two_of e;obtain⟨i,j,rfl,rfl,e⟩:=e;cases hl:K1 j with
 | false=>rw[hl] at e;cases e
 | true =>
  rw[hl] at e;cases e;obtain⟨rfl,_⟩:=a.int_of;obtain⟨rfl,_⟩:=b.int_of;exact⟨i,j,rfl,rfl,hl,k (Go.id z) .int_mk⟩
theorem jdZ:BO R (rI (λ_ j=>0 < j) λi j=>.int (i % j)) jy:=by
 intro Z H x y d v u f g z b c e Q k;replace e:=two_of e;obtain⟨i,j,rfl,rfl,e⟩:=e;by_cases a:0 < j
 ·rw[U7 a] at e;cases e;obtain⟨rfl,_⟩:=b.int_of;obtain⟨rfl,_⟩:=c.int_of;exact⟨i,j,rfl,rfl,a,k (Go.id z) .int_mk⟩
 ·rw[U8 a] at e;cases e
theorem jef:BO R (rI jft λi j=>.int (i ^ j.toNat)) zo:=by
 intro Z H x y d v u c f z a b e Q k;replace e:=two_of e;obtain⟨i,j,rfl,rfl,e⟩:=e;cases hl:decide (0<=j)&&decide (j<=100)&&decide (i.natAbs < 2 ^ 64) with
 | false=>rw[hl] at e;cases e
 | true =>
  rw[hl] at e;cases e;simp only[M0,decide_eq_true_eq] at hl;obtain⟨rfl,_⟩:=a.int_of;obtain⟨rfl,_⟩:=b.int_of;exact⟨i,j,rfl,rfl,⟨hl.1.1,by omega,hl.2⟩,k (Go.id z) .int_mk⟩
noncomputable def opB(g:Int->Int->Bool):D->D->Option D:=two λi j=>some (.bl (g i j))
theorem jgi{g:Int->Int->Bool}:BO R (rI0 λi j=>.bl (g i j)) (opB g):=by
 intro Z H x y d v u c f z a b e Q k;replace e:=two_of e;obtain⟨i,j,rfl,rfl,e⟩:=e;cases e;obtain⟨rfl,_⟩:=a.int_of;obtain⟨rfl,_⟩:=b.int_of;exact⟨i,j,rfl,rfl,k (Go.id z) .bl_mk⟩
noncomputable abbrev jgC:D->D->Option D:=opB λi j=>decide (i < j)
noncomputable abbrev jco:D->D->Option D:=opB λi j=>decide (i<=j)
noncomputable abbrev jfU:D->D->Option D:=opB λi j=>decide (j < i)
noncomputable def wF:D->Bool
 | .non=>true
 | _=>false
noncomputable def jaR:D->Bool
 | .dead=>true
 | _=>false
noncomputable def Yh(x y:D):Option D:=bif wF y&&!jaR x then some (.bl (wF x)) else none
theorem jaA{y:D}(h:wF y=true):y=.non:=by
 cases y with
 | non=>rfl
 | _=>cases h
theorem xp{x:D}{v:V}{O:List Addr}(r:Rep R Z H x v O)(hd:∀(h:x=.dead),False):decide (v=V.non)=wF x:=by
 cases x with
 | non=>obtain⟨rfl,_⟩:=r.non_of;rfl
 | bl b=>obtain⟨rfl,_⟩:=r.bl_of;rfl
 | int i=>obtain⟨rfl,_⟩:=r.int_of;rfl
 | str s=>obtain⟨rfl,_⟩:=r.str_of;rfl
 | tup l=>rw[Rep] at r;obtain⟨a,d,rfl,_⟩:=r;rfl
 | lst o l=>rw[Rep] at r;obtain⟨a,d,e,rfl,_⟩:=r;rfl
 | dK o f l=>rw[Rep] at r;obtain⟨a,d,e,rfl,_⟩:=r;rfl
 | dT o f l=>rw[Rep] at r;obtain⟨a,d,e,rfl,_⟩:=r;rfl
 | ins o c ns l=>rw[Rep] at r;obtain⟨a,dx,d,e,rfl,_⟩:=r;rfl
 | exc c p=>rw[Rep] at r;obtain⟨a,dx,rfl,_⟩:=r;rfl
 | dead=>exact(hd rfl).elim
theorem jfR:BO R (λx y H Q=>y=.non/\Q (.bl (decide (x=.non))) H) Yh:=by
 intro Z H x y d v u c f z a b e Q k;unfold Yh at e;cases hl:wF y&&!jaR x with
 | false=>rw[hl] at e;cases e
 | true =>
  rw[hl] at e;cases e;rw[M0] at hl;have hd:∀(h:x=.dead),False:=λh=>by rw[h] at hl;exact absurd hl.2 (by decide)
  cases jaA hl.1;obtain⟨rfl,_⟩:=b.non_of;refine⟨rfl,?_⟩;rw[xp a hd];exact k (Go.id z) .bl_mk
noncomputable def kT:D->Bool
 | .non=>true | .bl _=>true | .int _=>true | .str _=>true
 | _=>false
noncomputable def eqF:D->D->Bool
 | .non,.non=>true
 | .bl a,.bl b=>a==b
 | .int a,.int b=>a==b
 | .str a,.str b=>a==b
 | _,_=>false
noncomputable def Vs:D->D->Bool
 | .bl _,.int _=>false
 | .int _,.bl _=>false
 | _,_=>true
theorem wT{x y:D}{v u:V}{e f:List Addr}(d:Rep R Z H x v e)(c:Rep R Z H y u f)(h:(kT x&&kT y&&Vs x y)=true):jfD v u=true/\decide (v=u)=eqF x y:=by
 cases x with
 | non =>
  obtain⟨rfl,_⟩:=d.non_of;cases y with
  | non=>obtain⟨rfl,_⟩:=c.non_of;exact⟨rfl,rfl⟩
  | bl b=>obtain⟨rfl,_⟩:=c.bl_of;exact⟨rfl,rfl⟩
  | int b=>obtain⟨rfl,_⟩:=c.int_of;exact⟨rfl,rfl⟩
  | str b=>obtain⟨rfl,_⟩:=c.str_of;exact⟨rfl,rfl⟩
  | _=>cases h
 | bl a =>
  obtain⟨rfl,_⟩:=d.bl_of;cases y with
  | non=>obtain⟨rfl,_⟩:=c.non_of;exact⟨rfl,rfl⟩
  | bl b=>obtain⟨rfl,_⟩:=c.bl_of;exact⟨rfl,by rw[ur];rfl⟩
  | str b=>obtain⟨rfl,_⟩:=c.str_of;exact⟨rfl,rfl⟩
  | _=>cases h
 | int a =>
  obtain⟨rfl,_⟩:=d.int_of;cases y with
  | non=>obtain⟨rfl,_⟩:=c.non_of;exact⟨rfl,rfl⟩
  | int b=>obtain⟨rfl,_⟩:=c.int_of;exact⟨rfl,by rw[Qf];rfl⟩
  | str b=>obtain⟨rfl,_⟩:=c.str_of;exact⟨rfl,rfl⟩
  | _=>cases h
 | str a =>
  obtain⟨rfl,_⟩:=d.str_of;cases y with
  | non=>obtain⟨rfl,_⟩:=c.non_of;exact⟨rfl,rfl⟩
  | bl b=>obtain⟨rfl,_⟩:=c.bl_of;exact⟨rfl,rfl⟩
  | int b=>obtain⟨rfl,_⟩:=c.int_of;exact⟨rfl,rfl⟩
  | str b =>
   obtain⟨rfl,_⟩:=c.str_of;refine⟨rfl,?_⟩;rw[Bool.eq_iff_iff];simp[eqF,jfP]
  | _=>cases h
 | _=>cases h
noncomputable def inL(x:D)(l:List D):Bool:=l.any λy=>eqF y x
noncomputable def xF(x:D)(l:List D):Bool:=kT x&&l.all λy=>kT y&&Vs y x
noncomputable def jaq(neg:Bool)(x y:D):Option D:=match y with
 | .str s=>(match x with
  | .str [c]=>some (.bl (neg != decide (c∈s)))
  | _=>none)
 | .lst _ l=>bif xF x l then some (.bl (neg != inL x l)) else none
 | .tup l=>bif xF x l then some (.bl (neg != inL x l)) else none
 | _=>none
theorem Reps.flat{x:D}{v:V}{P:List Addr}(c:Rep R Z H x v P)(d:kT x=true):∀{l:List D}{vs:List V}{O:List Addr},Reps R Z H l vs O->(l.all λy=>kT y&&Vs y x)=true->Yi v=true/\vs.all Yi=true/\inV v vs=inL x l
 | [],_,_,h,_=>by
  rw[Reps] at h;obtain⟨rfl,_⟩:=h;refine⟨?_,rfl,rfl⟩;cases x with
  | non=>obtain⟨rfl,_⟩:=c.non_of;rfl
  | bl b=>obtain⟨rfl,_⟩:=c.bl_of;rfl
  | int b=>obtain⟨rfl,_⟩:=c.int_of;rfl
  | str b=>obtain⟨rfl,_⟩:=c.str_of;rfl
  | _=>cases d
 | y::l,_,_,h,f=>by
  rw[Reps] at h;obtain⟨u,vs,m,n,rfl,rfl,e,g⟩:=h;rw[List.all_cons,M0] at f;obtain⟨i,j,k⟩:=Reps.flat c d g f.2;have key:Yi u=true/\eqV u v=eqF y x:=by
   cases y with
   | non =>
    obtain⟨rfl,_⟩:=e.non_of;cases x with
    | non=>obtain⟨rfl,_⟩:=c.non_of;exact⟨rfl,rfl⟩
    | bl b=>obtain⟨rfl,_⟩:=c.bl_of;exact⟨rfl,rfl⟩
    | int b=>obtain⟨rfl,_⟩:=c.int_of;exact⟨rfl,rfl⟩
    | str b=>obtain⟨rfl,_⟩:=c.str_of;exact⟨rfl,rfl⟩
    | _=>cases d
   | bl a =>
    obtain⟨rfl,_⟩:=e.bl_of;cases x with
    | non=>obtain⟨rfl,_⟩:=c.non_of;exact⟨rfl,rfl⟩
    | bl b=>obtain⟨rfl,_⟩:=c.bl_of;exact⟨rfl,rfl⟩
    | str b=>obtain⟨rfl,_⟩:=c.str_of;exact⟨rfl,rfl⟩
    | int b=>exact absurd f.1 (by simp[Vs])
    | _=>cases d
   | int a =>
    obtain⟨rfl,_⟩:=e.int_of;cases x with
    | non=>obtain⟨rfl,_⟩:=c.non_of;exact⟨rfl,rfl⟩
    | int b=>obtain⟨rfl,_⟩:=c.int_of;exact⟨rfl,rfl⟩
    | str b=>obtain⟨rfl,_⟩:=c.str_of;exact⟨rfl,rfl⟩
    | bl b=>exact absurd f.1 (by simp[Vs])
    | _=>cases d
   | str a =>
    obtain⟨rfl,_⟩:=e.str_of;cases x with
    | non=>obtain⟨rfl,_⟩:=c.non_of;exact⟨rfl,rfl⟩
    | bl b=>obtain⟨rfl,_⟩:=c.bl_of;exact⟨rfl,rfl⟩
    | int b=>obtain⟨rfl,_⟩:=c.int_of;exact⟨rfl,rfl⟩
    | str b =>
     obtain⟨rfl,_⟩:=c.str_of;refine⟨rfl,?_⟩;rw[Bool.eq_iff_iff];simp[eqF,eqV,jfP]
    | _=>cases d
   | _=>exact absurd f.1 (by simp[kT])
  refine⟨i,by rw[List.all_cons,key.1,j];rfl,?_⟩;show(eqV u v||inV v vs)=(eqF y x||inL x l);rw[key.2,k]
noncomputable def jg2(neg:Bool):R2:=λx y H Q=>∃ c l,x=.str (S [c])/\y=.str (S l)/\Q (.bl (if neg then !decide (c∈l) else decide (c∈l))) H
noncomputable def jdh(K:PySem.W.Frag)(neg:Bool):R2:=λx y H Q=>jg2 neg x y H Q \/ rIn K neg x y H Q
theorem jdW:OpR X (compareOp .In) (jdh X.K false):=JD jdC x4
theorem wC:OpR X (compareOp .NotIn) (jdh X.K true):=JD uF KF
theorem KM(a b:Bool):(if a=true then !b else b)=(a != b):=by cases a<;>cases b<;>rfl
theorem jd0{a:Bool}:BO R (jdh R.K a) (jaq a):=by
 intro Z H x y d v u r w z f g e Q k;cases y with
 | str s =>
  cases x with
  | str t =>
   match t,e,f with
   | [c],e,f =>
    cases e;obtain⟨rfl,_⟩:=f.str_of;obtain⟨rfl,_⟩:=g.str_of;refine .inl ⟨c,s,rfl,rfl,?_⟩;rw[KM];exact k (Go.id z) .bl_mk
   | [],e,f=>cases e
   | _::_::_,e,f=>cases e
  | _=>cases e
 | lst o l =>
  have b:(bif xF x l then some (D.bl (a != inL x l)) else none)=some d:=e;cases hl:xF x l with
  | false=>rw[hl] at b;cases b
  | true =>
   rw[hl] at b;cases b;unfold xF at hl;rw[M0] at hl;obtain⟨p,h,A,rfl,i,j⟩:=g.lst_of;obtain⟨m,n,q⟩:=j.flat f hl.1 hl.2;refine .inr ⟨p,h,rfl,.inl i.sq,m,n,?_⟩;rw[q,KM];exact k (Go.id z) .bl_mk
 | tup l =>
  have b:(bif xF x l then some (D.bl (a != inL x l)) else none)=some d:=e;cases hl:xF x l with
  | false=>rw[hl] at b;cases b
  | true =>
   rw[hl] at b;cases b;unfold xF at hl;rw[M0] at hl;obtain⟨p,h,rfl,i,j⟩:=g.tup_of;obtain⟨m,n,q⟩:=j.flat f hl.1 hl.2;refine .inr ⟨p,h,rfl,.inr i,m,n,?_⟩;rw[q,KM];exact k (Go.id z) .bl_mk
 | _=>cases e
noncomputable def yE(x y:D):Option D:=match y with
 | .int i=>(match x with
  | .lst _ l=>atI l i
  | .tup l=>atI l i
  | .str s=>bif lim s.length then(match atI s i with
   | some c=>some (.str [c])
   | none=>none) else none
  | _=>none)
 | _=>none
theorem Reps.atI{l:List D}{vs:List V}{O:List Addr}{i:Int}{d:D}(r:Reps R Z H l vs O)(e:L2.atI l i=some d):∃ v P,L2.atI vs i=some v/\Rep R Z H d v P:=by
 unfold L2.atI at e ⊢;rw[r.length];cases h:ixN l.length i with
 | none=>rw[h] at e;cases e
 | some j =>
  rw[h] at e;obtain⟨v,A,P,B,a,_,b,_⟩:=r.at (show l[j]?=some d from e);exact⟨v,P,a,b⟩
theorem jgk:BO' R (rIx R.K) yE:=by
 intro Z H x y d v u q r z a n e Q k;cases y with
 | int i =>
  obtain⟨rfl,_⟩:=n.int_of;cases x with
  | lst o l =>
   obtain⟨p,b,t,rfl,f,g⟩:=a.lst_of;obtain⟨w,P,j,m⟩:=g.atI e;exact .inl ⟨p,b,i,w,rfl,rfl,f.sq,j,k m⟩
  | tup l =>
   obtain⟨p,b,rfl,f,g⟩:=a.tup_of;obtain⟨w,P,j,m⟩:=g.atI e;exact .inr (.inl ⟨p,b,i,w,rfl,rfl,f,j,k m⟩)
  | str s =>
   obtain⟨rfl,_⟩:=a.str_of;simp only[yE] at e;cases hl:lim s.length with
   | false=>rw[hl] at e;cases e
   | true =>
    rw[hl,cond_true] at e;cases h:L2.atI s i with
    | none=>rw[h] at e;cases e
    | some c =>
     rw[h] at e;cases e;refine .inr (.inr ⟨S s,i,c,rfl,rfl,by rw[vz];exact JS hl,by rw[yx];exact h,?_⟩);rw[jcs];exact k .str_mk
  | _=>cases e
 | _=>cases e
noncomputable abbrev OF:=Rh->Option (Option Int)
def PO'(R:RC)(t:TO)(p:OF):Prop:=∀{σ:St}{ρ:Rh}{Z:Zn}{H:Hp}{O:List Addr}{i:Option Int},Zd Z H->Slots R Z H ρ σ O->p ρ=some i ->
 ∀{Q:Option Int->Hp->Prop},(∀{Z':Zn}{H':Hp},Go Z H [] Z' H' []->Q i H')->t σ H Q
noncomputable def oN:OF:=λ_=>some none
noncomputable def oS(p:PF):OF:=λρ=>match p ρ with
 | some (.int i)=>some (some i)
 | _=>none
theorem jgO:PO' R Qn oN:=by
 intro σ ρ Z H O i z s e Q k;cases e;exact k (Go.id z)
theorem jgY{te:TE}{p:PF}(h:PB R te p):PO' R (jcI te) (oS p):=by
 intro σ ρ Z H O i z s e Q k;unfold oS at e;split at e
 ·rename_i j a;cases e;refine h z s a λ{v d f g} b c=>?_;obtain⟨rfl,_⟩:=c.int_of;exact⟨j,rfl,k b⟩
 ·cases e
noncomputable def Kh(lo hi:Option Int):D->Option D
 | .str s=>bif lim s.length then some (.str (qo s lo hi)) else none
 | .lst _ l=>bif frzs l then some (.lst true (qo l lo hi)) else none
 | .tup l=>bif frzs l&&decide ((qo l lo hi).length < l.length) then some (.tup (qo l lo hi)) else none
 | _=>none
def jgn(K:PySem.W.Frag):V->Option Int->Option Int->Hp->VK->Prop:=λx lo hi H Q=>jgy x lo hi H Q \/ jgG K x lo hi H Q \/ jgu K x lo hi H Q
theorem jgV:SlR X (jgn X.K):=SlR.or jeB (SlR.or jb5 jdR)
noncomputable def pSl(pa:PF)(pl ph:OF):PF:=λρ=>match pa ρ with
 | none=>none
 | some x=>match pl ρ with
  | none=>none
  | some lo=>match ph ρ with
   | none=>none
   | some hi=>Kh lo hi x
theorem Reps.cut{l:List D}{vs:List V}(r:Reps R Z H l vs [])(lo hi:Option Int):Reps R Z H (qo l lo hi) (jbl vs lo hi) []:=by
 unfold qo jbl;rw[r.length];exact(r.drop _).take _
theorem jfB{te:TE}{tl th:TO}{pa:PF}{pl m:OF}(D:PB R te pa)(E:PO' R tl pl)(F:PO' R th m):PP R (tSl (jgn R.K) te tl th) (pSl pa pl m):=by
 intro σ ρ Z H O d z s e Q k;unfold pSl at e;cases e1:pa ρ with
 | none=>rw[e1] at e;cases e
 | some x =>
  rw[e1] at e;dsimp only at e;cases e2:pl ρ with
  | none=>rw[e2] at e;cases e
  | some n =>
   rw[e2] at e;dsimp only at e;cases e3:m ρ with
   | none=>rw[e3] at e;cases e
   | some q =>
    rw[e3] at e;dsimp only at e;refine D z s e1 λ{v J L M} h G=>?_;refine E h.wf.zd (h.slots z s) e2 λ{N P} r=>?_;have c:=h.pair r;refine F r.wf.zd (c.slots z s) e3 λ{Z3 I} i=>?_;have a:Go Z H [] Z3 I []:=c.pair i;have u:=(r.pair i).rep h.wf.zd G;cases x with
    | str t =>
     simp only[Kh] at e;cases hm:lim t.length with
     | false=>rw[hm] at e;cases e
     | true =>
      rw[hm] at e;cases e;obtain⟨rfl,_⟩:=u.str_of;exact .inl ⟨t,rfl,JS hm,k a .str_mk⟩
    | lst o l =>
     simp only[Kh] at e;cases hm:frzs l with
     | false=>rw[hm] at e;cases e
     | true =>
      rw[hm] at e;cases e;obtain⟨p,w,S,rfl,y,j⟩:=u.lst_of;have f:=i.wf.zd;exact .inr (.inl ⟨p,w,rfl,y.sq,λb g=>k (by simpa using a.pair (Go.newO (wf0 f) g)) (Rep.lstNew (wf0 f) g ((j.frozen hm).cut n q))⟩)
    | tup l =>
     simp only[Kh] at e;cases hm:frzs l&&decide ((qo l n q).length < l.length) with
     | false=>rw[hm] at e;cases e
     | true =>
      rw[hm] at e;cases e;simp only[M0,decide_eq_true_eq] at hm;obtain⟨p,w,rfl,y,j⟩:=u.tup_of;have f:=i.wf.zd;refine .inr (.inr ⟨p,w,rfl,y,?_,λb g=>k (by simpa using a.pair (Go.newF (wf0 f) g)) (Rep.tupNew (wf0 f) g ((j.frozen hm.1).cut n q))⟩);rintro⟨B,C⟩;have A:=hm.2;unfold qo at A;rw[j.length] at B C;rw[B,C,List.drop_zero,Nat.sub_zero,List.take_length] at A;exact absurd A (Nat.lt_irrefl _)
    | _=>cases e
noncomputable def JP:List D->Option D
 | [.lst _ l]=>some (.int l.length)
 | [.tup l]=>some (.int l.length)
 | [.str s]=>bif lim s.length then some (.int s.length) else none
 | _=>none
theorem jeP:BC R (λxs H Q=>∃ x n,xs=[x]/\jgg R.K x H n/\Q (.int n) H) JP:=by
 intro Z H xs d g O z r e Q k
 match xs,e,r with
 | [.lst o l],e,r =>
  cases e;obtain⟨v,rfl,a⟩:=r.one_of;obtain⟨p,b,h,rfl,c,f⟩:=a.lst_of;exact⟨_,_,rfl,.inl ⟨b,c.sq,rfl⟩,by rw[f.length];exact k (Go.id z) .int_mk⟩
 | [.tup l],e,r =>
  cases e;obtain⟨v,rfl,a⟩:=r.one_of;obtain⟨p,b,rfl,c,f⟩:=a.tup_of;exact⟨_,_,rfl,.inr ⟨b,c,rfl⟩,by rw[f.length];exact k (Go.id z) .int_mk⟩
 | [.str s],e,r =>
  simp only[JP] at e;cases hm:lim s.length with
  | false=>rw[hm] at e;cases e
  | true =>
   rw[hm] at e;cases e;obtain⟨v,rfl,a⟩:=r.one_of;obtain⟨rfl,_⟩:=a.str_of;exact⟨_,_,rfl,⟨by rw[vz];exact JS hm,rfl⟩,by rw[vz];exact k (Go.id z) .int_mk⟩
noncomputable def jbU:List D->Option (List Int)
 | []=>some []
 | d::l=>match d with
  | .int i=>(match jbU l with
   | some r=>some (i::r)
   | none=>none)
  | _=>none
noncomputable def vO:List D->Option (List Bool)
 | []=>some []
 | d::l=>match d with
  | .bl i=>(match vO l with
   | some r=>some (i::r)
   | none=>none)
  | _=>none
theorem Reps.bools:∀{l:List D}{vs:List V}{O:List Addr}{ns:List Bool},Reps R Z H l vs O->vO l=some ns->vs=ns.map V.bl:=by
 intro l
 induction l with
 | nil=>intro vs O ns h e;rw[Reps] at h;cases e;exact h.1
 | cons d l a =>
  intro vs O ns h e;rw[Reps] at h;obtain⟨v,vs,f,g,rfl,rfl,b,c⟩:=h;cases d with
  | bl i =>
   have e:(match vO l with | some r=>some (i::r) | none=>none)=some ns:=e;cases e1:vO l with
   | none=>rw[e1] at e;cases e
   | some r =>
    rw[e1] at e;cases e;rw[a c e1,b.bl_of.1];rfl
  | _=>cases e
noncomputable def jfr:List D->Option D
 | [.lst _ l]=>match vO l with
  | some ns=>some (.bl (ns.all λb=>b))
  | none=>none
 | _=>none
theorem jej:BC R (λxs H Q=>∃(p:Addr) (bs:List Bool),xs=[.ref p]/\SqL R.K H p (bs.map V.bl)/\Q (.bl (bs.all λb=>b)) H) jfr:=by
 intro Z H xs d g O z r e Q k
 match xs,e,r with
 | [.lst o l],e,r =>
  simp only[jfr] at e;cases e1:vO l with
  | none=>rw[e1] at e;cases e
  | some ns =>
   rw[e1] at e;cases e;obtain⟨v,rfl,a⟩:=r.one_of;obtain⟨p,h,i,rfl,c,f⟩:=a.lst_of;have:=f.bools e1;subst this;exact⟨p,ns,rfl,c.sq,k (Go.id z) .bl_mk⟩
noncomputable def zi(w:List Nat):Bool:=!w.isEmpty&&(decide (w.length<=600)&&w.all λc=>decide (48<=c)&&decide (c<=57))
noncomputable def jfq:List D->Option D
 | [.str w]=>bif zi w then some (.int (NumText.digitsVal w:Nat)) else none
 | _=>none
noncomputable def zO:List D->Option D
 | [.int i]=>bif decide (0<=i)&&decide (i < 2 ^ 200) then some (.str (vJ i.toNat)) else none
 | [.str s]=>some (.str s)
 | _=>none
theorem jeJ:BC R (λxs H Q=>∃ w:List Nat,xs=[.str (S w)]/\NumText.AllDigits w/\w≠[]/\w.length<=600/\Q (.int (NumText.digitsVal w:Nat)) H) jfq:=by
 intro Z H xs d f O z r e Q k
 match xs,e,r with
 | [.str w],e,r =>
  simp only[jfq] at e;cases hm:zi w with
  | false=>rw[hm] at e;cases e
  | true =>
   rw[hm] at e;cases e;unfold zi at hm;simp only[M0,decide_eq_true_eq,List.all_eq_true,Bool.not_eq_true',List.isEmpty_eq_false_iff] at hm;obtain⟨v,rfl,a⟩:=r.one_of;obtain⟨rfl,_⟩:=a.str_of;exact⟨w,rfl,λc b=>hm.2.2 c b,hm.1,hm.2.1,k (Go.id z) .int_mk⟩
theorem Vp{f:Value}{r a:List V->Hp->VK->Prop}(h:CallR X f r)(h':CallR X f a):CallR X f (λxs H Q=>r xs H Q \/ a xs H Q):=CallR.or h h'
theorem uu:BC R (λxs H Q=>(∃ i:Int,xs=[.int i]/\0<=i/\i < 2 ^ 200/\Q (.str (S (vJ i.toNat))) H) \/ ∃ x,xs=[.str x]/\Q (.str x) H) zO:=by
 intro Z H xs d b O z r e Q k
 match xs,e,r with
 | [.int i],e,r =>
  simp only[zO] at e;cases hm:decide (0<=i)&&decide (i < 2 ^ 200) with
  | false=>rw[hm] at e;cases e
  | true =>
   rw[hm] at e;cases e;simp only[M0,decide_eq_true_eq] at hm;obtain⟨v,rfl,a⟩:=r.one_of;obtain⟨rfl,_⟩:=a.int_of;exact .inl ⟨i,rfl,hm.1,hm.2,k (Go.id z) .str_mk⟩
 | [.str s],e,r =>
  cases e;obtain⟨v,rfl,a⟩:=r.one_of;obtain⟨rfl,_⟩:=a.str_of;exact .inr ⟨_,rfl,k (Go.id z) .str_mk⟩
noncomputable def uE:List D->Option D
 | [.lst _ l]=>bif frzs l then some (.lst true l) else none
 | [.tup l]=>bif frzs l then some (.lst true l) else none
 | _=>none
theorem jcM:BC R (λxs H Q=>∃ p ys,xs=[.ref p]/\(SqL R.K H p ys \/ SqT R.K H p ys)/\∀ l,H l=none->Q (.ref l) (upd H l (.lst ys))) uE:=by
 intro Z H xs d i O z r e Q k
 match xs,e,r with
 | [.lst o l],e,r =>
  simp only[uE] at e;cases hm:frzs l with
  | false=>rw[hm] at e;cases e
  | true =>
   rw[hm] at e;cases e;obtain⟨v,rfl,c⟩:=r.one_of;obtain⟨p,f,j,rfl,g,h⟩:=c.lst_of;exact⟨p,f,rfl,.inl g.sq,λb a=>k (Go.newO (wf0 z) a) (Rep.lstNew (wf0 z) a (h.frozen hm))⟩
 | [.tup l],e,r =>
  simp only[uE] at e;cases hm:frzs l with
  | false=>rw[hm] at e;cases e
  | true =>
   rw[hm] at e;cases e;obtain⟨v,rfl,c⟩:=r.one_of;obtain⟨p,f,rfl,g,h⟩:=c.tup_of;exact⟨p,f,rfl,.inr g,λb a=>k (Go.newO (wf0 z) a) (Rep.lstNew (wf0 z) a (h.frozen hm))⟩
noncomputable def tyD:D->Option String
 | .non=>some "NoneType" | .bl _=>some "bool" | .int _=>some "int" | .str _=>some "str" | .tup _=>some "tuple" | .lst _ _=>some "list"
 | .dK true _ _=>some "dict"
 | _=>none
noncomputable def Qk(t T:String):Bool:=t==T||(t=="bool"&&T=="int")
noncomputable def ja9(T:String)(p:PF):PF:=λρ=>match p ρ with
 | none=>none
 | some d=>match tyD d with
  | none=>none
  | some t=>some (.bl (Qk t T))
theorem jb7(K:PySem.W.Frag){t T:String}(a:t∈["NoneType","bool","int","str","tuple","list","dict"])(b:T∈["bool","int","str","tuple","list","dict"]):PySem.W.kitOne K (.type t) (.type T)=some (Qk t T):=by
 simp only[M5,List.not_mem_nil,or_false] at a b;rcases a with rfl | rfl | rfl | rfl | rfl | rfl | rfl<;>rcases b with rfl | rfl | rfl | rfl | rfl | rfl<;>rfl
theorem Rep.ty{x:D}{v:V}{O:List Addr}{t:String}(r:Rep R Z H x v O)(e:tyD x=some t):TyQ R.K H v t/\t∈["NoneType","bool","int","str","tuple","list","dict"]:=by
 cases x with
 | non=>cases e;obtain⟨rfl,_⟩:=r.non_of;exact⟨.non,by simp⟩
 | bl b=>cases e;obtain⟨rfl,_⟩:=r.bl_of;exact⟨.bl _,by simp⟩
 | int i=>cases e;obtain⟨rfl,_⟩:=r.int_of;exact⟨.int _,by simp⟩
 | str s=>cases e;obtain⟨rfl,_⟩:=r.str_of;exact⟨.str _,by simp⟩
 | tup l=>cases e;obtain⟨p,d,rfl,c,f⟩:=r.tup_of;exact⟨.tup c,by simp⟩
 | lst o l=>cases e;obtain⟨p,d,g,rfl,c,f⟩:=r.lst_of;exact⟨.lst c.sq,by simp⟩
 | dK o h l=>cases o with
  | false=>cases e
  | true=>cases e;rw[Rep] at r;obtain⟨a,j,g,rfl,_,_,hd,_⟩:=r;exact⟨.dK hd,by simp⟩
 | _=>cases e
theorem jee{T:String}(a:T∈["bool","int","str","tuple","list","dict"]){te:TE}{p:PF}(h:PB R te p) :
  PP R (tCB (λxs H Q=>∃ x T t b,xs=[x,.ty T]/\TyQ R.K H x t/\PySem.W.kitOne R.K (.type t) (.type T)=some b/\Q (.bl b) H) (vt te (vt (tC (.ty T)) xf))) (ja9 T p):=by
 intro σ ρ Z H O d z s e Q k;unfold ja9 at e;cases e1:p ρ with
 | none=>rw[e1] at e;cases e
 | some x =>
  rw[e1] at e;dsimp only at e;cases e2:tyD x with
  | none=>rw[e2] at e;cases e
  | some t =>
   rw[e2] at e;cases e;refine h z s e1 λ{v j l m} c f=>?_;obtain⟨g,i⟩:=f.ty e2;exact⟨v,T,t,Qk t T,rfl,g,jb7 _ i a,k c .bl_mk⟩
end
noncomputable def kn:Nat->List D->List D
 | _,[]=>[]
 | k,x::l=>.tup [.int k,x]::kn (k+1) l
theorem VT:∀(k:Nat) (l:List D),(kn k l).length=l.length
 | _,[]=>rfl
 | k,x::l=>by rw[kn,M3,M3,VT]
theorem Ke:∀(k:Nat) (l:List D) (i:Nat) (y:D),(kn k l)[i]?=some y->∃ x,l[i]?=some x/\y=.tup [.int ((k+i:Nat):Int),x]
 | _,[],_,_,e=>by simp[kn] at e
 | k,x::l,0,y,e=>by simp[kn] at e;exact⟨x,rfl,e.symm⟩
 | k,x::l,i+1,y,e=>by
  obtain⟨z,a,b⟩:=Ke (k+1) l i y (by simpa [kn] using e);exact⟨z,by simpa using a,by rw[b];congr 3;lia⟩
noncomputable def VL:List D->List D->List D
 | x::l,y::m=>.tup [x,y]::VL l m
 | _,_=>[]
theorem QN:∀(l m:List D),(VL l m).length=min l.length m.length
 | [],_=>by simp[VL]
 | _::_,[]=>by simp[VL]
 | x::l,y::m=>by rw[VL,M3,QN];simp
theorem QM:∀(l m:List D) (i:Nat) (y:D),(VL l m)[i]?=some y->∃ a b,l[i]?=some a/\m[i]?=some b/\y=.tup [a,b]
 | [],_,_,_,e=>by simp[VL] at e
 | _::_,[],_,_,e=>by simp[VL] at e
 | x::l,z::m,0,y,e=>by simp[VL] at e;exact⟨x,z,rfl,rfl,e.symm⟩
 | x::l,z::m,i+1,y,e=>by
  obtain⟨a,b,c,d,f⟩:=QM l m i y (by simpa [VL] using e);exact⟨a,b,by simpa using c,by simpa using d,f⟩
noncomputable def QA(p:PAf):PAf:=λρ=>match p ρ with
 | some [.lst _ l]=>some (kn 0 (fzs l))
 | _=>none
theorem jav(z:Zd Z H)(hp:H p=none)(b:Rep R Z H x u [])(c:Rep R Z H y v []):Rep R (λa=>Z a \/ a=p) (upd H p (.tup [u,v])) (.tup [x,y]) (.ref p) [] :=
 Rep.tupNew (wf0 z) hp (.cons b (.cons c .empty))
theorem u6(h:PPs R ta p):PIt R (jcd R.K ta) (QA p):=by
 intro σ ρ Z H O U z s e Q k;unfold QA at e;split at e
 ·rename_i o l C;cases e;refine h z s C λ{V D W E} F G=>?_;obtain⟨v,rfl,I⟩:=G.one_of;have g:=I.freeze (Z':=λa=>D a \/ a∈E) (λa z=>.inl z) λa z=>.inr z;rw[fz,Rep] at g;obtain⟨a,b,X,rfl,J,j,rfl,_⟩:=g;refine⟨a,b,rfl,FL.sq j,k F.fz ?_⟩;intro L M m n zd i;have c:=(j.frame m n).sq;have r:Reps R L M (fzs l) b []:=J.frame m n λa N=>(nomatch N);refine⟨λt=>⟨b,c,by rw[r.length];rw[VT] at t;exact t⟩,λx P=>?_⟩;obtain⟨y,S,rfl⟩:=Ke 0 _ i x P;obtain⟨u,A,T⟩:=r.item S;refine⟨⟨b,u,c,A⟩,λw Y d=>?_⟩;obtain⟨q,u',f,rfl,B,rfl⟩:=d;have:=f b c;rw[A] at this;cases this;refine⟨_,Go.newF (wf0 zd) B,?_⟩;have:=jav (R:=R) (x:=.int i) (u:=.int i) zd B .int_mk T;simpa using this
 ·cases e
theorem jdH(h:ixN n i=some j):j < n:=(Qx h).2.1
theorem Slots.setItem(w:WF Z H (P++O))(s:Slots R Z H ρ σ O)(q:ρ[i]?=some (some (.lst true l)))(F:j < l.length)(G:Rep R Z H d u P) :
  ∃ a vs,σ[i]?=some (some (.ref a))/\H a=some (.lst vs)/\vs.length=l.length/\(∃ O',Go Z H (P++O) Z (upd H a (.lst (vs.set j u))) O'/\Slots R Z (upd H a (.lst (vs.set j u))) (ρ.set i (some (.lst true (l.set j d)))) σ O'):=by
 obtain⟨A,Q,B,rfl,I,J,_⟩:=s.put (L9.mp q).1;obtain⟨v,t,r⟩:=I _ q;rw[Rep] at r;obtain⟨a,vs,O',rfl,y,K,rfl⟩:=r;refine⟨a,vs,t,K,y.length,?_⟩;obtain⟨x,L⟩:∃ x,l[j]?=some x:=⟨l[j],by simp[F]⟩;obtain⟨N,g,o,h,S,rfl,T,put⟩:=y.at L;have m:Go Z H (P++(A++(a::(g++o++h))++B)) Z (upd H a (.lst (vs.set j u))) (P++(A++(a::(g++o++h))++B)):=Go.put w (by simp);have nd:=w.nd;have n:∀ b,b∈P \/ b∈A \/ b∈g \/ b∈o \/ b∈h \/ b∈B->b≠a:=by
  intro b f e;subst e;simp only[U6,List.nodup_cons,N2,M5] at nd
  grind
 have k:∀ b,Z b->upd H a (.lst (vs.set j u)) b=H b:=λb f=>jh λz=>w.nz a (by simp) (z▸f);have p:=put (Z':=Z) (H':=upd H a (.lst (vs.set j u))) (G.frame (λ_ z=>z) k λb f=>jh (n b (.inl f))) (λ_ z=>z) k (λb f=>jh (n b (.inr (.inr (.inl f))))) (λb f=>jh (n b (.inr (.inr (.inr (.inr (.inl f)))))));have M:Rep R Z (upd H a (.lst (vs.set j u))) (.lst true (l.set j d)) (.ref a) (a::(g++P++h)):=by
  rw[Rep];exact⟨a,vs.set j u,_,rfl,p,jz,rfl⟩
 have C:=J M (λ_ z=>z) k (λb f=>jh (n b (.inr (.inl f)))) (λb f=>jh (n b (.inr (.inr (.inr (.inr (.inr f)))))));rw[JQ t] at C;have D:(P++(A++(a::(g++[]++h))++B)).Perm (A++(a::(g++P++h))++B):=List.perm_iff_count.mpr λc=>by
  simp[List.count_append,List.count_cons];lia
 have E:(P++(A++(a::(g++[]++h))++B)).Sublist (P++(A++(a::(g++o++h))++B)) :=
  (List.Sublist.refl _).append (((List.Sublist.refl _).append (List.Sublist.cons_cons a (((List.Sublist.refl _).append (List.nil_sublist _)).append (List.Sublist.refl _)))).append (List.Sublist.refl _))
 exact⟨_,m.drop (λb f=>E.subset (D.symm.subset f)) (D.nodup_iff.mp (nd.sublist E)),C⟩
noncomputable def gIx(pm:List Nat)(i:Nat)(pi:PF):D->Rh->Option Rh:=λd ρ=>match pi ρ with
 | some (.int k)=>(match ρ[i]? with
  | some (some (.lst true l))=>(match ixN l.length k with
   | some j=>some (ρ.set i (some (.lst true (l.set j d))))
   | none=>none)
  | _=>none)
 | _=>none
theorem jf9(h:PB R te pi):DG R pm (jf8 (KH i) te jbE) (gIx pm i pi):=by
 intro σ ρ I Z H O P d v w r s e Q k;unfold gIx at e;split at e
 ·rename_i n q;split at e
  ·rename_i l c;cases e2:ixN l.length n with
   | none=>rw[e2] at e;cases e
   | some j =>
    rw[e2] at e;cases e;obtain⟨A,m,B,rfl,t,_,_⟩:=s.put (L9.mp c).1;obtain⟨x,o,J⟩:=t _ c;refine⟨x,o,?_⟩;refine h w.zd s q λ{u y z K} f C=>?_;obtain⟨rfl,_⟩:=C.int_of;have b:Go Z H (P++(A++m++B)) y z (P++(A++m++B)):=by simpa using f.widen w
    obtain⟨a,D,p,E,g,L,F,G⟩:=Slots.setItem b.wf (f.slots w.zd s) c (jdH e2) (f.rep w.zd r);rw[o] at p;cases p;exact⟨a,D,n,j,rfl,rfl,E,by rw[g];exact e2,k (b.trans F) G (Keep.refl _ _)⟩
  ·cases e
 ·cases e
end QD
namespace QD
open PySem L2 PySem.Spec PyProof.Rows
section
variable (c:Nat->Addr)(pm:List Nat)(X:Cx)
structure QP(e:Expr)(te:TE)(p:PF):Prop where
 sem:PE X e te
 den:PP ⟨X.K,c⟩ te p
structure QB(e:Expr)(te:TE)(p:PF):Prop where
 sem:PE X e te
 den:PB ⟨X.K,c⟩ te p
structure QPs(es:List Expr)(ta:TA)(p:PAf):Prop where
 sem:PA X es ta
 den:PPs ⟨X.K,c⟩ ta p
structure QBs(es:List Expr)(ta:TA)(p:PAf):Prop where
 sem:PA X es ta
 den:PBs ⟨X.K,c⟩ ta p
 n:∀ ρ ds,p ρ=some ds->ds.length=es.length
structure QT(e:Expr)(tt:TT)(q:PTf):Prop where
 sem:PT X e tt
 den:PTt ⟨X.K,c⟩ tt q
structure QW(e:Expr)(tt:TT)(q:PTf):Prop where
 sem:PW X e tt
 den:PTt ⟨X.K,c⟩ tt q
structure QI(tg e:Expr)(wi:TI)(p:PAf):Prop where
 sem:PI X tg e wi
 den:PIt ⟨X.K,c⟩ wi p
structure QG(tg:Expr)(t:TG)(g:D->Rh->Option Rh):Prop where
 sem:PG X tg t
 den:PGt ⟨X.K,c⟩ pm t g
structure QGs(tg:List Expr)(t:TGs)(g:List D->Rh->Option Rh):Prop where
 sem:PGs X tg t
 den:jea ⟨X.K,c⟩ pm t g
structure QE(e:Expr)(te:TE)(f:FE):Prop where
 sem:PE X e te
 den:DE ⟨X.K,c⟩ te f
structure QS(st:Stmt)(ts:TS)(f:FS):Prop where
 sem:PS X st ts
 den:DS ⟨X.K,c⟩ pm ts f
structure QSs(st:List Stmt)(ts:TS)(f:FS):Prop where
 sem:PSs X st ts
 den:DS ⟨X.K,c⟩ pm ts f
structure QO(e:Option Expr)(t:TO)(p:OF):Prop where
 sem:PO X e t
 den:PO' ⟨X.K,c⟩ t p
structure QIf(ifs:List Expr)(tc:TT)(q:PTf):Prop where
 sem:PIf X ifs tc
 den:PTt ⟨X.K,c⟩ tc q
end
theorem QP.bb(h:QP cl X e te pe):QB cl X e te pe:=⟨h.sem,PP.b h.den⟩
theorem QB.f(h:QB cl X e te pe):QP cl X e te (pF pe):=⟨h.sem,PB.f h.den⟩
theorem QP.d(h:QP cl X e te pe):QE cl X e te (dP pe):=⟨h.sem,PP.d h.den⟩
theorem ja(i:Nat)  (b:X.N[i]?=some x:=by rfl) (c:Vis X.env.scope x:=by first | exact Or.inl rfl | exact Or.inr (Or.inl rfl) | exact Or.inr (Or.inr rfl)) (hd:(x==("__debug__" : Str))=false:=by decide)
  (a:(x==("__classdict__" : Str))=false:=by decide):QB cl X (.Name x pos) (KH i) (pV i):=⟨KC b c hd a,jeF⟩
theorem jfw(i:Nat)  (b:X.N[i]?=some x:=by rfl) (c:Vis X.env.scope x:=by first | exact Or.inl rfl | exact Or.inr (Or.inl rfl) | exact Or.inr (Or.inr rfl)) (hd:(x==("__debug__" : Str))=false:=by decide)
  (a:(x==("__classdict__" : Str))=false:=by decide):QE cl X (.Name x pos) (KH i) (dMv i):=⟨KC b c hd a,jf3⟩
theorem xL{j}:QP cl X (.Constant (.int i) j pos) (tC (.int i)) (pC (.int i)):=⟨jds,jbL λ_ _=>.int_mk⟩
theorem jde{j}:QP cl X (.Constant (.bool i) j pos) (tC (.bl i)) (pC (.bl i)):=⟨jfY,jbL λ_ _=>.bl_mk⟩
theorem YD{j}:QP cl X (.Constant .none j pos) (tC .non) (pC .non):=⟨jdp,jbL λ_ _=>.non_mk⟩
theorem jgr{j}(l:List Nat)(h:x=S l):QP cl X (.Constant (.str x) j pos) (tC (.str x)) (pC (.str l)):=⟨jdr,by subst h;exact jbL λ_ _=>.str_mk⟩
theorem jgH(a:X.mg x=some (.int i t))(b:Gl X x:=by rfl)(hd:(x==("__debug__" : Str))=false:=by decide):QP cl X (.Name x pos) (tC (.int i)) (pC (.int i)):=⟨Vd b a ⟨t,rfl⟩ hd,jbL λ_ _=>.int_mk⟩
theorem jgB(l:List Nat)(a:X.mg x=some (.str y t))(h:y=S l)(b:Gl X x:=by rfl)(hd:(x==("__debug__" : Str))=false:=by decide):QP cl X (.Name x pos) (tC (.str y)) (pC (.str l)):=⟨Vd b a ⟨t,rfl⟩ hd,by subst h;exact jbL λ_ _=>.str_mk⟩
theorem jgT(d:D)(a:X.mg x=some (.ref p))(b:∀(Z:Zn) (H:Hp),Rep ⟨X.K,cl⟩ Z H d (.ref p) [])(c:Gl X x:=by rfl)(hd:(x==("__debug__" : Str))=false:=by decide):QP cl X (.Name x pos) (tC (.ref p)) (pC d) :=
 ⟨Vd c a rfl hd,jbL b⟩
theorem jH(c:QB cl X a ta pa)(d:QB cl X b tb pb):QP cl X (.BinOp a .Add b pos) (tOp (jb2 X.K) ta tb) (p2 jq pa pb):=⟨xi jbF c.sem d.sem,VQ jeC c.den d.den⟩
theorem jcV(c:QB cl X a ta pa)(d:QB cl X b tb pb):QP cl X (.BinOp a .Sub b pos) (tOp (rI0 λi j=>.int (i - j)) ta tb) (p2 YC pa pb):=⟨xi jeS c.sem d.sem,VQ jdU c.den d.den⟩
theorem Jd(c:QB cl X a ta pa)(d:QB cl X b tb pb):QP cl X (.BinOp a .Mult b pos) (tOp jb6 ta tb) (p2 yP pa pb):=⟨xi jcO c.sem d.sem,VQ jei c.den d.den⟩
theorem yB(c:QB cl X a ta pa)(d:QB cl X b tb pb):QP cl X (.BinOp a .FloorDiv b pos) (tOp (rI (λ_ j=>K1 j=true) λi j=>.int (i / j)) ta tb) (p2 j4 pa pb):=⟨xi uL c.sem d.sem,VQ jdX c.den d.den⟩
theorem jL(c:QB cl X a ta pa)(d:QB cl X b tb pb):QP cl X (.BinOp a .Mod b pos) (tOp (rI (λ_ j=>0 < j) λi j=>.int (i % j)) ta tb) (p2 jy pa pb):=⟨xi jeK c.sem d.sem,VQ jdZ c.den d.den⟩
theorem je3(c:QB cl X a ta pa)(d:QB cl X b tb pb):QP cl X (.BinOp a .Pow b pos) (tOp (rI jft λi j=>.int (i ^ j.toNat)) ta tb) (p2 zo pa pb):=⟨xi jeW c.sem d.sem,VQ jef c.den d.den⟩
structure CmpR(cl:Nat->Addr)(X:Cx)(op:CmpOp)(b:Expr)(r:R2)(g:D->D->Option D):Prop where
 o:OpR X (compareOp op) r
 g:BO ⟨X.K,cl⟩ r g
 m:behindInMarks op b=false
theorem jgW:CmpR cl X .Lt b (rI0 λi j=>.bl (decide (i < j))) jgC:=⟨jfI,jgi,YU _⟩
theorem jdi:CmpR cl X .LtE b (rI0 λi j=>.bl (decide (i<=j))) jco:=⟨jf2,jgi,YU _⟩
theorem jgz:CmpR cl X .Gt b (rI0 λi j=>.bl (decide (j < i))) jfU:=⟨jgm,jgi,YU _⟩
theorem jfg:CmpR cl X .Is b (λx y H Q=>y=.non/\Q (.bl (decide (x=.non))) H) Yh:=⟨jeA,jfR,YU _⟩
theorem c_in(a:behindInMarks .In b=false):CmpR cl X .In b (jdh X.K false) (jaq false):=⟨jdW,jd0,a⟩
theorem jcW(a:behindInMarks .NotIn b=false):CmpR cl X .NotIn b (jdh X.K true) (jaq true):=⟨wC,jd0,a⟩
theorem jdS(h:CmpR cl X op b r g)(c:QB cl X a ta pa)(d:QB cl X b tb pb):QP cl X (.Compare a [op] [b] pos) (tOp r ta tb) (p2 g pa pb):=⟨jcm h.o c.sem d.sem h.m,VQ h.g c.den d.den⟩
theorem jt(h:CmpR cl X op b r g)(c:QB cl X a ta pa)(d:QB cl X b tb pb):QT cl X (.Compare a [op] [b] pos) (wM (tOp r ta tb)) (jp (p2 g pa pb)):=⟨jbv h.o c.sem d.sem h.m,KN (PP.b (VQ h.g c.den d.den))⟩
theorem Vm(h:CmpR cl X op b r g)(h':CmpR cl X op' c r' g')(d:QB cl X a ta pa)(e:QB cl X b tb pb)(f:QB cl X c tc pc)(i:lastMarks [op,op'] [b,c]=false:=by with_unfolding_all rfl) :
  QT cl X (.Compare a [op,op'] [b,c] pos) (wM (wq r r' ta tb tc)) (jp (JB g g' pa pb pc)):=⟨jag h.o h'.o d.sem e.sem f.sem i,KN (PP.b (u7 h.g h'.g d.den e.den f.den))⟩
theorem J2(b:QB cl X a ta pa)(c:∀ whole,isTrue a X.env whole=(do let v <- whole;standAt a.pos;holding [v] (truthy v)):=by intro _;rfl):QT cl X a (L2.tB ta) (jp pa):=⟨jdL b.sem c,KN b.den⟩
theorem JU(b:QT cl X a tA qa):QT cl X (.UnaryOp .Not a pos) (jf7 tA) (xn qa):=⟨jdO b.sem,jbx b.den⟩
theorem JT(b:QT cl X a tA qa):QW cl X (.BoolOp .And [a] pos) tA qa:=⟨jbR b.sem,b.den⟩
theorem YX(b:QT cl X a tA qa):QW cl X (.BoolOp .Or [a] pos) tA qa:=⟨jdw b.sem,b.den⟩
theorem VE{cl:Nat->Addr}{X:Cx}{a b:Expr}{es:List Expr}{tA tB:TT}{c d:PTf}{pos:Pos}(e:QT cl X a tA c)(f:QW cl X (.BoolOp .And (b::es) pos) tB d):QW cl X (.BoolOp .And (a::b::es) pos) (jfO tA tB) (uG c d):=⟨jdj e.sem f.sem,jfa e.den f.den⟩
theorem Kj{cl:Nat->Addr}{X:Cx}{a b:Expr}{es:List Expr}{tA tB:TT}{c d:PTf}{pos:Pos}(e:QT cl X a tA c)(f:QW cl X (.BoolOp .Or (b::es) pos) tB d):QW cl X (.BoolOp .Or (a::b::es) pos) (tOr tA tB) (qOr c d):=⟨jfK e.sem f.sem,jfQ e.den f.den⟩
theorem QW.t(h:QW cl X a tA qa):QT cl X a tA qa:=⟨PW.pt h.sem,h.den⟩
theorem jfu{op}(h:QP cl X a ta pa):QP cl X (.BoolOp op [a] pos) ta pa:=⟨jeN h.sem,h.den⟩
theorem jfX(c:QB cl X a ta pa)(d:QP cl X (.BoolOp .And (b::es) pos) tb pb):QP cl X (.BoolOp .And (a::b::es) pos) (jbW ta tb) (jdf pa pb):=⟨jdT c.sem d.sem,jd9 c.den d.den⟩
theorem jgS(d:QT cl X c tA qa)(e:QP cl X a ta pa)(f:QP cl X b tb pb):QP cl X (.IfExp c a b pos) (tIf tA ta tb) (pIf qa pa pb):=⟨uI d.sem e.sem f.sem,jfF d.den e.den f.den⟩
theorem ye:QPs cl X [] xf pN:=⟨Yx,pps_nil⟩
theorem je(a:QP cl X e te pe)(b:QPs cl X es tr pr)(c:starEach (e::es) X.env=(false,eval e X.env)::starEach es X.env:=by rfl):QPs cl X (e::es) (vt te tr) (jc pe pr):=⟨yS a.sem b.sem c,uR a.den b.den⟩
theorem jr:QBs cl X [] xf pN:=⟨Yx,jdd,λρ a e=>by cases e;rfl⟩
theorem jd(b:QB cl X e te pe)(a:QBs cl X es tr pr)(c:starEach (e::es) X.env=(false,eval e X.env)::starEach es X.env:=by rfl):QBs cl X (e::es) (vt te tr) (jc pe pr) :=
 ⟨yS b.sem a.sem c,jan b.den a.den,λρ f h=>by
  unfold jc at h;cases e1:pe ρ with
  | none=>rw[e1] at h;cases h
  | some x =>
   rw[e1] at h;dsimp only at h;cases e2:pr ρ with
   | none=>rw[e2] at h;cases h
   | some d =>
    rw[e2] at h;cases h;rw[M3,M3,a.n ρ d e2]⟩
theorem kO(h:QPs cl X es tr pr):QP cl X (.List es pos) (jfM tr) (YF pr):=⟨jd2 h.sem,jdI h.den⟩
theorem Yz(c:QB cl X a ta pa)(d:QB cl X b tb pb)(e:xZ b:=by exact λ_ _=>rfl):QB cl X (.Subscript a b pos) (tOp (rIx X.K) ta tb) (p2 yE pa pb):=⟨jgc jdY c.sem d.sem e,jfH jgk c.den d.den⟩
theorem yC:QO cl X none Qn oN:=⟨jcn,jgO⟩
theorem yA(h:QB cl X e te pe):QO cl X (some e) (jcI te) (oS pe):=⟨jdc h.sem,jgY h.den⟩
theorem xk{cl:Nat->Addr}{X:Cx}{lo hi:Option Expr}(b:QB cl X a ta pa)(c:QO cl X lo tl pl)(d:QO cl X hi th ph):QP cl X (.Subscript a (.Slice lo hi none p2') pos) (tSl (jgn X.K) ta tl th) (pSl pa pl ph) :=
 ⟨jay jgV b.sem c.sem d.sem,jfB b.den c.den d.den⟩
theorem yf{cl:Nat->Addr}{X:Cx}{e:Expr}{es:List Expr}{tr:TA}{pr:PAf}{pos:Pos}{k n:Nat}{f:Addr}{fd:FuncData}{ps:List Str}{m:List D->Option D}{x qual:Str}{st:Stmt}{p:Pos}(F:FnFact X.K X.mg x qual st f fd ps)(G:FnOk X.prog X.w X.K X.mg X.base CX0 k f fd ps (spP ⟨X.K,cl⟩ m n))(d:Room k X.A)
  (a:QBs cl X (e::es) tr pr) (g:(e::es).length=n:=by rfl) (i:Gl X x:=by rfl) (b:(x==("__debug__" : Str))=false:=by decide)
  (j:starEach (e::es) X.env=(false,eval e X.env)::starEach es X.env:=by rfl) (c:(backTo pos (starEach es X.env)).any (·.1)=false:=by rfl):QP cl X (.Call (.Name x p) (e::es) [] pos) (zZ (spP ⟨X.K,cl⟩ m n) [] E0 tr) (yr m pr) :=
 ⟨jfz F G d a.sem i b j c,jci a.den λρ l h=>(a.n ρ l h).trans g⟩
theorem wO{cl:Nat->Addr}{X:Cx}{e:Expr}{es:List Expr}{tr:TA}{pr:PAf}{pos:Pos}{x:Str}{p:Pos}{id:String}{r:List V->Hp->VK->Prop}{g:List D->Option D}(d:CallR X (.builtin id) r)(f:BC ⟨X.K,cl⟩ r g)(h:X.mg x=none)(i:bootBuiltins x=some (.builtin id))(c:QBs cl X (e::es) tr pr)(j:Gl X x:=by rfl)
  (k:x≠"__name__":=by decide) (a:(x==("__debug__" : Str))=false:=by decide) (l:starEach (e::es) X.env=(false,eval e X.env)::starEach es X.env:=by rfl) (b:(backTo pos (starEach es X.env)).any (·.1)=false:=by rfl) :
  QP cl X (.Call (.Name x p) (e::es) [] pos) (tCB r tr) (pCB g pr):=⟨JJ d j h i c.sem k a l b,jer f c.den⟩
theorem JZ(d:CallR X (.type T) r)(f:BC ⟨X.K,cl⟩ r g)(h:X.mg x=none)(i:bootBuiltins x=some (.type T))(c:QBs cl X (e::es) tr pr)(j:Gl X x:=by rfl)
  (k:x≠"__name__":=by decide) (a:(x==("__debug__" : Str))=false:=by decide) (l:starEach (e::es) X.env=(false,eval e X.env)::starEach es X.env:=by rfl) (b:(backTo pos (starEach es X.env)).any (·.1)=false:=by rfl) :
  QP cl X (.Call (.Name x p) (e::es) [] pos) (tCB r tr) (pCB g pr):=⟨w4 d j h i c.sem k a l b,jer f c.den⟩
theorem Vn(b:X.mg "len" = none)  (c:QBs cl X [e] tr pr) (d:Gl X "len":=by rfl) (f:starEach [e] X.env=(false,eval e X.env)::starEach [] X.env:=by rfl) (a:(backTo pos (starEach [] X.env)).any (·.1)=false:=by rfl) :
  QP cl X (.Call (.Name "len" p) [e] [] pos) (tCB (λxs H Q=>∃ x n,xs=[x]/\jgg X.K x H n/\Q (.int n) H) tr) (pCB JP pr):=wO jas jeP b PySem.boot_len c d (by decide) (by decide) f a
theorem xQ:bootBuiltins "all" = some (.builtin "all"):=by decide +kernel
theorem JF:bootBuiltins "isinstance" = some (.builtin "isinstance"):=by decide +kernel
theorem V3:bootBuiltins "int" = some (.type "int"):=by decide +kernel
theorem qQ:bootBuiltins "str" = some (.type "str"):=by decide +kernel
theorem zT:bootBuiltins "list" = some (.type "list"):=by decide +kernel
theorem zS:bootBuiltins "bool" = some (.type "bool"):=by decide +kernel
theorem jcp{cl:Nat->Addr}{X:Cx}{a:Expr}{ta:TE}{pa:PF}{pos:Pos}{T:String}{x:Str}{p p1:Pos}(j:T∈["bool","int","str","tuple","list","dict"])(k:X.mg "isinstance" = none)(c:X.mg x=none)(d:bootBuiltins x=some (.type T))(h:QB cl X a ta pa)(l:Gl X "isinstance":=by rfl)(e:Gl X x:=by rfl)
  (m:x≠"__name__":=by decide) (f:(x==("__debug__" : Str))=false:=by decide) (i:starEach [a,.Name x p1] X.env=(false,eval a X.env)::starEach [.Name x p1] X.env:=by rfl) (g:(backTo pos (starEach [.Name x p1] X.env)).any (·.1)=false:=by rfl)
  (h1:starEach [.Name x p1] X.env=(false,eval (.Name x p1) X.env)::starEach [] X.env:=by rfl) :
  QP cl X (.Call (.Name "isinstance" p) [a,.Name x p1] [] pos) (tCB (λxs H Q=>∃ x T t b,xs=[x,.ty T]/\TyQ X.K H x t/\PySem.W.kitOne X.K (.type t) (.type T)=some b/\Q (.bl b) H) (vt ta (vt (tC (.ty T)) xf))) (ja9 T pa) :=
 ⟨JJ VH l k JF (yS h.sem (yS (uw e c d rfl m f) Yx h1) i) (by decide) (by decide) i g,jee j h.den⟩
theorem QC(b:X.mg "range" = none)(h:QBs cl X [a] tr pr)(c:Gl X "range":=by rfl)(d:starEach [a] X.env=[(false,eval a X.env)]:=by rfl):QI cl X tg (.Call (.Name "range" p) [a] [] pos) (jch tr) (VY pr):=⟨wE c b h.sem d,jcY h.den⟩
theorem wb(b:X.mg "enumerate" = none)(h:QPs cl X [a] tr pr)(c:Gl X "enumerate":=by rfl)(d:starEach [a] X.env=[(false,eval a X.env)]:=by rfl):QI cl X (.Tuple elts n tpos) (.Call (.Name "enumerate" p) [a] [] pos) (jcd X.K tr) (QA pr):=⟨jcA c b h.sem d,u6 h.den⟩
theorem vR(a:X.N.Nodup)(hi:X.N[i]?=some x:=by rfl)(b:Loc X.env.scope x:=by first | exact Or.inl rfl | exact Or.inr rfl)(c:X.fn x=true \/ X.env.scope.names.lookup x=some .local:=by first | exact .inl rfl | exact .inr rfl) :
  QG cl pm X (.Name x pos) (Vg i) (jJ pm i):=⟨jbI a hi b c,uY⟩
theorem K9:QGs cl pm X [] jfL gN:=⟨jck,u1⟩
theorem kd(h1:QG cl pm X e t g)(h2:QGs cl pm X es ts gs)(a:(assignEach (e::es) X.env).map (·.2)=assign e X.env::(assignEach es X.env).map (·.2):=by rfl):QGs cl pm X (e::es) (jc9 t ts) (gC g gs):=⟨jaz h1.sem h2.sem a,xO h1.den h2.den⟩
theorem wA(b:X.calm=true)(h:QGs cl pm X es ts gs)(c:(assignEach es X.env).length=n:=by rfl)(a:(assignEach es X.env).findIdx? (·.1)=none:=by rfl):QG cl pm X (.Tuple es k pos) (jfJ X.K n ts) (gT n gs):=⟨jeT b h.sem c a,jca h.den⟩
theorem uO:QIf cl X [] (λ_ H Q=>Q true H) qT:=⟨.inl ⟨rfl,rfl⟩,jdb⟩
theorem jad(h:QT cl X c tA qa):QIf cl X [c] tA qa:=⟨.inr ⟨c,rfl,h.sem⟩,h.den⟩
theorem jo:QSs cl pm X [] jcq jF:=⟨jbD,jcX⟩
theorem jf{cl:Nat->Addr}{pm:List Nat}{X:Cx}{st:Stmt}{ts:TS}{f:FS}(h:QS cl pm X st ts f):QSs cl pm X [st] ts f:=⟨Va h.sem,h.den⟩
theorem jb{cl:Nat->Addr}{pm:List Nat}{X:Cx}{st:Stmt}{rest:List Stmt}{ts tu:TS}{f fe:FS}(h:QS cl pm X st ts f)(k:QSs cl pm X rest tu fe):QSs cl pm X (st::rest) (jdg ts tu) (jK f fe):=⟨Vb h.sem k.sem,jbd h.den k.den⟩
theorem jn(h:QE cl X e te fE):QS cl pm X (.Return (some e) pos) (jfc te) (yj fE):=⟨jaX h.sem,jeD h.den⟩
theorem j0(a:QT cl X c tA qa)(b:QSs cl pm X x ts f)(e:QSs cl pm X y tu fe):QS cl pm X (.If c x y pos) (jdv tA ts tu) (sIf (dPT qa) f fe):=⟨jes a.sem b.sem e.sem,jeQ (PTt.d a.den) b.den e.den⟩
theorem jC(a:X.N.Nodup)(h:QE cl X e te fE)(hi:X.N[i]?=some x:=by rfl)(b:Loc X.env.scope x:=by first | exact Or.inl rfl | exact Or.inr rfl)(c:swapsWith e (some (.Name x pos')) pos.line X.env=pure false:=by rfl)
  (d:X.fn x=true \/ X.env.scope.names.lookup x=some .local:=by first | exact .inl rfl | exact .inr rfl):QS cl pm X (.Assign [.Name x pos'] e pos) (jbM te (Vg i)) (yD fE (jJ pm i)):=⟨jbi a hi b h.sem c d,wP h.den x5⟩
theorem JK(a:QB cl X (.Name x xpos) (KH i) (pV i))(hi:QB cl X b tb pb)(h:QE cl X e te fE)
  (c:∀ v,assign (.Subscript (.Name x xpos) b ipos) X.env v=(do
   let ov <- holding [v] (eval (.Name x xpos) X.env)
   let iv <- holding [v,ov] (eval b X.env)
   standAt ipos
   holding [v,ov,iv] (setItem ov iv v)
   release [v,ov,iv] []):=by intro _;rfl)
  (d:swapsWithSole [.Subscript (.Name x xpos) b ipos] e pos.line X.env=pure false:=by rfl) (f:swappedStores [.Subscript (.Name x xpos) b ipos] e X.env=pure none:=by rfl)
  (h1:(assignEach [.Subscript (.Name x xpos) b ipos] X.env).map (·.2)=[assign (.Subscript (.Name x xpos) b ipos) X.env]:=by rfl) :
  QS cl pm X (.Assign [.Subscript (.Name x xpos) b ipos] e pos) (jbM te (jf8 (KH i) tb jbE)) (yD fE (gIx pm i pb)):=⟨jeV h.sem (jfb a.sem hi.sem uU c) d f h1,wP h.den (jf9 hi.den)⟩
theorem xE(j:QB cl X (.Name x xpos) (KH i) (pV i))(h:QP cl X e te pe)(b:attributeBase (.Name x xpos) "append" X.env (eval (.Name x xpos) X.env)=eval (.Name x xpos) X.env:=by rfl)
  (d:((backTo cpos (starEach [e] X.env)).all (λx=>!x.1)&&(backToKw cpos (keywordEach [] X.env)).all (λx=>x.1.isSome)
   && decide ([e].length+([]:List Keyword).length+(if([]:List Keyword).isEmpty then 0 else 1) < 30))=true:=by rfl)
  (c:(apos.endLine==cpos.line)=true:=by rfl) (g:starEach [e] X.env=(false,eval e X.env)::starEach [] X.env:=by rfl) (a:(backTo cpos (starEach [] X.env)).any (·.1)=false:=by rfl)
  (f:swapsWith (.Call (.Attribute (.Name x xpos) "append" apos) [e] [] cpos) none pos.line X.env=pure false:=by rfl) :
  QS cl pm X (.Expr (.Call (.Attribute (.Name x xpos) "append" apos) [e] [] cpos) pos) (jcS (tBM X.K "list" KO (KH i) (vt te xf))) (ja0 i pe) :=
 ⟨jcy (jbH PySem.F.plainAttrs_list PySem.F.slot_list_append PySem.F.type_list_append V8 j.sem (yS h.sem Yx g) b d c g a) f,jey h.den⟩
theorem xS(hp:PassesOwn (model X.prog X.w) X.A X.env X.xe)(c:X.calm=true)(hi:QI cl X tg iter wi pi)(a:QG cl pm X tg t g)(b:QSs cl pm X body ts f)(d:∀ x,foldedSetIterable iter X.env x=pure x:=by intro _;rfl):QS cl pm X (.For tg iter body [] pos) (jdG wi t ts) (wV pi g f) :=
 ⟨jbc hp c hi.sem a.sem b.sem d,jaU hi.den a.den b.den⟩
theorem QS.fz{cl:Nat->Addr}{pm:List Nat}{X:Cx}{st:Stmt}{ts:TS}{f:FS}(i:Nat)(h:QS cl pm X st ts f):QS cl pm X st ts (sFz i f):=⟨h.sem,jfW h.den⟩
theorem km{cl:Nat->Addr}{P:Program}{w:World}{K:PySem.W.Frag}{mg:Str->Option Value}{base:Heap}{x qual:Str}{fst:Stmt}{fa:Addr}{fd:FuncData}{N ps:List Str}{k n:Nat}{fs:FS}(F:Fun K x qual fst fa fd)(b:FnScope N ps (jg fst))(c:ps.length=n)
  (a:∀(cdv:Value) (A:Around) (outer:List Env) (s:Shared) (H:Hp) (E:XK),Room k (A.deeper (envOfC qual (jg fst) s.heap.objs.size fa cdv)) ->
   ∃ ts,QSs cl [] (zf CX0 P w K mg base N qual (jg fst) fa cdv A outer s H E).nox (yg fst) ts fs):FnOk P w K mg base CX0 (k+1) fa fd ps (spP ⟨K,cl⟩ (fnP N.length fs) n):=by
 refine F.ok b (λd H Q E h=>by rw[jbw h,c]) λcdv A outer s H d Q E e h=>?_;obtain⟨ts,q⟩:=a cdv A outer s H E e;exact⟨ts,q.sem,jcT q.den h⟩
mutual
noncomputable def wj:D->PyData
 | .non=>.none | .bl b=>.bool b | .int i=>.int i | .str s=>.str (S s)
 | .tup l=>.tuple (vK l)
 | .lst _ l=>.list (vK l)
 | .dK _ _ _=>.none | .dT _ _ _=>.none | .ins _ _ _ _=>.none | .dead=>.none | .exc _ _=>.none
noncomputable def vK:List D->List PyData
 | []=>[]
 | d::l=>wj d::vK l
end
mutual
noncomputable def okE:Nat->D->Bool
 | _,.non=>true | _,.bl _=>true | _,.int _=>true
 | _,.str s=>s.all λc=>decide (c < 1114112)
 | n+1,.tup l=>KI n l
 | n+1,.lst _ l=>KI n l
 | _,_=>false
noncomputable def KI:Nat->List D->Bool
 | _,[]=>true
 | n,d::l=>okE n d&&KI n l
end
mutual
noncomputable def eqD:D->D->Bool
 | .non,.non=>true
 | .bl a,.bl b=>a==b
 | .bl a,.int j=>(if a then 1 else 0)==j
 | .int i,.bl b=>i==(if b then 1 else 0)
 | .int i,.int j=>i==j
 | .str a,.str b=>a==b
 | .tup l,.tup m=>zj l m
 | .lst _ l,.lst _ m=>zj l m
 | _,_=>false
noncomputable def zj:List D->List D->Bool
 | [],[]=>true
 | x::l,y::m=>eqD x y&&zj l m
 | _,_=>false
end
mutual
theorem uD:∀(n:Nat) (x y:D),okE n x=true->okE n y=true->PyData.eqv (wj x) (wj y)=eqD x y
 | n,.non,y,hx,hy=>by cases y<;>first | rfl | (cases n<;>simp_all [okE])
 | n,.bl a,y,hx,hy=>by cases y<;>first | rfl | (cases n<;>simp_all [okE])
 | n,.int a,y,hx,hy=>by cases y<;>first | rfl | (cases n<;>simp_all [okE])
 | n,.str a,y,hx,hy=>by
  cases y with
  | str b =>
   show(S a==S b)=(a==b);rw[Bool.eq_iff_iff];simp[jfP]
  | _=>first | rfl | (cases n<;>simp_all [okE])
 | 0,.tup l,y,hx,hy=>by simp[okE] at hx
 | n+1,.tup l,y,hx,hy=>by
  cases y with
  | tup m=>show PyData.eqvAll (vK l) (vK m)=zj l m;exact KU n l m (by simpa [okE] using hx) (by simpa [okE] using hy)
  | _=>first | rfl | (simp_all [okE])
 | 0,.lst o l,y,hx,hy=>by simp[okE] at hx
 | n+1,.lst o l,y,hx,hy=>by
  cases y with
  | lst o' m=>show PyData.eqvAll (vK l) (vK m)=zj l m;exact KU n l m (by simpa [okE] using hx) (by simpa [okE] using hy)
  | _=>first | rfl | (simp_all [okE])
 | n,.dK _ _ _,y,hx,hy=>by cases n<;>simp[okE] at hx
 | n,.dT _ _ _,y,hx,hy=>by cases n<;>simp[okE] at hx
 | n,.ins _ _ _ _,y,hx,hy=>by cases n<;>simp[okE] at hx
 | n,.dead,y,hx,hy=>by cases n<;>simp[okE] at hx
 | n,.exc _ _,y,hx,hy=>by cases n<;>simp[okE] at hx
theorem KU:∀(n:Nat) (l m:List D),KI n l=true->KI n m=true->PyData.eqvAll (vK l) (vK m)=zj l m
 | n,[],[],_,_=>rfl
 | n,[],_::_,_,_=>rfl
 | n,_::_,[],_,_=>rfl
 | n,x::l,y::m,hx,hy=>by
  rw[KI,M0] at hx hy;show(PyData.eqv (wj x) (wj y)&&PyData.eqvAll (vK l) (vK m))=(eqD x y&&zj l m);rw[uD n x y hx.1 hy.1,KU n l m hx.2 hy.2]
end
mutual
theorem Q7:∀(n:Nat) (x:D),okE n x=true->(wj x).canLay0=true/\(wj x).depth<=n
 | n,.non,_=>⟨rfl,U4 _⟩
 | n,.bl _,_=>⟨rfl,U4 _⟩
 | n,.int _,_=>⟨rfl,U4 _⟩
 | n,.str s,h=>by
  refine⟨?_,U4 _⟩;have h:(s.all λc=>decide (c < 1114112))=true:=by cases n<;>simpa [okE] using h
  show PyData.strOk (S s)=true;unfold PyData.strOk S;rw[Array.all_eq_true'];intro c hc;rw[List.all_eq_true] at h;exact h c (by simpa using hc)
 | 0,.tup l,h=>by simp[okE] at h
 | n+1,.tup l,h=>by
  obtain⟨h1,h2⟩:=Yu n l (by simpa [okE] using h);exact⟨h1,Nat.succ_le_succ h2⟩
 | 0,.lst o l,h=>by simp[okE] at h
 | n+1,.lst o l,h=>by
  obtain⟨h1,h2⟩:=Yu n l (by simpa [okE] using h);exact⟨h1,Nat.succ_le_succ h2⟩
 | n,.dK _ _ _,hx=>by cases n<;>simp[okE] at hx
 | n,.dT _ _ _,hx=>by cases n<;>simp[okE] at hx
 | n,.ins _ _ _ _,hx=>by cases n<;>simp[okE] at hx
 | n,.dead,hx=>by cases n<;>simp[okE] at hx
 | n,.exc _ _,hx=>by cases n<;>simp[okE] at hx
theorem Yu:∀(n:Nat) (l:List D),KI n l=true->PyData.canLayAll0 (vK l)=true/\PyData.depthAll (vK l)<=n
 | n,[],_=>⟨rfl,U4 _⟩
 | n,x::l,h=>by
  rw[KI,M0] at h;obtain⟨h1,h2⟩:=Q7 n x h.1;obtain⟨h3,h4⟩:=Yu n l h.2;rw[vK];refine⟨?_,?_⟩
  ·show((wj x).canLay0&&PyData.canLayAll0 (vK l))=true;rw[h1,h3];rfl
  ·show max (wj x).depth (PyData.depthAll (vK l))<=n;exact Nat.max_le.mpr ⟨h2,h4⟩
end
section
variable {X:Cx}{cl:Nat->Addr}{Z Z':Zn}{H H':Hp}{pins:List (Addr×Obj)}{σ:L2.St}{s:Shared}
mutual
theorem Rep.reads(I:Inv X pins σ H s):∀(n:Nat) {x:D}{v:V}{u:Value}{O:List Addr},Rep ⟨X.K,cl⟩ Z H x v O->RelV v u->okE n x=true->∃ as,Reads s.heap u (wj x) as
 | n,.non,_,_,_,r,q,_=>by obtain⟨rfl,_⟩:=r.non_of;cases q;exact⟨_,.none⟩
 | n,.bl b,_,_,_,r,q,_=>by obtain⟨rfl,_⟩:=r.bl_of;cases q;exact⟨_,.bool b⟩
 | n,.int i,_,_,_,r,q,_=>by obtain⟨rfl,_⟩:=r.int_of;obtain⟨t,rfl⟩:=q;exact⟨_,.int i t⟩
 | n,.str w,_,_,_,r,q,_=>by obtain⟨rfl,_⟩:=r.str_of;obtain⟨t,rfl⟩:=q;exact⟨_,.str _ t⟩
 | 0,.tup l,_,_,_,r,q,h=>by simp[okE] at h
 | n+1,.tup l,_,_,_,r,q,h=>by
  obtain⟨a,vs,rfl,hx,rs⟩:=r.tup_of;cases q;obtain⟨its,rv,⟨o,h1,h2,k,h3⟩,_⟩:=I.tuple hx;obtain⟨as,hr⟩:=Reps.reads I n rs rv (by simpa [okE] using h);exact⟨_,reads_tuple_at h1 h2 h3 (by simpa using hr)⟩
 | 0,.lst o l,_,_,_,r,q,h=>by simp[okE] at h
 | n+1,.lst o l,_,_,_,r,q,h=>by
  obtain⟨a,vs,O',rfl,hx,rs⟩:=r.lst_of;cases q;obtain⟨its,rv,⟨o,k,h1,h2,_,h3⟩,_⟩:=I.list hx.sq;obtain⟨as,hr⟩:=Reps.reads I n rs rv (by simpa [okE] using h);exact⟨_,reads_list_at h1 h2 h3 (by simpa using hr)⟩
 | n,.dK _ _ _,_,_,_,_,_,hx=>by cases n<;>simp[okE] at hx
 | n,.dT _ _ _,_,_,_,_,_,hx=>by cases n<;>simp[okE] at hx
 | n,.ins _ _ _ _,_,_,_,_,_,hx=>by cases n<;>simp[okE] at hx
 | n,.dead,_,_,_,_,_,hx=>by cases n<;>simp[okE] at hx
 | n,.exc _ _,_,_,_,_,_,hx=>by cases n<;>simp[okE] at hx
theorem Reps.reads(I:Inv X pins σ H s):∀(n:Nat) {l:List D}{vs:List V}{us:List Value}{O:List Addr},Reps ⟨X.K,cl⟩ Z H l vs O->Vals vs us->KI n l=true->∃ as,ReadsAll s.heap us (vK l) as
 | n,[],_,_,_,r,q,_=>by rw[Reps] at r;obtain⟨rfl,_⟩:=r;cases q;exact⟨_,.nil⟩
 | n,x::l,_,_,_,r,q,h=>by
  rw[Reps] at r;obtain⟨v,vs,O1,O2,rfl,rfl,r1,r2⟩:=r;rw[KI,M0] at h;cases q with
  | cons q1 q2 =>
   obtain⟨as,h1⟩:=Rep.reads I n r1 q1 h.1;obtain⟨bs,h2⟩:=Reps.reads I n r2 q2 h.2;exact⟨_,.cons h1 h2⟩
end
noncomputable def jb0(R:RC)(neg:Bool):R2:=λx y H Q=>∃ Z d e O P,Rep R Z H d x O/\Rep R Z H e y P/\okE 20 d=true/\okE 20 e=true/\Q (.bl (neg != eqD d e)) H
theorem jfl{x:D}(h:okE 20 x=true):SeqAt.shaped (wj x)=true:=by
 obtain⟨a,b⟩:=Q7 20 x h;unfold SeqAt.shaped;rw[a,Bool.true_and];exact U7 (N7 b (by decide))
theorem je8(f:X.A.units+64 < cLine):OpR X (compareOp .Eq) (jb0 ⟨X.K,cl⟩ false):=by
 intro c s σ H x y v u Q I g i h;obtain⟨Z,d,e,O,P,j,k,a,b,q⟩:=h;obtain⟨n,l⟩:=j.reads I 20 g a;obtain⟨bs,m⟩:=k.reads I 20 i b;refine eq_dataH l m (jfl a) (jfl b) f ?_;rw[uD 20 d e a b];exact⟨.bl _,H,I,rfl,by simpa using q⟩
theorem jdo(f:X.A.units+64 < cLine):OpR X (compareOp .NotEq) (jb0 ⟨X.K,cl⟩ true):=by
 intro c s σ H x y v u Q I g i h;obtain⟨Z,d,e,O,P,j,k,a,b,q⟩:=h;obtain⟨n,l⟩:=j.reads I 20 g a;obtain⟨bs,m⟩:=k.reads I 20 i b;refine ne_dataH l m (jfl a) (jfl b) f ?_;rw[uD 20 d e a b];exact⟨.bl _,H,I,rfl,by simpa using q⟩
noncomputable def vF(x y:D):Option D:=bif kT x&&kT y&&Vs x y then some (.bl (eqF x y)) else bif okE 20 x&&okE 20 y then some (.bl (eqD x y)) else none
noncomputable def Qp(x y:D):Option D:=bif kT x&&kT y&&Vs x y then some (.bl (!eqF x y)) else bif okE 20 x&&okE 20 y then some (.bl (!eqD x y)) else none
theorem jfx{R:RC}:BO R (λx y H Q=>rEq x y H Q \/ jb0 R false x y H Q) vF:=by
 intro Z H x y d v u c f z a b e Q k;unfold vF at e;cases hl:kT x&&kT y&&Vs x y with
 | true =>
  rw[hl] at e;cases e;obtain⟨g,h⟩:=wT a b hl;exact .inl ⟨g,by rw[h];exact k (Go.id z) .bl_mk⟩
 | false =>
  rw[hl,cond_false] at e;cases hm:okE 20 x&&okE 20 y with
  | false=>rw[hm] at e;cases e
  | true =>
   rw[hm] at e;cases e;rw[M0] at hm;exact .inr ⟨Z,x,y,c,f,a,b,hm.1,hm.2,by simpa using k (Go.id z) .bl_mk⟩
theorem jgb{R:RC}:BO R (λx y H Q=>rNe x y H Q \/ jb0 R true x y H Q) Qp:=by
 intro Z H x y d v u c f z a b e Q k;unfold Qp at e;cases hl:kT x&&kT y&&Vs x y with
 | true =>
  rw[hl] at e;cases e;obtain⟨g,h⟩:=wT a b hl;exact .inl ⟨g,by rw[h];exact k (Go.id z) .bl_mk⟩
 | false =>
  rw[hl,cond_false] at e;cases hm:okE 20 x&&okE 20 y with
  | false=>rw[hm] at e;cases e
  | true =>
   rw[hm] at e;cases e;rw[M0] at hm;exact .inr ⟨Z,x,y,c,f,a,b,hm.1,hm.2,by simpa using k (Go.id z) .bl_mk⟩
theorem qX{b:Expr}{k:Nat}(a:Room k X.A):CmpR cl X .Eq b (λx y H Q=>rEq x y H Q \/ jb0 ⟨X.K,cl⟩ false x y H Q) vF:=⟨JD jgd (je8 a.units),jfx,YU _⟩
theorem c_ne{b:Expr}{k:Nat}(a:Room k X.A):CmpR cl X .NotEq b (λx y H Q=>rNe x y H Q \/ jb0 ⟨X.K,cl⟩ true x y H Q) Qp:=⟨JD jge (jdo a.units),jgb,YU _⟩
def BM(R:RC)(T:String)(r:V->List V->Hp->VK->Prop)(g:D->List D->Option D):Prop:=∀{Z:Zn}{H:Hp}{x d:D}{xs:List D}{v:V}{vs:List V}{O1 O2:List Addr},Zd Z H->Rep R Z H x v O1->Reps R Z H xs vs O2->g x xs=some d ->
 ∀{Q:VK},(∀{w:V}{Z':Zn}{H':Hp}{P:List Addr},Go Z H [] Z' H' P->Rep R Z' H' d w P->Q w H')->r v vs H Q
noncomputable def isT:String->D->Bool
 | "str",.str _=>true
 | _,_=>false
noncomputable def pBM(T:String)(g:D->List D->Option D)(pa:PF)(pr:PAf):PF:=λρ=>match pa ρ with
 | none=>none
 | some x=>bif isT T x then(match pr ρ with
  | none=>none
  | some xs=>g x xs) else none
theorem jdQ{R:RC}{T:String}{x:D}{v:V}{O:List Addr}(r:Rep R Z H x v O)(h:isT T x=true):tyV R.K T v H:=by
 unfold isT at h;split at h
 ·obtain⟨rfl,_⟩:=r.str_of;rfl
 ·cases h
theorem jfN{R:RC}{T:String}{r:V->List V->Hp->VK->Prop}{g:D->List D->Option D}{to:TE}{ta:TA}{pa:PF}{pr:PAf}(f:BM R T r g)(h:PB R to pa)(i:PBs R ta pr):PP R (tBM R.K T r to ta) (pBM T g pa pr):=by
 intro σ ρ Z H O d z s e Q k;unfold pBM at e;cases e1:pa ρ with
 | none=>rw[e1] at e;cases e
 | some x =>
  rw[e1] at e;dsimp only at e;cases ht:isT T x with
  | false=>rw[ht] at e;cases e
  | true =>
   rw[ht,cond_true] at e;cases e2:pr ρ with
   | none=>rw[e2] at e;cases e
   | some n =>
    rw[e2] at e;refine h z s e1 λ{v o p q} a c=>⟨jdQ c ht,?_⟩;refine i a.wf.zd (a.slots z s) e2 λ{t u w y} b j=>?_;exact f b.wf.zd (b.rep a.wf.zd c) j e λl m=>k ((a.pair b).pair l) m
end
end QD
namespace QD
open PySem L2
def ItB(R:RC)(J:It)(Z:Zn)(H:Hp)(xs:List D):Prop:=∀{Z1:Zn}{H1:Hp},(∀ a,Z a->Z1 a)->(∀ a,H a≠none->H1 a=H a)->Zd Z1 H1->∀ i:Nat,
 (xs.length<=i->J.stop i H1)/\∀ x,xs[i]?=some x->J.go i H1/\∀ u H2,J.yld i H1 u H2->∃ Z2,Go Z1 H1 [] Z2 H2 []/\Rep R Z2 H2 x u []
def jfm(R:RC)(wi:TI)(p:PAf):Prop:=∀{σ:St}{ρ:Rh}{Z:Zn}{H:Hp}{O:List Addr}{xs:List D},Zd Z H->Slots R Z H ρ σ O->p ρ=some xs ->
 ∀{Q:It->Hp->Prop},(∀{J:It}{Z':Zn}{H':Hp},Go Z H [] Z' H' []->ItB R J Z' H' xs->Q J H')->wi σ H Q
theorem PIt.b(h:PIt R wi p):jfm R wi p:=by
 intro σ ρ Z H O j z s e Q k;refine h z s e λg c=>k g ?_;intro l m d f zd i;exact c d (λa z=>f a (g.wf.zd a z)) zd i
noncomputable def jaY(p:PF):PAf:=λρ=>match p ρ with
 | some (.lst _ l)=>bif frzs l then some l else none
 | some (.tup l)=>bif frzs l then some l else none
 | some (.str s)=>some (s.map λc=>.str [c])
 | _=>none
theorem jaM(b:∀ a,H a≠none->H' a=H a)(h:SqX K H a vs):SqX K H' a vs:=by
 rcases h with h | h
 ·refine .inl (Rd.agree (b a ?_) h);rcases h with h | ⟨o,h⟩<;>rw[h]<;>exact λz=>(nomatch z)
 ·exact .inr h
theorem jam(b:∀ a,H a≠none->H' a=H a)(h:SqT K H a vs):SqT K H' a vs:=by
 rcases h with h | h
 ·refine .inl (Rd.agree (b a ?_) h);rcases h with h | ⟨o,h⟩<;>rw[h]<;>exact λz=>(nomatch z)
 ·exact .inr h
theorem je5(h:PB R te p):jfm R (jgf R.K te) (jaY p):=by
 intro σ ρ Z H O P z s e Q k;unfold jaY at e;split at e
 ·rename_i o l y;cases hf:frzs l with
  | false=>rw[hf] at e;cases e
  | true =>
   rw[hf] at e;cases e;refine h z s y λ{v I J S} f A=>?_;obtain⟨a,d,U,rfl,B,C⟩:=A.lst_of;have g:=C.frozen hf;refine .inl ⟨a,rfl,⟨d,B.sq⟩,k f ?_⟩;intro r G D j zd i;have c:=SqX.sq (jaM j B);have m:Reps R r G P d []:=g.frame D (λb z=>j b (f.wf.zd b z)) λb L=>(nomatch L);refine⟨λM=>⟨d,c,by rw[C.length];exact M⟩,λx n=>?_⟩;obtain⟨u,E,N⟩:=m.item n;refine⟨⟨d,u,c,E⟩,λw T q=>?_⟩;obtain⟨rfl,q⟩:=q;have F:=q d c;rw[E] at F;cases F;exact⟨r,Go.id zd,N⟩
 ·rename_i l y;cases hf:frzs l with
  | false=>rw[hf] at e;cases e
  | true =>
   rw[hf] at e;cases e;refine h z s y λ{v I J S} f A=>?_;obtain⟨a,d,rfl,B,C⟩:=A.tup_of;have g:=C.frozen hf;refine .inr (.inl ⟨a,rfl,⟨d,B⟩,k f ?_⟩);intro r G D j zd i;have c:=jam j B;have m:Reps R r G P d []:=g.frame D (λb z=>j b (f.wf.zd b z)) λb L=>(nomatch L);refine⟨λM=>⟨d,c,by rw[C.length];exact M⟩,λx n=>?_⟩;obtain⟨u,E,N⟩:=m.item n;refine⟨⟨d,u,c,E⟩,λw T q=>?_⟩;obtain⟨rfl,q⟩:=q;have F:=q d c;rw[E] at F;cases F;exact⟨r,Go.id zd,N⟩
 ·rename_i t y;cases e;refine h z s y λ{v I J S} f A=>?_;obtain⟨rfl,_⟩:=A.str_of;refine .inr (.inr ⟨t,rfl,k f ?_⟩);intro r G D j zd i;exact jeH (Z:=I) (H:=J) D (λb z=>j b (f.wf.zd b z)) zd i
 ·cases e
theorem QR(hi:jfm R wi pi)(hg:PGt R [] tg g)(hq:PTt R tc q)(he:PP R te p) :
  PP R (xR wi tg tc te ix) (J0 pi g q p ix):=by
 intro σ ρ Z H O d z s e Q k;unfold J0 at e;cases e1:pi ρ with
 | none=>rw[e1] at e;cases e
 | some h =>
  rw[e1] at e;dsimp only at e;cases hl:lim h.length with
  | false=>rw[hl] at e;cases e
  | true =>
   rw[hl,cond_true] at e;cases e2:yT g q p h (j7 ix ρ) with
   | none=>rw[e2] at e;cases e
   | some all =>
    rw[e2] at e;cases e;refine hi z s e1 λ{J F M} g0 it=>?_;intro a ha;have N:=g0.wf.zd;obtain⟨Oi,si⟩:=Yb (g0.slots z s) ix;have gp:Go F M [] F (upd M a (.lst [])) [a]:=Go.newO (wf0 N) ha;refine⟨λi m σ2 w=>m=h.length - i/\i<=h.length/\∃ X G O2 x l j rest,Go F M [] G w (a::j)/\w a=some (.lst l)/\Reps R G w x l j/\(∀ b∈O2,b≠a)/\Slots R G w X σ2 O2/\yT g q p (h.drop i) X=some rest/\all=x++rest/\x.length<=i,
     ⟨h.length,rfl,U4 _,_,F,Oi,[],[],[],all,gp,jz,Reps.empty,λb o e=>si.dom b o (e▸ha),gp.slots N si,e2,rfl,M9 _⟩,?_⟩
    rintro i m σ2 w ⟨rfl,hi',X,G,O2,x,l,j,rest,r,S,Y,na,s2,c,e4,C⟩;have T:=it (Z1:=G) (H1:=w) r.zz (λb z=>r.same b z) r.wf.zd i;by_cases D:i < h.length
    ·right
     have hx:h[i]?=some h[i]:=by simp[D]
     obtain⟨go,yl⟩:=T.2 _ hx;refine⟨go,λu H3 hy=>?_⟩;obtain⟨Z3,I,r3⟩:=yl u H3 hy;rw[qp hx] at c;unfold yT at c;cases e5:g h[i] X with
     | none=>rw[e5] at c;cases c
     | some U =>
      rw[e5] at c;dsimp only at c;refine hg r3 (I.slots r.wf.zd s2) e5 λ{σ4 O4} sub nd s4 _=>?_;cases e6:q U with
      | none=>rw[e6] at c;cases c
      | some b =>
       rw[e6] at c;dsimp only at c;refine hq I.wf.zd s4 e6 λ{Z5 H5} V=>?_;have t:=I.pair V;cases b with
       | true =>
        refine jaS ?_;rw[cond_true] at c;cases e7:p U with
        | none=>rw[e7] at c;cases c
        | some y =>
         rw[e7] at c;dsimp only at c;cases e8:yT g q p (h.drop (i+1)) U with
         | none=>rw[e8] at c;cases c
         | some ys2 =>
          rw[e8] at c;cases c;refine he V.wf.zd (V.slots I.wf.zd s4) e7 λ{v6 K v L} g6 r6=>?_;have E:Go G w [] K v L:=by simpa using t.pair g6
          have ea6:v a=some (.lst l):=by rw[E.same a (by rw[S];exact λz=>(nomatch z))];exact S
          have hvl:l.length < sizeLine:=by
           rw[Y.length];exact ja7 (n:=x.length) (U7 (N7 C (N7 hi' (U9 hl))))
          have gA:Go F M [] K v (a::j++L):=by
           have f:=E.frame (A:=a::j) (B:=[]) (by simpa using r.wf);exact r.trans (by simpa using f)
          have w6:=gA.wf;have gB:Go K v (a::j++L) K (upd v a (.lst (l++[v6]))) (a::j++L):=Go.put w6 L7;have nd6:=List.nodup_cons.mp w6.nd;have ne:∀ b,b∈j++L->upd v a (.lst (l++[v6])) b=v b:=λb o=>jh λz=>nd6.1 (z▸o);have W:∀ b,K b->upd v a (.lst (l++[v6])) b=v b:=λb o=>jh λz=>w6.nz a L7 (z▸o);refine⟨l,ea6,hvl,h.length - (i+1),by lia,rfl,D,U,K,O4,x++[y],l++[v6],j++L,ys2,gA.trans gB,jz,?_,λb o=>na b (sub b o),?_,e8,by rw[e4];simp,by rw[N4];exact Nat.add_le_add_right C 1⟩
          ·refine((E.reps r.wf.zd Y).append (.one r6)).frame (λb z=>z) W ne
          ·exact((V.pair g6).slots I.wf.zd s4).frame (λb z=>z) W λb o=>jh (na b (sub b o))
       | false =>
        refine jbk ?_;rw[cond_false] at c;have gA:Go F M [] Z5 H5 (a::j):=by
         have f:=t.frame (A:=a::j) (B:=[]) (by simpa using r.wf);exact r.trans (by simpa using f)
        exact⟨h.length - (i+1),by lia,rfl,D,U,Z5,O4,x,l,j,rest,gA,by rw[t.same a (by rw[S];exact λz=>(nomatch z))];exact S,t.reps r.wf.zd Y,λb o=>na b (sub b o),V.slots I.wf.zd s4,c,e4,Nat.le_succ_of_le C⟩
    ·left
     have hi2:i=h.length:=by lia
     refine⟨T.1 (by lia),?_⟩;rw[hi2,List.drop_length] at c;cases c;rw[N0] at e4;subst e4;refine k (P:=a::j) (by simpa using g0.pair r) ?_;rw[Rep];exact⟨a,l,j,rfl,Y,S,rfl⟩
structure QIb(cl:Nat->Addr)(X:Cx)(tg e:Expr)(wi:TI)(p:PAf):Prop where
 sem:PI X tg e wi
 den:jfm ⟨X.K,cl⟩ wi p
theorem QI.b'(h:QI cl X tg e wi pi):QIb cl X tg e wi pi:=⟨h.sem,PIt.b h.den⟩
theorem K3(h:QB cl X e te pe):QIb cl X tg e (jgf X.K te) (jaY pe):=⟨jdn h.sem,je5 h.den⟩
theorem Qd(B:BlockOk X scope N' ix)(d:X.calm=true)(hi:QIb cl X tg iter wi pi)
  (b:∀ C s H fp,QG cl [] (jQ X scope N' C s H fp) tg t g) (a:∀ C s H fp,QIf cl (jQ X scope N' C s H fp) ifs tcc qq) (c:∀ C s H fp,QP cl (jQ X scope N' C s H fp) elt te pe)
  (e:∀ x,foldedSetIterable iter X.env x=pure x:=by intro _;rfl):QP cl X (.ListComp elt [⟨tg,iter,ifs,0⟩] scope pos) (xR wi t tcc te ix) (J0 pi g qq pe ix) :=
 ⟨jbY B d hi.sem (λC s H fp=>(b C s H fp).sem) (λC s H fp=>(a C s H fp).sem) (λC s H fp=>(c C s H fp).sem) e,
  QR hi.den (b 0 X.s₀ X.H₀ []).den (a 0 X.s₀ X.H₀ []).den (c 0 X.s₀ X.H₀ []).den⟩
theorem Yj(B:BlockOk X scope N' ix)(h:X.calm=true)(hi:QIb cl X tg iter wi pi)
  (e:∀ C s H fp,QG cl [] (jQ X scope N' C s H fp) tg t g) (a:∀ C s H fp,QIf cl (jQ X scope N' C s H fp) ifs tcc qq) (f:∀ C s H fp,QP cl (jQ X scope N' C s H fp) elt te pe)
  (j:X.N.Nodup) (b:X.N[i]?=some x:=by rfl) (k:Loc X.env.scope x:=by first | exact Or.inl rfl | exact Or.inr rfl)
  (c:swapsWith (.ListComp elt [⟨tg,iter,ifs,0⟩] scope pos) (some (.Name x pos')) spos.line X.env=pure true:=by with_unfolding_all rfl)
  (l:∀ x,foldedSetIterable iter X.env x=pure x:=by intro _;rfl)
  (m:X.fn x=true \/ X.env.scope.names.lookup x=some .local:=by first | exact .inl rfl | exact .inr rfl) :
  QS cl pm X (.Assign [.Name x pos'] (.ListComp elt [⟨tg,iter,ifs,0⟩] scope pos) spos) (jbM (xR wi t tcc te ix) (Vg i)) (yD (dP (J0 pi g qq pe ix)) (jJ pm i)) :=
 ⟨zN B h hi.sem (λC s H fp=>(e C s H fp).sem) (λC s H fp=>(a C s H fp).sem) (λC s H fp=>(f C s H fp).sem) j b k c l m,
  wP (PP.d (QR hi.den (e 0 X.s₀ X.H₀ []).den (a 0 X.s₀ X.H₀ []).den (f 0 X.s₀ X.H₀ []).den)) x5⟩
noncomputable def Out.thn:Out->FS->Option Out
 | .nx ρ,g=>g ρ
 | .rt d ρ,_=>some (.rt d ρ)
 | .bk ρ,_=>some (.bk ρ)
 | .ct ρ,_=>some (.ct ρ)
@[simp] theorem thn_nx(ρ:Rh)(g:FS):(Out.nx ρ).thn g=g ρ:=rfl
@[simp] theorem thn_rt(d:D)(ρ:Rh)(g:FS):(Out.rt d ρ).thn g=some (.rt d ρ):=rfl
@[simp] theorem thn_bk(ρ:Rh)(g:FS):(Out.bk ρ).thn g=some (.bk ρ):=rfl
@[simp] theorem thn_ct(ρ:Rh)(g:FS):(Out.ct ρ).thn g=some (.ct ρ):=rfl
@[simp] theorem sSeq_e:jK f g ρ=(f ρ).bind λo=>o.thn g:=by
 unfold jK;cases h:f ρ with
 | none=>rfl
 | some o=>cases o<;>rfl
@[simp] theorem sNext_e:jF ρ=some (.nx ρ):=rfl
@[simp] theorem sNever_e:qU ρ=none:=rfl
@[simp] theorem sRet_e:yj fe ρ=(fe ρ).bind λx=>some (.rt x.1 x.2):=by unfold yj;cases fe ρ<;>rfl
@[simp] theorem sAsg_e:yD fe G ρ=(fe ρ).bind λx=>(G x.1 x.2).bind λr=>some (.nx r):=by
 unfold yD;cases fe ρ with
 | none=>rfl
 | some x=>obtain⟨d,r⟩:=x;dsimp only[Option.bind];cases G d r<;>rfl
@[simp] theorem sIf_e:sIf ft f g ρ=(ft ρ).bind λx=>bif x.1 then f x.2 else g x.2:=by unfold sIf;cases ft ρ<;>rfl
@[simp] theorem dP_e:dP pa ρ=(pa ρ).bind λd=>some (d,ρ):=by unfold dP;cases pa ρ<;>rfl
@[simp] theorem dPT_e:dPT q ρ=(q ρ).bind λd=>some (d,ρ):=by unfold dPT;cases q ρ<;>rfl
@[simp] theorem dMv_e:dMv i ρ=(pV i ρ).bind λd=>some (d,ρ.set i none):=by
 unfold dMv pV;cases ρ[i]? with
 | none=>rfl
 | some o=>cases o<;>rfl
@[simp] theorem jgU:pC d ρ=some d:=rfl
@[simp] theorem pN_e:pN ρ=some []:=rfl
@[simp] theorem qT_e:qT ρ=some true:=rfl
@[simp] theorem oN_e:oN ρ=some none:=rfl
@[simp] theorem pV0:pV 0 (o::ρ)=o:=by unfold pV;cases o<;>rfl
@[simp] theorem pVs:pV (i+1) (o::ρ)=pV i ρ:=rfl
@[simp] theorem jgP:p2 G pa pb ρ=(pa ρ).bind λx=>(pb ρ).bind λy=>G x y:=by
 unfold p2;cases pa ρ with
 | none=>rfl
 | some x=>dsimp only[Option.bind];cases pb ρ<;>rfl
@[simp] theorem p1_e:p1 G pa ρ=(pa ρ).bind G:=by unfold p1;cases pa ρ<;>rfl
@[simp] theorem pF_e:pF pa ρ=(pa ρ).bind λd=>bif frz d then some d else none:=by unfold pF;cases pa ρ<;>rfl
@[simp] theorem pCons_e:jc pa p ρ=(pa ρ).bind λx=>(p ρ).bind λxs=>some (x::xs):=by
 unfold jc;cases pa ρ with
 | none=>rfl
 | some x=>dsimp only[Option.bind];cases p ρ<;>rfl
@[simp] theorem jfC:pCB G p ρ=(p ρ).bind G:=by unfold pCB;cases p ρ<;>rfl
@[simp] theorem pLst_e:YF p ρ=(p ρ).bind λxs=>bif lim xs.length then some (.lst true xs) else none:=by unfold YF;rw[jfC]
@[simp] theorem pCall_e:yr m p ρ=(p ρ).bind λds=>(m (fzs ds)).bind λd=>bif frzs ds||y3 d then some d else none:=by
 unfold yr;cases p ρ with
 | none=>rfl
 | some x=>dsimp only[Option.bind];cases m (fzs x)<;>rfl
noncomputable def jeg:D->Option Bool
 | .bl b=>some b
 | _=>none
@[simp] theorem jc7(b:Bool):jeg (.bl b)=some b:=rfl
@[simp] theorem ul:jp pa ρ=(pa ρ).bind jeg:=by
 unfold jp;cases pa ρ with
 | none=>rfl
 | some d=>cases d<;>rfl
@[simp] theorem qNot_e:xn q ρ=(q ρ).bind λb=>some (!b):=by unfold xn;cases q ρ<;>rfl
@[simp] theorem qAnd_e:uG q q' ρ=(q ρ).bind λb=>bif b then q' ρ else some false:=by unfold uG;cases q ρ<;>rfl
@[simp] theorem qOr_e:qOr q q' ρ=(q ρ).bind λb=>bif b then some true else q' ρ:=by unfold qOr;cases q ρ<;>rfl
@[simp] theorem pAnd_e:jdf pa pb ρ=(pa ρ).bind λd=>(jeg d).bind λb=>bif b then pb ρ else some (.bl false):=by
 unfold jdf;cases pa ρ with
 | none=>rfl
 | some d=>cases d<;>rfl
@[simp] theorem pIf_e:pIf q pa pb ρ=(q ρ).bind λb=>bif b then pa ρ else pb ρ:=by unfold pIf;cases q ρ<;>rfl
@[simp] theorem pChain_e:JB G G' pa pb pc ρ=(pa ρ).bind λx=>(pb ρ).bind λy=>(G x y).bind λd=>(jeg d).bind λb=>bif b then((pc ρ).bind λw=>G' y w) else some (.bl false):=by
 unfold JB;cases pa ρ with
 | none=>rfl
 | some x =>
  dsimp only[Option.bind];cases pb ρ with
  | none=>rfl
  | some y =>
   dsimp only;cases G x y with
   | none=>rfl
   | some d=>cases d with
    | bl b=>cases b with
     | true=>dsimp only[jeg,cond];cases pc ρ<;>rfl
     | false=>rfl
    | _=>rfl
@[simp] theorem oS_e:oS pa ρ=(pa ρ).bind λd=>match d with | .int i=>some (some i) | _=>none:=by
 unfold oS;cases pa ρ with
 | none=>rfl
 | some d=>cases d<;>rfl
@[simp] theorem pSl_e:pSl pa pl ph ρ=(pa ρ).bind λx=>(pl ρ).bind λlo=>(ph ρ).bind λhi=>Kh lo hi x:=by
 unfold pSl;cases pa ρ with
 | none=>rfl
 | some x =>
  dsimp only[Option.bind];cases pl ρ with
  | none=>rfl
  | some lo=>dsimp only;cases ph ρ<;>rfl
@[simp] theorem gSet_e:jJ pm i d ρ=bif decide (i < ρ.length)&&!decide (i∈pm) then some (ρ.set i (some d)) else none:=rfl
@[simp] theorem gN_e:gN [] ρ=some ρ:=rfl
@[simp] theorem gC_e:gC G Gs (d::r) ρ=(G d ρ).bind λρ1=>Gs r ρ1:=by
 show(match G d ρ with | none=>none | some ρ1=>Gs r ρ1)=_;cases G d ρ<;>rfl
@[simp] theorem gT_e:gT n Gs (.tup l) ρ=bif decide (l.length=n) then Gs l ρ else none:=rfl
@[simp] theorem sFz_e:sFz i f ρ=match pV i ρ with | some d=>f (ρ.set i (some (fz d))) | none=>f ρ:=by
 unfold sFz pV;cases ρ[i]? with
 | none=>rfl
 | some o=>cases o<;>rfl
noncomputable def jae:D->Option (List D)
 | .lst true l=>some l
 | _=>none
@[simp] theorem lstOf_lst(l:List D):jae (.lst true l)=some l:=rfl
noncomputable def jbq:D->Option Int
 | .int i=>some i
 | _=>none
@[simp] theorem intOf_int(i:Int):jbq (.int i)=some i:=rfl
@[simp] theorem sApp_e:ja0 i pa ρ=(pa ρ).bind λd=>(pV i ρ).bind λx=>(jae x).bind λl=>bif lim l.length then some (.nx (ρ.set i (some (.lst true (l++[d]))))) else none:=by
 unfold ja0 pV;cases pa ρ with
 | none=>rfl
 | some d =>
  dsimp only[Option.bind];cases ρ[i]? with
  | none=>rfl
  | some o=>cases o with
   | none=>rfl
   | some x=>cases x with
    | lst o l=>cases o<;>rfl
    | _=>rfl
@[simp] theorem sFor_e:wV p G f ρ=(p ρ).bind λxs=>kq G f xs ρ:=by unfold wV;cases p ρ<;>rfl
@[simp] theorem pItB_lst:jaY pa ρ=(pa ρ).bind λd=>match d with | .lst _ l=>bif frzs l then some l else none | .tup l=>bif frzs l then some l else none | .str s=>some (s.map λc=>D.str [c]) | _=>none:=by
 unfold jaY;cases pa ρ with
 | none=>rfl
 | some d=>cases d<;>rfl
noncomputable def jbg:List D->Option (List D)
 | [.lst _ l]=>some (kn 0 (fzs l))
 | _=>none
noncomputable def wX:List D->Option (List D)
 | [.int j]=>bif YQ j then some (Kl 0 j.toNat) else none
 | _=>none
@[simp] theorem enumOf_e(o:Bool)(l:List D):jbg [.lst o l]=some (kn 0 (fzs l)):=rfl
theorem wD(h:-(2 ^ 62) < j)(k:j < 2 ^ 62):YQ j=true:=Nat.ble_eq_true_of_le (by lia)
theorem QY(h:-(2 ^ 62) < j)(k:j < 2 ^ 62):wX [.int j]=some (Kl 0 j.toNat):=by
 show(bif YQ j then some (Kl 0 j.toNat) else none)=_;rw[wD h k];rfl
@[simp] theorem pEnum_e:QA p ρ=(p ρ).bind jbg:=by
 unfold QA;cases p ρ with
 | none=>rfl
 | some d =>
  match d with
  | []=>rfl
  | [x]=>cases x<;>rfl
  | x::y::r=>cases x<;>rfl
@[simp] theorem pRng1_e:VY p ρ=(p ρ).bind wX:=by
 unfold VY;cases p ρ with
 | none=>rfl
 | some d =>
  match d with
  | []=>rfl
  | [x]=>cases x<;>rfl
  | x::y::r=>cases x<;>rfl
@[simp] theorem pComp_e:J0 pi G q pa ix ρ=(pi ρ).bind λxs=>bif lim xs.length then((yT G q pa xs (j7 ix ρ)).bind λys=>some (.lst true ys)) else none:=by
 unfold J0;cases pi ρ with
 | none=>rfl
 | some xs =>
  dsimp only[Option.bind];cases lim xs.length with
  | false=>rfl
  | true=>dsimp only[cond];cases yT G q pa xs (j7 ix ρ)<;>rfl
@[simp] theorem gIx_e:gIx pm i pi d ρ=(pi ρ).bind λk=>(jbq k).bind λk=>(pV i ρ).bind λx=>(jae x).bind λl=>(ixN l.length k).bind λj=>some (ρ.set i (some (.lst true (l.set j d)))):=by
 unfold gIx pV;cases pi ρ with
 | none=>rfl
 | some k=>cases k with
  | int k =>
   dsimp only[Option.bind,jbq];cases ρ[i]? with
   | none=>rfl
   | some o=>cases o with
    | none=>rfl
    | some x=>cases x with
     | lst o l=>cases o with
      | false=>rfl
      | true=>dsimp only[jae];cases ixN l.length k<;>rfl
     | _=>rfl
  | _=>rfl
@[simp] theorem pIsI_e:ja9 T pa ρ=(pa ρ).bind λd=>(tyD d).bind λt=>some (.bl (Qk t T)):=by
 unfold ja9;cases pa ρ with
 | none=>rfl
 | some d=>dsimp only[Option.bind];cases tyD d<;>rfl
noncomputable def Out.val:Out->Option D
 | .rt d _=>some d
 | .nx _=>some .non
 | _=>none
@[simp] theorem val_rt(d:D)(ρ:Rh):(Out.rt d ρ).val=some d:=rfl
@[simp] theorem val_nx(ρ:Rh):(Out.nx ρ).val=some .non:=rfl
theorem jA(n:Nat)(f:FS)(ds:List D):fnP n f ds=(f (ds.map some++List.replicate (n - ds.length) none)).bind Out.val:=by
 unfold fnP;cases f (ds.map some++List.replicate (n - ds.length) none) with
 | none=>rfl
 | some o=>cases o<;>rfl
@[simp] theorem sLoop_nil:kq G f [] ρ=some (.nx ρ):=rfl
noncomputable def Out.loop:Out->FS->Option Out
 | .nx ρ,g=>g ρ
 | .ct ρ,g=>g ρ
 | .bk ρ,_=>some (.nx ρ)
 | .rt d ρ,_=>some (.rt d ρ)
@[simp] theorem Qr(ρ:Rh)(g:FS):(Out.nx ρ).loop g=g ρ:=rfl
@[simp] theorem loop_ct(ρ:Rh)(g:FS):(Out.ct ρ).loop g=g ρ:=rfl
@[simp] theorem loop_bk(ρ:Rh)(g:FS):(Out.bk ρ).loop g=some (.nx ρ):=rfl
@[simp] theorem loop_rt(d:D)(ρ:Rh)(g:FS):(Out.rt d ρ).loop g=some (.rt d ρ):=rfl
theorem ki:kq G f (x::xs) ρ=(G x ρ).bind λr=>(f r).bind λo=>o.loop (kq G f xs):=by
 rw[kq];cases G x ρ with
 | none=>rfl
 | some r =>
  dsimp only[Option.bind];cases f r with
  | none=>rfl
  | some o=>cases o<;>rfl
@[simp] theorem cLoop_nil:yT G q p [] ρ=some []:=rfl
theorem Jc:yT G q p (x::xs) ρ=(G x ρ).bind λr=>(q r).bind λb=>bif b then((p r).bind λy=>(yT G q p xs r).bind λys=>some (y::ys)) else yT G q p xs r:=by
 rw[yT];cases G x ρ with
 | none=>rfl
 | some r =>
  dsimp only[Option.bind];cases q r with
  | none=>rfl
  | some b=>cases b with
   | false=>rfl
   | true =>
    dsimp only[cond];cases p r with
    | none=>rfl
    | some y=>dsimp only;cases yT G q p xs r<;>rfl
theorem wa(P:Nat->Rh->Prop)(step:∀ i x ρ,xs[i]?=some x->P i ρ->∃ ρ1 ρ2,G x ρ=some ρ1/\(f ρ1=some (.nx ρ2) \/ f ρ1=some (.ct ρ2))/\P (i+1) ρ2)  (d:P 0 ρ) :
  ∃ ρ',kq G f xs ρ=some (.nx ρ')/\P xs.length ρ':=by
 have key:∀(n i:Nat) (ρ:Rh),xs.length - i=n->i<=xs.length->P i ρ->∃ ρ',kq G f (xs.drop i) ρ=some (.nx ρ')/\P xs.length ρ':=by
  intro n
  induction n with
  | zero =>
   intro i ρ e g p;have:i=xs.length:=by lia
   subst this;exact⟨ρ,by rw[List.drop_length];rfl,p⟩
  | succ n h =>
   intro i ρ e g p;have a:i < xs.length:=by lia
   have c:xs[i]?=some xs[i]:=by simp[a]
   obtain⟨ρ1,ρ2,j,b,p2⟩:=step i _ ρ c p;obtain⟨ρ',k,p3⟩:=h (i+1) ρ2 (by lia) a p2;refine⟨ρ',?_,p3⟩;rw[qp c,ki,j];rcases b with b | b<;>simp[b,k]
 exact key _ 0 ρ rfl (U4 _) d
theorem Yw{G:D->Rh->Option Rh}{xs:List D}{l:List α}{en:α->D}{out:α->D}(a:xs=l.map en)(P:Rh->Prop)(step:∀ x∈l,∀ ρ,P ρ->∃ ρ1,G (en x) ρ=some ρ1/\p ρ1=some (out x)/\P ρ1){ρ:Rh}(b:P ρ):yT G qT p xs ρ=some (l.map out):=by
 subst a
 induction l generalizing ρ with
 | nil=>rfl
 | cons x l c =>
  obtain⟨ρ1,d,e,p1⟩:=step x L7 ρ b;rw[L5,Jc,d];simp[e,c (λy f=>step y (L6 _ f)) p1]
@[simp] theorem cond_dec(p:Prop) [Decidable p] (x y:α):(bif decide p then x else y)=if p then x else y:=by by_cases h:p<;>simp[h]
@[simp] theorem cond_beq_int(i j:Int)(x y:α):(bif i==j then x else y)=if i=j then x else y:=by
 by_cases h:i=j
 ·subst h;simp
 ·rw[if_neg h,U1.mpr h];rfl
@[simp] theorem ite_bind(p:Prop) [Decidable p] (x y:Option α) (f:α->Option β):(if p then x else y).bind f=if p then x.bind f else y.bind f:=by by_cases h:p<;>simp[h]
@[simp] theorem add_ii(i j:Int):jq (.int i) (.int j)=some (.int (i+j)):=rfl
@[simp] theorem sub_ii(i j:Int):YC (.int i) (.int j)=some (.int (i - j)):=rfl
theorem wz(h:i.natAbs < 2 ^ 1000)(k:j.natAbs < 2 ^ 1000):yP (.int i) (.int j)=some (.int (i*j)):=by
 show(bif jcx i&&jcx j then some (D.int (i*j)) else none)=_;rw[xr h,xr k];rfl
theorem jP(h:0 < j)(k:j < 2 ^ 300):j4 (.int i) (.int j)=some (.int (i / j)):=by
 show(bif decide (0 < j)&&decide (j < 2 ^ 300) then some (D.int (i / j)) else none)=_;rw[U7 h,U7 k];rfl
theorem jE(h:0 < j):jy (.int i) (.int j)=some (.int (i % j)):=by
 show(bif decide (0 < j) then some (D.int (i % j)) else none)=_;rw[U7 h];rfl
@[simp] theorem opB_ii(g:Int->Int->Bool)(i j:Int):opB g (.int i) (.int j)=some (.bl (g i j)):=rfl
@[simp] theorem eq_ii(i j:Int):vF (.int i) (.int j)=some (.bl (i==j)):=rfl
@[simp] theorem ne_ii(i j:Int):Qp (.int i) (.int j)=some (.bl (!(i==j))):=rfl
@[simp] theorem frz_int(i:Int):frz (.int i)=true:=rfl
@[simp] theorem frz_bl(i:Bool):frz (.bl i)=true:=rfl
@[simp] theorem frz_str(i:List Nat):frz (.str i)=true:=rfl
@[simp] theorem frz_non:frz .non=true:=rfl
@[simp] theorem fz_int(i:Int):fz (.int i)=.int i:=rfl
@[simp] theorem fz_bl(i:Bool):fz (.bl i)=.bl i:=rfl
@[simp] theorem fz_str(i:List Nat):fz (.str i)=.str i:=rfl
@[simp] theorem fz_non:fz .non=.non:=rfl
@[simp] theorem fz_lst(o:Bool)(l:List D):fz (.lst o l)=.lst false (fzs l):=rfl
@[simp] theorem fz_tup(l:List D):fz (.tup l)=.tup (fzs l):=rfl
@[simp] theorem frz_lst(o:Bool)(l:List D):frz (.lst o l)=(!o&&frzs l):=rfl
@[simp] theorem frz_tup(l:List D):frz (.tup l)=frzs l:=rfl
@[simp] theorem fzs_nil:fzs []=[]:=rfl
@[simp] theorem u4(d:D)(l:List D):fzs (d::l)=fz d::fzs l:=rfl
@[simp] theorem frzs_nil:frzs []=true:=rfl
@[simp] theorem we(d:D)(l:List D):frzs (d::l)=(frz d&&frzs l):=rfl
@[simp] theorem clean_int(i:Int):y3 (.int i)=true:=rfl
@[simp] theorem clean_bl(i:Bool):y3 (.bl i)=true:=rfl
@[simp] theorem clean_str(i:List Nat):y3 (.str i)=true:=rfl
@[simp] theorem clean_non:y3 .non=true:=rfl
@[simp] theorem clean_lst(o:Bool)(l:List D):y3 (.lst o l)=(o&&yb l):=rfl
@[simp] theorem clean_tup(l:List D):y3 (.tup l)=yb l:=rfl
@[simp] theorem cleans_nil:yb []=true:=rfl
@[simp] theorem cleans_cons(d:D)(l:List D):yb (d::l)=(y3 d&&yb l):=rfl
@[simp] theorem fzs_ints(l:List Int):fzs (l.map D.int)=l.map D.int:=by
 rw[vn,List.map_map];rfl
@[simp] theorem frzs_ints(l:List Int):frzs (l.map D.int)=true:=by
 rw[Y8,List.all_map,List.all_eq_true];intro x _;rfl
theorem yM:∀ l:List D,yb l=l.all y3
 | []=>rfl
 | d::l=>by rw[yb,yM l];rfl
@[simp] theorem cleans_ints(l:List Int):yb (l.map D.int)=true:=by
 rw[yM,List.all_map,List.all_eq_true];intro x _;rfl
@[simp] theorem intsD_ints(l:List Int):jbU (l.map D.int)=some l:=by
 induction l with
 | nil=>rfl
 | cons x l a=>show(match jbU (l.map D.int) with | some r=>some (x::r) | none=>none)=_;rw[a]
@[simp] theorem boolsD_bools(l:List Bool):vO (l.map D.bl)=some l:=by
 induction l with
 | nil=>rfl
 | cons x l a=>show(match vO (l.map D.bl) with | some r=>some (x::r) | none=>none)=_;rw[a]
@[simp] theorem fLen_lst(o:Bool)(l:List D):JP [.lst o l]=some (.int l.length):=rfl
@[simp] theorem fLen_tup(l:List D):JP [.tup l]=some (.int l.length):=rfl
@[simp] theorem fList_lst(o:Bool)(l:List D):uE [.lst o l]=bif frzs l then some (.lst true l) else none:=rfl
@[simp] theorem itemsOf_lst(o:Bool)(l:List D):Y5 (.lst o l)=some (fzs l):=rfl
@[simp] theorem itemsOf_tup(l:List D):Y5 (.tup l)=some (fzs l):=rfl
@[simp] theorem tyD_int(i:Int):tyD (.int i)=some "int":=rfl
@[simp] theorem tyD_bl(i:Bool):tyD (.bl i)=some "bool":=rfl
@[simp] theorem tyD_str(i:List Nat):tyD (.str i)=some "str":=rfl
@[simp] theorem tyD_non:tyD .non=some "NoneType":=rfl
@[simp] theorem tyD_lst(o:Bool)(l:List D):tyD (.lst o l)=some "list":=rfl
@[simp] theorem tyD_tup(l:List D):tyD (.tup l)=some "tuple":=rfl
theorem jdP{c:Nat->Addr}{m:List D->Option D}{ns:List Int}(h:m [.lst false (ns.map D.int)]=some (.bl true))(d:SqX K H a (ns.map V.int)):spP ⟨K,c⟩ m 1 [.ref a] H (λv _=>v=.bl true) E:=by
 refine⟨λb=>b=a/\H a≠none,[.lst false (ns.map D.int)],.bl true,λb e=>by rw[e.1];exact e.2,rfl,.one ?_,h,λg r=>r.bl_of.1⟩;rw[Rep];have f:∀(l:List Int),Reps ⟨K,c⟩ (λb=>b=a/\H a≠none) H (l.map D.int) (l.map V.int) []:=by
  intro l
  induction l with
  | nil=>exact .empty
  | cons x l i=>exact .cons (O:=[]) (P:=[]) .int_mk i
 refine⟨a,ns.map V.int,[],rfl,f ns,?_⟩;show FL _ _ _ _ _/\_;refine⟨?_,rfl,rfl⟩;rcases d with d | d
 ·refine .inl ⟨⟨rfl,?_⟩,d⟩;rcases d with d | ⟨o,d⟩<;>rw[d]<;>exact λz=>(nomatch z)
 ·exact .inr d
end QD
namespace L2
open PySem PySem.Spec PyProof.Rows
theorem Ys:∀{ws:List Str}{us:List Value},Vals (ws.map V.str) us->∃ l:List (Str×Tok),us=strValues l/\l.map (·.1)=ws
 | [],us,h=>by
  cases h;exact⟨[],rfl,rfl⟩
 | w::ws,us,h=>by
  cases h with
  | cons a b =>
   obtain⟨t,rfl⟩:=a;obtain⟨l,rfl,e⟩:=Ys b;exact⟨(w,t)::l,rfl,by rw[L5,e]⟩
theorem jc1{X:Cx}:MtR X "str.join" (λx vs H Q=>∃(a:Str) (p:Addr) (ws:List Str),x=.str a/\vs=[.ref p]/\SqL X.K H p (ws.map V.str)/\JoinOk a ws=true/\Q (.str (Txt.join a ws)) H):=by
 intro c s σ H x vs v j Q I d b h;obtain⟨a,p,ws,rfl,rfl,f,hok,q⟩:=h;obtain⟨t,rfl⟩:=d;obtain⟨u,rfl,g⟩:=b.one;cases g;obtain⟨i,b,pl,m⟩:=I.list f;obtain⟨l,rfl,e⟩:=Ys b;exact SC.join pl.isList e hok λn k=>⟨.str _,H,I.tok _,⟨_,rfl⟩,q⟩
end L2
namespace QD
open PySem L2 PySem.Spec PyProof.Rows
noncomputable def qM(sep:List Nat):List (List Nat)->List Nat
 | []=>[]
 | [x]=>x
 | x::y::r=>x++sep++qM sep (y::r)
theorem KP(a:List Nat):∀ ws:List (List Nat),Str.join (S a) (ws.map S)=S (qM a ws)
 | []=>rfl
 | [x]=>rfl
 | x::y::r=>by
  show S x++S a++Str.join (S a) ((y::r).map S)=_;rw[KP a (y::r),jbs,jbs];rfl
noncomputable def YA:List D->Option (List (List Nat))
 | []=>some []
 | .str w::l=>match YA l with
  | some ws=>some (w::ws)
  | none=>none
 | _::_=>none
@[simp] theorem strsD_strs(l:List (List Nat)):YA (l.map D.str)=some l:=by
 induction l with
 | nil=>rfl
 | cons x l a=>simp[YA,a]
section
variable {R:RC}{Z:Zn}{H:Hp}
theorem Q4:∀{l:List D}{ws:List (List Nat)}{vs:List V}{O:List Addr},YA l=some ws->Reps R Z H l vs O->vs=(ws.map S).map V.str
 | [],ws,vs,O,e,r=>by
  cases e;have:=r.length;exact List.length_eq_zero_iff.mp this
 | x::l,ws,vs,O,e,r=>by
  cases x with
  | str w =>
   simp only[YA] at e;cases e1:YA l with
   | none=>rw[e1] at e;cases e
   | some a =>
    rw[e1] at e;cases e;obtain⟨v,b,P,f,rfl,-,c,d⟩:=r;obtain⟨rfl,_⟩:=c.str_of;rw[Q4 e1 d];rfl
  | _=>cases e
noncomputable def kQ(sep:List Nat)(ws:List (List Nat)):Bool:=decide ((ws.map List.length).sum+ws.length*sep.length<=1000000)
theorem xw{a:List Nat}{ws:List (List Nat)}(h:kQ a ws=true):JoinOk (S a) (ws.map S)=true:=by
 unfold kQ at h;have h:=U9 h;unfold JoinOk;rw[StrLaws.joinTotal];have e:((ws.map S).map (·.length))=ws.map List.length:=by
  rw[List.map_map];exact List.map_congr_left λw _=>vz w
 rw[e,L0,vz];unfold Builtin.Str.tooLong;have:sizeLine=16777216:=by decide
 simp
 lia
noncomputable def xV:D->List D->Option D
 | .str sep,[.lst _ l]=>match YA l with
  | some ws=>bif kQ sep ws then some (.str (qM sep ws)) else none
  | none=>none
 | _,_=>none
theorem jcP:BM R "str" (λx vs H Q=>∃(a:Str) (p:Addr) (ws:List Str),x=.str a/\vs=[.ref p]/\SqL R.K H p (ws.map V.str)/\JoinOk a ws=true/\Q (.str (Txt.join a ws)) H) xV:=by
 intro Z H x d i v vs j m z r c e Q k;unfold xV at e;split at e
 ·rename_i b o l;cases e1:YA l with
  | none=>rw[e1] at e;cases e
  | some ws =>
   rw[e1] at e;dsimp only at e;cases hm:kQ b ws with
   | false=>rw[hm] at e;cases e
   | true =>
    rw[hm] at e;cases e;obtain⟨rfl,_⟩:=r.str_of;obtain⟨v,rfl,f⟩:=c.one_of;obtain⟨p,n,q,rfl,g,c⟩:=f.lst_of;have:=Q4 e1 c;subst this;refine⟨S b,p,ws.map S,rfl,rfl,g.sq,xw hm,?_⟩;have h:Txt.join (S b) (ws.map S)=S (qM b ws):=(StrLaws.glued_eq_join _ _).trans (KP b ws);rw[h];exact k (Go.id z) .str_mk
 ·cases e
noncomputable def vd(a b:List Nat):List (List Nat):=(Txt.split (S a) (S b)).map λw=>w.cps.toList
noncomputable def QF:D->List D->Option D
 | .str a,[.str b]=>bif !b.isEmpty&&decide (a.length<=1000000) then some (.lst true ((vd a b).map D.str)) else none
 | _,_=>none
theorem wQ(ws:List Str):Reps R Z H ((ws.map λw=>w.cps.toList).map D.str) (ws.map V.str) []:=by
 induction ws with
 | nil=>exact .empty
 | cons w ws a =>
  refine .cons (O:=[]) (P:=[]) ?_ a;have:=jgZ w;show Rep R Z H (.str w.cps.toList) (.str w) [];rw[this,yx];exact .str_mk
theorem jah:BM R "str" (λx vs H Q=>∃ a b,x=.str a/\vs=[.str b]/\(b.length==0)=false/\a.length+2<=sizeLine/\∀ p,H p=none->Q (.ref p) (upd H p (.lst ((Txt.split a b).map V.str)))) QF:=by
 intro Z H x d h v vs i j z r f e Q k;unfold QF at e;split at e
 ·rename_i a b;cases hm:(!b.isEmpty&&decide (a.length<=1000000)) with
  | false=>rw[hm] at e;cases e
  | true =>
   rw[hm] at e;cases e;simp only[M0,decide_eq_true_eq,Bool.not_eq_true',List.isEmpty_eq_false_iff] at hm;obtain⟨rfl,_⟩:=r.str_of;obtain⟨v,rfl,g⟩:=f.one_of;obtain⟨rfl,_⟩:=g.str_of;have l:sizeLine=16777216:=by decide
   refine⟨_,_,rfl,rfl,?_,?_,λp c=>k (Go.newO (wf0 z) c) (Rep.lstNew (wf0 z) c (wQ _))⟩
   ·rw[vz];have:=List.length_pos_iff.mpr hm.1;exact U1.mpr (by lia)
   ·rw[vz];lia
 ·cases e
end
section
variable {cl:Nat->Addr}{X:Cx}{o e:Expr}{es:List Expr}{to:TE}{po:PF}{tr:TA}{pr:PAf}{name:Str}{apos cpos:Pos}{T id:String}{r:V->List V->Hp->VK->Prop}{g:D->List D->Option D}
theorem jgD(pa:PlainAttrs T)(slot:Slot T name id)(f:typeOf (.builtin id)=pure (.type "method_descriptor"))(j:MtR X id r)(k:BM ⟨X.K,cl⟩ T r g)(h:QB cl X o to po)(i:QBs cl X (e::es) tr pr)
  (b:attributeBase o name X.env (eval o X.env)=eval o X.env:=by rfl)
  (d:((backTo cpos (starEach (e::es) X.env)).all (λx=>!x.1)&&(backToKw cpos (keywordEach [] X.env)).all (λx=>x.1.isSome)
   && decide ((e::es).length+([]:List Keyword).length+(if([]:List Keyword).isEmpty then 0 else 1) < 30))=true:=by rfl)
  (c:(apos.endLine==cpos.line)=true:=by rfl) (l:starEach (e::es) X.env=(false,eval e X.env)::starEach es X.env:=by rfl) (a:(backTo cpos (starEach es X.env)).any (·.1)=false:=by rfl) :
  QP cl X (.Call (.Attribute o name apos) (e::es) [] cpos) (tBM X.K T r to tr) (pBM T g po pr) :=
 ⟨jbH pa slot f j h.sem i.sem b d c l a,jfN k h.den i.den⟩
end
@[simp] theorem pBM_e{g:D->List D->Option D}{pa:PF}{pr:PAf}{ρ:Rh}:pBM "str" g pa pr ρ=(pa ρ).bind λx=>bif isT "str" x then(pr ρ).bind λxs=>g x xs else none:=by
 unfold pBM;cases pa ρ with
 | none=>rfl
 | some x=>dsimp only[Option.bind];cases isT "str" x<;>cases pr ρ<;>rfl
@[simp] theorem isT_str(w:List Nat):isT "str" (.str w)=true:=rfl
@[simp] theorem fJoin_e(a:List Nat)(o:Bool)(l:List D):xV (.str a) [.lst o l]=(YA l).bind λws=>bif kQ a ws then some (.str (qM a ws)) else none:=by
 unfold xV;cases h:YA l<;>simp[h]
end QD
namespace QK
open PySem L2 QD PySem.Spec PyProof.Rows
section
variable {cl:Nat->Addr}{pm:List Nat}{X:Cx}{a b c e o:Expr}{es:List Expr}{ta tb tc te to:TE}{pa pb pc pe po:PF}{tr:TA}{pr:PAf}{pos:Pos}{K:PySem.W.Frag}
variable {tg iter elt:Expr}{ifs:List Expr}{wi:TI}{pi:PAf}{t:TG}{g:D->Rh->Option Rh}
theorem c_in(a:X.K=K)(c:behindInMarks .In b=false):CmpR cl X .In b (jdh K false) (jaq false):=by subst a;exact QD.c_in c
theorem c_ne{k:Nat}(a:X.K=K)(c:Room k X.A):CmpR cl X .NotEq b (λx y H Q=>rNe x y H Q \/ jb0 ⟨K,cl⟩ true x y H Q) Qp:=by subst a;exact QD.c_ne c
end
end QK
namespace QD
open PySem L2 PySem.Spec PyProof.Rows
structure QGo(cl:Nat->Addr)(pm:List Nat)(X:Cx)(tg:Expr)(t:TG)(g:D->Rh->Option Rh):Prop where
 sem:PG X tg t
 den:DG ⟨X.K,cl⟩ pm t g
structure QGos(cl:Nat->Addr)(pm:List Nat)(X:Cx)(tg:List Expr)(t:TGs)(g:List D->Rh->Option Rh):Prop where
 sem:PGs X tg t
 den:DGs ⟨X.K,cl⟩ pm t g
end QD
namespace L2
open PySem PySem.Spec PyProof.Rows
section
variable {κ:Type} [DecidableEq κ]
noncomputable def xm(kvs:List (κ×V))(k:κ):Option V:=(kvs.find? λkv=>decide (kv.1=k)).map (·.2)
theorem zb{p:κ×V}{r:List (κ×V)}{k:κ}(e:p.1=k):xm (p::r) k=some p.2:=by simp[xm,List.find?_cons,e]
theorem Q8{p:κ×V}{r:List (κ×V)}{k:κ}(e:¬ p.1=k):xm (p::r) k=xm r k:=by simp[xm,List.find?_cons,e]
theorem RelO.getD{o:Option V}{u:Option Value}{d:V}{d':Value}(r:RelO o u)(a:RelV d d'):RelV (o.getD d) (u.getD d'):=by
 cases o with
 | none=>cases u with
  | none=>exact a
  | some _=>exact(show False from r).elim
 | some _=>cases u with
  | none=>exact(show False from r).elim
  | some _=>exact r
theorem KV.val{a:List (κ×V)}{vs:List (κ×Value)}(r:KV a vs)(k:κ):RelO (xm a k) (valueAt vs k):=by
 unfold KV at r
 induction r with
 | nil=>exact True.intro
 | @cons p q j c h t g =>
  obtain⟨f,i⟩:=h;by_cases e:p.1=k
  ·have d:q.1=k:=f.symm.trans e;have b:valueAt (q::c) k=some q.2:=by simp[valueAt,List.find?_cons,d]
   rw[zb e,b];exact i
  ·have d:¬ q.1=k:=λz=>e (f.trans z);have b:valueAt (q::c) k=valueAt c k:=by simp[valueAt,List.find?_cons,d]
   rw[Q8 e,b];exact g
end
theorem jdA{P:Program}{w:World}{k:Key}{u:Value}(r:RelV (kV k) u):(yQ P w).is k u=true:=by
 cases k with
 | inl i=>obtain⟨t,e⟩:=(show ∃ t,u=Value.int i t from r);subst e;exact Qb P w i t
 | inr x=>obtain⟨t,e⟩:=(show ∃ t,u=Value.str x t from r);subst e;exact qe P w x t
abbrev KT(H:Hp):List (List Key×V)->List (List Key×Addr×Value)->Prop:=Paired λp q=>p.1=q.1/\H q.2.1=some (.tup (p.1.map kV))/\RelV p.2 q.2.2
def jgh(i:Expr):Prop:=∀ ov iv,subscripted i false ov iv=operate [ov,iv] (getItem ov iv)
theorem jcl{prog:Program}{w:World}{A:Around}{E:Value->Shared->Prop}{s:Shared}{env:Env}{value slice:Expr}{pos:Pos}{T id:String}{Q:Value->Shared->Prop}
  (d:typeLookup (.type T) "__getitem__" = pure (some (.builtin id))) (e:jgh slice)
  (h:wpAny (model prog w) A (eval value env) (λo s₁=>wpAny (model prog w) A (eval slice env) (λi s₂=>s₂.TypeIs o T/\wpAny (model prog w) A (getItem o i) Q E s₂) E s₁) E s) :
  wpAny (model prog w) A (eval (.Subscript value slice pos) env) Q E s:=by
 refine Subscript_ (wpAny_mono h (λo s₁ f=>wpAny_mono f (λi s₂ a=>?_) λ_ _ x=>x) λ_ _ x=>x);obtain⟨b,a⟩:=a;unfold subscriptTail;refine L3 ?_;rw[getitemInPython_of_ne b.not_modules];refine L3 (wpAny_specialOf b d ?_);have fin:wpAny (model prog w) A (subscripted slice false o i) (λr c=>wpAny (model prog w) A (letTemporaryGo value o r >>= λ_=>pure r) Q E c) E s₂:=by
  rw[e o i];exact wpAny_operating (wpAny_mono a (λr c g=>L3 (wpAny_letTemporaryGo (M7 g))) λ_ _ x=>x)
 first
  | exact M7 (L3 fin)
  | exact L3 (M7 (L3 fin))
  | exact L3 fin
structure M1(X:Cx)(o:Expr)(m:Str)(apos:Pos)(e:Expr)(cpos:Pos):Prop where
 base:attributeBase o m X.env (eval o X.env)=eval o X.env
 few:((backTo cpos (starEach [e] X.env)).all (λx=>!x.1)&&(backToKw cpos (keywordEach [] X.env)).all (λx=>x.1.isSome)
  && decide (([e]:List Expr).length+([]:List Keyword).length+(if([]:List Keyword).isEmpty then 0 else 1) < 30))=true
 line:(apos.endLine==cpos.line)=true
 trees:backTo cpos (starEach [e] X.env)=[(false,eval e X.env)]
structure M2(X:Cx)(o:Expr)(m:Str)(apos:Pos)(e f:Expr)(cpos:Pos):Prop where
 base:attributeBase o m X.env (eval o X.env)=eval o X.env
 few:((backTo cpos (starEach [e,f] X.env)).all (λx=>!x.1)&&(backToKw cpos (keywordEach [] X.env)).all (λx=>x.1.isSome)
  && decide (([e,f]:List Expr).length+([]:List Keyword).length+(if([]:List Keyword).isEmpty then 0 else 1) < 30))=true
 line:(apos.endLine==cpos.line)=true
 trees:backTo cpos (starEach [e,f] X.env)=[(false,eval e X.env),(false,eval f X.env)]
end L2
namespace QD
open PySem L2 PySem.Spec PyProof.Rows
section
variable {R:RC}{Z Z':Zn}{H H':Hp}{pm:List Nat}
noncomputable def Y3:D->Option KA
 | .int i=>some (.int i)
 | .str s=>some (.str s)
 | _=>none
theorem VG(e:Y3 d=some k)(r:Rep R Z H d v O):v=kV (kaV k)/\O=[]:=by
 cases d with
 | int i=>cases e;rw[Rep] at r;exact r
 | str s=>cases e;rw[Rep] at r;exact r
 | _=>cases e
theorem jcN(h:kaV a=kaV b):a=b:=by
 cases a<;>cases b<;>simp only[kaV] at h
 ·cases h;rfl
 ·cases h
 ·cases h
 ·have:=jdl (Sum.inr.inj h);rw[this]
noncomputable def Yy:List KA->List D->KA->Option D
 | k::ks,d::l,a=>if k=a then some d else Yy ks l a
 | _,_,_=>none
theorem Vi:∀{ks:List KA}{l:List D}{vs:List V}{O:List Addr}{a:KA},Reps R Z H l vs O->ks.length=l.length ->
  (∀ d,Yy ks l a=some d->∃ v P,xm ((ks.map kaV).zip vs) (kaV a)=some v/\Rep R Z H d v P)/\(Yy ks l a=none->xm ((ks.map kaV).zip vs) (kaV a)=none)
 | [],l,vs,O,a,r,c=>⟨λd e=>(by cases l<;>cases e),λ_=>rfl⟩
 | k::ks,[],vs,O,a,r,c=>by simp at c
 | k::ks,x::l,vs,O,a,r,c=>by
  rw[Reps] at r;obtain⟨v,b,f,n,rfl,rfl,g,i⟩:=r;have j:=Vi (a:=a) i (by simpa using c);by_cases e:k=a
  ·subst e;refine⟨λd h=>?_,λh=>?_⟩
   ·simp only[Yy,if_true] at h;cases h;exact⟨v,f,zb rfl,g⟩
   ·simp[Yy] at h
  ·have m:¬ (kaV k=kaV a):=λz=>e (jcN z);have q:xm (((k::ks).map kaV).zip (v::b)) (kaV a)=xm ((ks.map kaV).zip b) (kaV a):=Q8 m;rw[q];simp only[Yy,if_neg e];exact j
noncomputable def p3(g:D->D->D->Option D)(pa pb pc:PF):PF:=λρ=>match pa ρ with
 | none=>none
 | some x=>match pb ρ with
  | none=>none
  | some y=>match pc ρ with
   | none=>none
   | some z=>g x y z
end
@[simp] theorem p3_e:p3 g pa pb pc ρ=(pa ρ).bind λx=>(pb ρ).bind λy=>(pc ρ).bind λz=>g x y z:=by
 unfold p3;cases pa ρ with
 | none=>rfl
 | some x =>
  dsimp only[Option.bind];cases pb ρ with
  | none=>rfl
  | some y=>dsimp only;cases pc ρ<;>rfl
@[simp] theorem keyOf_int(i:Int):Y3 (.int i)=some (.int i):=rfl
@[simp] theorem keyOf_str(s:List Nat):Y3 (.str s)=some (.str s):=rfl
end QD
namespace PySem
open Sem (wp)
namespace F
end F
end PySem
namespace L2
open PySem PySem.Spec PyProof.Rows
end L2
namespace QD
open PySem L2 PySem.Spec PyProof.Rows
end QD
namespace QK
open PySem L2 QD PySem.Spec PyProof.Rows
end QK
namespace QD
open PySem L2 PySem.Spec PyProof.Rows
end QD
namespace L2
open PySem PySem.Spec PyProof.Rows
end L2
namespace QD
open PySem L2 PySem.Spec PyProof.Rows
structure QDs(cl:Nat->Addr)(X:Cx)(es:List Expr)(ta:TA)(f:FA):Prop where
 sem:PA X es ta
 den:DA ⟨X.K,cl⟩ ta f
end QD
namespace L2
open PySem PySem.Spec PyProof.Rows
end L2
namespace QD
open PySem L2 PySem.Spec PyProof.Rows
end QD
namespace L2
open PySem PySem.Spec PyProof.Rows
structure BlockOkC(X:Cx)(scope:Scope)(N':List Str)(ix:List (Option Nat)):Prop where
 kind:scope.kind=.function
 names:∀ y∈scope.names,y.2=.local->scope.names.lookup y.1=some .local
 cells:∀ y∈scope.names,y.2=.cell->scope.names.lookup y.1=some .cell
 uniq:∀ y∈scope.names,y.2=.free->scope.names.lookup y.1=some .free
 outer:∀ y∈scope.names,y.2=.free->X.env.kindOf y.1=some .cell \/ X.env.kindOf y.1=some .free
 nd:N'.Nodup
 len:ix.length=N'.length
 at_:∀(i j:Nat) (x:Str),ix[i]?=some (some j)->N'[i]?=some x->X.N[j]?=some x/\(x,NameKind.free)∈scope.names
 func:X.env.scope.kind=.function
end L2
namespace QD
open PySem L2 PySem.Spec PyProof.Rows
end QD
namespace L2
open PySem PySem.Spec PyProof.Rows
structure KD(P:Program)(w:World)(K:PySem.W.Frag)(a:Addr)(kvs:List (Key×V)):Prop where
 nm:(a==sysModules)=false
 dd:∀ h:Heap,K.In h->∃ vs,KV kvs vs/\h.DictOf (yQ P w) a vs
noncomputable def jcc(kvs:List (Key×V))(ty:TE):TE:=λσ H Q=>ty σ H λy H1=>∃ k v,y=kV k/\xm kvs k=some v/\Q v H1
noncomputable def xt(kvs:List (Key×V))(ty:TE):TE:=λσ H Q=>ty σ H λy H1=>∃ k,y=kV k/\Q ((xm kvs k).getD .non) H1
theorem jce{X:Cx}{h:Heap}{vs:List (Key×Value)}(dd:h.DictOf (yQ X.prog X.w) a vs):∃ o,h.get? a=some o/\o.cls=.type "dict"/\o.dict=none:=by
 obtain⟨c,_,_,d,b,_⟩:=dd;exact⟨c,d,b.1,b.2.1⟩
theorem jc6(D:KD X.prog X.w X.K a kvs)(e:Gl X x)(f:X.mg x=some (.ref a))(hi:PE X i ty)(g:jgh i)(hd:(x==("__debug__" : Str))=false:=by decide):PE X (.Subscript (.Name x p) i pos) (jcc kvs ty):=by
 intro b s σ H Q I h;refine jcl PySem.F.slot_dict_getitem.lookup g (qd I e f (thn (hi b s σ H _ I h) λu z ⟨y,j,d,l,k,v,m,n,q⟩=>?_) hd);subst m;obtain⟨r,rel,dd⟩:=D.dd _ d.kIn;obtain⟨A,t,c⟩:=RelO.some_of (v:=v) (o:=valueAt r k) (by rw[<- n];exact rel.val k);exact⟨dd.typeIs,wpAny_getItem_of (jdA l) dd.mapOf t ⟨v,j,d.tok _,c,q⟩⟩
theorem u9{X:Cx}{c:List (Key×V)}(D:KD X.prog X.w X.K a c)(j:Gl X x)(l:X.mg x=some (.ref a))(n:PE X e ty)(m:M1 X (.Name x p) "get" apos e cpos)(hd:(x==("__debug__" : Str))=false:=by decide):PE X (.Call (.Attribute (.Name x p) "get" apos) [e] [] cpos) (xt c ty):=by
 intro d s σ H Q I h;obtain⟨C,rel,dd⟩:=D.dd _ I.kIn;refine wpAny_Call_method m.base m.few m.line PySem.F.plainAttrs_dict PySem.F.slot_dict_get PySem.F.type_dict_get (qd I j l ?_ hd);refine⟨dd.typeIs,λb q=>?_,?_⟩
 ·cases q;obtain⟨o,r,_,t⟩:=jce dd;exact⟨o,r,t⟩
 rw[m.trees];refine Calls.callWith_builtin rfl (Calls.evalArgs_plain (Calls.spliced_cons (thn (n d s σ H _ I h) λE G ⟨y,u,i,v,k,z,A⟩=>Calls.spliced_nil ?_)));subst z;obtain⟨B,f,g⟩:=D.dd _ i.kIn;refine call_meetsIn PySem.F.slot_dict_get g.typeIs PySem.F.entry_dict_get (PySem.F.args_dict_get_2 _ _) (meets_dict_get (yQ X.prog X.w) a (jdA v) D.nm) ⟨_,g.mapOf,_,u,i.tok _,?_,A⟩;exact(f.val k).getD rfl
noncomputable def ja3(w:World):List Str->List Tok->List Value->List DictEntry
 | x::xs,t::ts,v::vs=>⟨PyData.keyHash w.params x,.str x t,v⟩::ja3 w xs ts vs
 | _,_,_=>[]
theorem Y0:∀{xs:List Str}{ts:List Tok}{us:List Value},xs.length=ts.length->xs.length=us.length->Pairs (yQ P w) (ja3 w xs ts us) ((xs.map λx=>(Sum.inr x:Key)).zip us)
 | [],[],[],_,_=>.nil
 | x::xs,t::ts,u::us,a,b=>.cons (qe P w x t) rfl (Y0 (by simpa using a) (by simpa using b))
 | [],_::_,_,h,_=>by simp at h
 | [],[],_::_,_,h=>by simp at h
 | _::_,[],_,h,_=>by simp at h
 | _::_,_::_,[],_,h=>by simp at h
theorem KB:∀{xs:List Str}{ts:List Tok}{us:List Value},∀ q∈ja3 w xs ts us,∃ k,(yQ P w).is k q.key=true/\q.hash=(yQ P w).hash k
 | x::xs,t::ts,u::us,q,h=>by
  rw[ja3] at h;rcases M5.mp h with rfl | h
  ·exact⟨.inr x,qe P w x t,rfl⟩
  ·exact KB q h
 | [],_,_,q,h=>by simp[ja3] at h
 | _::_,[],_,q,h=>by simp[ja3] at h
 | _::_,_::_,[],q,h=>by simp[ja3] at h
theorem jbf:∀{ks:List Key}{vs:List V}{us:List Value},Vals vs us->KV (ks.zip vs) (ks.zip us)
 | [],_,_,_=>by simp[KV];exact .nil
 | k::ks,[],_,.nil=>by simp[KV];exact .nil
 | k::ks,v::vs,u::us,.cons a b=>by
  rw[List.zip_cons_cons,List.zip_cons_cons];exact .cons ⟨rfl,a⟩ (jbf b)
theorem jen{K:PySem.W.Frag}{ks:List Key}{xs:List Str}{ts:List Tok}{us:List Value}{vs:List V}{c:Nat}(d:ks=xs.map λx=>(Sum.inr x:Key))(h:K.lookup a=some { cls:=.type "dict",data:=.dict (ja3 w xs ts us).toArray c })
  (f:(a==sysModules)=false) (h1:xs.length=ts.length) (h2:xs.length=us.length) (g:Vals vs us) (i:xs.Nodup):KD P w K a (ks.zip vs):=by
 subst d;refine⟨f,λl j=>⟨(xs.map λx=>(Sum.inr x:Key)).zip us,jbf g,?_⟩⟩;refine⟨_,_,c,j a _ h,⟨rfl,rfl,rfl⟩,rfl,λq k=>KB q (by simpa using k),by simpa using Y0 h1 h2,?_⟩;have e:((xs.map λx=>(Sum.inr x:Key)).zip us).map (·.1)=xs.map λx=>(Sum.inr x:Key):=by
  rw[List.map_fst_zip];rw[L0];lia
 rw[e];exact List.Pairwise.map _ (λa b h z=>h (by cases z;rfl)) i
section
variable {prog:Program}{w:World}{A:Around}{E:Value->Shared->Prop}{s:Shared}
theorem jab{j t:Addr}{n:Nat}{a:Array Value}{y:Value}{C:Value->Shared->Prop}(d:s.heap.IsTupleIter j t n)(e:s.heap.IsTuple t a)(f:a[n]?=some y)
  (go:∀ k,k.IsTupleIter j t (n+1)->Heap.SameBut j s.heap k->C y { s with heap:=k }):wpAny (model prog w) A (Builtin.SmallTypes.nextOf (.ref j)) C E s:=by
 obtain⟨l,c,g,b⟩:=id d;obtain⟨m,h,_,mt,i⟩:=e;delta Builtin.SmallTypes.nextOf;refine L3 (wpAny_callSpecial?_slot (name:=Str.ofString "__next__") d.typeIs F.slot_tuple_iterator_next (wpAny_call_entry F.slot_tuple_iterator_next d.typeIs F.entry_tuple_iterator_next ?_ (F.args_tuple_iterator_next_1 _)));show wpAny _ _ (field (.ref j) 0 >>= _) _ _ s;refine L3 (U5 c b (x:=.ref t) rfl ?_);show wpAny (model prog w) _ (if(Value.ref t==Value.none)=true then _ else _) _ _ s;rw[if_neg (by exact M4)];show wpAny _ _ (field (.ref j) 1 >>= _) _ _ s;refine L3 (U5 c b (x:=.int n 0) rfl ?_);show wpAny (model prog w) _ (seqItems? (.ref t) >>= _) _ _ s;refine L3 (wpAny_seqItems h i ?_);simp only[N8,f];refine L3 (wpAny_setField c b (by simp) (M7 ⟨y,rfl,M7 (go _ ⟨_,Heap.get?_update_self _ c (Obj.isFreed_of_fields (Obj.data_mapFields b _)),(Obj.cls_mapFields ..).trans g,?_⟩ (Heap.SameBut.update ..))⟩));rw[Obj.data_mapFields b];simp[rawInt]
variable {z TI TO j1 j2 l t:Addr}{m:Nat}{us vs:Array Value}{u v a b:Value}
theorem jaD{C:Value->Shared->Prop}(D:ZipApart z TI TO j1 j2 l t)(j:IsZip s.heap z TI TO .none)(qI:IsPair s.heap TI (.ref j1) (.ref j2))(W:IsPair s.heap TO a b)
  (X:s.heap.IsListIter j1 l m) (Y:s.heap.IsTupleIter j2 t m) (Z:s.heap.IsList l us) (w2:s.heap.IsTuple t vs) (eu:us[m]?=some u) (ev:vs[m]?=some v)
  (go:∀ k,IsZip k z TI TO (rawInt s.heap.objs.size)->IsPair k TO u v->k.IsListIter j1 l (m+1)->k.IsTupleIter j2 t (m+1)->IsPair k s.heap.objs.size u v->k.objs.size=s.heap.objs.size+1 ->
   (∀ c o,c≠z->c≠TO->c≠j1->c≠j2->s.heap.get? c=some o->k.get? c=some o)->C (.ref s.heap.objs.size) { s with heap:=k }) :
  wpAny (model prog w) A (Builtin.«zip.__next__» ⟨[.ref z],[]⟩) (λfin s'=>∃ v,fin=.done (.ret v)/\C v s') E s:=by
 show wpAny (model prog w) A (field (.ref z) 2 >>= _) _ _ _;refine L3 (U5 j rfl (x:=.bool false) rfl ?_);show wpAny (model prog w) A (field (.ref z) 3 >>= _) _ _ _;refine L3 (U5 j rfl (x:=.ref TI) rfl (L3 (wpAny_seqItems qI rfl ?_)));show wpAny (model prog w) A (Builtin.SmallTypes.ownedTupleIsFree (.ref z) >>= _) _ _ _;refine L3 ?_;delta Builtin.SmallTypes.ownedTupleIsFree;refine L3 (U5 j rfl (x:=.none) rfl (M7 ?_));simp only[if_true];refine L3 (wpAny_rule (L3 (U5 j rfl (x:=.ref TO) rfl (L3 (wpAny_setField_rec j (by simp) λk1 G f=>?_)))));replace G:IsZip k1 z TI TO .ellipsis:=G;refine L3 ?_;simp only[List.forIn_cons,List.forIn_nil,List.zipIdx_cons,List.zipIdx_nil];refine L3<|L3<|wpAny_onRaise ?_
 show wpAny _ _ (Builtin.SmallTypes.nextOf (.ref j1) >>= _) _ _ _;refine L3 (wpAny_nextOf_list_item (X.extBut f.extBut D.i1z) (Z.extBut f.extBut D.l1z) eu λk2 p1 h=>M7 ?_);have P:IsPair k2 TO a b:=h.extBut _ _ D.TOi1 (f.extBut _ _ D.TOz W);refine L3 (wpAny_seqItems P rfl (L3 (wpAny_updateSeq_pair P λk3 H i=>?_)));replace H:IsPair k3 TO u b:=H;refine L3 (wpAny_letGo (M7 (L3 (L3 (wpAny_onRaise ?_)))));show wpAny _ _ (Builtin.SmallTypes.nextOf (.ref j2) >>= _) _ _ _;refine L3 (jab (((Y.extBut f.extBut D.i2z).extBut h.extBut D.i12.symm).extBut i.extBut D.TOi2.symm) (((w2.extBut f.extBut D.l2z).extBut h.extBut D.l2i1).extBut i.extBut D.l2TO) ev λk4 p2 n=>M7 ?_);have Q:IsPair k4 TO u b:=n.extBut _ _ D.TOi2 H;refine L3 (wpAny_seqItems Q rfl (L3 (wpAny_updateSeq_pair Q λd r p=>?_)));replace r:IsPair d TO u v:=r;refine L3 (wpAny_letGo (M7 (M7 (L3 (wpAny_seqItems r rfl (L3 (wpAny_newTuple ?_)))))));have R:d.objs.size=s.heap.objs.size:=by rw[p.1,n.1,i.1,h.1,f.1]
 have S:IsZip d z TI TO .ellipsis:=p.extBut _ _ D.TOz.symm (n.extBut _ _ D.i2z.symm (i.extBut _ _ D.TOz.symm (h.extBut _ _ D.i1z.symm G)));have kp:∀ c o,c≠z->c≠TO->c≠j1->c≠j2->s.heap.get? c=some o->d.get? c=some o:=λc o g y I J e=>p.extBut _ _ y (n.extBut _ _ J (i.extBut _ _ y (h.extBut _ _ I (f.extBut _ _ g e))));have K:d.IsListIter j1 l (m+1):=((p1.extBut i.extBut D.TOi1.symm).extBut n.extBut D.i12).extBut p.extBut D.TOi1.symm;have L:d.IsTupleIter j2 t (m+1):=p2.extBut p.extBut D.TOi2.symm;have T:z < d.objs.size:=N1 S;show wpAny (model prog w) A (Builtin.SmallTypes.ownedTupleHandOut (.ref z) (.ref d.objs.size) >>= _) _ _ _;refine L3 ?_;delta Builtin.SmallTypes.ownedTupleHandOut;have z6:IsZip (d.push { cls:=.type "tuple",data:=.seq #[u,v] }) z TI TO .ellipsis:=L8 _ S;refine L3 (wpAny_setField_rec z6 (by simp) λk7 M N=>?_);replace M:IsZip k7 z TI TO (rawInt d.objs.size):=M;refine wpAny_setField_rec M (by simp) λq B O=>?_;replace B:IsZip q z TI TO (rawInt d.objs.size):=B;have F:∀ c o,c≠z->d.get? c=some o->q.get? c=some o:=λc o g e=>O.extBut _ _ g (N.extBut _ _ g (L8 _ e));have U:IsPair q d.objs.size u v:=O.extBut _ _ (Nat.ne_of_gt T) (N.extBut _ _ (Nat.ne_of_gt T) (X4 _ rfl));have V:q.objs.size=d.objs.size+1:=by rw[O.1,N.1,Heap.size_push]
 rw[R] at B U V;refine M7 ⟨_,rfl,?_⟩;show C (.ref d.objs.size) _;rw[R];obtain⟨x1,y1,r1⟩:=K;obtain⟨x2,y2,r2⟩:=L;exact go q B (F _ _ D.TOz r) ⟨x1,F _ _ D.i1z y1,r1⟩ ⟨x2,F _ _ D.i2z y2,r2⟩ U V λc o g y I J e=>F c o g (kp c o g y I J e)
theorem jbr{C:PySem.Fin->Shared->Prop}(p:A.handled=none)(D:ZipApart z TI TO j1 j2 l t)(a:IsZip s.heap z TI TO .none)(qI:IsPair s.heap TI (.ref j1) (.ref j2))
  (q:s.heap.IsListIter j1 l m) (r:s.heap.IsList l us) (u:us[m]?=none)
  (go:∀ k e,(∀ c o,c≠z->c≠TO->c≠j1->c≠j2->s.heap.get? c=some o->k.get? c=some o)->(∃ o,k.get? e=some o/\o.cls=.type "StopIteration")->E (.ref e) { s with heap:=k }) :
  wpAny (model prog w) A (Builtin.«zip.__next__» ⟨[.ref z],[]⟩) C E s:=by
 show wpAny (model prog w) A (field (.ref z) 2 >>= _) _ _ _;refine L3 (U5 a rfl (x:=.bool false) rfl ?_);show wpAny (model prog w) A (field (.ref z) 3 >>= _) _ _ _;refine L3 (U5 a rfl (x:=.ref TI) rfl (L3 (wpAny_seqItems qI rfl ?_)));show wpAny (model prog w) A (Builtin.SmallTypes.ownedTupleIsFree (.ref z) >>= _) _ _ _;refine L3 ?_;delta Builtin.SmallTypes.ownedTupleIsFree;refine L3 (U5 a rfl (x:=.none) rfl (M7 ?_));simp only[if_true];refine L3 (wpAny_rule (L3 (U5 a rfl (x:=.ref TO) rfl (L3 (wpAny_setField_rec a (by simp) λv b d=>?_)))));replace b:IsZip v z TI TO .ellipsis:=b;refine L3 ?_;simp only[List.forIn_cons,List.forIn_nil,List.zipIdx_cons,List.zipIdx_nil];refine L3<|L3<|wpAny_onRaise ?_
 show wpAny _ _ (Builtin.SmallTypes.nextOf (.ref j1) >>= _) _ _ _;refine L3 (wpAny_nextOf_list_end p (q.extBut d.extBut D.i1z) (r.extBut d.extBut D.l1z) u λy e g B=>?_);obtain⟨F,f,h⟩:=B;have i:IsZip y z TI TO .ellipsis:=g _ _ D.i1z.symm b;have ne:e≠z:=λx=>by subst x;rw[i] at f;cases f;simp at h
 exact wpAny_setField_rec i (by simp) λG _ j=>go G e (λc o n _ H _ x=>j.extBut _ _ n (g _ _ H (d.extBut _ _ n x))) ⟨F,j.extBut _ _ ne f,h⟩
theorem u5{C:Option Value->Shared->Prop}(D:ZipApart z TI TO j1 j2 l t)(d:IsZip s.heap z TI TO .none)(qI:IsPair s.heap TI (.ref j1) (.ref j2))(e:IsPair s.heap TO a b)
  (f:s.heap.IsListIter j1 l m) (g:s.heap.IsTupleIter j2 t m) (h:s.heap.IsList l us) (i:s.heap.IsTuple t vs) (j:us[m]?=some u) (n:vs[m]?=some v)
  (go:∀ k,IsZip k z TI TO (rawInt s.heap.objs.size)->IsPair k TO u v->k.IsListIter j1 l (m+1)->k.IsTupleIter j2 t (m+1)->IsPair k s.heap.objs.size u v->k.objs.size=s.heap.objs.size+1 ->
   (∀ c o,c≠z->c≠TO->c≠j1->c≠j2->s.heap.get? c=some o->k.get? c=some o)->C (some (.ref s.heap.objs.size)) { s with heap:=k }):wpAny (model prog w) A (pyNext (.ref z)) C E s:=by
 have ty:s.TypeIs (.ref z) "zip":=⟨_,d,rfl⟩;unfold pyNext;exact L3 (wpAny_attempt (wpAny_callSpecial?_slot (name:=Str.ofString "__next__") ty F.slot_zip_next (wpAny_call_entry F.slot_zip_next ty F.entry_zip_next
  (jaD D d qI e f g h i j n λk p q r x y B G=>M7 (go k p q r x y B G)) (F.args_zip_next_1 _))))
theorem jap{C:Option Value->Shared->Prop}(d:A.handled=none)(D:ZipApart z TI TO j1 j2 l t)(a:IsZip s.heap z TI TO .none)(qI:IsPair s.heap TI (.ref j1) (.ref j2))
  (f:s.heap.IsListIter j1 l m) (g:s.heap.IsList l us) (h:us[m]?=none)
  (go:∀ k,(∀ c o,c≠z->c≠TO->c≠j1->c≠j2->s.heap.get? c=some o->k.get? c=some o)->C none { s with heap:=k }):wpAny (model prog w) A (pyNext (.ref z)) C E s:=by
 have ty:s.TypeIs (.ref z) "zip":=⟨_,a,rfl⟩;unfold pyNext;refine L3 (wpAny_attempt (wpAny_callSpecial?_slot (name:=Str.ofString "__next__") ty F.slot_zip_next (wpAny_call_entry F.slot_zip_next ty F.entry_zip_next (jbr d D a qI f g h λk e kp i=>?_) (F.args_zip_next_1 _))));obtain⟨o,j,n⟩:=i;exact L3 (wpAny_isInstance (T:="StopIteration") (b:=true) ⟨o,j,n⟩ isSubtype_stop (M7 (go _ kp)))
end
noncomputable abbrev zlA(h:Heap)(l:Addr):Heap:=h.push { cls:=.type "list_iterator",data:=.fields #[.ref l,.int 0 0] }
noncomputable abbrev zlB(h:Heap)(l t:Addr):Heap:=(zlA h l).push { cls:=.type "tuple_iterator",data:=.fields #[.ref t,.int 0 0] }
noncomputable abbrev zlC(h:Heap)(l t:Addr):Heap:=(zlB h l t).push { cls:=.type "tuple",data:=.seq #[.ref h.objs.size,.ref (zlA h l).objs.size] }
noncomputable abbrev zlD(h:Heap)(l t:Addr):Heap:=(zlC h l t).push { cls:=.type "tuple",data:=.seq #[.none,.none] }
noncomputable abbrev zlE(h:Heap)(l t:Addr):Heap:=(zlD h l t).push { cls:=.type "zip",data:=.fields #[.none,.bool false,.bool false,.ref (zlB h l t).objs.size,.ref (zlC h l t).objs.size] }
theorem jau(l t:Addr)(us vs:Array Value):Meets (Builtin.«zip.__new__» ⟨[.type "zip",.ref l,.ref t],[]⟩) (λ_ R s=>s.heap.IsList l us/\s.heap.IsTuple t vs/\R (.ok (.ret (.ref (zlD s.heap l t).objs.size))) { s with heap:=zlE s.heap l t }) :=
 .of_wp λprog w A R s h=>by
  obtain⟨a,g,d,b,os⟩:=s;obtain⟨e,f,h⟩:=h;have c:=sub_zip;have i:Heap.IsList (Shared.heap ⟨a,g,d,b,os⟩) l us:=e;have j:Heap.IsTuple (Shared.heap ⟨a.push { cls:=.type "list_iterator",data:=.fields #[.ref l,.int 0 0] },g,d,b,os⟩) t vs:=Heap.IsTuple.push f _
  wp_walk using wpAny_pyIter_list i,wpAny_pyIter_tuple j
  exact⟨_,rfl,h⟩
section
variable {prog:Program}{w:World}{A:Around}{E:Value->Shared->Prop}{s:Shared}
theorem uZ{l t:Addr}{us vs:Array Value}{C:Value->Shared->Prop}(h1:s.heap.IsList l us)(h2:s.heap.IsTuple t vs)
  (go:∀ k,IsZip k (s.heap.objs.size+4) (s.heap.objs.size+2) (s.heap.objs.size+3) .none->IsPair k (s.heap.objs.size+2) (.ref s.heap.objs.size) (.ref (s.heap.objs.size+1))->IsPair k (s.heap.objs.size+3) .none .none ->
   k.IsListIter s.heap.objs.size l 0->k.IsTupleIter (s.heap.objs.size+1) t 0->(∀ c o,s.heap.get? c=some o->k.get? c=some o)->C (.ref (s.heap.objs.size+4)) { s with heap:=k }) :
  wpAny (model prog w) A (call (.type "zip") [.ref l,.ref t]) C E s:=by
 refine callType_new F.called_zip (by decide) (F.typeCall_zip_2 _ _) (F.newCall_zip_2 _ _) (λobj=>F.args_object_init_3 obj _ _) F.entry_zip_new (jau l t us vs) ⟨h1,h2,?_⟩;have a:(zlA s.heap l).objs.size=s.heap.objs.size+1:=Heap.size_push ..;have b:(zlB s.heap l t).objs.size=s.heap.objs.size+2:=by rw[Heap.size_push,a]
 have d:(zlC s.heap l t).objs.size=s.heap.objs.size+3:=by rw[Heap.size_push,b]
 have f:(zlD s.heap l t).objs.size=s.heap.objs.size+4:=by rw[Heap.size_push,d]
 have e:(zlE s.heap l t).get? (zlD s.heap l t).objs.size=some _:=X4 _ rfl;have g:(zlE s.heap l t).get? (zlC s.heap l t).objs.size=some _:=L8 _ (X4 _ rfl);have h:(zlE s.heap l t).get? (zlB s.heap l t).objs.size=some _:=L8 _ (L8 _ (X4 _ rfl));have i:(zlE s.heap l t).get? (zlA s.heap l).objs.size=some _:=L8 _ (L8 _ (L8 _ (X4 _ rfl)));have j:(zlE s.heap l t).get? s.heap.objs.size=some _:=L8 _ (L8 _ (L8 _ (L8 _ (X4 _ rfl))));show _/\_;rw[b,d,f] at e;rw[a,b] at h;rw[d] at g;rw[a] at i;rw[f];exact⟨⟨_,e,rfl⟩,go _ e h g ⟨_,j,rfl,rfl⟩ ⟨_,i,rfl,rfl⟩ λc o x=>L8 _ (L8 _ (L8 _ (L8 _ (L8 _ x))))⟩
end
noncomputable def Izt(K:PySem.W.Frag)(l t:Addr):It :=
 ⟨λi H=>∃ xs ys x y,SqL K H l xs/\SqT K H t ys/\xs[i]?=some x/\ys[i]?=some y,λi H x H'=>∃ p u v,(∀ xs,SqL K H l xs->xs[i]?=some u)/\(∀ ys,SqT K H t ys->ys[i]?=some v)/\x=.ref p/\H p=none/\H'=upd H p (.tup [u,v]),
  λi H=>∃ xs,SqL K H l xs/\xs.length<=i⟩
theorem jaK{P:Program}{w:World}{K:PySem.W.Frag}{F:List Expr}{n:Nat}{pos:Pos}(z TI TO j1 j2 l t:Addr)(D:ZipApart z TI TO j1 j2 l t) :
  Turn P w K (.Tuple F n pos) (Izt K l t) [z,TI,TO,j1,j2] z (λi h=>IsZip h z TI TO .none/\IsPair h TI (.ref j1) (.ref j2)/\(∃ a b,IsPair h TO a b)/\h.IsListIter j1 l i/\h.IsTupleIter j2 t i) where
 mem:=by simp
 obj:=λi h st b p=>by
  obtain⟨g,j,⟨a,c,A⟩,⟨o4,r,_,d4⟩,⟨O,B,_,d5⟩⟩:=st;rcases(by simpa using p:b=z \/ b=TI \/ b=TO \/ b=j1 \/ b=j2) with q | q | q | q | q<;>subst q
  ·exact⟨_,g,λv q=>by cases q⟩
  ·exact⟨_,j,λv q=>by cases q⟩
  ·exact⟨_,A,λv q=>by cases q⟩
  ·exact⟨_,r,λv q=>by rw[d4] at q;cases q⟩
  ·exact⟨_,B,λv q=>by rw[d5] at q;cases q⟩
 keep:=λi h h' st k=>by
  obtain⟨g,j,⟨a,c,A⟩,r,⟨O,B,S⟩⟩:=st;exact⟨k z (by simp) _ g,k TI (by simp) _ j,⟨a,c,k TO (by simp) _ A⟩,r.at λo q=>k j1 (by simp) o q,⟨O,k j2 (by simp) _ B,S⟩⟩
 item:=by
  intro X U V Y hc i G s σ H E I Q st Z;subst U V Y;obtain⟨xs,ys,x,y,m,J,hx,hy⟩:=Z;obtain⟨L,C,p1,hz1⟩:=I.list m;obtain⟨its2,rv2,p2,hz2⟩:=I.tuple J;obtain⟨u,hu,ru⟩:=C.get hx;obtain⟨v,hv,rv⟩:=rv2.get hy;obtain⟨g,j,⟨a,c,A⟩,r,B⟩:=st;refine u5 D g j A r B p1.isList p2 (u:=u) (v:=v) (by simpa using hu) (by simpa using hv) λhh a1 a2 a3 a4 a5 a6 R=>?_;refine⟨_,rfl,wpAny_letOwnedTupleGo_zip (s:={ s with heap:=hh }) a1 λM hz6 f=>?_⟩;replace f:Heap.SameBut z hh M:=f;have lt:∀{c o},s.heap.get? c=some o->c < s.heap.objs.size:=λe=>N1 e;have N:M.get? s.heap.objs.size=_:=(f.2 _ (Nat.ne_of_gt (lt g))).trans a5;have kk:∀ b o,b∉[z,TI,TO,j1,j2]->s.heap.get? b=some o->M.get? b=some o:=λb o p q=>by
   have d:b≠z/\b≠TI/\b≠TO/\b≠j1/\b≠j2:=by simpa using p
   exact(f.2 b d.1).trans (R b o d.1 d.2.2.1 d.2.2.2.1 d.2.2.2.2 q)
  have I1:=I.turnedNew (h':=M) (t':=s.toks) (wr:=[z,TI,TO,j1,j2]) (T:=s.heap.objs.size) (xs:=[x,y]) (its:=#[u,v]) kk Q (M9 _) ⟨⟨_,N,rfl,_,rfl⟩,_,N,rfl⟩ (.cons ru (.cons rv .nil)) (by show 2<=sizeLine;decide);have g5:M.IsTupleIter j2 t (i+1):=by
   obtain⟨O,e5,S⟩:=a4;exact⟨O,(f.2 j2 D.i2z).trans e5,S⟩
  refine⟨.ref s.heap.objs.size,_,I1,rfl,⟨_,x,y,(λzs hs=>by rw[I.list_inj hs m];exact hx),(λzs hs=>by rw[I.tuple_inj hs J];exact hy),rfl,I.hok.fresh (M9 _),rfl⟩,⟨hz6,(f.2 TI D.TIz).trans (R _ _ D.TIz D.TITO D.TIi1 D.TIi2 j),⟨_,_,(f.2 TO D.TOz).trans a2⟩,a3.at λo q=>(f.2 j1 D.i1z).trans q,g5⟩,λb p=>?_⟩;rw[jh]
  ·exact(Q b p).1
  ·intro q;have:b < s.heap.objs.size:=by
    obtain⟨_,h4',_⟩:=id r;obtain⟨_,h5',_⟩:=id B;rcases(by simpa using p:b=z \/ b=TI \/ b=TO \/ b=j1 \/ b=j2) with w | w | w | w | w<;>rw[w]
    ·exact lt g
    ·exact lt j
    ·exact lt A
    ·exact lt h4'
    ·exact lt h5'
   exact absurd this (by rw[q];exact Nat.lt_irrefl _)
 done:=by
  intro X U V Y hc i G s σ H E I Q st Z;subst U V Y;obtain⟨xs,m,hx⟩:=Z;obtain⟨L,C,p1,hz1⟩:=I.list m;obtain⟨g,j,⟨a,c,A⟩,r,B⟩:=st;have hl1:=C.length;exact jap (I.ok.hd hc) D g j r p1.isList (by simp;lia) λhh R=>⟨rfl,I.turnedL (t':=s.toks) (wr:=[z,TI,TO,j1,j2]) (λb o p q=>by
   have d:b≠z/\b≠TI/\b≠TO/\b≠j1/\b≠j2:=by simpa using p
   exact R b o d.1 d.2.2.1 d.2.2.2.1 d.2.2.2.2 q) Q⟩
 self:=λ_ _ _ _ _ st h=>wpAny_pyIter_zip st.1 h
noncomputable def jf4(K:PySem.W.Frag)(tl:TA):TI:=λσ H R=>tl σ H λvs H1=>∃ a b xs ys,vs=[.ref a,.ref b]/\SqL K H1 a xs/\SqT K H1 b ys/\R (Izt K a b) H1
section
variable {X:Cx}
theorem jdN{f:List Expr}{n:Nat}{g p pos:Pos}{a b:Expr}{ta:TA}(G:Gl X "zip")(J:X.mg "zip" = none)(L:PA X [a,b] ta)(M:starEach [a,b] X.env=[(false,eval a X.env),(false,eval b X.env)]:=by rfl)(i:starEach [b] X.env=[(false,eval b X.env)]:=by rfl) :
  PI X (.Tuple f n g) (.Call (.Name "zip" p) [a,b] [] pos) (jf4 X.K ta):=by
 intro d s σ H R I h;refine Call_ (Yd I G J (show bootBuiltins "zip" = some (.type "zip") by decide +kernel) (PyProof.Rows.callWith_type1 (thn (L pos d s σ H _ I h) λus c ⟨vs,B,j,N,O⟩=>?_) (by rw[M,i]) (by rw[i];rfl)));obtain⟨w,x,xs,ys,rfl,y,A,q⟩:=O;obtain⟨u,v,rfl,P,Q⟩:=N.two;cases P;cases Q;obtain⟨C,S,k,T⟩:=j.list y;obtain⟨D,U,l,V⟩:=j.tuple A;have m:w < c.heap.objs.size:=by
  obtain⟨o,_,e,_⟩:=k;exact N1 e
 have r:x < c.heap.objs.size:=by
  obtain⟨o,e,_⟩:=id l;exact N1 e
 refine uZ k.isList l λE F W Y Z a5 hk=>?_;have I2:Inv X d σ B { c with heap:=E }:=j.kept (t':=c.toks) hk;refine PySem.wpAny_pyIter_zip (s:={ c with heap:=E }) F ?_;refine⟨c.heap.objs.size+4,[c.heap.objs.size+4,c.heap.objs.size+2,c.heap.objs.size+3,c.heap.objs.size,c.heap.objs.size+1],_,_,B,rfl,I2,jaK _ _ _ _ _ w x (jaI _ w x m r),⟨F,W,⟨_,_,Y⟩,Z,a5⟩,λb hb=>?_,q⟩;have t:c.heap.objs.size<=b:=by
  rcases(by simpa using hb:b=c.heap.objs.size+4 \/ b=c.heap.objs.size+2 \/ b=c.heap.objs.size+3 \/ b=c.heap.objs.size \/ b=c.heap.objs.size+1) with z | z | z | z | z<;>rw[z]
  ·exact Nat.le_add_right _ 4
  ·exact Nat.le_add_right _ 2
  ·exact Nat.le_add_right _ 3
  ·exact M9 _
  ·exact Nat.le_add_right _ 1
 exact j.fpOk t (j.hok.fresh t)
end
end L2
namespace QD
open PySem L2 PySem.Spec PyProof.Rows
noncomputable def jfp(ks:List KA)(l:List D)(p:PF):PF:=λρ=>(p ρ).bind λy=>(Y3 y).bind λk=>Yy ks l k
noncomputable def jac(ks:List KA)(l:List D)(p:PF):PF:=λρ=>(p ρ).bind λy=>(Y3 y).bind λk=>some ((Yy ks l k).getD .non)
@[simp] theorem jeG:jfp ks l p ρ=(p ρ).bind λy=>(Y3 y).bind λk=>Yy ks l k:=rfl
@[simp] theorem jbV:jac ks l p ρ=(p ρ).bind λy=>(Y3 y).bind λk=>some ((Yy ks l k).getD .non):=rfl
theorem jdy(b:∀(Z:Zn) (H:Hp),Reps R Z H l vs [])(f:ks.length=l.length)(h:PB R ty p):PB R (jcc ((ks.map kaV).zip vs) ty) (jfp ks l p):=by
 intro σ ρ Z H O d z s e Q k;rw[jeG] at e;cases e1:p ρ with
 | none=>rw[e1] at e;cases e
 | some y =>
  rw[e1,L4] at e;cases e2:Y3 y with
  | none=>rw[e2] at e;cases e
  | some c =>
   rw[e2,L4] at e;refine h z s e1 λ{v g i q} j m=>?_;obtain⟨rfl,_⟩:=VG e2 m;obtain⟨u,P,n,o⟩:=(Vi (a:=c) (b g i) f).1 d e;exact⟨kaV c,u,rfl,n,k j o⟩
theorem jcE(g:∀(Z:Zn) (H:Hp),Reps R Z H l vs [])(i:ks.length=l.length)(h:PB R ty p):PB R (xt ((ks.map kaV).zip vs) ty) (jac ks l p):=by
 intro σ ρ Z H O d z s e Q k;rw[jbV] at e;cases e1:p ρ with
 | none=>rw[e1] at e;cases e
 | some y =>
  rw[e1,L4] at e;cases e2:Y3 y with
  | none=>rw[e2] at e;cases e
  | some c =>
   rw[e2,L4] at e;refine h z s e1 λ{v j m r} b n=>?_;obtain⟨rfl,_⟩:=VG e2 n;refine⟨kaV c,rfl,?_⟩;have f:=Vi (a:=c) (g j m) i;cases e3:Yy ks l c with
   | none =>
    rw[e3] at e;cases e;rw[f.2 e3];exact k b .non_mk
   | some x =>
    rw[e3] at e;cases e;obtain⟨u,P,o,q⟩:=f.1 x e3;rw[o];exact k b q
noncomputable def jbe(p:PAf):PAf:=λρ=>match p ρ with
 | some [.lst _ l,.tup m]=>bif decide (l.length<=m.length) then some (VL (fzs l) (fzs m)) else none
 | _=>none
theorem jc4(h:PPs R ta p):PIt R (jf4 R.K ta) (jbe p):=by
 intro σ ρ Z H O xs z s e Q k;unfold jbe at e;split at e
 ·rename_i o l m n;cases b:decide (l.length<=m.length) with
  | false=>rw[b] at e;cases e
  | true =>
   rw[b] at e;cases e;have b:=U9 b;refine h z s n λ{vs M H1 P1} g1 r1=>?_;obtain⟨v,v2,N,S,rfl,rfl,r2,B⟩:=r1.two_of;have T:=r2.freeze (Z':=λa=>M a \/ a∈N++S) (λa z=>.inl z) λa z=>.inr (List.mem_append_left _ z);have d:=B.freeze (Z':=λa=>M a \/ a∈N++S) (λa z=>.inl z) λa z=>.inr (U2 _ z);rw[show fz (.lst o l)=.lst false (fzs l) from rfl,Rep] at T;rw[show fz (.tup m)=.tup (fzs m) from rfl,Rep] at d;obtain⟨a,f,O',rfl,rs,U,rfl,_⟩:=T;obtain⟨a',c,rfl,V,C⟩:=d;refine⟨a,a',f,c,rfl,FL.sq U,V.sq,k g1.fz ?_⟩;intro W X r A zd i;have D:=(U.frame r A).sq;have g:=(V.frame r A).sq;have Y:Reps R W X (fzs l) f []:=rs.frame r A λa E=>(nomatch E);have F:Reps R W X (fzs m) c []:=C.frame r A λa E=>(nomatch E);refine⟨λhi=>⟨f,D,?_⟩,λx hx=>?_⟩
   ·rw[Y.length];rw[QN] at hi;have a1:(fzs l).length=l.length:=by rw[vn,L0]
    have a2:(fzs m).length=m.length:=by rw[vn,L0]
    rw[a1,a2] at hi;rw[a1]
    lia
   obtain⟨y,y',hy,G,rfl⟩:=QM _ _ i x hx;obtain⟨u,hu,ru⟩:=Y.item hy;obtain⟨u',j,I⟩:=F.item G;refine⟨⟨f,c,u,u',D,g,hu,j⟩,λw H3 J=>?_⟩;obtain⟨q,t,t',ht,L,rfl,hq,rfl⟩:=J;have n:=ht f D;rw[hu] at n;cases n;have e2:=L c g;rw[j] at e2;cases e2;exact⟨_,Go.newF (wf0 zd) hq,Rep.tupNew (wf0 zd) hq (.cons (O:=[]) (P:=[]) ru (.one I))⟩
 ·cases e
noncomputable def jff:List Str->List Tok->List Value
 | x::xs,t::ts=>.str x t::jff xs ts
 | _,_=>[]
theorem Ky:∀{xs:List Str}{ts:List Tok},xs.length=ts.length->Vals (xs.map V.str) (jff xs ts)
 | [],[],_=>.nil
 | x::xs,t::ts,h=>.cons ⟨t,rfl⟩ (Ky (by simpa using h))
 | [],_::_,h=>by simp at h
 | _::_,[],h=>by simp at h
theorem wm(ws:List (List Nat)):Reps R Z H (ws.map D.str) ((ws.map S).map V.str) []:=by
 induction ws with
 | nil=>exact .empty
 | cons w ws a=>exact .cons (O:=[]) (P:=[]) .str_mk a
theorem vf{K:PySem.W.Frag}{n:Nat}{sl:Array (Option Value)}{xs:List Str}{ts:List Tok}{ws:List (List Nat)}(c:ws.map S=xs)(h:K.lookup a=some ⟨.type "tuple",none,.seq (jff xs ts).toArray n,sl⟩)(d:xs.length=ts.length)(e:xs.length<=1000)(cl:Nat->Addr)(Z:Zn)(H:Hp):Rep ⟨K,cl⟩ Z H (.tup (ws.map D.str)) (.ref a) []:=by
 subst c;rw[Rep];have b:=Ky d;refine⟨a,(ws.map S).map V.str,rfl,.inr ⟨_,_,n,h,rfl,rfl,?_,by simpa using b⟩,wm ws⟩;have:=b.length;rw[L0] at this;show(jff (ws.map S) ts).toArray.size<=sizeLine;rw[N3,<- this];exact jeh e
theorem jdE{cl:Nat->Addr}{X:Cx}{i:Expr}{ty:TE}{pi:PF}{pos p:Pos}{x:Str}{a:Addr}{ks:List KA}{l:List D}{vs:List V}(b:X.mg x=some (.ref a))(c:KD X.prog X.w X.K a ((ks.map kaV).zip vs))(d:∀(Z:Zn) (H:Hp),Reps ⟨X.K,cl⟩ Z H l vs [])(e:ks.length=l.length)(hi:QB cl X i ty pi)(f:jgh i:=by exact λ_ _=>rfl)(g:Gl X x:=by rfl)(hd:(x==("__debug__" : Str))=false:=by decide) :
  QB cl X (.Subscript (.Name x p) i pos) (jcc ((ks.map kaV).zip vs) ty) (jfp ks l pi):=⟨jc6 c g b hi.sem f hd,jdy d e hi.den⟩
theorem jb8{cl:Nat->Addr}{X:Cx}{e:Expr}{te:TE}{pe:PF}{p apos cpos:Pos}{x:Str}{a:Addr}{ks:List KA}{l:List D}{vs:List V}(c:X.mg x=some (.ref a))(d:KD X.prog X.w X.K a ((ks.map kaV).zip vs))(f:∀(Z:Zn) (H:Hp),Reps ⟨X.K,cl⟩ Z H l vs [])(g:ks.length=l.length)(b:QB cl X e te pe)(m:M1 X (.Name x p) "get" apos e cpos:=by exact⟨rfl,rfl,rfl,rfl⟩)(h:Gl X x:=by rfl)(hd:(x==("__debug__" : Str))=false:=by decide) :
  QB cl X (.Call (.Attribute (.Name x p) "get" apos) [e] [] cpos) (xt ((ks.map kaV).zip vs) te) (jac ks l pe):=⟨u9 d h c b.sem m hd,jcE f g b.den⟩
theorem jec(d:X.mg "zip" = none)(h:QPs cl X [a,b] tr pr)(e:Gl X "zip":=by rfl)(f:starEach [a,b] X.env=[(false,eval a X.env),(false,eval b X.env)]:=by rfl)(c:starEach [b] X.env=[(false,eval b X.env)]:=by rfl) :
  QI cl X (.Tuple elts n tpos) (.Call (.Name "zip" p) [a,b] [] pos) (jf4 X.K tr) (jbe pr):=⟨jdN e d h.sem f c,jc4 h.den⟩
noncomputable def jdu:List D->Option (List D)
 | [.lst _ l,.tup m]=>bif decide (l.length<=m.length) then some (VL (fzs l) (fzs m)) else none
 | _=>none
@[simp] theorem pZlt_e:jbe p ρ=(p ρ).bind jdu:=by
 unfold jbe;cases p ρ with
 | none=>rfl
 | some d =>
  match d with
  | []=>rfl
  | [x]=>cases x<;>rfl
  | [x,y]=>cases x<;>cases y<;>rfl
  | x::y::z::r=>cases x<;>cases y<;>rfl
end QD
namespace L2
open PySem PySem.Spec PyProof.Rows
end L2
namespace QD
open PySem L2 PySem.Spec PyProof.Rows
def PJ(R:RC)(i j:Nat)(ta:TA)(p:PAf):Prop:=∀{σ:L2.St}{ρ:Rh}{Z:Zn}{H:Hp}{O:List Addr}{ds:List D},Zd Z H->Slots R Z H ρ σ O->p ρ=some ds->∀{u:V},σ[i]?=some (some u) ->
 ∀{Q:List V->Hp->Prop},(∀{v1 v2:List V}{Z':Zn}{H':Hp},Go Z H [] Z' H' []->v1.length=j->Reps R Z' H' (ds.take j) v1 []->Reps R Z' H' (ds.drop j) v2 []->Q (v1++u::v2) H')->ta σ H Q
structure QJ(cl:Nat->Addr)(X:Cx)(i j:Nat)(es:List Expr)(ta:TA)(p:PAf):Prop where
 sem:PA X es ta
 den:PJ ⟨X.K,cl⟩ i j ta p
 n:∀ ρ ds,p ρ=some ds->ds.length+1=es.length/\j<=ds.length
noncomputable def oF(g:D->D->Option D):D->D->Option D:=λx y=>(g x y).bind λd=>bif frz d then some d else none
def DIt(R:RC)(wi:TI)(fi:FA):Prop:=∀{σ:L2.St}{ρ ρ':Rh}{Z:Zn}{H:Hp}{O:List Addr}{xs:List D},WF Z H O->Slots R Z H ρ σ O->fi ρ=some (xs,ρ') ->
 ∀{Q:It->Hp->Prop},(∀{J:It}{Z':Zn}{H':Hp}{O':List Addr},Go Z H O Z' H' O'->Slots R Z' H' ρ' σ O'->jfs R J Z' H' xs->Q J H')->wi σ H Q
structure QTE(cl:Nat->Addr)(X:Cx)(e:Expr)(tt:TT)(f:FT'):Prop where
 sem:PT X e tt
 den:DT ⟨X.K,cl⟩ tt f
structure QWE(cl:Nat->Addr)(X:Cx)(e:Expr)(tt:TT)(f:FT'):Prop where
 sem:PW X e tt
 den:DT ⟨X.K,cl⟩ tt f
structure QIE(cl:Nat->Addr)(X:Cx)(tg e:Expr)(wi:TI)(p:FA):Prop where
 sem:PI X tg e wi
 den:DIt ⟨X.K,cl⟩ wi p
end QD
namespace L2
open PySem PySem.Spec PyProof.Rows
end L2
namespace QD
open PySem L2 PySem.Spec PyProof.Rows
end QD
namespace QD
open PySem L2
theorem jx{n:Nat}(h:n<=100000):lim n=true:=U7 h
theorem ub{α:Type}{l:List α}{i:Int}(a:0<=i)(h:i < l.length):atI l i=l[i.toNat]?:=by
 unfold atI ixN;rw[if_pos (by omega),if_pos (by omega)];rfl
theorem Qz{n i:Nat}(h:i < n):ixN n (i:Int)=some i:=by
 unfold ixN;rw[if_pos (by omega),if_pos (by omega)];simp
theorem uP{lo:Int}{n i:Nat}{x:D}(h:(Kl lo n)[i]?=some x):x=.int (lo+i)/\i < n:=by
 unfold Kl at h;rw[List.getElem?_map] at h;by_cases a:i < n
 ·rw[List.getElem?_range a] at h;cases h;exact⟨rfl,a⟩
 ·rw[List.getElem?_eq_none (by simpa using a)] at h;cases h
theorem JM(lo:Int)(n:Nat):(Kl lo n).length=n:=by simp[Kl]
@[simp] theorem eq_ss(a b:List Nat):vF (.str a) (.str b)=some (.bl (a==b)):=rfl
@[simp] theorem jgq(a b:List Nat):Qp (.str a) (.str b)=some (.bl (!(a==b))):=rfl
@[simp] theorem is_i(i:Int):Yh (.int i) .non=some (.bl false):=rfl
@[simp] theorem is_n:Yh .non .non=some (.bl true):=rfl
@[simp] theorem is_s(a:List Nat):Yh (.str a) .non=some (.bl false):=rfl
@[simp] theorem in_cs(a:Bool)(c:Nat)(s:List Nat):jaq a (.str [c]) (.str s)=some (.bl (a != decide (c∈s))):=rfl
theorem vG{a b:List Nat}(h:a.length+b.length<=100000):jq (.str a) (.str b)=some (.str (a++b)):=by
 show(bif lim (a.length+b.length) then some (D.str (a++b)) else none)=_;rw[jx h];rfl
theorem jaP{a:List Nat}{n:Int}(h:a.length<=1000)(b:0<=n)(h1:n<=1000):yP (.str a) (.int n)=some (.str (List.replicate n.toNat a).flatten):=by
 show(bif decide (a.length<=1000)&&(decide (0<=n)&&decide (n<=1000)) then some (D.str (List.replicate n.toNat a).flatten) else none)=_;rw[U7 h,U7 b,U7 h1];rfl
theorem qV{a:List Nat}(h:a.length<=100000):JP [.str a]=some (.int a.length):=by
 show(bif lim a.length then some (D.int a.length) else none)=_;rw[jx h];rfl
theorem xl{s:List Nat}{i:Int}(a:s.length<=100000)(b:0<=i)(h:i < s.length):yE (.str s) (.int i)=some (.str [s.getD i.toNat 0]):=by
 show(bif lim s.length then(match atI s i with | some c=>some (D.str [c]) | none=>none) else none)=_;rw[jx a,ub b h];have:i.toNat < s.length:=by omega
 simp[this]
theorem JO{α:Type}(xs:List α){k:Int}(h:0<=k):qo xs none (some k)=xs.take k.toNat:=by
 obtain⟨n,rfl⟩:∃ n:Nat,k=(n:Int):=⟨k.toNat,by omega⟩;rw[jcQ];simp
theorem vb{α:Type}(xs:List α){k:Int}(h:0<=k):qo xs (some k) none=xs.drop k.toNat:=by
 obtain⟨n,rfl⟩:∃ n:Nat,k=(n:Int):=⟨k.toNat,by omega⟩;rw[wg];simp
theorem jfn{s:List Nat}{lo hi:Option Int}(a:s.length<=100000):Kh lo hi (.str s)=some (.str (qo s lo hi)):=by
 show(bif lim s.length then some (D.str (qo s lo hi)) else none)=_;rw[jx a];rfl
theorem jc3{i:Int}(a:0<=i)(h:i < 2 ^ 200):zO [.int i]=some (.str (vJ i.toNat)):=by
 show(bif decide (0<=i)&&decide (i < 2 ^ 200) then some (D.str (vJ i.toNat)) else none)=_;rw[U7 a,U7 h];rfl
@[simp] theorem str_s(s:List Nat):zO [.str s]=some (.str s):=rfl
@[simp] theorem itemsOf_str(s:List Nat):Y5 (.str s)=some (s.map λc=>D.str [c]):=rfl
@[simp] theorem fAll_lst(o:Bool)(l:List D):jfr [.lst o l]=(vO l).bind λbs=>some (.bl (bs.all λb=>b)):=by
 show(match vO l with | some ns=>some (D.bl (ns.all λb=>b)) | none=>none)=_;cases vO l<;>rfl
theorem jgl{w:List Nat}(h:w≠[])(h1:w.length<=600)(h2:∀ c∈w,48<=c/\c<=57):jfq [.str w]=some (.int (NumText.digitsVal w:Nat)):=by
 have:zi w=true:=by
  unfold zi;simp[h,h1];exact λx a=>h2 x a
 show(bif zi w then some (D.int (NumText.digitsVal w:Nat)) else none)=_;rw[this];rfl
theorem uh(w:List Nat)(l:List (List Nat)):xF (.str w) (l.map D.str)=true:=by
 unfold xF;rw[M0];refine⟨rfl,List.all_eq_true.mpr λy a=>?_⟩;obtain⟨z,_,rfl⟩:=M6.mp a;rfl
theorem jaf(w:List Nat)(l:List (List Nat)):inL (.str w) (l.map D.str)=decide (w∈l):=by
 unfold inL;rw[Bool.eq_iff_iff,List.any_eq_true,decide_eq_true_eq];constructor
 ·rintro⟨y,a,e⟩;obtain⟨z,b,rfl⟩:=M6.mp a;have:z=w:=by
   have e:(z==w)=true:=e;exact eq_of_beq e
  exact this▸b
 ·intro h;exact⟨.str w,M6.mpr ⟨w,h,rfl⟩,by show(w==w)=true;simp⟩
mutual
theorem jax:∀(n:Nat) (d:D),okE n d=true->eqD d d=true
 | n,.non,_=>rfl
 | n,.bl _,_=>by show(_==_)=true;simp
 | n,.int _,_=>by show(_==_)=true;simp
 | n,.str _,_=>by show(_==_)=true;simp
 | n+1,.tup l,h=>by rw[eqD];exact J5 n l (by simpa [okE] using h)
 | n+1,.lst _ l,h=>by rw[eqD];exact J5 n l (by simpa [okE] using h)
 | 0,.tup l,h=>by simp[okE] at h
 | 0,.lst _ l,h=>by simp[okE] at h
 | n,.dK _ _ _,h=>by cases n<;>simp[okE] at h
 | n,.dT _ _ _,h=>by cases n<;>simp[okE] at h
 | n,.ins _ _ _ _,h=>by cases n<;>simp[okE] at h
 | n,.dead,h=>by cases n<;>simp[okE] at h
 | n,.exc _ _,h=>by cases n<;>simp[okE] at h
theorem J5:∀(n:Nat) (l:List D),KI n l=true->zj l l=true
 | n,[],_=>rfl
 | n,d::l,h=>by
  rw[KI,M0] at h;rw[zj,jax n d h.1,J5 n l h.2];rfl
end
theorem Yr:∀{l:List D},(∀ d∈l,frz d=true)->frzs l=true
 | [],_=>rfl
 | d::l,h=>by rw[we,h d (by simp),Yr λx a=>h x (by simp[a])];rfl
theorem xz:∀{l:List D},(∀ d∈l,fz d=d)->fzs l=l
 | [],_=>rfl
 | d::l,h=>by rw[u4,h d (by simp),xz λx a=>h x (by simp[a])]
@[simp] theorem okE_int(n:Nat)(i:Int):okE n (.int i)=true:=by cases n<;>rfl
theorem x3{l:List Nat}{i N:Nat}(h:∀ c∈l,c < N)(a:0 < N):l.getD i 0 < N:=by
 rw[List.getD_eq_getElem?_getD];cases e:l[i]? with
 | none=>exact a
 | some c=>exact h c (List.mem_of_getElem? e)
theorem YL(a:List Nat):∀(w:List Nat) (ws:List (List Nat)),qM a (w::ws)=w++(ws.map (a++·)).flatten
 | w,[]=>by simp[qM]
 | w,v::ws=>by rw[qM,YL a v ws];simp
theorem Q3{G:D->Rh->Option Rh}{p:PF}{Good:D->Prop}{P:Rh->Prop}:∀{xs:List D}(_:∀ x∈xs,∀ ρ,P ρ->∃ ρ1 y,G x ρ=some ρ1/\p ρ1=some y/\Good y/\P ρ1) {ρ:Rh}(_:P ρ),∃ ys,yT G qT p xs ρ=some ys/\ys.length=xs.length/\∀ y∈ys,Good y
 | [],_,ρ,_=>⟨[],rfl,rfl,by simp⟩
 | x::xs,step,ρ,b=>by
  obtain⟨ρ1,y,c,d,e,p1⟩:=step x (by simp) ρ b;obtain⟨ys,f,g,h⟩:=Q3 (xs:=xs) (λz a=>step z (by simp[a])) p1;refine⟨y::ys,?_,by simp[g],?_⟩
  ·rw[Jc,c];simp[d,f]
  ·intro z a;rcases M5.mp a with rfl | a
   ·exact e
   ·exact h z a
theorem Q1{α:Type}{f:α->D}{Q:α->Prop}:∀{ys:List D},(∀ y∈ys,∃ a,y=f a/\Q a)->∃ l:List α,ys=l.map f/\∀ a∈l,Q a
 | [],_=>⟨[],rfl,by simp⟩
 | y::ys,h=>by
  obtain⟨a,e,q⟩:=h y (by simp);obtain⟨l,c,d⟩:=Q1 (ys:=ys) λz g=>h z (by simp[g]);exact⟨a::l,by rw[e,c];rfl,λb i=>(M5.mp i).elim (λz=>z▸q) (d b)⟩
theorem jg1{o:Bool}{l:List D}{lo hi:Option Int}(a:frzs l=true):Kh lo hi (.lst o l)=some (.lst true (qo l lo hi)):=by
 show(bif frzs l then some (D.lst true (qo l lo hi)) else none)=_;rw[a];rfl
theorem jdq{o:Bool}{l:List D}{i:Int}(a:0<=i)(h:i < l.length):yE (.lst o l) (.int i)=l[i.toNat]?:=ub a h
def Wd(w:List Nat):Prop:=w.length<=30/\∀ c∈w,c < 1114112
@[simp] theorem qJ(l:List (List Nat)):fzs (l.map D.str)=l.map D.str:=by
 rw[vn,List.map_map];rfl
@[simp] theorem qE(l:List (List Nat)):frzs (l.map D.str)=true:=by
 rw[Y8,List.all_map,List.all_eq_true];intro x _;rfl
@[simp] theorem cleans_strs(l:List (List Nat)):yb (l.map D.str)=true:=by
 rw[yM,List.all_map,List.all_eq_true];intro x _;rfl
theorem JW{o:Bool}{l:List (List Nat)}{i:Int}(a:0<=i)(h:i < l.length):yE (.lst o (l.map D.str)) (.int i)=some (.str (l.getD i.toNat [])):=by
 rw[jdq a (by rw[L0];exact h),List.getElem?_map,List.getD_eq_getElem?_getD,X2 (by omega)];rfl
theorem yw{α:Type}{l:List α}{i:Nat}{d:α}(h:i < l.length):l.getD i d∈l:=by
 rw[List.getD_eq_getElem?_getD,X2 h];exact List.getElem_mem h
theorem jaF{α β:Type}(f:α->β)(l:List α)(lo hi:Option Int):qo (l.map f) lo hi=(qo l lo hi).map f:=by
 unfold qo;rw[L0,List.map_take,List.map_drop]
theorem J8(o:Bool)(l:List (List Nat))(lo hi:Option Int):Kh lo hi (.lst o (l.map D.str))=some (.lst true ((qo l lo hi).map D.str)):=by
 rw[jg1 (qE l),jaF]
theorem JN{o o':Bool}{a b:List (List Nat)}(h:a.length+b.length<=100000):jq (.lst o (a.map D.str)) (.lst o' (b.map D.str))=some (.lst true ((a++b).map D.str)):=by
 show(bif lim ((a.map D.str).length+(b.map D.str).length)&&(frzs (a.map D.str)&&frzs (b.map D.str)) then some (D.lst true (a.map D.str++b.map D.str)) else none)=_;rw[qE,qE,L0,L0,jx h,N5];rfl
theorem zu{G:D->Rh->Option Rh}{q:PTf}{p:PF}{α:Type}{l:List α}{en out:α->D}{b:α->Bool}(P:Rh->Prop)(step:∀ x∈l,∀ ρ,P ρ->∃ ρ1,G (en x) ρ=some ρ1/\q ρ1=some (b x)/\p ρ1=some (out x)/\P ρ1){ρ:Rh}(a:P ρ):yT G q p (l.map en) ρ=some ((l.filter b).map out):=by
 induction l generalizing ρ with
 | nil=>rfl
 | cons x l c =>
  obtain⟨ρ1,d,e,f,p1⟩:=step x L7 ρ a;have:=c (λy g=>step y (L6 _ g)) p1;rw[L5,Jc,d,L4,e,L4];cases hb:b x with
  | true=>simp[f,this,hb]
  | false=>simp[this,hb]
mutual
theorem jfd:∀(n:Nat) (d:D),okE n d=true->eqD (fz d) d=true
 | n,.non,_=>rfl
 | n,.bl _,_=>by show(_==_)=true;simp
 | n,.int _,_=>by show(_==_)=true;simp
 | n,.str _,_=>by show(_==_)=true;simp
 | n+1,.tup l,h=>by rw[fz,eqD];exact Ql n l (by simpa [okE] using h)
 | n+1,.lst _ l,h=>by rw[fz,eqD];exact Ql n l (by simpa [okE] using h)
 | 0,.tup l,h=>by simp[okE] at h
 | 0,.lst _ l,h=>by simp[okE] at h
 | n,.dK _ _ _,h=>by cases n<;>simp[okE] at h
 | n,.dT _ _ _,h=>by cases n<;>simp[okE] at h
 | n,.ins _ _ _ _,h=>by cases n<;>simp[okE] at h
 | n,.dead,h=>by cases n<;>simp[okE] at h
 | n,.exc _ _,h=>by cases n<;>simp[okE] at h
theorem Ql:∀(n:Nat) (l:List D),KI n l=true->zj (fzs l) l=true
 | n,[],_=>rfl
 | n,d::l,h=>by
  rw[KI,M0] at h;rw[fzs,zj,jfd n d h.1,Ql n l h.2];rfl
end
mutual
theorem jeY:∀(n:Nat) (d e:D),okE n d=true->fz d=fz e->eqD d e=true
 | n,.non,e,_,h=>by cases e<;>simp[fz] at h;rfl
 | n,.bl _,e,_,h=>by cases e<;>simp[fz] at h;subst h;show(_==_)=true;simp
 | n,.int _,e,_,h=>by cases e<;>simp[fz] at h;subst h;show(_==_)=true;simp
 | n,.str _,e,_,h=>by cases e<;>simp[fz] at h;subst h;show(_==_)=true;simp
 | n+1,.tup l,e,h,q=>by
  cases e<;>simp[fz] at q;rw[eqD];exact Qg n l _ (by simpa [okE] using h) q
 | n+1,.lst _ l,e,h,q=>by
  cases e<;>simp[fz] at q;rw[eqD];exact Qg n l _ (by simpa [okE] using h) q
 | 0,.tup l,e,h,_=>by simp[okE] at h
 | 0,.lst _ l,e,h,_=>by simp[okE] at h
 | n,.dK _ _ _,e,h,_=>by cases n<;>simp[okE] at h
 | n,.dT _ _ _,e,h,_=>by cases n<;>simp[okE] at h
 | n,.ins _ _ _ _,e,h,_=>by cases n<;>simp[okE] at h
 | n,.dead,e,h,_=>by cases n<;>simp[okE] at h
 | n,.exc _ _,e,h,_=>by cases n<;>simp[okE] at h
theorem Qg:∀(n:Nat) (l m:List D),KI n l=true->fzs l=fzs m->zj l m=true
 | n,[],[],_,_=>rfl
 | n,[],_::_,_,q=>by simp[fzs] at q
 | n,_::_,[],_,q=>by simp[fzs] at q
 | n,d::l,e::m,h,q=>by
  rw[KI,M0] at h;rw[fzs,fzs] at q;injection q with q1 q2;rw[zj,jeY n d e h.1 q1,Qg n l m h.2 q2];rfl
end
noncomputable def lkp{α:Type}(w:List Nat):List (List Nat×α)->Option α
 | []=>none
 | p::l=>if p.1=w then some p.2 else lkp w l
noncomputable def fnOf(S:List (List Nat×Int))(n:List Nat):Int:=(lkp n S).getD 0
noncomputable def wgo(c:Nat):List Nat->List Nat->List (List Nat)
 | cur,[]=>if cur=[] then [] else [cur]
 | cur,d::r=>if d=c then(if cur=[] then wgo c [] r else cur::wgo c [] r) else wgo c (cur++[d]) r
theorem Ye(c:Nat):∀(p cur r:List Nat),c∉p->wgo c cur (p++r)=wgo c (cur++p) r
 | [],cur,r,_=>by simp
 | d::p,cur,r,h=>by
  rw[List.cons_append,wgo,if_neg (λz=>h (by simp[z])),Ye c p (cur++[d]) r (λz=>h (by simp[z]))];simp
theorem ze(c:Nat):∀(L:List (List Nat)),(∀ p∈L,c∉p)->wgo c [] (qM [c] L)=L.filter λw=>!(w==[])
 | [],_=>rfl
 | [p],h=>by
  have:=Ye c p [] [] (h p (by simp));rw[N0,X1] at this;show wgo c [] p=_;rw[this,wgo];cases p with
  | nil=>rfl
  | cons a p=>rfl
 | p::q::L,h=>by
  have e:qM [c] (p::q::L)=p++([c]++qM [c] (q::L)):=by rw[qM];simp
  rw[e,Ye c p [] _ (h p (by simp)),X1,List.cons_append,X1,wgo,if_pos rfl,ze c (q::L) λx b=>h x (by simp[b])];cases p with
  | nil=>rfl
  | cons a p=>rfl
theorem VV(a:List Nat)(c:Nat):(vd a [c]).filter (λw=>!(w==[]))=wgo c [] a:=by
 have e:∀ p∈vd a [c],c∉p:=by
  intro p b;unfold vd at b;obtain⟨x,f,rfl⟩:=M6.mp b;exact StrLaws.split_free (S a) c x f
 have g:qM [c] (vd a [c])=a:=by
  have d:=KP [c] (vd a [c]);have h:(vd a [c]).map S=Txt.split (S a) (S [c]):=by
   unfold vd;rw[List.map_map]
   conv=>rhs;rw[<- List.map_id (Txt.split (S a) (S [c]))]
   exact List.map_congr_left λx _=>by
    show S x.cps.toList=x;apply PyProof.Rows.ext_toList;rw[yx]
  rw[h,StrLaws.join_split] at d;have:=congrArg (λx:Str=>x.cps.toList) d;simpa [yx] using this.symm
 rw[<- ze c _ e,g]
theorem Q5(c:Nat):∀(n:Nat) (r:List Nat),wgo c [] (List.replicate n c++r)=wgo c [] r
 | 0,r=>by simp
 | n+1,r=>by rw[List.replicate_succ,List.cons_append,wgo,if_pos rfl,if_pos rfl,Q5 c n r]
theorem Vv(c:Nat)  (a:w≠[]) (b:c∉w) (n:Nat) (r:List Nat):wgo c [] (w++(List.replicate (n+1) c++r))=w::wgo c [] r:=by
 rw[Ye c w [] _ b,X1,List.replicate_succ,List.cons_append,wgo,if_pos rfl,if_neg a,Q5]
theorem QV(c:Nat)  (a:w≠[]) (b:c∉w) (n:Nat):wgo c [] (w++List.replicate n c)=[w]:=by
 cases n with
 | zero =>
  have:=Ye c w [] [] b;simp only[N0,X1] at this;rw[List.replicate_zero,N0,this,wgo,if_neg a]
 | succ n =>
  have:=Vv c a b n [];rw[N0] at this;rw[this];rfl
theorem Jg(m:Nat):vJ m≠[]:=by
 intro h;have:=Ve m;unfold vJ at h;rw[List.map_eq_nil_iff] at h;exact absurd h Nat.toDigits_ne_nil
variable {ρ:Rh}{fa fb fe:FE}{ft fu:FT'}{fr:FA}{p:PAf}{pi:PAf}{g:D->D->Option D}{gl:List D->Option D}{G:D->Rh->Option Rh}{f:FS}{m:List D->Option (D×D)}{mp:List D->Option D}{i j:Nat}
@[simp] theorem oF_e:oF g x y=(g x y).bind λd=>bif frz d then some d else none:=rfl
end QD
namespace L2
open PySem PySem.Spec PyProof.Rows
end L2
namespace QD
open PySem L2 PySem.Spec PyProof.Rows
end QD
namespace L2
open PySem PySem.Spec PyProof.Rows
section
open AutoSeq1 (wpAny_loadPart') in
end
end L2
namespace QD
open PySem L2 PySem.Spec PyProof.Rows
end QD
namespace L2
open PySem PySem.Spec PyProof.Rows
end L2
namespace QD
open PySem L2 PySem.Spec PyProof.Rows
end QD
namespace L2
open PySem PySem.Spec PyProof.Rows
end L2
namespace QD
open PySem L2 PySem.Spec PyProof.Rows
end QD
namespace PySem
open Sem (wp)
namespace F
end F
end PySem
namespace L2
open PySem PySem.Spec PyProof.Rows
end L2
namespace QD
open PySem L2 PySem.Spec PyProof.Rows
end QD
namespace L2
open PySem PySem.Spec PyProof.Rows
end L2
namespace QD
open PySem L2 PySem.Spec PyProof.Rows
end QD
namespace L2
open PySem PySem.Spec PyProof.Rows
end L2
namespace QD
open PySem L2 PySem.Spec PyProof.Rows
end QD
namespace L2
open PySem PySem.Spec PyProof.Rows
end L2
namespace QD
open PySem L2 PySem.Spec PyProof.Rows
noncomputable abbrev Ln:=D->Option (D×(D->D))
def jgK(R:RC)(tb:TE)(i:Nat)(L:Ln):Prop:=∀{σ:L2.St}{ρ:Rh}{Z:Zn}{H:Hp}{O:List Addr}{d x:D}{k:D->D},Slots R Z H ρ σ O->ρ[i]?=some (some d)->L d=some (x,k) ->
 ∃ v A P B,O=A++P++B/\Rep R Z H x v P/\(∀{Q:VK},Q v H->tb σ H Q) /\
  ∀{Z':Zn}{H':Hp}{x':D}{P':List Addr},Rep R Z' H' x' v P'->(∀ a,Z a->Z' a)->(∀ a,Z a->H' a=H a)->(∀ a∈A,H' a=H a)->(∀ a∈B,H' a=H a)->Slots R Z' H' (ρ.set i (some (k x'))) σ (A++P'++B)
structure MtFact(K:PySem.W.Frag)(C:Addr)(x qual:Str)(st:Stmt)(f:Addr)(fd:FuncData)(ps:List Str):Prop where
 fn:Fun K x qual st f fd
 mt:Meth K C x f
 bd:Binds K fd ps []
structure QL(cl:Nat->Addr)(X:Cx)(e:Expr)(tb:TE)(i:Nat)(L:Ln):Prop where
 sem:PE X e tb
 den:jgK ⟨X.K,cl⟩ tb i L
def jgQ(R:RC)(tk:TE)(pk:Rh->Option (List KA)):Prop:=∀{σ:L2.St}{ρ:Rh}{Z:Zn}{H:Hp}{O:List Addr}{k:List KA},Zd Z H->Slots R Z H ρ σ O->pk ρ=some k ->
 ∀{Q:VK},(∀{p:Addr}{Z':Zn}{H':Hp},Go Z H [] Z' H' []->Z' p->H' p=some (.tup ((k.map kaV).map kV))->Q (.ref p) H')->tk σ H Q
structure QK3(cl:Nat->Addr)(X:Cx)(e:Expr)(tk:TE)(pk:Rh->Option (List KA)):Prop where
 sem:PE X e tk
 den:jgQ ⟨X.K,cl⟩ tk pk
end QD
namespace L2
open PySem PySem.Spec PyProof.Rows
end L2
namespace QD
open PySem L2 PySem.Spec PyProof.Rows
namespace QK
end QK
end QD
namespace PySem
open Sem (wp)
end PySem
namespace L2
open PySem PySem.Spec PyProof.Rows
end L2
namespace QD
open PySem L2 PySem.Spec PyProof.Rows
section
variable {R:RC}{Z Z':Zn}{H H':Hp}{pm:List Nat}
def PK(R:RC)(te:TE)(pk:Rh->Option (List KA))(pv:PF):Prop:=∀{σ:L2.St}{ρ:Rh}{Z:Zn}{H:Hp}{O:List Addr}{c:List KA}{d:D},Zd Z H->Slots R Z H ρ σ O->pk ρ=some c->pv ρ=some d->frz d=true ->
 ∀{Q:VK},(∀{t b:Addr}{u:V}{Z':Zn}{H':Hp},Go Z H [] Z' H' []->Z' t->Z' b->H' t=some (.tup [.ref b,u])->H' b=some (.tup ((c.map kaV).map kV))->Rep R Z' H' d u []->Q (.ref t) H')->te σ H Q
structure KvAt(R:RC)(Z:Zn)(H:Hp)(ys:List (List KA×D))(vs:List V)(ps:List (List Key×Addr×V)):Prop where
 l:vs.length=ps.length
 i:∀(j:Nat) (v:V),vs[j]?=some v->∃ kv t,ps[j]?=some kv/\v=.ref t/\H t=some (.tup [.ref kv.2.1,kv.2.2])/\H kv.2.1=some (.tup (kv.1.map kV))
 k:ps.map (·.1)=ys.map λy=>y.1.map kaV
 r:Reps R Z H (ys.map (·.2)) (ps.map (·.2.2)) []
end
section
variable {cl:Nat->Addr}{pm:List Nat}{X:Cx}{tg iter elt:Expr}{ifs:List Expr}{wi:TI}{pi:PAf}{t:TG}{g:D->Rh->Option Rh}{te:TE}{pk:Rh->Option (List KA)}{pv:PF}{pos cpos p:Pos}
structure QKv(cl:Nat->Addr)(X:Cx)(e:Expr)(te:TE)(pk:Rh->Option (List KA))(pv:PF):Prop where
 sem:PE X e te
 den:PK ⟨X.K,cl⟩ te pk pv
end
end QD
namespace PySem
open PySem.W PyProof.Rows PySem.Calls
end PySem
set_option maxHeartbeats 4000000
namespace PySem
open PySem.W PyProof.Rows PySem.Calls
end PySem
namespace L2
open PySem PySem.Spec PyProof.Rows
end L2
namespace QD
open PySem L2 PySem.Spec PyProof.Rows
end QD
namespace PySem
open Sem (wp)
end PySem
namespace L2
open PySem PySem.Spec PyProof.Rows
end L2
namespace QD
open PySem L2 PySem.Spec PyProof.Rows
end QD
set_option maxHeartbeats 1000000
namespace PySem
namespace F
end F
end PySem
namespace L2
open PySem PySem.Spec PyProof.Rows
structure Z3(z TI TO j1 j2 j3 t l m:Addr):Prop where
 TIz:TI≠z
 TOz:TO≠z
 j1z:j1≠z
 j2z:j2≠z
 j3z:j3≠z
 TITO:TI≠TO
 TIj1:TI≠j1
 TIj2:TI≠j2
 TIj3:TI≠j3
 TOj1:TO≠j1
 TOj2:TO≠j2
 TOj3:TO≠j3
 j12:j1≠j2
 j13:j1≠j3
 j23:j2≠j3
 out:∀ x,x=t \/ x=l \/ x=m->x≠z/\x≠TO/\x≠j1/\x≠j2/\x≠j3
end L2
namespace PySem
namespace F
end F
end PySem
namespace L2
open PySem PySem.Spec PyProof.Rows
end L2
namespace QD
open PySem L2 PySem.Spec PyProof.Rows
end QD
namespace QD
open PySem L2
end QD
namespace L2
open PySem PySem.Spec PyProof.Rows
end L2
namespace QD
open PySem L2
end QD
namespace L2
open PySem PySem.Spec PyProof.Rows
end L2
namespace QD
open PySem L2 PySem.Spec PyProof.Rows
mutual
noncomputable def pln:D->Bool
 | .tup l=>jfo l
 | .non=>true | .bl _=>true | .int _=>true | .str _=>true
 | .lst _ _=>false | .dK _ _ _=>false | .dT _ _ _=>false | .ins _ _ _ _=>false | .dead=>false | .exc _ _=>false
noncomputable def jfo:List D->Bool
 | []=>true
 | d::l=>pln d&&jfo l
end
section
variable {R:RC}{Z Z':Zn}{H H':Hp}{pm:List Nat}
mutual
theorem Rep.cutA{a:Addr}(ha:∀ vs,¬ Rd H a (.tup vs))(hH:∀ b,b≠a->H' b=H b):∀{d:D}{v:V}{O:List Addr},pln d=true->Rep R Z H d v O->Rep R (λb=>Z b/\b≠a) H' d v O
 | .non,_,_,_,r=>by rw[Rep] at r ⊢;exact r
 | .bl _,_,_,_,r=>by rw[Rep] at r ⊢;exact r
 | .int _,_,_,_,r=>by rw[Rep] at r ⊢;exact r
 | .str _,_,_,_,r=>by rw[Rep] at r ⊢;exact r
 | .tup l,_,_,h,r=>by
  rw[pln] at h;rw[Rep] at r ⊢;obtain⟨p,vs,e,t,r⟩:=r;refine⟨p,vs,e,?_,Reps.cutA ha hH h r⟩;rcases t with⟨z,t⟩ | t
  ·have ne:p≠a:=λq=>ha vs (q▸t);exact .inl ⟨⟨z,ne⟩,Rd.agree (hH p ne) t⟩
  ·exact .inr t
 | .lst _ _,_,_,h,_=>by rw[pln] at h;cases h
 | .dK _ _ _,_,_,h,_=>by rw[pln] at h;cases h
 | .dT _ _ _,_,_,h,_=>by rw[pln] at h;cases h
 | .ins _ _ _ _,_,_,h,_=>by rw[pln] at h;cases h
 | .dead,_,_,h,_=>by rw[pln] at h;cases h
 | .exc _ _,_,_,h,_=>by rw[pln] at h;cases h
theorem Reps.cutA{a:Addr}(ha:∀ vs,¬ Rd H a (.tup vs))(hH:∀ b,b≠a->H' b=H b):∀{l:List D}{vs:List V}{O:List Addr},jfo l=true->Reps R Z H l vs O->Reps R (λb=>Z b/\b≠a) H' l vs O
 | [],_,_,_,r=>by rw[Reps] at r ⊢;exact r
 | d::l,_,_,h,r=>by
  rw[jfo,M0] at h;rw[Reps] at r ⊢;obtain⟨v,vs',O1,O2,e1,e2,r1,r2⟩:=r;exact⟨v,vs',O1,O2,e1,e2,Rep.cutA ha hH h.1 r1,Reps.cutA ha hH h.2 r2⟩
end
end
end QD
namespace PySem
open Sem (wp)
namespace F
end F
end PySem
namespace L2
open PySem PySem.Spec PyProof.Rows
end L2
namespace QD
open PySem L2 PySem.Spec PyProof.Rows
end QD
namespace L2
open PySem PySem.Spec PyProof.Rows
end L2
namespace QD
open PySem L2 PySem.Spec PyProof.Rows
def vH(K:PySem.W.Frag)(mg:Str->Option Value)(x:Str)(st:Stmt)(ps:List Str):Prop:=∃ f fd,FnFact K mg x x st f fd ps
def jgI(K:PySem.W.Frag)(C:Addr)(x qual:Str)(st:Stmt)(ps:List Str):Prop:=∃ f fd,MtFact K C x qual st f fd ps
def OkF(P:Program)(w:World)(K:PySem.W.Frag)(mg:Str->Option Value)(x:Str)(st:Stmt)(k:Nat)(ps:List Str)(sp:Sp):Prop:=∃ f fd,FnFact K mg x x st f fd ps/\∀ base,FnOk P w K mg base CX0 k f fd ps sp
section
variable {K:PySem.W.Frag}{mg:Str->Option Value}{h:Heap}{x qual:Str}{st:Stmt}{ps:List Str}{a C:Addr}{od an:Option Addr}{sl:Array (Option Value)}{oc kV dc pm cd ct:Value}
theorem hasF(X:K.In h)(G:h.Ns mainGlobals mg)(e:PySem.W.nsIn K mainGlobals x=some (some (.ref a)))(b:K.lookup a=some ⟨oc,od,.func (PySem.W.fnOf x x (vo st) (yg st) (jg st) .none kV dc pm an cd ct),sl⟩)(c:PySem.W.codeIn K cd x=true)(d:PySem.W.keepIn K (.ref a)=true)
  (f:∀(kV doc pm:Value) (an:Option Addr) (cdv ct:Value) (us:List Value),us.length=ps.length->bindArgs (PySem.W.fnOf x x (vo st) (yg st) (jg st) .none kV doc pm an cdv ct) ⟨us,[]⟩=pure (ps.zip us)):vH K mg x st ps:=⟨_,_,Vz b c d,PySem.W.mg_of X G e,(Vz b c d).binds f⟩
theorem hasM(e:PySem.W.findIn K (.ref C) x=some (some (.ref a)))(f:PySem.W.isFn K (.ref a)=true)(c:K.lookup a=some ⟨oc,od,.func (PySem.W.fnOf x qual (vo st) (yg st) (jg st) .none kV dc pm an cd ct),sl⟩)(d:PySem.W.codeIn K cd qual=true)(b:PySem.W.keepIn K (.ref a)=true)
  (g:∀(kV doc pm:Value) (an:Option Addr) (cdv ct:Value) (us:List Value),us.length=ps.length->bindArgs (PySem.W.fnOf x qual (vo st) (yg st) (jg st) .none kV doc pm an cdv ct) ⟨us,[]⟩=pure (ps.zip us)):jgI K C x qual st ps:=⟨_,_,Vz c d b,⟨e,f,b⟩,(Vz c d b).binds g⟩
end
theorem fsc{N ps:List Str}{h:Scope}(a:h.kind=.function:=by rfl)(b:h.isCoroutine=false:=by rfl)(c:h.isGenerator=false:=by rfl)(d:N.Nodup:=by decide +kernel)(e:N.take ps.length=ps:=by rfl)
  (f:∀ x∈ps,h.names.lookup x=some .local \/ h.names.lookup x=some .cell:=by decide +kernel) (g:∀ y∈h.names,y.2≠.free:=by decide +kernel):FnScope N ps h:=⟨a,b,c,d,e,f,g⟩
theorem bkF{N ps:List Str}{a:Scope}(_:FnScope N ps a){X:Cx}{scope:Scope}{b:List (Option Nat)}(N':List Str)(h1:X.env.scope=a:=by rfl)(h2:X.N=N:=by rfl)(h:Vq a N scope N' b=true:=by decide +kernel):BlockOk X scope N' b:=jbO a N h1 h2 h
section
variable {cl:Nat->Addr}{X:Cx}{pos:Pos}{x:Str}{scope:Scope}{N':List Str}{i:Nat}
theorem qS{j}{l:List Nat}(h:x=S l:=by decide +kernel):QP cl X (.Constant (.str x) j pos) (tC (.str x)) (pC (.str l)):=jgr l h
theorem cgN(a:N'.Nodup:=by decide +kernel)(hi:N'[i]?=some x:=by rfl)(b:∀ C s H fp,Loc (jQ X scope N' C s H fp).env.scope x:=by first | exact λ_ _ _ _=>.inl rfl | exact λ_ _ _ _=>.inr rfl)
  (c:∀ C s H fp,(jQ X scope N' C s H fp).fn x=true \/ (jQ X scope N' C s H fp).env.scope.names.lookup x=some .local:=by first | exact λ_ _ _ _=>.inl rfl | exact λ_ _ _ _=>.inr rfl) :
  ∀ C s H fp,QG cl [] (jQ X scope N' C s H fp) (.Name x pos) (Vg i) (jJ [] i):=λC s H fp=>vR a hi (b C s H fp) (c C s H fp)
theorem jfh:∀ C s H fp,QIf cl (jQ X scope N' C s H fp) [] (λ_ H Q=>Q true H) qT:=λ_ _ _ _=>uO
theorem qI{i:Int}{j}:QB cl X (.Constant (.int i) j pos) (tC (.int i)) (pC (.int i)):=QP.bb xL
end
end QD
namespace L2
open PySem PySem.Spec PyProof.Rows
end L2
namespace QD
open PySem L2 PySem.Spec PyProof.Rows
end QD
namespace L2
open PySem PySem.Spec PyProof.Rows
end L2
namespace QD
open PySem L2 PySem.Spec PyProof.Rows
end QD
namespace PySem
open L2 PyProof.Rows
end PySem
namespace L2
open PySem PySem.Spec PyProof.Rows
end L2
namespace QD
open PySem L2 PySem.Spec PyProof.Rows
end QD
namespace QX
open PySem PySem.Spec L2 QD PyProof.Rows
def x0(C e:Addr):Heap->Prop:=λh=>∃ t,h.get? e=some (KJ C t)
def x1(C e dx:Addr):Heap->Prop:=λh=>∃ t,h.get? e=some { KJ C t with dict:=some dx }
theorem YM{P:Program}{w:World}{H:Hp}{h:Heap}{e:Addr}{o:Obj}{φ:Heap->Prop}(a:h.get? e=some o)(p:φ h)(st:∀ h1 h2:Heap,φ h1->(∀ o,h1.get? e=some o->h2.get? e=some o)->φ h2):ObjOk P w H h e (.ext φ):=⟨p,⟨o,a⟩,st⟩
theorem jdx(C e:Addr)(h1 h2:Heap):x0 C e h1->(∀ o,h1.get? e=some o->h2.get? e=some o)->x0 C e h2:=λ⟨t,q⟩ k=>⟨t,k _ q⟩
theorem jf6(C e dx:Addr)(h1 h2:Heap):x1 C e dx h1->(∀ o,h1.get? e=some o->h2.get? e=some o)->x1 C e dx h2:=λ⟨t,q⟩ k=>⟨t,k _ q⟩
theorem jcK(C e dx:Addr)(h1 h2:Heap):xo C e dx h1->(∀ o,h1.get? e=some o->h2.get? e=some o)->xo C e dx h2:=λ⟨o,a,q,r⟩ k=>⟨o,a,k _ q,r⟩
theorem wG{H:Hp}{a:Addr}{o:HO}(h:H a=some o):upd H a o=H:=by
 funext b
 unfold upd;split
 ·rename_i e;rw[e,h]
 ·rfl
theorem vty:typeOf (.type "ValueError")=pure (.type "type"):=by rfl
theorem vcl(K:PySem.W.Frag):PySem.W.findCls K (.type "ValueError") (.type "type") "__init__" = some (.val (.builtin "ValueError.__init__")):=by rfl
theorem vst:Manifest.isStub "ValueError" = false:=by decide +kernel
theorem vbo:bootBuiltins "ValueError" = some (.type "ValueError"):=by decide +kernel
theorem vha:PySem.W.handedIn (.builtin "ValueError.__init__")=true:=by decide +kernel
section
variable {X:Cx}{a1 a2 o value:Expr}{t:TA}{ta tv:TE}{f:Str}{p ap pos pos':Pos}
noncomputable def ja8(K:PySem.W.Frag)(t:TA):TS:=λD σ H=>t σ H λvs H1=>∃ e u C,vs=[.ref e,u]/\H1 e=some (.ext (x0 C e))/\XC K C/\D.nx σ H1
theorem jaE{pl:Sem Bool}(y:PA X [a1,a2] t)(A:X.mg "ValueError" = none)(B:Gl X "ValueError":=by rfl)
  (E:swapsWith (.Call (.Attribute (.Name "ValueError" p) "__init__" ap) [a1,a2] [] pos) none pos'.line X.env=pure false:=by rfl)
  (g:starEach [a1,a2] X.env=(false,eval a1 X.env)::starEach [a2] X.env:=by rfl) (i:(backTo pos (starEach [a2] X.env)).any (·.1)=false:=by rfl)
  (F:eval (.Call (.Attribute (.Name "ValueError" p) "__init__" ap) [a1,a2] [] pos) X.env=(do
   let ov <- eval (.Name "ValueError" p) X.env
   standAt ap.atName
   let (f,first) <- holding [ov] (getMethod ov "__init__" pl)
   callWith pos f first (backTo pos (starEach [a1,a2] X.env)) (backToKw pos (keywordEach [] X.env))):=by rfl) :
  PS X (.Expr (.Call (.Attribute (.Name "ValueError" p) "__init__" ap) [a1,a2] [] pos) pos') (ja8 X.K t):=by
 intro a s σ H D I h;refine wpAny_Expr_any ?_ I.quiet E;refine PySem.W.methodCall_KW (pl:=pl) (Yd (u:=.type "ValueError") I B A vbo ?_) F;obtain⟨m,fr⟩:=I.fr;have d:=vcl X.K;refine PySem.W.method_type (K:=X.K) (T:="ValueError") (name:="__init__") (v:=.builtin "ValueError.__init__") fr I.mod.kin vty vst d vha ?_;have G:=I.tok (s.toks+1);refine callWith_builtin1 (thn (y pos a _ σ H _ G h) λV J ⟨Y,L,j,r,e,u,C,M,k,c,q⟩=>?_) g i;subst M;cases r with
 | cons N O =>
  cases O with
  | cons Z P =>
   cases P;obtain rfl:=N;obtain⟨⟨t0,Q⟩,_⟩:=j.hok e _ k;obtain⟨h1,g1,d1,l,R⟩:=J;refine jgj j.kIn c.cls Q λn S kp d=>?_;have w:=j.write (x:=e) (e:=e) (o:=.ext (x0 C e)) (h':=n) (t':=l) (by rw[k];exact True.intro) (.inl rfl) (λb u U z=>kp b u U z) ⟨_,d⟩ (YM d ⟨S,d⟩ (jdx C e));rw[wG k] at w;exact⟨σ,L,w,q⟩
noncomputable def jdF(K:PySem.W.Frag)(ta tv:TE)(f:Str):TS:=λD σ H=>tv σ H λy H1=>ta σ H1 λx H2=>∃ e C,x=.ref e/\H2 e=some (.ext (x0 C e))/\XC K C/\YT K C f /\
 ∀ dx,H2 dx=none->D.nx σ (upd (upd H2 dx (.xd [(f,y)])) e (.ext (x1 C e dx)))
theorem jbP(E:PE X o ta)(F:PE X value tv)(G:swapsWith value (some (.Attribute o f pos')) pos.line X.env=pure false:=by rfl):PS X (.Assign [.Attribute o f pos'] value pos) (jdF X.K ta tv f):=by
 intro g s σ H D I h;refine plainObj_wpAny_Assign_Attribute (thn (F g s σ H _ I h) λu J ⟨y,L,M,N,q⟩=>thn (E g J σ L _ M q) λO P ⟨x,Q,j,R,e,C,ex,p,c,n,S⟩=>?_) G;subst ex;obtain rfl:O=Value.ref e:=R;obtain⟨⟨T,t⟩,_⟩:=j.hok e _ p;obtain⟨d,g2,d2,t2,U⟩:=P;refine jgL j.kIn c.cls c.sa n t λk v l ns kp=>?_;obtain⟨od,V,W,i,r⟩:=id ns;have Y:=(Heap.get?_some_iff.mp i).2;have lt:=N1 t;have ne:e≠d.objs.size:=N6 lt;have Z:∀ b u,d.get? b=some u->(d.push od).get? b=some u:=λb u z=>L8 _ z;have w:(d.push od).get? d.objs.size=some od:=X4 _ Y;have I3:=j.laid (a:=d.objs.size) (o:=.xd [(f,y)]) (h':=d.push od) (t':=v) Z (M9 _) ⟨_,⟨od,V,W,w,r⟩,λz=>by
  by_cases q:z=f
  ·subst q;rw[if_pos rfl];simp only[List.lookup,beq_self_eq_true];exact N
  ·rw[if_neg q];have:(z==f)=false:=U1.mpr q;simp only[List.lookup,this];exact True.intro⟩
 have m:upd Q d.objs.size (.xd [(f,y)]) e=some (.ext (x0 C e)):=by rw[jh ne];exact p
 have I4:=I3.write (x:=e) (e:=e) (o:=.ext (x1 C e d.objs.size)) (h':=k) (t':=v) (by rw[m];exact True.intro) (.inl rfl) (λb u hb z=>by
  by_cases A:b=d.objs.size
  ·subst A;rw[show u=od from X0 (z.symm.trans w)];exact i
  ·obtain⟨z1,z3⟩:=Heap.get?_some_iff.mp z;refine kp b u hb (Heap.get?_some_iff.mpr ⟨?_,z3⟩);have B:(d.objs.push od)[b]?=some u:=z1;rw[Array.getElem?_push,if_neg A] at B;exact B) ⟨_,l⟩ (YM l ⟨T,l⟩ (jf6 C e _))
 exact⟨σ,_,I4,S _ (j.hok.fresh (M9 _))⟩
end
noncomputable def VJ(K:PySem.W.Frag):Sp:=λvs H Q _=>∃ e u p C,vs=[.ref e,u,p]/\H e=some (.ext (x0 C e))/\XC K C/\YT K C "place" /\
 ∀ dx,H dx=none->Q .non (upd (upd H dx (.xd [("place",p)])) e (.ext (x1 C e dx)))
noncomputable def CXr(P:Program)(w:World):CXT:=λouter H s E e s'=>∃ a C dx T H',e=.ref a/\s'.os=s.os/\AllBare s'.gens/\Un (frs outer) [] H H' s.heap s'.heap/\HOk P w H' s'.heap /\
 H' T=none/\s.heap.objs.size<=T/\s.heap.objs.size<=a/\Fly a (.ref C) (some dx) T .none s'.heap/\H' a=some (.ext (xo C a dx))/\E e none H'
theorem Fly.xo{e C dx T:Addr}{a:Value}{h:Heap}(f:Fly e (.ref C) (some dx) T a h):QD.xo C e dx h:=by
 obtain⟨b,c,j,k,d,g,hd,i,_⟩:=f;exact⟨b,c,d,g,hd,i⟩
theorem Fly.at{e T:Addr}{cl a:Value}{dx:Option Addr}{h:Heap}(f:Fly e cl dx T a h):∃ o,h.get? e=some o:=let ⟨o,_,_,_,he,_⟩:=f;⟨o,he⟩
theorem Fly.atT{e T:Addr}{cl a:Value}{dx:Option Addr}{h:Heap}(f:Fly e cl dx T a h):∃ o,h.get? T=some o:=let ⟨_,_,o,_,_,_,_,_,_,_,hT,_⟩:=f;⟨o,hT⟩
theorem Qo{P:Program}{w:World}{H:Hp}{h h':Heap}{fs xs:List Addr}{e:Addr}{φ ψ:Heap->Prop}(ok:HOk P w H h)(l:H e=some (.ext φ))(k:Kp fs xs h h')(m:∀ b∈fs,H b=none)(n:∀ b∈xs,b≠e->H b=none)
  (new:ObjOk P w (upd H e (.ext ψ)) h' e (.ext ψ)):HOk P w (upd H e (.ext ψ)) h':=λb u q=>by
 by_cases j:b=e
 ·subst j;rw[jz] at q;cases q;exact new
 ·rw[jh j] at q;have a:∀ c y,H c=some (.own y)->c≠e:=λc y r z=>by rw[z,l] at r;cases r
  have f:∀ c g,H c=some (.tup g)->c≠e:=λc g r z=>by rw[z,l] at r;cases r
  refine(ok b u q).stay (λc v i r=>?_) (λc r=>by rw[jh (a c b r)];exact r) λc g r=>by rw[jh (f c g r)];exact r
  have d:c≠e/\H c≠none:=by
   rcases i with rfl | i
   ·exact⟨j,λz=>by rw[q] at z;cases z⟩
   ·exact⟨a c b i,λz=>by rw[i] at z;cases z⟩
  exact k.keep c v r (λz=>d.2 (m c z)) λz=>d.2 (n c z d.1)
theorem jbn{fs fs' xs:List Addr}{j H:Hp}{a h h':Heap}{e:Addr}{φ ψ:Heap->Prop}(u:Un fs [] j H a h)(d:H e=some (.ext φ))(t:a.get? e=none)(k:Kp fs' xs h h')(l:∀ b∈fs',b∈fs \/ a.get? b=none)(f:∀ b∈xs,a.get? b=none)
  (at_:∃ o,h'.get? e=some o):Un fs [] j (upd H e (.ext ψ)) a h' where
 keep:=λb o q n m z=>by
  have:=u.keep b o q n m z;exact k.keep b o this (λy=>(l b y).elim m λy=>by rw[q] at y;cases y) λy=>by have:=f b y;rw[q] at this;cases this
 slot:=λb o q n m z=>by
  obtain⟨p,r⟩:=u.slot b o q n m z;by_cases y:b∈fs'
  ·obtain⟨c,g⟩:=k.slot b _ r y;exact⟨c,g⟩
  ·exact⟨p,k.keep b _ r y λy=>by have:=f b y;rw[q] at this;cases this⟩
 free:=λb o q n z=>by
  have r:=u.free b o q n z;rw[jh (λy=>by rw[y,d] at r;cases r)];exact r
 there:=λb o q z=>by
  obtain⟨v,r⟩:=u.there b o q z;have nx:b∉xs:=λy=>by have:=f b y;rw[q] at this;cases this
  by_cases y:b∈fs'
  ·obtain⟨c,g⟩:=k.slot b _ r y;exact⟨_,g⟩
  ·exact⟨_,k.keep b _ r y nx⟩
 tups:=λb i q=>by
  have r:=u.tups b i q;rw[jh (λy=>by rw[y,d] at r;cases r)];exact r
 frzs:=λb o i q=>by
  have r:=u.frzs b o i q;rw[jh (λy=>by rw[y,d] at r;cases r)];exact r
 tbls:=λb s q=>by
  obtain⟨m,r⟩:=u.tbls b s q;exact⟨m,by rw[jh (λy=>by rw[y,d] at r;cases r)];exact r⟩
structure Lv(X:Cx)(E:XK):Prop where
 st:X.stack=X.env::X.outer
 fr:X.env.frame=some X.env.locals
 ex:X.ex=[]
 xe:∀ e s',wpAny (model X.prog X.w) X.A (leaving X.env e) (λ_ s''=>CXr X.prog X.w X.outer X.H₀ X.s₀ E e s'') (λ_ _=>False) s'->X.xe e s'
section
variable {X:Cx}{pins:List (Addr×Obj)}{σ:L2.St}{H:Hp}{s:Shared}{E:XK}
theorem uj(I:L2.Inv X pins σ H s)(l:Lv X E):∀ b∈QX.fms (X.env::X.outer),H b=none/\(b∈X.fs \/ X.s₀.heap.get? b=none):=λb c=>by
 have a:b∈frs X.stack:=by rw[l.st];exact c
 refine⟨I.stkFree b a,?_⟩;rcases M5.mp (I.stkSub b a) with z | z
 ·rw[z];exact .inr (Heap.get?_none_of_le I.ok.above)
 ·exact .inl z
theorem jfy(l:Lv X E):Q6 (CXr X.prog X.w) X E:=by
 intro p σ H s e r I h;obtain⟨a,C,dx,T,B,rfl,os,bare,un,hok,D,t,d,u,i,q⟩:=h;have m:=I.call' (ch:=[]) os un hok bare (λb z=>absurd z (by simp));have v:=uj m l;have sz:X.s₀.heap.objs.size<=s.heap.objs.size:=I.sz;obtain⟨J,F⟩:=u.atT;have lt:T < r.heap.objs.size:=N1 F;have n:X.s₀.heap.objs.size<=r.heap.objs.size:=N7 (N7 sz t) (Nat.le_of_lt lt);refine l.xe _ _ (zy (base:=X.base) (by rw[I.ok.frames,l.st]) (by rw[<- l.st];exact m.stack) l.fr u λK G k f j=>?_);have x:=m.base;rw[l.ex] at x;have y:∀ b∈[a,T],X.s₀.heap.get? b=none:=λb c=>by
  rcases M5.mp c with z | z
  ·rw[z];exact Heap.get?_none_of_le (N7 sz d)
  ·rw[M8.mp z];exact Heap.get?_none_of_le (N7 sz t)
 have A:=jbn (ψ:=QD.xo C a dx) x i (y a (by simp)) k (λb c=>(v b c).2) y j.at
 have g:=Qo (ψ:=QD.xo C a dx) hok i k (λb c=>(v b c).1) (λb c ne=>by
  rcases M5.mp c with z | z
  ·exact absurd z ne
  ·rw[M8.mp z];exact D) (let ⟨o,he⟩:=j.at;YM he j.xo (jcK C a dx))
 rw[wG i] at A g;exact⟨a,C,dx,G,B,rfl,os.trans I.os,bare,A,g,hok.fresh f,N7 n f,N7 sz d,j,i,q⟩
theorem jdM{e C dx:Addr}(l:Lv X E)(I:L2.Inv X pins σ H s)(d:H e=some (.ext (x1 C e dx)))(h:X.s₀.heap.objs.size<=e)(q:E (.ref e) none (upd H e (.ext (xo C e dx)))):X.xe (.ref e) s:=by
 obtain⟨⟨r,i⟩,_⟩:=I.hok e _ d;have j:=uj I l;refine l.xe _ _ (Qy (base:=X.base) (vs:=#[.ref r,.none,.none,.none,.bool false,.none]) (by rw[I.ok.frames,l.st]) (by rw[<- l.st];exact I.stack) l.fr i rfl rfl λt T k a m=>?_);have n:=I.base;rw[l.ex] at n;have f:Fly e (.ref C) (some dx) T .none t:=m;have p:∀ b∈[e],X.s₀.heap.get? b=none:=λb c=>by rw[M8.mp c];exact Heap.get?_none_of_le h
 have u:=jbn (ψ:=QD.xo C e dx) n d (p e (by simp)) k (λb c=>(j b c).2) p m.at
 have g:=Qo (ψ:=QD.xo C e dx) I.hok d k (λb c=>(j b c).1) (λb c ne=>absurd (M8.mp c) ne) (let ⟨o,d⟩:=f.at;YM d f.xo (jcK C e dx));have ne:T≠e:=λz=>absurd (N1 i) (Nat.not_lt.mpr (z▸a));exact⟨e,C,dx,T,_,rfl,I.os,I.bare,u,g,by rw[jh ne];exact I.hok.fresh a,N7 I.sz a,h,f,jz,q⟩
end
theorem YV{prog:Program}{w:World}{A:Around}{E:Value->Shared->Prop}{s:Shared}{env:Env}{K:PySem.W.Frag}{x:Sem Value}{Q:Flow->Shared->Prop}(f:A.handled=none)
  (h:wpAny (model prog w) A x (λv s1=>∃ e C dx t0,v=.ref e/\K.In s1.heap/\Vx K C=true/\s1.heap.get? e=some { KJ C t0 with dict:=some dx }/\E (.ref e) s1) E s):wpAny (model prog w) A (raiseStmt env (some x) none) Q E s:=by
 unfold raiseStmt;refine L3 (wpAny_mono h (λv s1 i=>?_) λ_ _ x=>x);obtain⟨e,C,dx,t0,rfl,X,j,b,k⟩:=i;unfold KJ at b;obtain⟨n,g,d,o,os⟩:=s1;obtain⟨nm,p,N,bs,l,q,sub,r,m,dd,t,u,y,z,B,c,T⟩:=J3 X j;have a:(Value.ref C::l).contains (.type "BaseException")=true:=by rw[List.contains_cons,j6 T];rfl
 repeat (first | with_reducible refine wpAny_loadPart_at b ?_ | with_reducible refine wpAny_loadPart_at c ?_ | (with_reducible refine wpAny_isSubtype_exc c ?_;rw[a]) | wp_step)
 exact wpAny_raiseNew_none f k
structure XR(K:PySem.W.Frag)(C f:Addr):Prop extends XC K C where
 init:PySem.W.findIn K (.ref C) "__init__" = some (some (.ref f))
 fn:PySem.W.isFn K (.ref f)=true
 pl:YT K C "place"
 kp:PySem.W.keepIn K (.ref C)=true
section
variable {X:Cx}{pins:List (Addr×Obj)}{σ:L2.St}{H:Hp}{s:Shared}{k:Nat}{f C:Addr}{fd:FuncData}
theorem wH{u p:V}{us:List Value}(c:XR X.K C f)(F:FnOk X.prog X.w X.K X.mg X.base CX0 k f fd ["self","words","place"] (VJ X.K))(G:Room (k+1) X.A)(J:Binds X.K fd ["self","words","place"] [])(I:L2.Inv X pins σ H s)(r:Vals [u,p] us){E:Value->Shared->Prop} :
  wpAny (model X.prog X.w) X.A (call (.ref C) us) (λv s'=>∃ e dx,v=.ref e/\s.heap.objs.size<=e/\H e=none/\H dx=none/\dx≠e/\L2.Inv X pins σ (upd (upd H dx (.xd [("place",p)])) e (.ext (x1 C e dx))) s') E s:=by
 have q:=r.length;obtain⟨R,g,d,t,os⟩:=s;refine uM I.kIn c.cls c.init c.fn (λl e m x=>?_) (by rw[<- q];exact(by decide:2<=sizeLine));obtain⟨y,L,_,_⟩:=x.there;have h:l.get? e=some (KJ C y):=L;have M:H e=none:=I.hok.fresh m;have n:=I.laid (a:=e) (o:=.ext (x0 C e)) (h':=l) (t':=t) x.keeps m (YM h ⟨y,h⟩ (jdx C e));have N:Vals (V.ref e::[u,p]) (Value.ref e::us):=.cons rfl r;have i:(Value.ref e::us++[]).length=["self","words","place"].length:=by
  rw[N0,M3,<- q];rfl
 refine wpAny_call (codeAny_mono (F.run _ X.stack _ _ ⟨Value.ref e::us,[]⟩ (Value.ref e::us++[]) [V.ref e,u,p] (λv B=>v=.non/\∃ dx,upd H e (.ext (x0 C e)) dx=none/\B=upd (upd (upd H e (.ext (x0 C e))) dx (.xd [("place",p)])) e (.ext (x1 C e dx))) E0 (G.make C us [])
  (n.env0.make C us []) (J _ (Value.ref e::us) n.kIn i) (by rw[N0];exact N) ⟨e,u,p,C,rfl,jz,c.toXC,c.pl,λdx hd=>⟨rfl,dx,hd,rfl⟩⟩) λr s' j=>?_)
 cases r with
 | error e=>exact False.elim j
 | ok O =>
  cases O with
  | ret S =>
   obtain⟨v,B,D,P,rfl,dx,hd,rfl⟩:=n.after j;have ne:dx≠e:=λz=>by rw[z,jz] at hd;cases hd
   refine⟨P,e,dx,rfl,m,M,by rw[jh ne] at hd;exact hd,ne,?_⟩;have Q:upd (upd (upd H e (.ext (x0 C e))) dx (.xd [("place",p)])) e (.ext (x1 C e dx))=upd (upd H dx (.xd [("place",p)])) e (.ext (x1 C e dx)):=by
    funext b
    unfold upd;by_cases z:b=e
    ·rw[if_pos z,if_pos z]
    ·rw[if_neg z,if_neg z,if_neg z]
   rw[Q] at D;exact D
  | next=>exact False.elim j
  | brk=>exact False.elim j
  | cont=>exact False.elim j
variable {E:XK}{x:Str}{np cpos pos:Pos}{a1 a2:Expr}{t:TA}
noncomputable def wy(C:Addr)(E:XK)(t:TA):TS:=λ_ σ H=>t σ H λvs H1=>∃ u p,vs=[u,p]/\∀ e dx,H1 e=none->H1 dx=none->dx≠e->E (.ref e) none (upd (upd H1 dx (.xd [("place",p)])) e (.ext (xo C e dx)))
theorem u3(l:Lv X E)(c:XR X.K C f)(F:FnOk X.prog X.w X.K X.mg X.base CX0 k f fd ["self","words","place"] (VJ X.K))(z:Room (k+1) X.A)(B:Binds X.K fd ["self","words","place"] [])(G:X.mg x=some (.ref C))
  (J:PA X [a1,a2] t) (L:X.calm=true:=by rfl) (M:Gl X x:=by rfl) (d:(x==("__debug__" : Str))=false:=by decide) (N:starEach [a1,a2] X.env=(false,eval a1 X.env)::starEach [a2] X.env:=by rfl) (g:(backTo cpos (starEach [a2] X.env)).any (·.1)=false:=by rfl) :
  PS X (.Raise (some (.Call (.Name x np) [a1,a2] [] cpos)) none pos) (wy C E t):=by
 intro a s σ H D I h;rw[arm_exec_Raise];have go:wpAny (model X.prog X.w) X.A (eval (.Call (.Name x np) [a1,a2] [] cpos) X.env) (λv b=>∃ e C dx i,v=.ref e/\X.K.In b.heap/\Vx X.K C=true/\b.heap.get? e=some { KJ C i with dict:=some dx }/\X.xe (.ref e) b) X.xe s:=by
  refine wpAny_Call_Name_kw (qd I M G ?_ d);refine PySem.W.callWith_K (h₀:=X.base) I.ok.mod.kin c.kp (thn (J cpos a s σ H _ I h) λT b ⟨U,V,j,r,u,p,m,q⟩=>⟨j.kIn,?_⟩) N g;subst m;refine thn (wH c F z B j r) λv Y ⟨e,dx,m,O,P,Q,ne,n⟩=>?_;subst m;obtain⟨⟨i,R⟩,_⟩:=n.hok e _ jz;refine⟨e,C,dx,i,rfl,n.kIn,c.cls,R,jdM l n jz (N7 j.sz O) ?_⟩;rw[jbJ];exact q e dx P Q ne
 have y:=I.ok.hd L
 first
  | exact L3 (wpAny_standAt (YV y (L3 (wpAny_mono go (λv S o=>L3 (wpAny_standAt (M7 o))) λ_ _ x=>x))))
  | (simp only[evalOpt,Option.map];exact L3 (wpAny_standAt (YV y (L3 (wpAny_mono go (λv S o=>L3 (wpAny_standAt (M7 o))) λ_ _ x=>x)))))
end
noncomputable abbrev inX(X:Cx)(e:Value):Cx:={ X with A:=X.A.mark (some e),calm:=false,xe:=λ_ _=>False }
section
variable {X:Cx}{pins:List (Addr×Obj)}{σ:L2.St}{H H1:Hp}{s s1:Shared}{e:Value}
theorem jaZ(I:L2.Inv X pins σ H s):L2.Inv (inX X e) pins σ H s :=
 ⟨⟨I.ok.mod,I.ok.kind,I.ok.glob,I.ok.blt,I.ok.above,I.ok.inj,I.ok.has,I.ok.cab,λz=>absurd (show false=true from z) (by decide),I.ok.frames,I.ok.stk,I.ok.exf,I.ok.bs,I.ok.bsz,I.ok.noex,I.ok.exfs,I.ok.funs,I.ok.frf⟩,
  I.os,I.bare,I.base,I.loc,I.cell,I.free,I.freeC,I.pin,I.hok,I.len⟩
theorem jcU(hd:X.calm=true->X.A.handled=none)(I:L2.Inv (inX X e) pins σ H s):L2.Inv X pins σ H s :=
 ⟨⟨I.ok.mod,I.ok.kind,I.ok.glob,I.ok.blt,I.ok.above,I.ok.inj,I.ok.has,I.ok.cab,hd,I.ok.frames,I.ok.stk,I.ok.exf,I.ok.bs,I.ok.bsz,I.ok.noex,I.ok.exfs,I.ok.funs,I.ok.frf⟩,
  I.os,I.bare,I.base,I.loc,I.cell,I.free,I.freeC,I.pin,I.hok,I.len⟩
theorem KS{a C dx T:Addr}{h':Heap}(e:L2.Inv X pins σ H1 s1)(I:L2.Inv X pins σ H s)(h:H a=some (.ext (QD.xo C a dx)))(k:Kp (frs X.stack) [a,T] s.heap h')(m:H T=none)(f:s1.heap.objs.size<=T)(t:s1.heap.objs.size<=a)(x:QD.xo C a dx h') :
  L2.Inv X pins σ H { s with heap:=h' }:=by
 have at_:∃ o,h'.get? a=some o:=let ⟨o,_,q,_⟩:=x;⟨o,q⟩
 have i:HOk X.prog X.w H h':=by
  have:=Qo (ψ:=QD.xo C a dx) I.hok h k (λb d=>I.stkFree b d) (λb d ne=>by
   rcases M5.mp d with z | z
   ·exact absurd z ne
   ·rw[M8.mp z];exact m) (let ⟨o,he⟩:=at_;YM he x (jcK C a dx))
  rwa [wG h] at this
 have u:∀ b,H b=none->b≠a:=λb n z=>by rw[z,h] at n;cases n
 refine I.call' (s':={ s with heap:=h' }) (ch:=[T]) rfl ⟨λb o q n d g=>?_,λb o q n d g=>?_,λb o q n _=>n,λb o q g=>?_,λ_ _ q=>q,λ_ _ _ q=>q,λ_ D q=>⟨#[],by rw[q];simp⟩⟩ i I.bare λb d=>?_
 ·exact k.keep b o q d λz=>by
   rcases M5.mp z with z | z
   ·exact u b n z
   ·exact g z
 ·exact k.slot b o q d
 ·by_cases j:b∈frs X.stack
  ·obtain⟨E,r⟩:=k.slot b o q j;exact⟨_,r⟩
  ·by_cases l:b=a
   ·rw[l];exact at_
   ·exact⟨o,k.keep b o q j λz=>by
     rcases M5.mp z with z | z
     ·exact l z
     ·exact g z⟩
 ·rw[M8.mp d];refine⟨.inr (N7 e.sz f),Nat.ne_of_gt (U3 e.lt f),λy c q=>?_,λp A=>?_⟩
  ·obtain⟨v,o,B,_⟩:=e.cell y c q;exact N6 (U3 (N1 B) f)
  ·exact N6 (U3 (N1 (e.pin p A).1) f)
theorem jb3{M:Model}{A:Around}{E:Value->Shared->Prop}{j:Nat}{n:Str}{pos:Pos}{Q:Unit->Shared->Prop}(I:L2.Inv X pins σ H s)(L:X.N.Nodup)(O:X.N[j]?=some n)(P:X.env.scope.names.lookup n=some .local)
  (h:∀ s',L2.Inv X pins (σ.set j none) H s'->Q () s'):wpAny M A (do bindName X.env n .none;unbindBehindTheSuite X.env n pos) Q E s:=by
 obtain⟨m,J,R⟩:=id I.loc;have d:(X.env.scope.kind==.class||(X.env.scope.kind==.module&&X.env.locals != X.env.globals))=false:=by rw[I.ok.kind];rfl
 obtain⟨oL,_,_,S,_⟩:=id J;refine wpAny_nameGoes_keeps P J d λT v x a=>h _ ?_;have B:∀ b o,X.s₀.heap.get? b=some o->b≠X.env.locals:=λb o z=>N6 (U3 (N1 z) I.ok.above);have C:HOk X.prog X.w H T:=λb U q=>(I.hok b U q).stay (λc w' d V=>(a.2 c (by
  rintro rfl;rcases d with rfl | d
  ·rw[I.free] at q;cases q
  ·rw[I.free] at d;cases d)).trans V) (λ_ q=>q) λ_ _ q=>q
 refine⟨I.ok,I.os,I.bare,⟨λb o z D F f=>(a.2 b (B b o z)).trans (I.base.keep b o z D F f),λb o z D F f=>?_,I.base.free,λb o z f=>?_,I.base.tups,I.base.frzs,I.base.tbls⟩,⟨_,x,λi y W K l Y=>?_⟩,λy c q=>?_,I.free,I.freeC,λp Z=>?_,C,by simpa using I.len⟩
 ·obtain⟨sl,r⟩:=I.base.slot b o z D F f;exact⟨sl,(a.2 b (B b o z)).trans r⟩
 ·obtain⟨o',r⟩:=I.base.there b o z f;exact⟨o',(a.2 b (B b o z)).trans r⟩
 ·have ne:i≠j:=λz=>by
   rw[z,List.getElem?_set] at l;simp at l
  rw[List.getElem?_set,if_neg (Ne.symm ne)] at l;have ny:y≠n:=λz=>ne (Vr L K (z▸O));obtain⟨u,r,lk⟩:=R i y W K l Y;refine⟨u,r,?_⟩;rcases lk with⟨g,e⟩ | ⟨g,c,e,t⟩
  ·exact .inl ⟨g,(if_neg ny).trans e⟩
  ·refine .inr ⟨g,c,e,?_⟩;obtain⟨o,k,G⟩:=t;exact⟨o,(a.2 c (I.cne y c e)).trans k,G⟩
 ·obtain⟨v,o,k,G⟩:=I.cell y c q;exact⟨v,o,(a.2 c (I.cne y c q)).trans k,G⟩
 ·obtain⟨g,e,t,k⟩:=I.pin p Z;exact⟨(a.2 p.1 t).trans g,e,t,k⟩
variable {k:Nat}{f:Addr}{fd:FuncData}{ps:List Str}{sp:Sp}{x n z D:Str}{p pos pos' cpos np hp ap vp nn:Pos}{es:List Expr}{a1:Expr}{t:TA}{CD:Addr}{i j:Nat}
noncomputable def jfA(sp:Sp)(i j:Nat)(K:PySem.W.Frag)(CD:Addr)(t:TA):TS:=λD σ H=>t σ H λvs H1=>sp vs H1 (λ_ H2=>D.nx σ H2) λe _ H2=>∃ a C dx,e=.ref a/\H2 a=some (.ext (QD.xo C a dx))/\XC K C/\PySem.W.subIn K (.ref C) (.ref CD)=some true /\
 D.nx (((σ.set j (some (.ref a))).set i (some (.ref a))).set j none) H2
theorem je2(F:FnOk X.prog X.w X.K X.mg X.base (CXr X.prog X.w) k f fd ps sp)(hr:Room k X.A)(hk:PySem.W.keepIn X.K (.ref f)=true)(hb:Binds X.K fd ps [])(hm:X.mg z=some (.ref f))(hD:X.mg D=some (.ref CD))(cD:XC X.K CD)
  (Y:X.N.Nodup) (ha:PA X (a1::es) t) (Z:∀ e s',X.xe e s'->False:=by exact λ_ _ h=>h) (d:X.stack=X.env::X.outer:=by rfl) (hfr:X.env.frame=some X.env.locals:=by rfl) (hi:X.N[i]?=some x:=by rfl) (Q:X.N[j]?=some n:=by rfl)
  (hx:X.env.scope.names.lookup x=some .local:=by rfl) (R:X.env.scope.names.lookup n=some .local:=by rfl) (hg:Gl X z:=by rfl) (hgD:Gl X D:=by rfl)
  (hdb:(z==("__debug__" : Str))=false:=by decide) (hdD:(D==("__debug__" : Str))=false:=by decide) (hdn:(n==("__debug__" : Str))=false:=by decide) (hcn:(n==("__classdict__" : Str))=false:=by decide)
  (he:starEach (a1::es) X.env=(false,eval a1 X.env)::starEach es X.env:=by rfl) (hpl:(backTo cpos (starEach es X.env)).any (·.1)=false:=by rfl)
  (hs:swapsWith (.Call (.Name z p) (a1::es) [] cpos) none pos'.line X.env=pure false:=by rfl) (hs2:swapsWith (.Name n vp) (some (.Name x ap)) nn.line X.env=pure false:=by rfl) :
  PS X (.Try [.Expr (.Call (.Name z p) (a1::es) [] cpos) pos'] [.ExceptHandler (some (.Name D np)) (some n) [.Assign [.Name x ap] (.Name n vp) nn] hp] [] [] pos) (jfA sp i j X.K CD t):=by
 intro g s σ H DD I h;refine wpAny_Try_except (wpAny_execs_cons (wpAny_Expr_any ?_ I.quiet hs));refine wpAny_Call_Name_kw (qd I hg hm ?_ hdb);refine PySem.W.callWith_K (h₀:=X.base) I.ok.mod.kin hk (wpAny_mono (ha cpos g s σ H _ I h) (λS s1 E=>?_) (λ_ _ z=>(Z _ _ z).elim)) he hpl;obtain⟨vs,H1,l,r,q⟩:=E;refine⟨l.kIn,?_⟩;have hl:(S++[]).length=ps.length:=by rw[N0,<- r.length];exact F.len _ _ _ _ q
 refine wpAny_call (codeAny_mono (F.run X.A X.stack s1 H1 ⟨S,[]⟩ (S++[]) vs _ _ hr l.env0 (hb s1 S l.kIn hl) (by rw[N0];exact r) q) λr s' E=>?_);cases r with
 | ok U =>
  cases U with
  | ret u =>
   obtain⟨v,L,I',rv,q'⟩:=l.after E;exact wpAny_execs_nil (wpAny_execs_nil ⟨σ,L,I',q'⟩)
  | next=>exact False.elim E
  | brk=>exact False.elim E
  | cont=>exact False.elim E
 | error e =>
  obtain⟨a,C,dx,T,L,rfl,os,bare,un,hok,hT,le,G,U,J,a',C',dx',ea,ha2,c,sb,q'⟩:=E;cases ea;have I2:=l.call' (ch:=[]) os un hok bare (λb z=>absurd z (by simp));have stk:=I2.stack;rw[d] at stk;refine VC (base:=X.base) (by rw[I2.ok.frames,d]) stk hfr U λh3 T3 k3 M f3=>?_;have I3:=KS l I2 J (by rw[d];exact k3) hT le G f3.xo;have O:L T3=none:=hok.fresh M;obtain⟨oT,eT⟩:=U.atT;have m:s1.heap.objs.size<=T3:=N7 le (N7 (Nat.le_of_lt (N1 eT)) M);have y:=I3.stack;rw[d] at y;refine jfk (s:={ s' with heap:=h3 }) (base:=X.base) (outer:=X.env::X.outer) f3 y λh4 k4 f4 sz4=>?_;have P:=KS l I3 J (by rw[d];exact k4.mono (by simp)) O m G f4.xo;refine wpAny_handleBy_cons (codeAny_handlers_test ?_) (by intro q;cases q);have J4:=jaZ (e:=.ref a) P;refine qd (X:=inX X (.ref a)) J4 hgD hD ?_ hdD;obtain⟨⟨o,ws,e1,e2,e3⟩,_⟩:=P.hok a _ ha2;refine jex P.kIn c cD e1 e2 sb ?_;refine codeAny_handlers_suite_as ?_;have B:=P.stack;rw[d] at B;refine jfk (s:={ s' with heap:=h4 }) (base:=X.base) (outer:=X.env::X.outer) f4 B λh5 k5 f5 sz5=>?_;have I5:=KS l P J (by rw[d];exact k5.mono (by simp)) O m G f5.xo;refine JR (X:=inX X (.ref a)) (i:=j) (x:=n) (v:=.ref a) (jaZ (e:=.ref a) I5) Y Q (.inl R) rfl (λs6 I6=>?_) (.inr R);have hjl:j < σ.length:=by rw[I.len];exact(L9.mp Q).1
  have go:=Va (jbi (X:=inX X (.ref a)) (i:=i) (x:=x) (pos':=ap) (pos:=nn) Y hi (.inl hx) (KC (X:=inX X (.ref a)) (i:=j) (pos:=vp) Q (.inl R) hdn hcn) hs2 (.inr hx)) g s6 (σ.set j (some (.ref a))) L { nx:=λσ7 H7=>σ7=(σ.set j (some (.ref a))).set i (some (.ref a))/\H7=L,rt:=λ_ _=>False } I6 ⟨.ref a,by simp[hjl],rfl,rfl⟩;refine wpAny_mono go (λfl7 s7 V=>?_) λ_ _ z=>False.elim z;cases fl7 with
  | next =>
   obtain⟨σ7,H7,I7,rfl,rfl⟩:=V;exact jb3 (jcU I.ok.hd I7) Y Q R λs8 I8=>⟨_,_,I8,q'⟩
  | ret u=>obtain⟨_,_,_,_,_,z⟩:=V;exact False.elim z
  | brk=>obtain⟨_,_,_,z⟩:=V;exact False.elim z
  | cont=>obtain⟨_,_,_,z⟩:=V;exact False.elim z
end
def NewX(R:RC)(H:Hp)(Z':Zn)(H':Hp)(c:Nat)(p:Int)(a:Addr):Prop:=∃ dx,H a=none/\H dx=none/\Z' a/\Z' dx/\H' a=some (.ext (QD.xo (R.cls c) a dx))/\H' dx=some (.xd [("place",.int p)])
noncomputable abbrev FX:=Rh->Option (Nat×Int)
noncomputable def spR(R:RC)(m:List D->Option (Nat×Int))(n:Nat):Sp:=λvs H _ E=>∃ Z ds c p,Zd Z H/\ds.length=n/\Reps R Z H ds vs []/\m ds=some (c,p)/\∀{a:Addr}{Z':Zn}{H':Hp},Go Z H [] Z' H' []->NewX R H Z' H' c p a->E (.ref a) none H'
def DX(R:RC)(E:XK)(ts:TS)(x:FX):Prop:=∀{σ:L2.St}{ρ:Rh}{Z:Zn}{H:Hp}{O:List Addr}{c:Nat}{p:Int},WF Z H O->Slots R Z H ρ σ O->x ρ=some (c,p) ->
 (∀{a:Addr}{Z':Zn}{H':Hp},Go Z H O Z' H' []->NewX R H Z' H' c p a->E (.ref a) none H')->∀ D':Ends,ts D' σ H
section
variable {R:RC}{Z Z' Z'':Zn}{H H' H'':Hp}{O O':List Addr}{c:Nat}{p:Int}{a:Addr}{E:XK}{pm:List Nat}{ts tu:TS}
theorem NewX.back(g:Go Z H O Z' H' O')(n:NewX R H' Z'' H'' c p a):NewX R H Z'' H'' c p a:=by
 obtain⟨dx,b,d,r⟩:=n;exact⟨dx,Classical.byContradiction λz=>g.dm a z b,Classical.byContradiction λz=>g.dm dx z d,r⟩
theorem NewX.rep(n:NewX R H Z' H' c p a):Rep R Z' H' (.exc c p) (.ref a) []:=by
 obtain⟨dx,_,_,b,d,e,f⟩:=n;rw[Rep];exact⟨a,dx,rfl,b,d,e,f,rfl⟩
theorem jbz{m:List D->Option (Nat×Int)}{n:Nat}{vs:List V}{Q:VK}(h:spR R m n vs H Q E):vs.length=n:=by
 obtain⟨Z,b,_,_,z,a,r,_⟩:=h;rw[r.length,a]
noncomputable def fnR(n:Nat)(x:FX):List D->Option (Nat×Int):=λds=>x (ds.map some++List.replicate (n - ds.length) none)
theorem jbS{N:List Str}{x:FX}{vs:List V}{Q:VK}{n:Nat}(b:DX R E ts x)(h:spR R (fnR N.length x) n vs H Q E)(D':Ends):ts D' (L2.start N vs) H:=by
 obtain⟨Z,a,c,p,z,d,r,e,k⟩:=h;have s:Slots R Z H (a.map some++List.replicate (N.length - a.length) none) (L2.start N vs) []:=by
  have q:=Jl r (Jj (R:=R) (Z:=Z) (H:=H) (N.length - a.length));unfold L2.start;rw[r.length];exact q
 exact b (wf0 z) s e (λg n=>k g n) D'
noncomputable def xN:FX:=λ_=>none
theorem wB:DX R E ts xN:=λ_ _ e=>nomatch e
noncomputable def JA(c:Nat)(pr:PAf):FX:=λρ=>match pr ρ with
 | some [_,.int p]=>some (c,p)
 | _=>none
theorem jaG{t:TA}{pr:PAf}(h:PPs R t pr):DX R E (wy (R.cls c) E t) (JA c pr):=by
 intro σ ρ Z H O C p w s e k D;unfold JA at e;split at e
 ·rename_i F G q;cases e;refine h w.zd s q λ{I r b J} u f=>?_;rw[Reps] at f;obtain⟨v,x,K,L,rfl,rfl,M,g⟩:=f;rw[Reps] at g;obtain⟨N,i,P,Q,rfl,rfl,y,j⟩:=g;rw[Reps] at j;obtain⟨rfl,rfl⟩:=j;obtain⟨rfl,rfl⟩:=y.int_of;refine⟨v,_,rfl,λe dx l m ne=>?_⟩;have d:=(u.widen w);have n:=d.trans (Go.newF (o:=.xd [("place",.int p)]) d.wf m);have z:upd b dx (.xd [("place",.int p)]) e=none:=by rw[jh (Ne.symm ne)];exact l
  have A:=n.trans (Go.newF (o:=.ext (QD.xo (R.cls c) e dx)) n.wf z);have B:NewX R b (λa=>(r a \/ a=dx) \/ a=e) (upd (upd b dx (.xd [("place",.int p)])) e (.ext (QD.xo (R.cls c) e dx))) c p e :=
   ⟨dx,l,m,.inr rfl,.inl (.inr rfl),jz,by rw[jh ne,jz]⟩
  exact k A.to0 (B.back d)
 ·cases e
noncomputable def KG(x1:FX)(f:FS)(x2:FX):FX:=λρ=>match x1 ρ with
 | some r=>some r
 | none=>match f ρ with
  | some (.nx ρ1)=>x2 ρ1
  | _=>none
theorem jdm{x1 b:FX}{f:FS}(h1:DX R E ts x1)(d:DS R pm ts f)(h2:DX R E tu b):DX R E (jdg ts tu) (KG x1 f b):=by
 intro σ ρ Z H O c p w s e k g;unfold KG at e;split at e
 ·rename_i r h;cases e;exact h1 w s h k _
 ·split at e
  ·rename_i m i;refine d w s i λ{o q t u} a j _=>?_;exact h2 a.wf j e (λl n=>k (a.trans l) (n.back a)) g
  ·cases e
noncomputable def xIf(q:PTf)(xa xb:FX):FX:=λρ=>match q ρ with
 | none=>none
 | some b=>bif b then xa ρ else xb ρ
theorem jga{tc:TT}{q:PTf}{f h:FX}(j:PTt R tc q)(l:DX R E ts f)(m:DX R E tu h):DX R E (jdv tc ts tu) (xIf q f h):=by
 intro σ ρ Z H O c p w s e k i;unfold xIf at e;cases e1:q ρ with
 | none=>rw[e1] at e;cases e
 | some b =>
  rw[e1] at e;refine j w.zd s e1 λ{o r} d=>?_;have a:Go Z H O o r O:=by simpa using d.widen w
  cases b with
  | true=>exact jaS (l a.wf (d.slots w.zd s) e (λg n=>k (a.trans g) (n.back a)) i)
  | false=>exact jbk (m a.wf (d.slots w.zd s) e (λg n=>k (a.trans g) (n.back a)) i)
noncomputable def Vu(g:D->Rh->Option Rh)(f:FS)(x:FX):List D->FX
 | [],_=>none
 | d::l,ρ=>match g d ρ with
  | none=>none
  | some ρ1=>match x ρ1 with
   | some r=>some r
   | none=>match f ρ1 with
    | some (.nx ρ2)=>Vu g f x l ρ2
    | some (.ct ρ2)=>Vu g f x l ρ2
    | _=>none
noncomputable def jez(p:PAf)(g:D->Rh->Option Rh)(f:FS)(x:FX):FX:=λρ=>match p ρ with
 | none=>none
 | some xs=>Vu g f x xs ρ
theorem jeU{wi:TI}{tg:TG}{tb:TS}{P:PAf}{g:D->Rh->Option Rh}{f:FS}{x:FX}(hi:PIt R wi P)(hg:PGt R pm tg g)(hf:DS R pm tb f)(hx:DX R E tb x):DX R E (jdG wi tg tb) (jez P g f x):=by
 intro σ ρ Z H O c p w s e k D';unfold jez at e;cases e1:P ρ with
 | none=>rw[e1] at e;cases e
 | some h =>
  rw[e1] at e;dsimp only at e;refine hi w.zd s e1 λ{J y L} W it=>?_;have l:Go Z H O y L O:=by simpa using W.widen w
  refine⟨λi m X A=>m=h.length - i/\i<=h.length/\∃ M B C,Go y L O B A C/\Slots R B A M X C/\Vu g f x (h.drop i) M=some (c,p),
   ⟨h.length,rfl,U4 _,ρ,y,O,Go.refl l.wf,W.slots w.zd s,e⟩,?_⟩
  rintro i m X A ⟨rfl,hi',M,B,C,t,s1,b⟩;have Q:=it (Z1:=B) (H1:=A) t.zz (λa z=>t.zH l.wf a z) t.wf.zd i;by_cases F:i < h.length
  ·right
   have G:h[i]?=some h[i]:=by simp[F]
   obtain⟨go,yl⟩:=Q.2 _ G;rw[qp G] at b;unfold Vu at b;cases e3:g h[i] M with
   | none=>rw[e3] at b;cases b
   | some Y =>
    rw[e3] at b;dsimp only at b;refine⟨go,λσ2 o=>∃ j q N,Go y L O q o N/\Slots R q o j σ2 N/\Vu g f x (h.drop (i+1)) j=some (c,p),λσ2 o ⟨j,q,N,a1,a2,a4⟩=>⟨h.length - (i+1),by omega,rfl,F,j,q,N,a1,a2,a4⟩,λu o hy=>?_⟩;obtain⟨q,g2,r2⟩:=yl u o hy;have I:Go B A C q o C:=by simpa using g2.widen t.wf
    refine hg r2 (g2.slots t.wf.zd s1) e3 λ{σ3 O3} sub nd s3 k3=>?_;have v:Go y L O q o O3:=(t.trans I).drop sub (nd I.wf.nd);cases e4:x Y with
    | some r =>
     rw[e4] at b;cases b;exact hx v.wf s3 e4 (λK n=>k (l.trans (v.trans K)) (n.back (l.trans v))) _
    | none =>
     rw[e4] at b;dsimp only at b;cases e5:f Y with
     | none=>rw[e5] at b;cases b
     | some o1 =>
      rw[e5] at b;refine hf v.wf s3 e5 ?_;cases o1 with
      | nx j=>exact λ{σ4 S H4 T} K U k4=>⟨j,S,T,v.trans K,U,b⟩
      | ct j=>exact λ{σ4 S H4 T} K U k4=>⟨j,S,T,v.trans K,U,b⟩
      | bk j=>cases b
      | rt d j=>cases b
  ·have V:i=h.length:=by omega
   rw[V,List.drop_length] at b;cases b
noncomputable def xM(m:List D->Option (Nat×Int))(pr:PAf):FX:=λρ=>match pr ρ with
 | none=>none
 | some ds=>m (fzs ds)
theorem jba{m:List D->Option (Nat×Int)}{n:Nat}{ds:List D}{vs:List V}{P:List Addr}{Q:VK}(w:WF Z H O)(r:Reps R Z H ds vs P)(j:ds.length=n)(e:m (fzs ds)=some (c,p))
  (k:∀{a:Addr}{Z':Zn}{H':Hp},Go Z H [] Z' H' []->NewX R H Z' H' c p a->E (.ref a) none H'):spR R m n (vs++[]) H Q E:=by
 have l:=w.zd;have o:Zd (λa=>Z a \/ a∈P) H:=λa h=>h.elim (l a) (r.dom a);refine⟨λa=>Z a \/ a∈P,fzs ds,c,p,o,by rw[xD];exact j,by rw[N0];exact r.freeze (λa z=>.inl z) λa z=>.inr z,e,λ{a Z' H'} d n=>?_⟩;have f:Go Z H [] (λa=>Z' a/\(a∉P \/ Z a)) H' []:=by
  refine⟨⟨d.wf.nd,λa h q=>d.wf.nz a h q.1,d.wf.od,λa q=>d.wf.zd a q.1⟩,λa z=>⟨d.zz a (.inl z),.inr z⟩,d.fr,λa z=>?_,d.sub,d.dm⟩;rcases d.zn a z.1 with q | q | q
  ·rcases q with q | q
   ·exact .inl q
   ·exact .inl (z.2.resolve_left λy=>y q)
  ·exact .inr (.inl q)
  ·exact .inr (.inr q)
 obtain⟨dx,g,i,s,t,u⟩:=n;refine k (Z':=λb=>Z' b/\(b∉P \/ Z b)) f ⟨dx,g,i,⟨s,.inl λy=>r.dom a y g⟩,⟨t,.inl λy=>r.dom dx y i⟩,u⟩
theorem zm{m:List D->Option (Nat×Int)}{n:Nat}{t:TA}{pr:PAf}(h:PBs R t pr)(b:∀ ρ ds,pr ρ=some ds->ds.length=n):DX R E (jfc (zZ (spR R m n) [] E t)) (xM m pr):=by
 intro σ ρ Z H O c p w s e k l;unfold xM at e;cases e1:pr ρ with
 | none=>rw[e1] at e;cases e
 | some ds =>
  rw[e1] at e;refine h w.zd s e1 λ{o d f q} i j=>?_;have a:Go Z H O d f O:=by simpa using i.widen w
  exact jba a.wf j (b ρ ds e1) e λg n=>k (a.trans (g.widen a.wf)).to0 (n.back a)
end
section
variable {P:Program}{w:World}{K:PySem.W.Frag}{mg:Str->Option Value}{base:Heap}{N ps:List Str}{k n:Nat}{fa:Addr}{fd:FuncData}{x qual:Str}{fst:Stmt}{cl:Nat->Addr}{xs:FX}
theorem jbC{b:Scope}{a:Value}{A:Around}{outer:List Env}{s:Shared}{H:Hp}{E:XK}:Lv (zf (CXr P w) P w K mg base N qual b fa a A outer s H E) E :=
 ⟨rfl,rfl,rfl,λe c h=>wpAny_mono h (λ_ _ z=>z) λ_ _ z=>False.elim z⟩
theorem jet(F:Fun K x qual fst fa fd)(d:FnScope N ps (jg fst))(e:ps.length=n)
  (a:∀(cdv:Value) (A:Around) (outer:List Env) (s:Shared) (H:Hp) (E:XK),Room k (A.deeper (envOfC qual (jg fst) s.heap.objs.size fa cdv)) ->
   ∃ ts,PSs (zf (CXr P w) P w K mg base N qual (jg fst) fa cdv A outer s H E) (yg fst) ts/\DX ⟨K,cl⟩ E ts xs):FnOk P w K mg base (CXr P w) (k+1) fa fd ps (spR ⟨K,cl⟩ (fnR N.length xs) n):=by
 obtain⟨m,od,kV,f,o,p,cdv,ct,g,rfl,i,b⟩:=F.ex;refine jeI i b d (λj H Q E h=>by rw[jbz h,e]) λA outer s H j Q E l c=>?_;obtain⟨t,h,q⟩:=a cdv A outer s H E l;exact⟨t,h,jbS q c _⟩
end
section
variable {X:Cx}
noncomputable def jbT:Value->Bool
 | .bool b=>b
 | _=>false
theorem Qq:∀{bs:List Bool}{us:List Value},Vals (bs.map V.bl) us->us=bs.map Value.bool
 | [],_,.nil=>rfl
 | b::bs,_,.cons r t=>by rw[Qq t];cases r;rfl
def wR(K:PySem.W.Frag):V->List V->Hp->VK->Prop:=λx xs H Q=>∃(a:Addr) (bs:List Bool),x=.ref a/\xs=[.bl true]/\SqL K H a (bs.map V.bl)/\Q (.int (bs.countP id:Nat)) H
theorem V4{h:Heap}{a:Addr}{its:Array Value}(p:PlainL h a its):∃ n dd sl,h.get? a=some { cls:=.type "list",dict:=dd,data:=.seq its n,slots:=sl }:=by
 obtain⟨⟨c,dd,g,sl⟩,n,e,b,d,f⟩:=p;dsimp only at b d f;subst b d f;exact⟨n,_,sl,e⟩
theorem uA:MtR X "list.count" (wR X.K):=by
 intro c s σ H x o v p Q I f g q;obtain⟨a,bs,rfl,rfl,sq,q⟩:=q;obtain rfl:=f;cases g with
 | cons h i =>
  cases i;cases h;obtain⟨j,k,pl,_⟩:=I.list sq;have e:=Qq k;subst e;obtain⟨n,dd,l,d⟩:=V4 pl;refine call_meets PySem.F.slot_list_count ⟨_,d,rfl⟩ PySem.F.entry_list_count (PySem.F.args_list_count_2 _ _) (SeqAt.list_countAt a (bs.map Value.bool).toArray n dd l (.bool true) jbT) ⟨d,λy m=>?_,?_⟩
  ·obtain⟨b,_,rfl⟩:=M6.mp (show y∈bs.map Value.bool by simpa only[List.mem_toArray] using m);have:=SeqAt.EqAt.bool_bool (A:=X.A.in1) (s:=s) b true;rw[show(b==true)=jbT (.bool b) from by cases b<;>rfl] at this;exact this
  ·have e:(List.countP jbT (bs.map Value.bool).toArray.toList)=bs.countP id:=by
    rw[show(bs.map Value.bool).toArray.toList=bs.map Value.bool from rfl,List.countP_map];rfl
   rw[e];exact⟨.int _,H,I.tok _,⟨_,rfl⟩,q⟩
def xv(K:PySem.W.Frag):V->List V->Hp->VK->Prop:=λx xs H Q=>∃(a:Addr) (bs:List Bool),x=.ref a/\xs=[.bl true]/\SqL K H a (bs.map V.bl)/\true∈bs/\Q (.int (bs.idxOf true:Nat)) H
theorem xx:MtR X "list.index" (xv X.K):=by
 intro d s σ H x w v B Q I g h q;obtain⟨a,bs,rfl,rfl,sq,mem,q⟩:=q;obtain rfl:=g;cases h with
 | cons i j =>
  cases j;cases i;obtain⟨k,l,pl,sz⟩:=I.list sq;have e:=Qq l;subst e;obtain⟨n,dd,o,f⟩:=V4 pl;have p:bs.idxOf true < bs.length:=List.idxOf_lt_length_iff.mpr mem;have C:sizeLine=16777216:=by decide
  rw[L0] at sz;refine call_meets PySem.F.slot_list_index ⟨_,f,rfl⟩ PySem.F.entry_list_index (PySem.F.args_list_index_2 _ _) (SeqAt.list_indexAt a (bs.map Value.bool).toArray n dd o (.bool true) jbT (bs.idxOf true) (by simpa using p) (by omega) ?_ ?_) ⟨f,λy r=>?_,?_⟩
  ·simp[jbT]
  ·intro m t c;have u:m < bs.length:=by simpa using t
   have z:bs.idxOf true=bs.findIdx (·==true):=rfl;rw[z] at c;have:=List.not_of_lt_findIdx c;simp[jbT] at this ⊢;exact this
  ·obtain⟨b,_,rfl⟩:=M6.mp (show y∈bs.map Value.bool by simpa only[List.mem_toArray] using r);have:=SeqAt.EqAt.bool_bool (A:=X.A.in1) (s:=s) b true;rw[show(b==true)=jbT (.bool b) from by cases b<;>rfl] at this;exact this
  ·exact⟨.int _,H,I.tok _,⟨_,rfl⟩,q⟩
end
noncomputable def zD:List D->Option (List Bool)
 | []=>some []
 | .bl b::l=>match zD l with
  | some r=>some (b::r)
  | none=>none
 | _=>none
section
variable {R:RC}{Z:Zn}{H:Hp}
theorem Qi:∀{l:List D}{bs:List Bool}{vs:List V}{O:List Addr},zD l=some bs->Reps R Z H l vs O->vs=bs.map V.bl
 | [],bs,vs,O,e,r=>by cases e;rw[Reps] at r;exact r.1
 | .bl b::l,bs,vs,O,e,r=>by
  unfold zD at e;rw[Reps] at r;obtain⟨v,a,f,g,rfl,rfl,c,d⟩:=r;cases e2:zD l with
  | none=>rw[e2] at e;cases e
  | some q =>
   rw[e2] at e;cases e;obtain⟨rfl,_⟩:=c.bl_of;rw[Qi e2 d];rfl
 | .non::l,_,_,_,e,_=>by cases e
 | .int _::l,_,_,_,e,_=>by cases e
 | .str _::l,_,_,_,e,_=>by cases e
 | .tup _::l,_,_,_,e,_=>by cases e
 | .lst _ _::l,_,_,_,e,_=>by cases e
 | .dK _ _ _::l,_,_,_,e,_=>by cases e
 | .dT _ _ _::l,_,_,_,e,_=>by cases e
 | .ins _ _ _ _::l,_,_,_,e,_=>by cases e
 | .dead::l,_,_,_,e,_=>by cases e
 | .exc _ _::l,_,_,_,e,_=>by cases e
noncomputable def Qu:D->List D->Option D
 | .lst _ l,[.bl true]=>(zD l).map λbs=>.int (bs.countP id:Nat)
 | _,_=>none
noncomputable def Qc:D->List D->Option D
 | .lst _ l,[.bl true]=>(zD l).bind λbs=>bif bs.contains true then some (.int (bs.idxOf true:Nat)) else none
 | _,_=>none
theorem xq{o:Bool}{l:List D}{v:V}{O:List Addr}(r:Rep R Z H (.lst o l) v O):∃ a vs O',v=.ref a/\Reps R Z H l vs O'/\SqL R.K H a vs:=by
 rw[Rep] at r;obtain⟨a,vs,O',rfl,b,h⟩:=r;cases o with
 | true=>exact⟨a,vs,O',rfl,b,SqL.of h.1⟩
 | false=>exact⟨a,vs,O',rfl,b,h.1.sq⟩
theorem ua:BM R "list" (wR R.K) Qu:=by
 intro Z H x d i v j m n z r b e Q k;unfold Qu at e;split at e
 ·rename_i o l;obtain⟨bs,f,rfl⟩:=Option.map_eq_some_iff.mp e;obtain⟨a,p,q,rfl,g,sq⟩:=xq r;rw[Qi f g] at sq;rw[Reps] at b;obtain⟨u,s,t,w,rfl,rfl,h,c⟩:=b;rw[Reps] at c;obtain⟨rfl,_⟩:=c;obtain⟨rfl,_⟩:=h.bl_of;exact⟨a,bs,rfl,rfl,sq,k (Go.id z) .int_mk⟩
 ·cases e
theorem wu:BM R "list" (xv R.K) Qc:=by
 intro Z H x d j v m n p z r c e Q k;unfold Qc at e;split at e
 ·rename_i o l;obtain⟨bs,g,b⟩:=Option.bind_eq_some_iff.mp e;obtain⟨a,q,s,rfl,h,sq⟩:=xq r;rw[Qi g h] at sq;rw[Reps] at c;obtain⟨u,t,w,y,rfl,rfl,i,f⟩:=c;rw[Reps] at f;obtain⟨rfl,_⟩:=f;obtain⟨rfl,_⟩:=i.bl_of;cases hc:bs.contains true with
  | false=>rw[hc] at b;cases b
  | true =>
   rw[hc] at b;cases b;exact⟨a,bs,rfl,rfl,sq,by simpa using hc,k (Go.id z) .int_mk⟩
 ·cases e
end
section
variable {X:Cx}{pins:List (Addr×Obj)}{σ:L2.St}{H:Hp}{s:Shared}
theorem xu{a C dx:Addr}{fs:List (Str×V)}(I:L2.Inv X pins σ H s)(h1:H a=some (.ext (QD.xo C a dx)))(h2:H dx=some (.xd fs)):∃(ox od:Obj) (mA:Str->Option Value),PySem.W.InstAt s.heap a ox C (some od)/\(∀ name,PySem.W.lookIn name od=some (mA name))/\∀ f,RelO (fs.lookup f) (mA f):=by
 obtain⟨⟨o,i,b,c,d,e⟩,_⟩:=I.hok a _ h1;obtain⟨mA,ns,r⟩:=I.hok dx _ h2;obtain⟨od,g,h⟩:=xG ns;refine⟨o,od,mA,⟨b,c,?_,?_⟩,h,r⟩
 ·unfold PySem.W.notCls;rw[e]
 ·rw[d];exact g
def jfi(K:PySem.W.Frag):List V->Hp->VK->Prop:=λvs H Q=>∃(a C dx:Addr) (fs:List (Str×V)) (u:V) (b:Bool),vs=[.ref a,u]/\H a=some (.ext (QD.xo C a dx))/\H dx=some (.xd fs)/\XC K C/\(∀ cv,RelV u cv->xK K cv=true/\PySem.W.subIn K (.ref C) cv=some b)/\Q (.bl b) H
theorem QZ:CallR X (.builtin "isinstance") (jfi X.K):=by
 intro d s σ H o p Q I r q;obtain⟨a,C,dx,fs,u,b,rfl,e,f,c,g,q⟩:=q;cases r with
 | cons h i =>
  cases i with
  | cons j k =>
   cases k;obtain rfl:=h;obtain⟨t,od,v,J,_,_⟩:=xu I e f;obtain⟨l,m⟩:=g _ j;exact xis I.kIn c J l m λn=>⟨.bl b,H,I.tok n,rfl,q⟩
noncomputable def jaQ(K:PySem.W.Frag)(ta:TE):TE:=λσ H Q=>ta σ H λx H1=>∃(a C dx:Addr) (v:V),x=.ref a/\H1 a=some (.ext (QD.xo C a dx))/\H1 dx=some (.xd [("place",v)])/\XC K C/\YT K C "place"/\Q v H1
theorem uT{e:Expr}{ta:TE}{pos:Pos}(j:PE X e ta)(k:attributeBase e "place" X.env (eval e X.env)=eval e X.env:=by rfl):PE X (.Attribute e "place" pos) (jaQ X.K ta):=by
 intro b s σ H Q I h;refine jcF k (thn (j b s σ H _ I h) λD l ⟨x,m,f,o,a,C,dx,v,ex,p,w,c,n,q⟩=>?_);subst ex;obtain rfl:=o;obtain⟨E,od,y,J,z,r⟩:=xu f p w;have A:RelO (some v) (y "place"):=by have:=r "place";simpa [List.lookup] using this
 obtain⟨u,B,i⟩:=RelO.some_of A;obtain⟨h,g,d,t,os⟩:=l;have hd:PySem.W.hasDictIn X.K C=true:=by
  have q:=c.cls;unfold Vx at q;unfold PySem.W.hasDictIn PySem.W.clsIn;split at q
  ·rename_i e;split at q
   ·simp only[M0] at q;rw[e];exact q.1.1.2
   ·cases q
  ·cases q
 exact jgN f.kIn c.cls J c.ga c.gn (PySem.W.findObj_own hd n rfl (by rw[z,B])) (w8 i) ⟨v,m,f.tok _,i,q⟩
noncomputable def jgF(i n:Nat):TE:=λσ H Q=>∃ l:List Nat,σ[i]?=some (some (.str (S l)))/\l.length<=n/\(∀ c∈l,c < 16 ^ 8)/\∀ y,Q (.str y) H
theorem je0{i:Nat}{x a b:Str}{j1 j2 p1 p2 p3 p4 pos}(j:X.N[i]?=some x:=by rfl)(k:Vis X.env.scope x:=by first | exact Or.inl rfl | exact Or.inr (Or.inl rfl))(A:a.length<=1000:=by decide +kernel)(B:b.length<=1000:=by decide +kernel)(hd:(x==("__debug__" : Str))=false:=by decide)(d:(x==("__classdict__" : Str))=false:=by decide) :
  PE X (.JoinedStr [.Constant (.str a) j1 p1,.FormattedValue (.Name x p2) 114 none p3,.Constant (.str b) j2 p4] pos) (jgF i 1000):=by
 intro c s σ H Q I h;obtain⟨l,m,C,n,q⟩:=h;have D:sizeLine=16777216:=by decide
 have g:(reprText (S l)).length<=10002:=by
  refine N7 (PySem.StrLaws.reprText_len (S l) (by simpa [S] using n)) ?_;have:(S l).length=l.length:=vz ..;omega
 have o:(Str.empty:Str).length=0:=rfl;refine wpAny_JoinedStr ?_;refine Calls.Constant_str ⟨a,_,rfl,by rw[strLen_append];omega,?_⟩;refine wpAny_FormattedValue_repr (thn (KC (X:=X) (i:=i) (pos:=p2) j k hd d c _ σ H (λv e=>v=.str (S l)/\e=H) (I.tok _) ⟨_,m,rfl,rfl⟩) λu E ⟨v,e,p,r,f,w⟩=>?_);subst f w;obtain⟨t,rfl⟩:=r;refine pyReprObj_str ?_ (by omega);refine formatField_str (λy z=>⟨_,y,rfl,by rw[strLen_append,strLen_append];omega,?_⟩) (by omega);refine Calls.Constant_str ⟨b,_,rfl,by rw[strLen_append,strLen_append,strLen_append];omega,?_⟩;refine⟨by rw[strLen_append,strLen_append,strLen_append];omega,?_⟩;exact⟨.str _,e,p.tok (z+1+1),⟨_,rfl⟩,q _⟩
end
section
variable {cl:Nat->Addr}{X:Cx}{e:Expr}{te:TE}{pe:PF}{pos p q:Pos}{K:PySem.W.Frag}
noncomputable def zX(l:List Bool)(pa:PF):PF:=λρ=>match pa ρ with
 | some (.exc c _)=>(l[c]?).map .bl
 | _=>none
theorem jaT{R:RC}{u:V}{ta:TE}{pa:PF}{l:List Bool}(h:PB R ta pa)(g:∀ c b,l[c]?=some b->XC R.K (R.cls c)/\∀ cv,RelV u cv->xK R.K cv=true/\PySem.W.subIn R.K (.ref (R.cls c)) cv=some b) :
  PP R (tCB (jfi R.K) (vt ta (vt (tC u) xf))) (zX l pa):=by
 intro σ ρ Z H O d z s e Q k;unfold zX at e;split at e
 ·rename_i c n i;obtain⟨b,j,rfl⟩:=Option.map_eq_some_iff.mp e;obtain⟨m,o⟩:=g c b j;refine h z s i λ{v t w x} p f=>?_;rw[Rep] at f;obtain⟨a,dx,rfl,y,A,q,r,_⟩:=f;exact⟨a,R.cls c,dx,_,u,b,rfl,q,r,m,o,k p .bl_mk⟩
 ·cases e
def JI(K:PySem.W.Frag)(cl:Nat->Addr)(u:V)(l:List Bool):Prop:=∀ c b,l[c]?=some b->XC K (cl c)/\∀ cv,RelV u cv->xK K cv=true/\PySem.W.subIn K (.ref (cl c)) cv=some b
theorem VF{x:Str}{D:Addr}{l:List Bool}(g:X.mg "isinstance" = none)(i:X.mg x=some (.ref D))(j:JI X.K cl (.ref D) l)(h:QB cl X e te pe)(k:Gl X "isinstance":=by rfl)(a:Gl X x:=by rfl)(b:(x==("__debug__" : Str))=false:=by decide)
  (f:starEach [e,.Name x q] X.env=(false,eval e X.env)::starEach [.Name x q] X.env:=by rfl) (c:starEach [.Name x q] X.env=(false,eval (.Name x q) X.env)::starEach [] X.env:=by rfl) (d:(backTo pos (starEach [.Name x q] X.env)).any (·.1)=false:=by rfl) :
  QP cl X (.Call (.Name "isinstance" p) [e,.Name x q] [] pos) (tCB (jfi X.K) (vt te (vt (tC (.ref D)) xf))) (zX l pe) :=
 ⟨JJ QZ k g (by decide +kernel) (yS h.sem (yS (Vd a i rfl b) Yx c) f) (by decide) (by decide) f d,jaT h.den j⟩
theorem je1{x:Str}{T:String}{l:List Bool}(i:X.mg "isinstance" = none)(j:X.mg x=none)(k:bootBuiltins x=some (.type T))(m:JI X.K cl (.ty T) l)(h:QB cl X e te pe)(n:Gl X "isinstance":=by rfl)(a:Gl X x:=by rfl)(b:x≠"__name__":=by decide)(c:(x==("__debug__" : Str))=false:=by decide)
  (g:starEach [e,.Name x q] X.env=(false,eval e X.env)::starEach [.Name x q] X.env:=by rfl) (d:starEach [.Name x q] X.env=(false,eval (.Name x q) X.env)::starEach [] X.env:=by rfl) (f:(backTo pos (starEach [.Name x q] X.env)).any (·.1)=false:=by rfl) :
  QP cl X (.Call (.Name "isinstance" p) [e,.Name x q] [] pos) (tCB (jfi X.K) (vt te (vt (tC (.ty T)) xf))) (zX l pe) :=
 ⟨JJ QZ n i (by decide +kernel) (yS h.sem (yS (uw a j k rfl b c) Yx d) g) (by decide) (by decide) g f,jaT h.den m⟩
noncomputable def YY(n:Nat)(pa:PF):PF:=λρ=>match pa ρ with
 | some (.exc c i)=>bif decide (c < n) then some (.int i) else none
 | _=>none
theorem K6{n:Nat}(f:∀ c,c < n->XC X.K (cl c)/\YT X.K (cl c) "place")(h:QB cl X e te pe)(g:attributeBase e "place" X.env (eval e X.env)=eval e X.env:=by rfl):QP cl X (.Attribute e "place" pos) (jaQ X.K te) (YY n pe):=by
 refine⟨uT h.sem g,?_⟩;intro σ ρ Z H O d z s e Q k;unfold YY at e;split at e
 ·rename_i c i j;cases hn:decide (c < n) with
  | false=>rw[hn] at e;cases e
  | true =>
   rw[hn] at e;cases e;obtain⟨l,m⟩:=f c (U9 hn);refine h.den z s j λ{v r t u} o b=>?_;rw[Rep] at b;obtain⟨a,dx,rfl,w,x,p,q,_⟩:=b;exact⟨a,cl c,dx,_,rfl,p,q,l,m,k o .int_mk⟩
 ·cases e
noncomputable def jfj(i:Nat):PF:=λρ=>match ρ[i]? with
 | some (some (.str l))=>bif decide (l.length<=1000)&&l.all (λc=>decide (c < 1000)) then some .dead else none
 | _=>none
theorem jfv{i:Nat}{x a b:Str}{j1 j2 p1 p2 p3 p4}(h:X.N[i]?=some x:=by rfl)(j:Vis X.env.scope x:=by first | exact Or.inl rfl | exact Or.inr (Or.inl rfl))(m:a.length<=1000:=by decide +kernel)(n:b.length<=1000:=by decide +kernel)(hd:(x==("__debug__" : Str))=false:=by decide)(f:(x==("__classdict__" : Str))=false:=by decide) :
  QP cl X (.JoinedStr [.Constant (.str a) j1 p1,.FormattedValue (.Name x p2) 114 none p3,.Constant (.str b) j2 p4] pos) (jgF i 1000) (jfj i):=by
 refine⟨je0 h j m n hd f,?_⟩;intro σ ρ Z H O d z s e Q k;unfold jfj at e;split at e
 ·rename_i l g;cases hn:(decide (l.length<=1000)&&l.all λc=>decide (c < 1000)) with
  | false=>rw[hn] at e;cases e
  | true =>
   rw[hn] at e;cases e;rw[M0] at hn;obtain⟨A,P,B,rfl,o,_⟩:=s.put (L9.mp g).1;obtain⟨v,p,r⟩:=o _ g;obtain⟨rfl,_⟩:=r.str_of;refine⟨l,p,U9 hn.1,λc q=>Nat.lt_trans (U9 (List.all_eq_true.mp hn.2 c q)) (by decide),λy=>k (P:=[]) (Go.id z) (by rw[Rep])⟩
 ·cases e
noncomputable def jeX(m:List D->Option (Nat×Int))(n i j:Nat)(pr:PAf):FS:=λρ=>match pr ρ with
 | none=>none
 | some ds=>match m (fzs ds) with
  | some (c,p)=>bif decide (c < n)&&decide (i < ρ.length)&&decide (j < ρ.length)&&decide (i≠j) then some (.nx ((ρ.set i (some (.exc c p))).set j none)) else none
  | none=>none
end
section
variable {R:RC}{Z:Zn}{H:Hp}
theorem Jx:∀{ρ:Rh}{σ:L2.St}{O:List Addr}{j:Nat}{y:Option V},Slots R Z H ρ σ O->ρ[j]?=some none->Slots R Z H ρ (σ.set j y) O
 | [],_,_,_,_,_,e=>by simp at e
 | none::ρ,_,_,0,y,h,_=>by
  obtain⟨s,a,rfl,r⟩:=h;exact⟨y,a,rfl,r⟩
 | some d::ρ,_,_,0,_,_,e=>by simp at e
 | none::ρ,_,_,j+1,y,h,e=>by
  obtain⟨s,a,rfl,r⟩:=h;exact⟨s,_,rfl,Jx r (by simpa using e)⟩
 | some d::ρ,_,_,j+1,y,h,e=>by
  obtain⟨v,a,b,c,rfl,rfl,f,g⟩:=h;exact⟨v,_,b,c,rfl,rfl,f,Jx g (by simpa using e)⟩
theorem je7{m:List D->Option (Nat×Int)}{n nc i j:Nat}{CD:Addr}{pm:List Nat}{t:TA}{pr:PAf}(h:PBs R t pr)(U:∀ ρ ds,pr ρ=some ds->ds.length=n)(V:∀ c,c < nc->XC R.K (R.cls c)/\PySem.W.subIn R.K (.ref (R.cls c)) (.ref CD)=some true)(hi:i∉pm)(X:j∉pm) :
  DS R pm (jfA (spR R m n) i j R.K CD t) (jeX m nc i j pr):=by
 intro σ ρ Z H O o w s e F k;unfold jeX at e;cases e1:pr ρ with
 | none=>rw[e1] at e;cases e
 | some ds =>
  rw[e1] at e;dsimp only at e;cases e2:m (fzs ds) with
  | none=>rw[e2] at e;cases e
  | some cp =>
   obtain⟨c,p⟩:=cp;rw[e2] at e;dsimp only at e;cases d:(decide (c < nc)&&decide (i < ρ.length)&&decide (j < ρ.length)&&decide (i≠j)) with
   | false=>rw[d] at e;cases e
   | true =>
    rw[d] at e;cases e;simp only[M0,decide_eq_true_eq] at d;obtain⟨⟨⟨Y,b2⟩,G⟩,b4⟩:=d;obtain⟨xc,sb⟩:=V c Y;refine h w.zd s e1 λ{vs Z1 H1 P1} I r1=>?_;have r:Go Z H O Z1 H1 O:=by simpa using I.widen w
    have:=jba (E:=λe _ u=>∃ a C dx,e=.ref a/\u a=some (.ext (QD.xo C a dx))/\XC R.K C/\PySem.W.subIn R.K (.ref C) (.ref CD)=some true/\F.nx (((σ.set j (some (.ref a))).set i (some (.ref a))).set j none) u) (Q:=λ_ u=>F.nx σ u) r.wf r1 (U ρ ds e1) e2 λ{a J L} g M=>?_
    ·rw[N0] at this;exact this
    ·have rp:=M.rep;obtain⟨dx,_,_,_,_,l,_⟩:=M;refine⟨a,_,dx,rfl,l,xc,sb,?_⟩;have N:Go Z H O J L O:=r.trans (by simpa using g.widen r.wf);have s2:Slots R J L ρ σ O:=g.slots r.wf.zd (I.slots w.zd s);obtain⟨A,P,B,S,_,k2,_⟩:=s2.put b2;have s3:=k2 rp (λ_ z=>z) (λ_ _=>rfl) (λ_ _=>rfl) (λ_ _=>rfl);obtain⟨v,T,x,q,_,_,k4⟩:=s3.put (i:=j) (by simpa using G);have s5:=Jx (j:=j) (y:=none) k4 (by rw[List.getElem?_set_self (by simpa using G)]);have es:((σ.set j (some (.ref a))).set i (some (.ref a))).set j none=(σ.set i (some (.ref a))).set j none:=by
      rw[List.set_comm _ _ (Ne.symm b4),List.set_set]
     rw[es];have nd:=N.wf.nd;have f:(v++T++x).Nodup:=by
      rw[<- q];rw[S] at nd;simp only[U6,N2,N0] at nd ⊢;exact⟨nd.1.1,nd.2.1,λa l b d=>nd.2.2 a (.inl l) b d⟩
     refine k (N.drop (O'':=v++x) (λb d=>?_) ?_) s5 ((Keep.set hi).trans (Keep.set X))
     ·have:b∈v++T++x:=by simp at d ⊢;rcases d with z | z<;>simp[z]
      rw[<- q] at this;rw[S];simp at this ⊢;rcases this with z | z<;>simp[z]
     ·simp only[U6,N2] at f ⊢;exact⟨f.1.1,f.2.1,λa l b d=>f.2.2 a (.inl l) b d⟩
variable {cl:Nat->Addr}{X:Cx}{k n nc i j:Nat}{f CD:Addr}{fd:FuncData}{ps:List Str}{m:List D->Option (Nat×Int)}{pm:List Nat}{x nm z D qual:Str}{st:Stmt}{p pos pos' cpos np hp ap vp nn:Pos}{es:List Expr}{a1:Expr}{t:TA}{pr:PAf}
theorem jdV(F:FnFact X.K X.mg z qual st f fd ps)(G:FnOk X.prog X.w X.K X.mg X.base (CXr X.prog X.w) k f fd ps (spR ⟨X.K,cl⟩ m n))(H:Room k X.A)(I:X.mg D=some (.ref CD))(J:XC X.K CD)(L:∀ c,c < nc->XC X.K (cl c)/\PySem.W.subIn X.K (.ref (cl c)) (.ref CD)=some true)
  (M:X.N.Nodup) (a:QBs cl X (a1::es) t pr) (O:(a1::es).length=n:=by rfl) (b:∀ e s',X.xe e s'->False:=by exact λ_ _ h=>h) (d:X.stack=X.env::X.outer:=by rfl) (g:X.env.frame=some X.env.locals:=by rfl) (hi:X.N[i]?=some x:=by rfl) (P:X.N[j]?=some nm:=by rfl)
  (Q:X.env.scope.names.lookup x=some .local:=by rfl) (l:X.env.scope.names.lookup nm=some .local:=by rfl) (R:Gl X z:=by rfl) (o:Gl X D:=by rfl)
  (r:(z==("__debug__" : Str))=false:=by decide) (s:(D==("__debug__" : Str))=false:=by decide) (u:(nm==("__debug__" : Str))=false:=by decide) (v:(nm==("__classdict__" : Str))=false:=by decide)
  (S:starEach (a1::es) X.env=(false,eval a1 X.env)::starEach es X.env:=by rfl) (y:(backTo cpos (starEach es X.env)).any (·.1)=false:=by rfl)
  (T:swapsWith (.Call (.Name z p) (a1::es) [] cpos) none pos'.line X.env=pure false:=by rfl) (B:swapsWith (.Name nm vp) (some (.Name x ap)) nn.line X.env=pure false:=by rfl) (C:i∉pm:=by decide) (E:j∉pm:=by decide) :
  QS cl pm X (.Try [.Expr (.Call (.Name z p) (a1::es) [] cpos) pos'] [.ExceptHandler (some (.Name D np)) (some nm) [.Assign [.Name x ap] (.Name nm vp) nn] hp] [] [] pos) (jfA (spR ⟨X.K,cl⟩ m n) i j X.K CD t) (jeX m nc i j pr) :=
 ⟨je2 G H F.fn.kp F.bd F.mgf I J M a.sem b d g hi P Q l R o r s u v S y T B,je7 a.den (λρ U q=>(a.n ρ U q).trans O) L C E⟩
end
section
variable (cl:Nat->Addr)(pm:List Nat)(X:Cx)(E:XK)
structure QX1(st:Stmt)(ts:TS)(f:FS)(x:FX):Prop where
 sem:PS X st ts
 den:DS ⟨X.K,cl⟩ pm ts f
 dx:DX ⟨X.K,cl⟩ E ts x
structure QXs(st:List Stmt)(ts:TS)(f:FS)(x:FX):Prop where
 sem:PSs X st ts
 den:DS ⟨X.K,cl⟩ pm ts f
 dx:DX ⟨X.K,cl⟩ E ts x
end
section
variable {cl:Nat->Addr}{pm:List Nat}{X:Cx}{E:XK}{st:Stmt}{rest a b:List Stmt}{ts tu:TS}{f g:FS}{x y:FX}{pos:Pos}
theorem qx(h:QS cl pm X st ts f):QX1 cl pm X E st ts f xN:=⟨h.sem,h.den,wB⟩
theorem wK(h:QSs cl pm X a ts f):QXs cl pm X E a ts f xN:=⟨h.sem,h.den,wB⟩
theorem YR(h:QX1 cl pm X E st ts f x):QXs cl pm X E [st] ts f x:=⟨Va h.sem,h.den,h.dx⟩
theorem ql(h:QX1 cl pm X E st ts f x)(k:QXs cl pm X E rest tu g y):QXs cl pm X E (st::rest) (jdg ts tu) (jK f g) (KG x f y):=⟨Vb h.sem k.sem,jbd h.den k.den,jdm h.dx h.den k.dx⟩
theorem jcC{c:Expr}{tc:TT}{q:PTf}(e:QT cl X c tc q)(h:QXs cl pm X E a ts f x)(i:QXs cl pm X E b tu g y):QX1 cl pm X E (.If c a b pos) (jdv tc ts tu) (sIf (dPT q) f g) (xIf q x y):=⟨jes e.sem h.sem i.sem,jeQ (PTt.d e.den) h.den i.den,jga e.den h.dx i.dx⟩
theorem jeZ{tg iter:Expr}{wi:TI}{pi:PAf}{t:TG}{b:D->Rh->Option Rh}{body:List Stmt}(hp:PassesOwn (model X.prog X.w) X.A X.env X.xe)(d:X.calm=true)(hi:QI cl X tg iter wi pi)(c:QG cl pm X tg t b)(a:QXs cl pm X E body ts f x)(e:∀ x,foldedSetIterable iter X.env x=pure x:=by intro _;rfl) :
  QX1 cl pm X E (.For tg iter body [] pos) (jdG wi t ts) (wV pi b f) (jez pi b f x):=⟨jbc hp d hi.sem c.sem a.sem e,jaU hi.den c.den a.den,jeU hi.den c.den a.den a.dx⟩
theorem jd4:DS ⟨X.K,cl⟩ pm ts qU:=by intro _ _ _ _ _ _ _ _ e;cases e
variable {k n c:Nat}{fa:Addr}{fd:FuncData}{z qual:Str}{np cpos:Pos}{a1 a2:Expr}{es:List Expr}{t:TA}{pr:PAf}{ps:List Str}{m:List D->Option (Nat×Int)}{fst:Stmt}{p:Pos}
theorem Q9(l:Lv X E)(r:XR X.K (cl c) fa)(F:FnOk X.prog X.w X.K X.mg X.base CX0 k fa fd ["self","words","place"] (VJ X.K))(e:Room (k+1) X.A)(f:Binds X.K fd ["self","words","place"] [])(g:X.mg z=some (.ref (cl c)))
  (d:QPs cl X [a1,a2] t pr) (h:X.calm=true:=by rfl) (i:Gl X z:=by rfl) (a:(z==("__debug__" : Str))=false:=by decide) (j:starEach [a1,a2] X.env=(false,eval a1 X.env)::starEach [a2] X.env:=by rfl) (b:(backTo cpos (starEach [a2] X.env)).any (·.1)=false:=by rfl) :
  QX1 cl pm X E (.Raise (some (.Call (.Name z np) [a1,a2] [] cpos)) none pos) (wy (cl c) E t) qU (JA c pr):=⟨u3 l r F e f g d.sem h i a j b,jd4,jaG (R:=⟨X.K,cl⟩) d.den⟩
theorem jdK(l:Lv X E)(F:FnFact X.K X.mg z qual fst fa fd ps)(G:FnOk X.prog X.w X.K X.mg X.base (CXr X.prog X.w) k fa fd ps (spR ⟨X.K,cl⟩ m n))(d:Room k X.A)(a:QBs cl X (a1::es) t pr)(e:(a1::es).length=n:=by rfl)(f:Gl X z:=by rfl)(b:(z==("__debug__" : Str))=false:=by decide)
  (g:starEach (a1::es) X.env=(false,eval a1 X.env)::starEach es X.env:=by rfl) (c:(backTo cpos (starEach es X.env)).any (·.1)=false:=by rfl):QX1 cl pm X E (.Return (some (.Call (.Name z p) (a1::es) [] cpos)) pos) (jfc (zZ (spR ⟨X.K,cl⟩ m n) [] E t)) qU (xM m pr) :=
 ⟨jaX (xI G d f F.mgf F.fn.kp F.bd .nil (jfy l) a.sem b g c),jd4,zm a.den λρ h q=>(a.n ρ h q).trans e⟩
theorem zU{P:Program}{w:World}{K:PySem.W.Frag}{mg:Str->Option Value}{base:Heap}{N:List Str}{b:Scope}{a:Value}{A:Around}{outer:List Env}{s:Shared}{H:Hp} :
  PassesOwn (model P w) (zf (CXr P w) P w K mg base N qual b fa a A outer s H E).A (zf (CXr P w) P w K mg base N qual b fa a A outer s H E).env (zf (CXr P w) P w K mg base N qual b fa a A outer s H E).xe:=PassesOwn.leaving
end
def OkR(P:Program)(w:World)(K:PySem.W.Frag)(mg:Str->Option Value)(x:Str)(st:Stmt)(k:Nat)(ps:List Str)(sp:Sp):Prop:=∃ f fd,FnFact K mg x x st f fd ps/\∀ base,FnOk P w K mg base (CXr P w) k f fd ps sp
theorem jbZ{P:Program}{w:World}{K:PySem.W.Frag}{mg:Str->Option Value}{base:Heap}{x qual:Str}{st:Stmt}{f:Addr}{fd:FuncData}(F:Fun K x qual st f fd)(S:FnScope ["self","words","place"] ["self","words","place"] (jg st))
  (h:∀(cdv:Value) (A:Around) (outer:List Env) (s:Shared) (H:Hp) (E:XK),PSs (zf CX0 P w K mg base ["self","words","place"] qual (jg st) f cdv A outer s H E).nox (yg st) (jdg (ja8 K (vt (KH 0) (vt (KH 1) xf))) (jdF K (KH 0) (KH 2) "place"))) :
  FnOk P w K mg base CX0 1 f fd ["self","words","place"] (VJ K):=by
 refine F.ok S (λb H Q E h=>by obtain⟨_,_,_,_,rfl,_⟩:=h;rfl) λcdv A outer s H b Q E g d=>⟨_,h cdv A outer s H E,?_⟩;obtain⟨e,u,p,C,rfl,a,c,n,q⟩:=d;exact⟨_,rfl,_,rfl,e,u,C,rfl,a,c,_,rfl,_,rfl,e,C,rfl,a,c,n,λdx hd=>q dx hd⟩
theorem jaO{P:Program}{w:World}{K:PySem.W.Frag}{mg:Str->Option Value}{base:Heap}{N ps:List Str}{k n:Nat}{fa:Addr}{fd:FuncData}{x qual:Str}{fst:Stmt}{cl:Nat->Addr}{xs:FX}(F:Fun K x qual fst fa fd)(b:FnScope N ps (jg fst))(c:ps.length=n)
  (a:∀(cdv:Value) (A:Around) (outer:List Env) (s:Shared) (H:Hp) (E:XK),Room k (A.deeper (envOfC qual (jg fst) s.heap.objs.size fa cdv)) ->
   ∃ ts f,QXs cl [] (zf (CXr P w) P w K mg base N qual (jg fst) fa cdv A outer s H E) E (yg fst) ts f xs):FnOk P w K mg base (CXr P w) (k+1) fa fd ps (spR ⟨K,cl⟩ (fnR N.length xs) n) :=
 jet F b c λcdv A outer s H E d=>let ⟨ts,_,q⟩:=a cdv A outer s H E d;⟨ts,q.sem,q.dx⟩
def Ini(P:Program)(w:World)(K:PySem.W.Frag)(mg:Str->Option Value)(C f:Addr):Prop:=XR K C f/\∃ fd,Binds K fd ["self","words","place"] []/\∀ base,FnOk P w K mg base CX0 1 f fd ["self","words","place"] (VJ K)
theorem jat{K:PySem.W.Frag}{cl:Nat->Addr}{u:V}{b:Bool}(h:XC K (cl 0))(k:∀ cv,RelV u cv->xK K cv=true/\PySem.W.subIn K (.ref (cl 0)) cv=some b):JI K cl u [b]:=by
 intro c b' e
 match c,e with
 | 0,e=>cases e;exact⟨h,k⟩
theorem lt1{p:Nat->Prop}(h:p 0):∀ c,c < 1->p c:=λc a=>by
 obtain rfl:c=0:=by omega
 exact h
noncomputable def pLM(g:D->List D->Option D)(pa:PF)(pr:PAf):PF:=λρ=>match pa ρ with
 | some (.lst o l)=>(match pr ρ with
  | none=>none
  | some xs=>g (.lst o l) xs)
 | _=>none
theorem jfV{R:RC}{r:V->List V->Hp->VK->Prop}{g:D->List D->Option D}{to:TE}{ta:TA}{pa:PF}{pr:PAf}(h:BM R "list" r g)(i:PB R to pa)(j:PBs R ta pr):PP R (tBM R.K "list" r to ta) (pLM g pa pr):=by
 intro σ ρ Z H O d z s e Q k;unfold pLM at e;split at e
 ·rename_i o l m;cases e2:pr ρ with
  | none=>rw[e2] at e;cases e
  | some u =>
   rw[e2] at e;refine i z s m λ{v w x y} b f=>⟨?_,?_⟩
   ·obtain⟨a,n,A,rfl,_,sq⟩:=xq f;exact .inl ⟨rfl,_,sq⟩
   ·refine j b.wf.zd (b.slots z s) e2 λ{n B C E} c p=>?_;exact h c.wf.zd (c.rep b.wf.zd f) p e λq t=>k ((b.pair c).pair q) t
 ·cases e
section
variable {cl:Nat->Addr}{X:Cx}{o e:Expr}{es:List Expr}{to:TE}{po:PF}{tr:TA}{pr:PAf}{name:Str}{apos cpos:Pos}{id:String}{r:V->List V->Hp->VK->Prop}{g:D->List D->Option D}
theorem jgv(slot:Slot "list" name id)(f:typeOf (.builtin id)=pure (.type "method_descriptor"))(j:MtR X id r)(k:BM ⟨X.K,cl⟩ "list" r g)(h:QB cl X o to po)(i:QBs cl X (e::es) tr pr)
  (b:attributeBase o name X.env (eval o X.env)=eval o X.env:=by rfl)
  (d:((backTo cpos (starEach (e::es) X.env)).all (λx=>!x.1)&&(backToKw cpos (keywordEach [] X.env)).all (λx=>x.1.isSome)
   && decide ((e::es).length+([]:List Keyword).length+(if([]:List Keyword).isEmpty then 0 else 1) < 30))=true:=by rfl)
  (c:(apos.endLine==cpos.line)=true:=by rfl) (l:starEach (e::es) X.env=(false,eval e X.env)::starEach es X.env:=by rfl) (a:(backTo cpos (starEach es X.env)).any (·.1)=false:=by rfl) :
  QP cl X (.Call (.Attribute o name apos) (e::es) [] cpos) (tBM X.K "list" r to tr) (pLM g po pr) :=
 ⟨jbH PySem.F.plainAttrs_list slot f j h.sem i.sem b d c l a,jfV k h.den i.den⟩
end
theorem jeb{K:PySem.W.Frag}{nm q:Str}{C N:Addr}{bs bm:List Value}{sn:List Str}{sub:List Value}{ab:Bool}{col:Option Bool}{dd:Option Addr}{k0 k1 k2 k3 k5:Option Value}
  (h:K.lookup C=some (excClassObj nm q C N bs bm true sn sub ab col dd k0 k1 k2 k3 k5 "ValueError.__new__")) (t:JH bm=true):Vx K C=true:=by
 unfold Vx;rw[h];simp[t]
theorem YE{K:PySem.W.Frag}{C:Addr}{od:Option Addr}{cd:ClassData}{sl:Array (Option Value)}(h:K.lookup C=some ⟨.type "type",od,.cls cd,sl⟩):xK K (.ref C)=true:=by
 have a:PySem.W.clsIn K C=some cd:=by unfold PySem.W.clsIn;rw[h]
 have b:PySem.W.typeIn K (.ref C)=some (.type "type"):=by
  show(K.lookup C).map (·.cls)=_;rw[h];rfl
 show((PySem.W.clsIn K C).isSome&&PySem.W.typeIn K (.ref C)==some (.type "type"))=true;rw[a,b];rfl
theorem jgM{K:PySem.W.Frag}:xK K (.type "ValueError")=true:=by rfl
end QX
namespace K11
open PySem L2 QD QX
noncomputable def top(i:Nat):Stmt:=PySem.Challenge.pw_tranchefall_k11_debt_rows_refused.main.body.getD i (.Pass ⟨0,0,0,0⟩)
noncomputable abbrev ke:Stmt:=top 15
noncomputable abbrev kg:List Str:=["row"]
theorem J1:FnScope ["row"] kg (jg ke):=fsc
noncomputable abbrev vX:Stmt:=top 16
noncomputable abbrev vZ:List Str:=["word","signs"]
theorem Yp:FnScope ["word","signs"] vZ (jg vX):=fsc
noncomputable abbrev vx:Stmt:=top 27
noncomputable abbrev vy:List Str:=["_law_cell","_law_k"]
theorem JC:FnScope ["_law_cell","_law_k","_law_m"] vy (jg vx):=fsc
noncomputable abbrev vg:Stmt:=top 29
noncomputable abbrev vi:List Str:=["_law_cell","_law_way","_law_most_here"]
theorem VO:FnScope ["_law_cell","_law_way","_law_most_here"] vi (jg vg):=fsc
noncomputable abbrev yZ:Stmt:=top 30
noncomputable abbrev y0:List Str:=["_law_words","_law_m"]
theorem jV:FnScope ["_law_words","_law_m","_law_text","_law_k","_law_word"] y0 (jg yZ):=fsc
noncomputable abbrev vY:Stmt:=top 31
noncomputable abbrev vV:List Str:=["_law_caught"]
theorem kP:FnScope ["_law_caught","_law_kinds"] vV (jg vY):=fsc
noncomputable abbrev kf:Stmt:=top 33
noncomputable abbrev vU:List Str:=["_law_form_here","_law_at"]
theorem Qv:FnScope ["_law_form_here","_law_at"] vU (jg kf):=fsc
noncomputable abbrev jU:Stmt:=top 34
noncomputable abbrev jW:List Str:=["_law_name","_law_m"]
theorem jG:FnScope ["_law_name","_law_m","_law_words","_law_what","_law_at"] jW (jg jU):=fsc
noncomputable abbrev jO:Stmt:=top 35
noncomputable abbrev jM:List Str:=["_law_number","_law_most_here","_law_m"]
theorem j5:FnScope ["_law_number","_law_most_here","_law_m","_law_what","_law_figures"] jM (jg jO):=fsc
noncomputable abbrev qW:Stmt:=top 17
noncomputable abbrev qG:List Str:=["word"]
theorem zR:FnScope ["word"] qG (jg qW):=fsc
noncomputable abbrev vD:Stmt:=top 18
noncomputable abbrev vA:List Str:=["word"]
theorem VN:FnScope ["word"] vA (jg vD):=fsc
noncomputable abbrev vm:Stmt:=top 28
noncomputable abbrev vB:List Str:=["_law_cell","_law_many"]
theorem jw:FnScope ["_law_cell","_law_many","_law_m","_law_base","_law_some","_law_size","_law_at","_law_out","_law_k","_law_signs"] vB (jg vm):=fsc
noncomputable abbrev yV:Stmt:=top 36
noncomputable abbrev yY:List Str:=["_law_form_here","_law_m"]
theorem yi:FnScope ["_law_form_here","_law_m","_law_words","_law_at","_law_way"] yY (jg yV):=fsc
noncomputable abbrev vT:Stmt:=top 22
noncomputable abbrev v9:List Str:=["word","kind"]
theorem JY:FnScope ["word","kind","number"] v9 (jg vT):=fsc
noncomputable abbrev kh:Stmt:=top 32
noncomputable abbrev v8:List Str:=["_law_cell","_law_m"]
theorem vj:FnScope ["_law_cell","_law_m","_law_names_here","_law_one","_law_day"] v8 (jg kh):=fsc
noncomputable abbrev kl:Stmt:=top 21
noncomputable abbrev vW:List Str:=["words","kinds","place"]
theorem yR:FnScope ["words","kinds","place","told","word","kind","value"] vW (jg kl):=fsc
noncomputable abbrev yF:Stmt:=top 25
noncomputable abbrev yH:List Str:=["row","place"]
theorem kK:FnScope ["row","place","words"] yH (jg yF):=fsc
noncomputable abbrev Kn:Stmt:=top 37
noncomputable abbrev u8:List Str:=["_law_script"]
theorem kt:FnScope ["_law_script","_law_cells","_law_k","_law_cell","_law_m","_law_words","_law_place","_law_caught","error"] u8 (jg Kn):=fsc
noncomputable def v5:D:=.tup [.str [112,111,111,108],.str [99,108,97,105,109],.str [112,111,116],.str [101,97,116],.str [111,114,100,101,114],.str [112,97,114,116],.str [112,97,121],.str [115,104,97,114,101],.str [114,101,112,97,121],.str [102,105,108,108],.str [108,101,110,100],.str [98,97,99,107],.str [114,101,115,116],.str [108,111,111,107],.str [103,117,97,114,100],.str [100,101,98,116],.str [111,110],.str [108,97,116,101],.str [101,97,114,108,121],.str [113,117,105,116]]
noncomputable def ks_GREATEST:List KA:=[.str [99,111,105,110,115],.str [116,101,110,116,104,115],.str [100,97,121,115],.str [100,97,121],.str [98,121]]
noncomputable def yK:List D:=[.int 1000000000000,.int 10,.int 9,.int 60,.int 30]
noncomputable def ks_FORMS:List KA:=[.str [100,101,98,116],.str [111,110],.str [108,97,116,101],.str [101,97,114,108,121],.str [113,117,105,116]]
noncomputable def vC:List D:=[.tup [.str [110,97,109,101],.str [110,97,109,101]],.tup [.str [100,97,121],.str [99,111,105,110,115]],.tup [.str [110,97,109,101],.str [100,97,121],.str [98,121]],.tup [.str [110,97,109,101],.str [100,97,121]],.tup [.str [110,97,109,101],.str [100,97,121]]]
noncomputable def qY:FS:=(yj (dP (J0 (jaY (pBM "str" QF (pV 0) (jc (pC (.str [32])) pN))) (jJ [] 0) (jp (p2 Qp (pV 0) (pC (.str [])))) (pF (pV 0)) [none])))
noncomputable def y8:List D->Option D:=fnP 1 qY
noncomputable def Ju:FS:=(yj (dP (pCB jfr (jc (J0 (jaY (pV 0)) (jJ [] 0) qT (p2 (jaq false) (pV 0) (pV 1)) [none,some 1]) pN))))
noncomputable def y4:List D->Option D:=fnP 2 Ju
noncomputable def kY:FS:=(jK (yD (dP (p2 jy (p2 jq (p2 yP (p2 jy (pV 0) (pC (.int 2147483647))) (pC (.int 48271))) (p2 yP (p2 jq (p2 jq (p2 yP (pV 1) (pV 1)) (p2 yP (pC (.int 3)) (pV 1))) (pC (.int 7))) (pC (.int 69621)))) (pC (.int 2147483647)))) (jJ [] 2))
 (yj (dP (p2 jy (p2 yP (pV 2) (pV 2)) (pC (.int 2147483647))))))
noncomputable def ym:List D->Option D:=fnP 3 kY
noncomputable def qm:FS:=(jK (sIf (dPT (jp (p2 vF (p2 jy (pV 1) (pC (.int 5))) (pC (.int 0))))) (yj (dP (pC (.int 1))))
 jF)
 (jK (sIf (dPT (jp (p2 vF (p2 jy (pV 1) (pC (.int 5))) (pC (.int 1))))) (yj (dP (pF (pV 2))))
 jF)
 (jK (sIf (dPT (jp (p2 vF (p2 jy (pV 1) (pC (.int 5))) (pC (.int 2))))) (yj (dP (p2 jq (pC (.int 1)) (p2 jy (pV 0) (pC (.int 7))))))
 jF)
 (jK (sIf (dPT (jp (p2 vF (p2 jy (pV 1) (pC (.int 5))) (pC (.int 3))))) (yj (dP (p2 jq (pC (.int 1)) (p2 jy (pV 0) (pV 2)))))
 jF)
 (yj (dP (p2 jq (pC (.int 1)) (p2 jy (p2 yP (p2 yP (p2 jq (p2 jy (pV 0) (pV 2)) (pC (.int 1))) (p2 jq (pV 1) (pC (.int 48271)))) (pC (.int 99999999999999997))) (pV 2)))))))))
noncomputable def yn:List D->Option D:=fnP 3 qm
noncomputable def jI:FS:=(jK (sIf (dPT (jp (p2 jfU (pV 3) (pC (.int 0))))) (yD (dP (p2 jq (pV 2) (p2 yP (pC (.str [32])) (p2 jq (pC (.int 1)) (p2 jy (p2 j4 (pV 1) (p2 jq (pC (.int 3)) (pV 3))) (pC (.int 3))))))) (jJ [] 2))
 jF)
 (yD (dP (p2 jq (pV 2) (pV 4))) (jJ [] 2)))
noncomputable def vI:FS:=(jK (yD (dP (p2 yP (pC (.str [32])) (p2 jy (pV 1) (pC (.int 3))))) (jJ [] 2))
 (jK (wV (QA (jc (pF (pV 0)) pN)) (gT 2 (gC (jJ [] 3) (gC (jJ [] 4) gN))) jI)
 (yj (dP (p2 jq (pV 2) (p2 yP (pC (.str [32])) (p2 jy (p2 j4 (pV 1) (pC (.int 7))) (pC (.int 3)))))))))
noncomputable def yU:List D->Option D:=fnP 5 vI
noncomputable def YS:FS:=(jK (yD (dP (YF (jc (zX [true] (pV 0)) (jc (zX [false] (pV 0)) (jc (zX [false] (pV 0)) pN))))) (jJ [] 1))
 (jK (yD (dP (p2 jq (pV 1) (YF (jc (zX [false] (pV 0)) (jc (zX [false] (pV 0)) (jc (zX [false] (pV 0)) pN)))))) (jJ [] 1))
 (jK (ja0 1 (zX [false] (pV 0)))
 (jK (sIf (dPT (qOr (xn (jp (zX [true] (pV 0)))) (qOr (xn (jp (zX [true] (pV 0)))) (jp (p2 Qp (pLM Qu (pV 1) (jc (pC (.bl true)) pN)) (pC (.int 1))))))) (yj (dP (pC (.str [111,100,100]))))
 jF)
 (yj (dP (pF (p2 yE (YF (jc (pC (.str [98,97,100])) (jc (pC (.str [109,105,115,112,108,97,99,101,100])) (jc (pC (.str [117,110,102,105,110,105,115,104,101,100])) (jc (pC (.str [116,119,105,99,101])) (jc (pC (.str [110,111,110,97,109,101])) (jc (pC (.str [116,111,111,109,97,110,121])) (jc (pC (.str [117,110,103,117,97,114,100,101,100])) pN)))))))) (pLM Qc (pV 1) (jc (pC (.bl true)) pN))))))))))
noncomputable def Jm:List D->Option D:=fnP 2 YS
noncomputable def yp:FS:=(jK (sIf (dPT (uG (jp (p2 vF (p2 yE (pV 0) (pC (.int 0))) (pC (.str [111,110])))) (jp (p2 vF (pV 1) (pC (.int 2)))))) (yj (dP (p2 zo (pC (.int 10)) (pC (.int 12)))))
 jF)
 (jK (sIf (dPT (uG (jp (p2 vF (p2 yE (pV 0) (pC (.int 0))) (pC (.str [108,97,116,101])))) (jp (p2 vF (pV 1) (pC (.int 3)))))) (yj (dP (pC (.int 30))))
 jF)
 (yj (dP (pC (.int 60))))))
noncomputable def jY:List D->Option D:=fnP 2 yp
noncomputable def yt:FS:=(jK (yD (dP (YF (jc (pC (.str [112,111,111,108])) (jc (pC (.str [99,108,97,105,109])) (jc (pC (.str [112,111,116])) (jc (pC (.str [101,97,116])) (jc (pC (.str [111,114,100,101,114])) (jc (pC (.str [112,97,114,116])) (jc (pC (.str [112,97,121])) (jc (pC (.str [115,104,97,114,101])) (jc (pC (.str [114,101,112,97,121])) (jc (pC (.str [102,105,108,108])) (jc (pC (.str [108,101,110,100])) (jc (pC (.str [98,97,99,107])) pN)))))))))))))) (jJ [] 2))
 (jK (yD (dP (p2 jq (pV 2) (YF (jc (pC (.str [114,101,115,116])) (jc (pC (.str [108,111,111,107])) (jc (pC (.str [103,117,97,114,100])) (jc (pC (.str [100,101,98,116])) (jc (pC (.str [111,110])) (jc (pC (.str [108,97,116,101])) (jc (pC (.str [101,97,114,108,121])) (jc (pC (.str [113,117,105,116])) pN))))))))))) (jJ [] 2))
 (jK (yD (dP (p2 jy (pV 1) (pC (.int 4)))) (jJ [] 3))
 (jK (yD (dP (p2 jy (p2 j4 (pV 1) (pC (.int 4))) (pCB JP (jc (pV 0) pN)))) (jJ [] 4))
 (jK (sIf (dPT (jp (p2 vF (pV 3) (pC (.int 0))))) (yj (dP (pF (p2 yE (pV 2) (p2 jy (p2 j4 (pV 1) (pC (.int 32))) (pC (.int 20)))))))
 jF)
 (jK (sIf (dPT (jp (p2 vF (pV 3) (pC (.int 1))))) (yj (dP (p2 jq (p2 jq (pSl (pV 0) oN (oS (pV 4))) (p2 yE (pC (.str [65,66,88,89,90])) (p2 jy (p2 j4 (pV 1) (pC (.int 32))) (pC (.int 5))))) (pSl (pV 0) (oS (p2 jq (pV 4) (pC (.int 1)))) oN))))
 jF)
 (jK (sIf (dPT (jp (p2 vF (pV 3) (pC (.int 2))))) (yj (dP (p2 jq (p2 jq (pSl (pV 0) oN (oS (pV 4))) (p2 yE (pC (.str [48,49,53,57,45,95,46])) (p2 jy (p2 j4 (pV 1) (pC (.int 32))) (pC (.int 7))))) (pSl (pV 0) (oS (p2 jq (pV 4) (pC (.int 1)))) oN))))
 jF)
 (yj (dP (p2 jq (pV 0) (pSl (pC (.str [113,114,115,116,117,118,119,120,122])) oN (oS (p2 YC (pC (.int 9)) (pCB JP (jc (pV 0) pN)))))))))))))))
noncomputable def ju:List D->Option D:=fnP 5 yt
noncomputable def jm:FS:=(jK (yD (dP (p2 jy (pV 2) (pC (.int 7)))) (jJ [] 3))
 (jK (yD (dP (pCB zO (jc (pV 0) pN))) (jJ [] 4))
 (jK (sIf (dPT (jp (p2 vF (pV 3) (pC (.int 0))))) (yj (dP (pC (.str [48]))))
 jF)
 (jK (sIf (dPT (jp (p2 vF (pV 3) (pC (.int 1))))) (yj (dP (pCB zO (jc (p2 jq (p2 jq (pV 1) (pC (.int 1))) (p2 jy (p2 j4 (pV 2) (pC (.int 7))) (pC (.int 3)))) pN))))
 jF)
 (jK (sIf (dPT (jp (p2 vF (pV 3) (pC (.int 2))))) (yj (dP (p2 jq (pC (.str [48])) (pV 4))))
 jF)
 (jK (sIf (dPT (jp (p2 vF (pV 3) (pC (.int 3))))) (yj (dP (p2 jq (p2 yE (pC (.str [43,45])) (p2 jy (p2 j4 (pV 2) (pC (.int 7))) (pC (.int 2)))) (pV 4))))
 jF)
 (jK (sIf (dPT (jp (p2 vF (pV 3) (pC (.int 4))))) (yj (dP (p2 jq (pV 4) (p2 yE (pC (.str [97,120,46,44])) (p2 jy (p2 j4 (pV 2) (pC (.int 7))) (pC (.int 4)))))))
 jF)
 (jK (sIf (dPT (jp (p2 vF (pV 3) (pC (.int 5))))) (yj (dP (p2 jq (pC (.str [49])) (p2 yP (pC (.str [48])) (pC (.int 13))))))
 jF)
 (yj (dP (p2 jq (pC (.str [120])) (pSl (pV 4) (oS (pC (.int 1))) oN))))))))))))
noncomputable def jk:List D->Option D:=fnP 5 jm
noncomputable def y9:FS:=(jK (sIf (dPT (xn (jp (JB jco jco (pC (.int 1)) (pCB JP (jc (pV 0) pN)) (pC (.int 8)))))) (yj (dP (pC (.bl false))))
 jF)
 (yj (dP (jdf (yr y4 (jc (pV 0) (jc (pC (.str [97,98,99,100,101,102,103,104,105,106,107,108,109,110,111,112,113,114,115,116,117,118,119,120,121,122])) pN))) (p2 (jaq true) (pV 0) (pC v5))))))
noncomputable def jR:List D->Option D:=fnP 1 y9
noncomputable def jT:FS:=(jK (sIf (dPT (qOr (xn (jp (JB jco jco (pC (.int 1)) (pCB JP (jc (pV 0) pN)) (pC (.int 13))))) (xn (jp (yr y4 (jc (pV 0) (jc (pC (.str [48,49,50,51,52,53,54,55,56,57])) pN))))))) (yj (dP (pC .non)))
 jF)
 (jK (sIf (dPT (uG (jp (p2 vF (p2 yE (pV 0) (pC (.int 0))) (pC (.str [48])))) (jp (p2 Qp (pV 0) (pC (.str [48])))))) (yj (dP (pC .non)))
 jF)
 (yj (dP (pCB jfq (jc (pV 0) pN))))))
noncomputable def js:List D->Option D:=fnP 1 jT
noncomputable def yG:FS:=(jK (yD (dP (J0 (VY (jc (pV 5) pN)) (jJ [] 0) qT (pF (pV 1)) [none,some 3])) (jJ [] 9))
 (jK (yD (dP (pF (p2 yE (pV 4) (p2 jy (p2 jq (p2 j4 (pV 2) (pC (.int 4200))) (p2 yP (pC (.int 3)) (pV 8))) (pC (.int 20)))))) (gIx [] 9 (pV 6)))
 (jK (yD (dP (pF (p2 yE (pV 4) (p2 jy (p2 jq (p2 j4 (pV 2) (pC (.int 84000))) (p2 j4 (pV 8) (pC (.int 20)))) (pC (.int 20)))))) (gIx [] 9 (p2 jy (p2 jq (pV 6) (pC (.int 1))) (pV 5))))
 (ja0 7 (pBM "str" xV (pC (.str [])) (jc (pV 9) pN))))))
noncomputable def vv:FS:=(jK (yD (dP (yr ym (jc (pV 0) (jc (pC (.int 3)) pN)))) (jJ [] 2))
 (jK (yD (dP (pF (p2 yE (pC (.str [97,98,99,100,101,102,103,104,105,106,107,108,109,110,112,113,114,115,116,117,118,119,120,121,122])) (p2 jy (pV 2) (pC (.int 25)))))) (jJ [] 3))
 (jK (yD (dP (pC (.str [98,99,100,102,103,104,106,107,108,109,110,112,113,114,115,116,118,119,120,122]))) (jJ [] 4))
 (jK (sIf (dPT (uG (jp (p2 vF (p2 jy (p2 j4 (pV 2) (pC (.int 25))) (pC (.int 3))) (pC (.int 0)))) (jp (p2 jgC (pV 1) (pC (.int 9)))))) (yj (dP (J0 (VY (jc (pV 1) pN)) (jJ [] 0) qT (p2 yP (pV 1) (p2 YC (pV 2) (pV 0))) [none,some 3,some 1])))
 jF)
 (jK (yD (dP (p2 jq (pC (.int 2)) (p2 jy (p2 j4 (pV 2) (pC (.int 75))) (pC (.int 7))))) (jJ [] 5))
 (jK (yD (dP (p2 jy (p2 j4 (pV 2) (pC (.int 525))) (pV 5))) (jJ [] 6))
 (jK (yD (dP (YF pN)) (jJ [] 7))
 (jK (wV (VY (jc (pV 1) pN)) (jJ [] 8) yG)
 (yj (dMv 7))))))))))
noncomputable def yu:List D->Option D:=fnP 10 vv
noncomputable def jS:FS:=(jK (yD (dP (J0 (jaY (pV 0)) (jJ [] 0) qT (pCB zO (jc (pV 0) pN)) [none])) (jJ [] 2))
 (jK (yD (dP (p2 jy (pV 1) (pCB JP (jc (pV 0) pN)))) (jJ [] 3))
 (jK (yD (dP (p2 jy (p2 j4 (pV 1) (pC (.int 4))) (pC (.int 5)))) (jJ [] 4))
 (jK (sIf (dPT (uG (jp (p2 vF (pV 4) (pC (.int 0)))) (jp (p2 jfU (pV 3) (pC (.int 0)))))) (yj (dP (p2 jq (pSl (pV 2) oN (oS (pV 3))) (pSl (pV 2) (oS (p2 jq (pV 3) (pC (.int 1)))) oN))))
 jF)
 (jK (sIf (dPT (jp (p2 vF (pV 4) (pC (.int 1))))) (yj (dP (p2 jq (p2 jq (pSl (pV 2) oN (oS (p2 jq (pV 3) (pC (.int 1))))) (YF (jc (pF (p2 yE (pV 2) (pV 3))) pN))) (pSl (pV 2) (oS (p2 jq (pV 3) (pC (.int 1)))) oN))))
 jF)
 (jK (sIf (dPT (jp (p2 vF (pV 3) (pC (.int 0))))) (yj (dP (p2 jq (YF (jc (p2 jq (p2 yE (pV 2) (pC (.int 0))) (pC (.str [115]))) pN)) (pSl (pV 2) (oS (pC (.int 1))) oN))))
 jF)
 (jK (sIf (dPT (jp (ja9 "str" (p2 yE (pV 0) (pV 3))))) (yD (dP (yr ju (jc (p2 yE (pV 0) (pV 3)) (jc (p2 j4 (pV 1) (pC (.int 20))) pN)))) (gIx [] 2 (pV 3)))
 (yD (dP (yr jk (jc (p2 yE (pV 0) (pV 3)) (jc (yr jY (jc (pV 0) (jc (pV 3) pN))) (jc (p2 j4 (pV 1) (pC (.int 20))) pN))))) (gIx [] 2 (pV 3))))
 (yj (dMv 2)))))))))
noncomputable def jD:List D->Option D:=fnP 5 jS
noncomputable def yc:FS:=(jK (sIf (dPT (jp (p2 vF (pV 1) (pC (.str [110,97,109,101]))))) (yj (dP (pIf (jp (yr jR (jc (pV 0) pN))) (pF (pV 0)) (pC .non))))
 jF)
 (jK (yD (dP (yr js (jc (pV 0) pN))) (jJ [] 2))
 (jK (sIf (dPT (qOr (jp (p2 Yh (pV 2) (pC .non))) (xn (jp (JB jco jco (pC (.int 1)) (pV 2) (jfp ks_GREATEST yK (pV 1))))))) (yj (dP (pC .non)))
 jF)
 (yj (dP (pF (pV 2)))))))
noncomputable def jl:List D->Option D:=fnP 3 yc
noncomputable def yo:FS:=(jK (yD (dP (yr yu (jc (pV 0) (jc (pC (.int 4)) pN)))) (jJ [] 2))
 (jK (yD (dP (pF (p2 yE (pV 2) (p2 jy (p2 j4 (pV 1) (pC (.int 5))) (pC (.int 4)))))) (jJ [] 3))
 (jK (yD (dP (yr yn (jc (pV 0) (jc (p2 jy (p2 j4 (pV 1) (pC (.int 20))) (pC (.int 1009))) (jc (pC (.int 60)) pN))))) (jJ [] 4))
 (jK (sIf (dPT (jp (p2 vF (p2 jy (pV 1) (pC (.int 5))) (pC (.int 0))))) (yj (dP (YF (jc (pC (.str [100,101,98,116])) (jc (pF (pV 3)) (jc (pF (p2 yE (pV 2) (p2 jy (p2 j4 (pV 1) (pC (.int 21))) (pC (.int 4))))) pN))))))
 jF)
 (jK (sIf (dPT (jp (p2 vF (p2 jy (pV 1) (pC (.int 5))) (pC (.int 1))))) (yj (dP (YF (jc (pC (.str [111,110])) (jc (pF (pV 4)) (jc (yr yn (jc (pV 0) (jc (p2 jy (p2 j4 (pV 1) (pC (.int 22))) (pC (.int 997))) (jc (p2 zo (pC (.int 10)) (pC (.int 12))) pN)))) pN))))))
 jF)
 (jK (sIf (dPT (jp (p2 vF (p2 jy (pV 1) (pC (.int 5))) (pC (.int 2))))) (yj (dP (YF (jc (pC (.str [108,97,116,101])) (jc (pF (pV 3)) (jc (pF (pV 4)) (jc (yr yn (jc (pV 0) (jc (p2 jy (p2 j4 (pV 1) (pC (.int 23))) (pC (.int 991))) (jc (pC (.int 30)) pN)))) pN)))))))
 jF)
 (yj (dP (YF (jc (pF (p2 yE (YF (jc (pC (.str [101,97,114,108,121])) (jc (pC (.str [113,117,105,116])) pN))) (p2 jy (p2 j4 (pV 1) (pC (.int 24))) (pC (.int 2))))) (jc (pF (pV 3)) (jc (pF (pV 4)) pN))))))))))))
noncomputable def yd:List D->Option D:=fnP 5 yo
noncomputable def yI:FS:=(jK (yD (dP (yr jl (jc (pV 4) (jc (pV 5) pN)))) (jJ [] 6))
 (jK (sIf (dPT (jp (p2 Yh (pV 6) (pC .non)))) qU jF)
 (ja0 3 (pF (pV 6)))))
noncomputable def yJ:FX:=(KG xN (yD (dP (yr jl (jc (pV 4) (jc (pV 5) pN)))) (jJ [] 6))
 (KG (xIf (jp (p2 Yh (pV 6) (pC .non))) (JA 0 (jc (jfj 4) (jc (pF (pV 2)) pN))) xN) (sIf (dPT (jp (p2 Yh (pV 6) (pC .non)))) qU jF)
 xN))
noncomputable def zM:FS:=(jK (sIf (dPT (qOr (jp (p2 Yh (pV 1) (pC .non))) (jp (p2 Qp (pCB JP (jc (pV 1) pN)) (p2 YC (pCB JP (jc (pV 0) pN)) (pC (.int 1))))))) qU jF)
 (jK (yD (dP (YF (jc (pF (p2 yE (pV 0) (pC (.int 0)))) pN))) (jJ [] 3))
 (jK (wV (jbe (jc (pSl (pV 0) (oS (pC (.int 1))) oN) (jc (pF (pV 1)) pN))) (gT 2 (gC (jJ [] 4) (gC (jJ [] 5) gN))) yI)
 (yj (dMv 3)))))
noncomputable def y6:FX:=(KG (xIf (qOr (jp (p2 Yh (pV 1) (pC .non))) (jp (p2 Qp (pCB JP (jc (pV 1) pN)) (p2 YC (pCB JP (jc (pV 0) pN)) (pC (.int 1)))))) (JA 0 (jc (pC (.str [116,104,101,32,114,111,119,32,104,97,115,32,110,111,32,102,111,114,109,32,116,104,97,116,32,97,32,114,111,119,32,109,97,121,32,104,97,118,101])) (jc (pF (pV 2)) pN))) xN) (sIf (dPT (qOr (jp (p2 Yh (pV 1) (pC .non))) (jp (p2 Qp (pCB JP (jc (pV 1) pN)) (p2 YC (pCB JP (jc (pV 0) pN)) (pC (.int 1))))))) qU jF)
 (KG xN (yD (dP (YF (jc (pF (p2 yE (pV 0) (pC (.int 0)))) pN))) (jJ [] 3))
 (KG (jez (jbe (jc (pSl (pV 0) (oS (pC (.int 1))) oN) (jc (pF (pV 1)) pN))) (gT 2 (gC (jJ [] 4) (gC (jJ [] 5) gN))) yI yJ) (wV (jbe (jc (pSl (pV 0) (oS (pC (.int 1))) oN) (jc (pF (pV 1)) pN))) (gT 2 (gC (jJ [] 4) (gC (jJ [] 5) gN))) yI)
 xN)))
noncomputable def jX:List D->Option (Nat×Int):=fnR 7 y6
noncomputable def Y4:FS:=(jK (yD (dP (yr y8 (jc (pV 0) pN))) (jJ [] 2))
 (jK (sIf (dPT (jp (p2 vF (pCB JP (jc (pV 2) pN)) (pC (.int 0))))) (yj (dP (pC .non))) jF)
 qU))
noncomputable def vw:FX:=(KG xN (yD (dP (yr y8 (jc (pV 0) pN))) (jJ [] 2))
 (KG (xIf (jp (p2 vF (pCB JP (jc (pV 2) pN)) (pC (.int 0)))) xN xN) (sIf (dPT (jp (p2 vF (pCB JP (jc (pV 2) pN)) (pC (.int 0))))) (yj (dP (pC .non))) jF)
 (xM jX (jc (pV 2) (jc (jac ks_FORMS vC (p2 yE (pV 2) (pC (.int 0)))) (jc (pV 1) pN))))))
noncomputable def yh:List D->Option (Nat×Int):=fnR 3 vw
noncomputable def Vc:FS:=(jK (yD (dP (yr ym (jc (pV 3) (jc (pV 2) pN)))) (jJ [] 4))
 (jK (yD (dP (yr jD (jc (yr yd (jc (pV 3) (jc (pV 4) pN))) (jc (yr ym (jc (pV 3) (jc (p2 jq (pV 2) (pC (.int 70))) pN))) pN)))) (jJ [] 5))
 (jK (yD (dP (p2 jq (pC (.int 1)) (p2 jy (pV 4) (pC (.int 400))))) (jJ [] 6))
 (jK (yD (dP (pC .non)) (jJ [] 7))
 (jK (jeX yh 1 7 8 (jc (yr yU (jc (pV 5) (jc (p2 j4 (pV 4) (pC (.int 8))) pN))) (jc (pV 6) pN)))
 (jK (sIf (dPT (qOr (jp (p2 Yh (pV 7) (pC .non))) (jp (p2 Qp (yr Jm (jc (pV 7) pN)) (pC (.str [98,97,100])))))) (yj (dP (pC (.bl false))))
 jF)
 (sIf (dPT (qOr (xn (jp (ja9 "int" (YY 1 (pV 7))))) (qOr (jp (ja9 "bool" (YY 1 (pV 7)))) (jp (p2 Qp (YY 1 (pV 7)) (pV 6)))))) (yj (dP (pC (.bl false))))
 jF)))))))
noncomputable def u0:FS:=(jK (yD (dP (pCB uE (jc (pV 0) pN))) (jJ [] 1))
 (jK (sIf (dPT (jp (p2 vF (pCB JP (jc (pV 1) pN)) (pC (.int 0))))) (yD (dP (YF (jc (pC (.int 0)) pN))) (jJ [] 1))
 jF)
 (jK (sFz 1 (wV (QA (jc (pF (pV 1)) pN)) (gT 2 (gC (jJ [] 2) (gC (jJ [] 3) gN))) Vc))
 (yj (dP (pC (.bl true)))))))
noncomputable def K2:List D->Option D:=fnP 9 u0
noncomputable abbrev ja4:Stmt:=jbX (top 1) 0
theorem jby:FnScope ["self","words","place"] ["self","words","place"] (jg ja4):=fsc
structure Txt(P:Program)(w:World)(K:PySem.W.Frag)(mg:Str->Option Value)(cl:Nat->Addr)(t_LONGEST_NAME:Tok)(jj:Addr)(t_LETTERS:Tok)(t_LONGEST_NUMBER:Tok)(t_FIGURES:Tok)(ji:Addr)(jv:Addr)(b_FORMS_0:Addr)(b_FORMS_1:Addr)(b_FORMS_2:Addr)(b_FORMS_3:Addr)(b_FORMS_4:Addr)(jZ:Addr)(x_Unfinished:Addr)(x_Misplaced:Addr)(x_TooMany:Addr)(x_NoName:Addr)(x_Twice:Addr)(x_Unguarded:Addr)(x_DealError:Addr):Prop where
 c_LONGEST_NAME:mg "LONGEST_NAME" = some (.int 8 t_LONGEST_NAME)
 c_KEYWORDS:mg "KEYWORDS" = some (.ref jj)
 r_KEYWORDS:∀(cl:Nat->Addr) (Z:Zn) (H:Hp),Rep ⟨K,cl⟩ Z H v5 (.ref jj) []
 c_LETTERS:mg "LETTERS" = some (.str "abcdefghijklmnopqrstuvwxyz" t_LETTERS)
 c_LONGEST_NUMBER:mg "LONGEST_NUMBER" = some (.int 13 t_LONGEST_NUMBER)
 c_FIGURES:mg "FIGURES" = some (.str "0123456789" t_FIGURES)
 c_GREATEST:mg "GREATEST" = some (.ref ji)
 k_GREATEST:KD P w K ji ((ks_GREATEST.map kaV).zip [.int 1000000000000,.int 10,.int 9,.int 60,.int 30])
 r_GREATEST:∀(cl:Nat->Addr) (Z:Zn) (H:Hp),Reps ⟨K,cl⟩ Z H yK [.int 1000000000000,.int 10,.int 9,.int 60,.int 30] []
 c_FORMS:mg "FORMS" = some (.ref jv)
 k_FORMS:KD P w K jv ((ks_FORMS.map kaV).zip [.ref b_FORMS_0,.ref b_FORMS_1,.ref b_FORMS_2,.ref b_FORMS_3,.ref b_FORMS_4])
 r_FORMS:∀(cl:Nat->Addr) (Z:Zn) (H:Hp),Reps ⟨K,cl⟩ Z H vC [.ref b_FORMS_0,.ref b_FORMS_1,.ref b_FORMS_2,.ref b_FORMS_3,.ref b_FORMS_4] []
 n_ValueError:mg "ValueError" = none
 n_all:mg "all" = none
 n_bool:mg "bool" = none
 n_enumerate:mg "enumerate" = none
 n_int:mg "int" = none
 n_isinstance:mg "isinstance" = none
 n_len:mg "len" = none
 n_list:mg "list" = none
 n_range:mg "range" = none
 n_str:mg "str" = none
 n_zip:mg "zip" = none
 g_Unfinished:mg "Unfinished" = some (.ref x_Unfinished)
 g_Misplaced:mg "Misplaced" = some (.ref x_Misplaced)
 g_BadRow:mg "BadRow" = some (.ref (cl 0))
 g_TooMany:mg "TooMany" = some (.ref x_TooMany)
 g_NoName:mg "NoName" = some (.ref x_NoName)
 g_Twice:mg "Twice" = some (.ref x_Twice)
 g_Unguarded:mg "Unguarded" = some (.ref x_Unguarded)
 g_DealError:mg "DealError" = some (.ref x_DealError)
 ini:Ini P w K mg (cl 0) jZ
 XD:XC K x_DealError
 sub0:∀ c,c < 1->XC K (cl c)/\PySem.W.subIn K (.ref (cl c)) (.ref x_DealError)=some true
 pl0:∀ c,c < 1->XC K (cl c)/\YT K (cl c) "place"
 i_Unfinished:JI K cl (.ref x_Unfinished) [false]
 i_Misplaced:JI K cl (.ref x_Misplaced) [false]
 i_BadRow:JI K cl (.ref (cl 0)) [true]
 i_TooMany:JI K cl (.ref x_TooMany) [false]
 i_NoName:JI K cl (.ref x_NoName) [false]
 i_Twice:JI K cl (.ref x_Twice) [false]
 i_Unguarded:JI K cl (.ref x_Unguarded) [false]
 i_DealError:JI K cl (.ref x_DealError) [true]
 i_ValueError:JI K cl (.ty "ValueError") [true]
section
variable (P:Program)(w:World)(K:PySem.W.Frag)(mg:Str->Option Value)(cl:Nat->Addr)
noncomputable abbrev YZ:Prop:=OkF P w K mg "words_in" ke 1 kg (spP ⟨K,cl⟩ y8 1)
noncomputable abbrev Js:Prop:=OkF P w K mg "has_only" vX 1 vZ (spP ⟨K,cl⟩ y4 2)
noncomputable abbrev qc:Prop:=OkF P w K mg "_law_mixed" vx 1 vy (spP ⟨K,cl⟩ ym 2)
noncomputable abbrev J9:Prop:=OkF P w K mg "_law_coins" vg 1 vi (spP ⟨K,cl⟩ yn 3)
noncomputable abbrev Jz:Prop:=OkF P w K mg "_law_spaced" yZ 1 y0 (spP ⟨K,cl⟩ yU 2)
noncomputable abbrev YJ:Prop:=OkF P w K mg "_law_kind" vY 1 vV (spP ⟨K,cl⟩ Jm 1)
noncomputable abbrev YK:Prop:=OkF P w K mg "_law_most" kf 1 vU (spP ⟨K,cl⟩ jY 2)
noncomputable abbrev va:Prop:=OkF P w K mg "_law_name_spoilt" jU 1 jW (spP ⟨K,cl⟩ ju 2)
noncomputable abbrev yO:Prop:=OkF P w K mg "_law_number_spoilt" jO 1 jM (spP ⟨K,cl⟩ jk 3)
noncomputable abbrev VR:Prop:=OkF P w K mg "is_name" qW 2 qG (spP ⟨K,cl⟩ jR 1)
noncomputable abbrev Yk:Prop:=OkF P w K mg "number_in" vD 2 vA (spP ⟨K,cl⟩ js 1)
noncomputable abbrev Yv:Prop:=OkF P w K mg "_law_names" vm 2 vB (spP ⟨K,cl⟩ yu 2)
noncomputable abbrev Jy:Prop:=OkF P w K mg "_law_spoilt" yV 2 yY (spP ⟨K,cl⟩ jD 2)
noncomputable abbrev YO:Prop:=OkF P w K mg "value_in" vT 3 v9 (spP ⟨K,cl⟩ jl 2)
noncomputable abbrev YN:Prop:=OkF P w K mg "_law_form" kh 3 v8 (spP ⟨K,cl⟩ yd 2)
noncomputable abbrev YW:Prop:=OkR P w K mg "row_told" kl 4 vW (spR ⟨K,cl⟩ jX 3)
noncomputable abbrev qu:Prop:=OkR P w K mg "debt_row_of" yF 5 yH (spR ⟨K,cl⟩ yh 2)
noncomputable abbrev jgp:Prop:=OkF P w K mg "law" Kn 6 u8 (spP ⟨K,cl⟩ K2 1)
end
section
variable {P:Program}{w:World}{K:PySem.W.Frag}{mg:Str->Option Value}{cl:Nat->Addr}{t_LONGEST_NAME:Tok}{jj:Addr}{t_LETTERS:Tok}{t_LONGEST_NUMBER:Tok}{t_FIGURES:Tok}{ji:Addr}{jv:Addr}{b_FORMS_0:Addr}{b_FORMS_1:Addr}{b_FORMS_2:Addr}{b_FORMS_3:Addr}{b_FORMS_4:Addr}{jZ:Addr}{x_Unfinished:Addr}{x_Misplaced:Addr}{x_TooMany:Addr}{x_NoName:Addr}{x_Twice:Addr}{x_Unguarded:Addr}{x_DealError:Addr}
theorem K8(T:Txt P w K mg cl t_LONGEST_NAME jj t_LETTERS t_LONGEST_NUMBER t_FIGURES ji jv b_FORMS_0 b_FORMS_1 b_FORMS_2 b_FORMS_3 b_FORMS_4 jZ x_Unfinished x_Misplaced x_TooMany x_NoName x_Twice x_Unguarded x_DealError):vH K mg "words_in" ke kg->YZ P w K mg cl:=by
 intro a;obtain⟨_,_,F⟩:=a;exact⟨_,_,F,λbase=>km F.fn J1 rfl λb A outer s H E c=>⟨_,show QSs _ _ _ _ _ qY from
  (jf (jn (QP.d (Qd (bkF J1 ["word"]) rfl (K3 (QP.bb (jgD PySem.F.plainAttrs_str PySem.F.slot_str_split PySem.F.type_str_split jao jah (ja 0) (jd (QP.bb qS) jr)))) cgN (λ_ _ _ _=>(jad (jt (QK.c_ne (K:=K) rfl c) (ja 0) (QP.bb qS)))) (λ_ _ _ _=>(QB.f (ja 0)))))))⟩⟩
theorem Qj(T:Txt P w K mg cl t_LONGEST_NAME jj t_LETTERS t_LONGEST_NUMBER t_FIGURES ji jv b_FORMS_0 b_FORMS_1 b_FORMS_2 b_FORMS_3 b_FORMS_4 jZ x_Unfinished x_Misplaced x_TooMany x_NoName x_Twice x_Unguarded x_DealError):vH K mg "has_only" vX vZ->Js P w K mg cl:=by
 intro a;obtain⟨_,_,F⟩:=a;exact⟨_,_,F,λbase=>km F.fn Yp rfl λb A outer s H E c=>⟨_,show QSs _ _ _ _ _ Ju from
  (jf (jn (QP.d (wO (uQ rfl) jej T.n_all xQ (jd (QP.bb (Qd (bkF Yp ["sign","signs"]) rfl (K3 (ja 0)) cgN jfh (λ_ _ _ _=>(jdS (QK.c_in (K:=K) rfl (by with_unfolding_all rfl)) (ja 0) (ja 1))))) jr)))))⟩⟩
theorem Ki(T:Txt P w K mg cl t_LONGEST_NAME jj t_LETTERS t_LONGEST_NUMBER t_FIGURES ji jv b_FORMS_0 b_FORMS_1 b_FORMS_2 b_FORMS_3 b_FORMS_4 jZ x_Unfinished x_Misplaced x_TooMany x_NoName x_Twice x_Unguarded x_DealError):vH K mg "_law_mixed" vx vy->qc P w K mg cl:=by
 intro a;obtain⟨_,_,F⟩:=a;exact⟨_,_,F,λbase=>km F.fn JC rfl λb A outer s H E c=>⟨_,show QSs _ _ _ _ _ kY from
  (jb (jC JC.nd (QP.d (jL (QP.bb (jH (QP.bb (Jd (QP.bb (jL (ja 0) qI)) qI)) (QP.bb (Jd (QP.bb (jH (QP.bb (jH (QP.bb (Jd (ja 1) (ja 1))) (QP.bb (Jd qI (ja 1))))) qI)) qI)))) qI)))
  (jf (jn (QP.d (jL (QP.bb (Jd (ja 2) (ja 2))) qI)))))⟩⟩
theorem V1(T:Txt P w K mg cl t_LONGEST_NAME jj t_LETTERS t_LONGEST_NUMBER t_FIGURES ji jv b_FORMS_0 b_FORMS_1 b_FORMS_2 b_FORMS_3 b_FORMS_4 jZ x_Unfinished x_Misplaced x_TooMany x_NoName x_Twice x_Unguarded x_DealError):vH K mg "_law_coins" vg vi->J9 P w K mg cl:=by
 intro b;obtain⟨_,_,F⟩:=b;exact⟨_,_,F,λbase=>km F.fn VO rfl λc A outer s H E a=>⟨_,show QSs _ _ _ _ _ qm from
  (jb (j0 (jt (qX a) (QP.bb (jL (ja 1) qI)) qI) (jf (jn (QP.d xL)))
  jo)
  (jb (j0 (jt (qX a) (QP.bb (jL (ja 1) qI)) qI) (jf (jn (QP.d (QB.f (ja 2)))))
  jo)
  (jb (j0 (jt (qX a) (QP.bb (jL (ja 1) qI)) qI) (jf (jn (QP.d (jH qI (QP.bb (jL (ja 0) qI))))))
  jo)
  (jb (j0 (jt (qX a) (QP.bb (jL (ja 1) qI)) qI) (jf (jn (QP.d (jH qI (QP.bb (jL (ja 0) (ja 2)))))))
  jo)
  (jf (jn (QP.d (jH qI (QP.bb (jL (QP.bb (Jd (QP.bb (Jd (QP.bb (jH (QP.bb (jL (ja 0) (ja 2))) qI)) (QP.bb (jH (ja 1) qI)))) qI)) (ja 2)))))))))))⟩⟩
theorem Vk(T:Txt P w K mg cl t_LONGEST_NAME jj t_LETTERS t_LONGEST_NUMBER t_FIGURES ji jv b_FORMS_0 b_FORMS_1 b_FORMS_2 b_FORMS_3 b_FORMS_4 jZ x_Unfinished x_Misplaced x_TooMany x_NoName x_Twice x_Unguarded x_DealError):vH K mg "_law_spaced" yZ y0->Jz P w K mg cl:=by
 intro a;obtain⟨_,_,F⟩:=a;exact⟨_,_,F,λbase=>km F.fn jV rfl λb A outer s H E c=>⟨_,show QSs _ _ _ _ _ vI from
  (jb (jC jV.nd (QP.d (Jd (QP.bb qS) (QP.bb (jL (ja 1) qI)))))
  (jb (xS PassesOwn.never rfl (wb T.n_enumerate (je (QB.f (ja 0)) ye)) (wA rfl (kd (vR jV.nd) (kd (vR jV.nd) K9)))
  (jb (j0 (jt jgz (ja 3) qI) (jf (jC jV.nd (QP.d (jH (ja 2) (QP.bb (Jd (QP.bb qS) (QP.bb (jH qI (QP.bb (jL (QP.bb (yB (ja 1) (QP.bb (jH qI (ja 3))))) qI))))))))))
  jo)
  (jf (jC jV.nd (QP.d (jH (ja 2) (ja 4)))))))
  (jf (jn (QP.d (jH (ja 2) (QP.bb (Jd (QP.bb qS) (QP.bb (jL (QP.bb (yB (ja 1) qI)) qI))))))))))⟩⟩
theorem KQ(T:Txt P w K mg cl t_LONGEST_NAME jj t_LETTERS t_LONGEST_NUMBER t_FIGURES ji jv b_FORMS_0 b_FORMS_1 b_FORMS_2 b_FORMS_3 b_FORMS_4 jZ x_Unfinished x_Misplaced x_TooMany x_NoName x_Twice x_Unguarded x_DealError):vH K mg "_law_kind" vY vV->YJ P w K mg cl:=by
 intro a;obtain⟨_,_,F⟩:=a;exact⟨_,_,F,λbase=>km F.fn kP rfl λb A outer s H E c=>⟨_,show QSs _ _ _ _ _ YS from
  (jb (jC kP.nd (QP.d (kO (je (VF T.n_isinstance T.g_BadRow T.i_BadRow (ja 0)) (je (VF T.n_isinstance T.g_Misplaced T.i_Misplaced (ja 0)) (je (VF T.n_isinstance T.g_Unfinished T.i_Unfinished (ja 0)) ye))))))
  (jb (jC kP.nd (QP.d (jH (ja 1) (QP.bb (kO (je (VF T.n_isinstance T.g_Twice T.i_Twice (ja 0)) (je (VF T.n_isinstance T.g_NoName T.i_NoName (ja 0)) (je (VF T.n_isinstance T.g_TooMany T.i_TooMany (ja 0)) ye))))))))
  (jb (xE (ja 1) (VF T.n_isinstance T.g_Unguarded T.i_Unguarded (ja 0)))
  (jb (j0 (QW.t (Kj (JU (J2 (QP.bb (VF T.n_isinstance T.g_DealError T.i_DealError (ja 0))))) (Kj (JU (J2 (QP.bb (je1 T.n_isinstance T.n_ValueError vbo T.i_ValueError (ja 0))))) (YX (jt (c_ne c) (QP.bb (jgv PySem.F.slot_list_count PySem.F.type_list_count uA ua (ja 1) (jd (QP.bb jde) jr))) qI))))) (jf (jn (QP.d qS)))
  jo)
  (jf (jn (QP.d (QB.f (Yz (QP.bb (kO (je qS (je qS (je qS (je qS (je qS (je qS (je qS ye))))))))) (QP.bb (jgv PySem.F.slot_list_index PySem.F.type_list_index xx wu (ja 1) (jd (QP.bb jde) jr))))))))))))⟩⟩
theorem Qa(T:Txt P w K mg cl t_LONGEST_NAME jj t_LETTERS t_LONGEST_NUMBER t_FIGURES ji jv b_FORMS_0 b_FORMS_1 b_FORMS_2 b_FORMS_3 b_FORMS_4 jZ x_Unfinished x_Misplaced x_TooMany x_NoName x_Twice x_Unguarded x_DealError):vH K mg "_law_most" kf vU->YK P w K mg cl:=by
 intro b;obtain⟨_,_,F⟩:=b;exact⟨_,_,F,λbase=>km F.fn Qv rfl λc A outer s H E a=>⟨_,show QSs _ _ _ _ _ yp from
  (jb (j0 (QW.t (VE (jt (qX a) (Yz (ja 0) qI) (QP.bb qS)) (JT (jt (qX a) (ja 1) qI)))) (jf (jn (QP.d (je3 qI qI))))
  jo)
  (jb (j0 (QW.t (VE (jt (qX a) (Yz (ja 0) qI) (QP.bb qS)) (JT (jt (qX a) (ja 1) qI)))) (jf (jn (QP.d xL)))
  jo)
  (jf (jn (QP.d xL)))))⟩⟩
theorem qK(T:Txt P w K mg cl t_LONGEST_NAME jj t_LETTERS t_LONGEST_NUMBER t_FIGURES ji jv b_FORMS_0 b_FORMS_1 b_FORMS_2 b_FORMS_3 b_FORMS_4 jZ x_Unfinished x_Misplaced x_TooMany x_NoName x_Twice x_Unguarded x_DealError):vH K mg "_law_name_spoilt" jU jW->va P w K mg cl:=by
 intro b;obtain⟨_,_,F⟩:=b;exact⟨_,_,F,λbase=>km F.fn jG rfl λc A outer s H E a=>⟨_,show QSs _ _ _ _ _ yt from
  (jb (jC jG.nd (QP.d (kO (je qS (je qS (je qS (je qS (je qS (je qS (je qS (je qS (je qS (je qS (je qS (je qS ye)))))))))))))))
  (jb (jC jG.nd (QP.d (jH (ja 2) (QP.bb (kO (je qS (je qS (je qS (je qS (je qS (je qS (je qS (je qS ye)))))))))))))
  (jb (jC jG.nd (QP.d (jL (ja 1) qI)))
  (jb (jC jG.nd (QP.d (jL (QP.bb (yB (ja 1) qI)) (QP.bb (Vn T.n_len (jd (ja 0) jr))))))
  (jb (j0 (jt (qX a) (ja 3) qI) (jf (jn (QP.d (QB.f (Yz (ja 2) (QP.bb (jL (QP.bb (yB (ja 1) qI)) qI)))))))
  jo)
  (jb (j0 (jt (qX a) (ja 3) qI) (jf (jn (QP.d (jH (QP.bb (jH (QP.bb (xk (ja 0) yC (yA (ja 4)))) (Yz (QP.bb qS) (QP.bb (jL (QP.bb (yB (ja 1) qI)) qI))))) (QP.bb (xk (ja 0) (yA (QP.bb (jH (ja 4) qI))) yC))))))
  jo)
  (jb (j0 (jt (qX a) (ja 3) qI) (jf (jn (QP.d (jH (QP.bb (jH (QP.bb (xk (ja 0) yC (yA (ja 4)))) (Yz (QP.bb qS) (QP.bb (jL (QP.bb (yB (ja 1) qI)) qI))))) (QP.bb (xk (ja 0) (yA (QP.bb (jH (ja 4) qI))) yC))))))
  jo)
  (jf (jn (QP.d (jH (ja 0) (QP.bb (xk (QP.bb qS) yC (yA (QP.bb (jcV qI (QP.bb (Vn T.n_len (jd (ja 0) jr)))))))))))))))))))⟩⟩
theorem ko(T:Txt P w K mg cl t_LONGEST_NAME jj t_LETTERS t_LONGEST_NUMBER t_FIGURES ji jv b_FORMS_0 b_FORMS_1 b_FORMS_2 b_FORMS_3 b_FORMS_4 jZ x_Unfinished x_Misplaced x_TooMany x_NoName x_Twice x_Unguarded x_DealError):vH K mg "_law_number_spoilt" jO jM->yO P w K mg cl:=by
 intro b;obtain⟨_,_,F⟩:=b;exact⟨_,_,F,λbase=>km F.fn j5 rfl λc A outer s H E a=>⟨_,show QSs _ _ _ _ _ jm from
  (jb (jC j5.nd (QP.d (jL (ja 2) qI)))
  (jb (jC j5.nd (QP.d (JZ (Vp Yo J7) uu T.n_str qQ (jd (ja 0) jr))))
  (jb (j0 (jt (qX a) (ja 3) qI) (jf (jn (QP.d qS)))
  jo)
  (jb (j0 (jt (qX a) (ja 3) qI) (jf (jn (QP.d (JZ (Vp Yo J7) uu T.n_str qQ (jd (QP.bb (jH (QP.bb (jH (ja 1) qI)) (QP.bb (jL (QP.bb (yB (ja 2) qI)) qI)))) jr)))))
  jo)
  (jb (j0 (jt (qX a) (ja 3) qI) (jf (jn (QP.d (jH (QP.bb qS) (ja 4)))))
  jo)
  (jb (j0 (jt (qX a) (ja 3) qI) (jf (jn (QP.d (jH (Yz (QP.bb qS) (QP.bb (jL (QP.bb (yB (ja 2) qI)) qI))) (ja 4)))))
  jo)
  (jb (j0 (jt (qX a) (ja 3) qI) (jf (jn (QP.d (jH (ja 4) (Yz (QP.bb qS) (QP.bb (jL (QP.bb (yB (ja 2) qI)) qI)))))))
  jo)
  (jb (j0 (jt (qX a) (ja 3) qI) (jf (jn (QP.d (jH (QP.bb qS) (QP.bb (Jd (QP.bb qS) qI))))))
  jo)
  (jf (jn (QP.d (jH (QP.bb qS) (QP.bb (xk (ja 4) (yA qI) yC))))))))))))))⟩⟩
theorem zV(T:Txt P w K mg cl t_LONGEST_NAME jj t_LETTERS t_LONGEST_NUMBER t_FIGURES ji jv b_FORMS_0 b_FORMS_1 b_FORMS_2 b_FORMS_3 b_FORMS_4 jZ x_Unfinished x_Misplaced x_TooMany x_NoName x_Twice x_Unguarded x_DealError):vH K mg "is_name" qW qG->Js P w K mg cl->VR P w K mg cl:=by
 intro a b;obtain⟨_,_,F⟩:=a;obtain⟨_,_,c,e⟩:=b;exact⟨_,_,F,λbase=>km F.fn zR rfl λf A outer s H E g=>⟨_,show QSs _ _ _ _ _ y9 from
  (jb (j0 (JU (Vm jdi jdi qI (QP.bb (Vn T.n_len (jd (ja 0) jr))) (QP.bb (jgH T.c_LONGEST_NAME)))) (jf (jn (QP.d jde)))
  jo)
  (jf (jn (QP.d (jfX (QP.bb (yf c (e _) (g.mono (by decide)) (jd (ja 0) (jd (QP.bb (jgB [97,98,99,100,101,102,103,104,105,106,107,108,109,110,111,112,113,114,115,116,117,118,119,120,121,122] T.c_LETTERS (by decide +kernel))) jr)))) (jfu (jdS (jcW (by with_unfolding_all rfl)) (ja 0) (QP.bb (jgT v5 T.c_KEYWORDS (T.r_KEYWORDS cl))))))))))⟩⟩
theorem Km(T:Txt P w K mg cl t_LONGEST_NAME jj t_LETTERS t_LONGEST_NUMBER t_FIGURES ji jv b_FORMS_0 b_FORMS_1 b_FORMS_2 b_FORMS_3 b_FORMS_4 jZ x_Unfinished x_Misplaced x_TooMany x_NoName x_Twice x_Unguarded x_DealError):vH K mg "number_in" vD vA->Js P w K mg cl->Yk P w K mg cl:=by
 intro b c;obtain⟨_,_,F⟩:=b;obtain⟨_,_,e,f⟩:=c;exact⟨_,_,F,λbase=>km F.fn VN rfl λg A outer s H E a=>⟨_,show QSs _ _ _ _ _ jT from
  (jb (j0 (QW.t (Kj (JU (Vm jdi jdi qI (QP.bb (Vn T.n_len (jd (ja 0) jr))) (QP.bb (jgH T.c_LONGEST_NUMBER)))) (YX (JU (J2 (QP.bb (yf e (f _) (a.mono (by decide)) (jd (ja 0) (jd (QP.bb (jgB [48,49,50,51,52,53,54,55,56,57] T.c_FIGURES (by decide +kernel))) jr))))))))) (jf (jn (QP.d YD)))
  jo)
  (jb (j0 (QW.t (VE (jt (qX a) (Yz (ja 0) qI) (QP.bb qS)) (JT (jt (c_ne a) (ja 0) (QP.bb qS))))) (jf (jn (QP.d YD)))
  jo)
  (jf (jn (QP.d (JZ uc jeJ T.n_int V3 (jd (ja 0) jr)))))))⟩⟩
theorem Ku(T:Txt P w K mg cl t_LONGEST_NAME jj t_LETTERS t_LONGEST_NUMBER t_FIGURES ji jv b_FORMS_0 b_FORMS_1 b_FORMS_2 b_FORMS_3 b_FORMS_4 jZ x_Unfinished x_Misplaced x_TooMany x_NoName x_Twice x_Unguarded x_DealError):vH K mg "_law_names" vm vB->qc P w K mg cl->Yv P w K mg cl:=by
 intro b c;obtain⟨_,_,F⟩:=b;obtain⟨_,_,e,g⟩:=c;exact⟨_,_,F,λbase=>km F.fn jw rfl λh A outer s H E a=>⟨_,show QSs _ _ _ _ _ vv from
  (jb (jC jw.nd (QP.d (yf e (g _) (a.mono (by decide)) (jd (ja 0) (jd qI jr)))))
  (jb (jC jw.nd (QP.d (QB.f (Yz (QP.bb qS) (QP.bb (jL (ja 2) qI))))))
  (jb (jC jw.nd (QP.d qS))
  (jb (j0 (QW.t (VE (jt (qX a) (QP.bb (jL (QP.bb (yB (ja 2) qI)) qI)) qI) (JT (jt jgW (ja 1) qI)))) (jf (jn (QP.d (Qd (bkF jw ["_law_k","_law_base","_law_many"]) rfl (QI.b' (QC T.n_range (jd (ja 1) jr))) cgN jfh (λ_ _ _ _=>(Jd (ja 1) (QP.bb (jcV (ja 2) (ja 0)))))))))
  jo)
  (jb (jC jw.nd (QP.d (jH qI (QP.bb (jL (QP.bb (yB (ja 2) qI)) qI)))))
  (jb (jC jw.nd (QP.d (jL (QP.bb (yB (ja 2) qI)) (ja 5))))
  (jb (jC jw.nd (QP.d (kO ye)))
  (jb (xS PassesOwn.never rfl (QC T.n_range (jd (ja 1) jr)) (vR jw.nd)
  (jb (Yj (bkF jw ["_law_place","_law_base"]) rfl (QI.b' (QC T.n_range (jd (ja 5) jr))) cgN jfh (λ_ _ _ _=>(QB.f (ja 1))) jw.nd)
  (jb (JK (ja 9) (ja 6) (QP.d (QB.f (Yz (ja 4) (QP.bb (jL (QP.bb (jH (QP.bb (yB (ja 2) qI)) (QP.bb (Jd qI (ja 8))))) qI))))))
  (jb (JK (ja 9) (QP.bb (jL (QP.bb (jH (ja 6) qI)) (ja 5))) (QP.d (QB.f (Yz (ja 4) (QP.bb (jL (QP.bb (jH (QP.bb (yB (ja 2) qI)) (QP.bb (yB (ja 8) qI)))) qI))))))
  (jf (xE (ja 7) (jgD PySem.F.plainAttrs_str PySem.F.slot_str_join PySem.F.type_str_join jc1 jcP (QP.bb qS) (jd (ja 9) jr))))))))
  (jf (jn (jfw 7)))))))))))⟩⟩
theorem Y6(T:Txt P w K mg cl t_LONGEST_NAME jj t_LETTERS t_LONGEST_NUMBER t_FIGURES ji jv b_FORMS_0 b_FORMS_1 b_FORMS_2 b_FORMS_3 b_FORMS_4 jZ x_Unfinished x_Misplaced x_TooMany x_NoName x_Twice x_Unguarded x_DealError):vH K mg "_law_spoilt" yV yY->YK P w K mg cl->va P w K mg cl->yO P w K mg cl->Jy P w K mg cl:=by
 intro b c e g;obtain⟨_,_,F⟩:=b;obtain⟨_,_,h,i⟩:=c;obtain⟨_,_,j,k⟩:=e;obtain⟨_,_,l,m⟩:=g;exact⟨_,_,F,λbase=>km F.fn yi rfl λn A outer s H E a=>⟨_,show QSs _ _ _ _ _ jS from
  (jb (Yj (bkF yi ["_law_word"]) rfl (K3 (ja 0)) cgN jfh (λ_ _ _ _=>(JZ (Vp Yo J7) uu T.n_str qQ (jd (ja 0) jr))) yi.nd)
  (jb (jC yi.nd (QP.d (jL (ja 1) (QP.bb (Vn T.n_len (jd (ja 0) jr))))))
  (jb (jC yi.nd (QP.d (jL (QP.bb (yB (ja 1) qI)) qI)))
  (jb (j0 (QW.t (VE (jt (qX a) (ja 4) qI) (JT (jt jgz (ja 3) qI)))) (jf (jn (QP.d (jH (QP.bb (xk (ja 2) yC (yA (ja 3)))) (QP.bb (xk (ja 2) (yA (QP.bb (jH (ja 3) qI))) yC))))))
  jo)
  (jb (j0 (jt (qX a) (ja 4) qI) (jf (jn (QP.d (jH (QP.bb (jH (QP.bb (xk (ja 2) yC (yA (QP.bb (jH (ja 3) qI))))) (QP.bb (kO (je (QB.f (Yz (ja 2) (ja 3))) ye))))) (QP.bb (xk (ja 2) (yA (QP.bb (jH (ja 3) qI))) yC))))))
  jo)
  (jb (j0 (jt (qX a) (ja 3) qI) (jf (jn (QP.d (jH (QP.bb (kO (je (jH (Yz (ja 2) qI) (QP.bb qS)) ye))) (QP.bb (xk (ja 2) (yA qI) yC))))))
  jo)
  (jb (j0 (J2 (QP.bb (jcp (T:="str") (by decide) T.n_isinstance T.n_str qQ (Yz (ja 0) (ja 3))))) (jf (JK (ja 2) (ja 3) (QP.d (yf j (k _) (a.mono (by decide)) (jd (Yz (ja 0) (ja 3)) (jd (QP.bb (yB (ja 1) qI)) jr))))))
  (jf (JK (ja 2) (ja 3) (QP.d (yf l (m _) (a.mono (by decide)) (jd (Yz (ja 0) (ja 3)) (jd (QP.bb (yf h (i _) (a.mono (by decide)) (jd (ja 0) (jd (ja 3) jr)))) (jd (QP.bb (yB (ja 1) qI)) jr))))))))
  (jf (jn (jfw 2))))))))))⟩⟩
theorem Qw(T:Txt P w K mg cl t_LONGEST_NAME jj t_LETTERS t_LONGEST_NUMBER t_FIGURES ji jv b_FORMS_0 b_FORMS_1 b_FORMS_2 b_FORMS_3 b_FORMS_4 jZ x_Unfinished x_Misplaced x_TooMany x_NoName x_Twice x_Unguarded x_DealError):vH K mg "value_in" vT v9->VR P w K mg cl->Yk P w K mg cl->YO P w K mg cl:=by
 intro b c e;obtain⟨_,_,F⟩:=b;obtain⟨_,_,g,h⟩:=c;obtain⟨_,_,i,j⟩:=e;exact⟨_,_,F,λbase=>km F.fn JY rfl λk A outer s H E a=>⟨_,show QSs _ _ _ _ _ yc from
  (jb (j0 (jt (qX a) (ja 1) (QP.bb qS)) (jf (jn (QP.d (jgS (J2 (QP.bb (yf g (h _) (a.mono (by decide)) (jd (ja 0) jr)))) (QB.f (ja 0)) YD))))
  jo)
  (jb (jC JY.nd (QP.d (yf i (j _) (a.mono (by decide)) (jd (ja 0) jr))))
  (jb (j0 (QW.t (Kj (jt jfg (ja 2) (QP.bb YD)) (YX (JU (Vm jdi jdi qI (ja 2) (jdE T.c_GREATEST T.k_GREATEST (T.r_GREATEST cl) rfl (ja 1))))))) (jf (jn (QP.d YD)))
  jo)
  (jf (jn (QP.d (QB.f (ja 2))))))))⟩⟩
theorem K0(T:Txt P w K mg cl t_LONGEST_NAME jj t_LETTERS t_LONGEST_NUMBER t_FIGURES ji jv b_FORMS_0 b_FORMS_1 b_FORMS_2 b_FORMS_3 b_FORMS_4 jZ x_Unfinished x_Misplaced x_TooMany x_NoName x_Twice x_Unguarded x_DealError):vH K mg "_law_form" kh v8->J9 P w K mg cl->Yv P w K mg cl->YN P w K mg cl:=by
 intro e g h;obtain⟨_,_,F⟩:=e;obtain⟨_,_,b,c⟩:=g;obtain⟨_,_,i,j⟩:=h;exact⟨_,_,F,λbase=>km F.fn vj rfl λk A outer s H E a=>⟨_,show QSs _ _ _ _ _ yo from
  (jb (jC vj.nd (QP.d (yf i (j _) (a.mono (by decide)) (jd (ja 0) (jd qI jr)))))
  (jb (jC vj.nd (QP.d (QB.f (Yz (ja 2) (QP.bb (jL (QP.bb (yB (ja 1) qI)) qI))))))
  (jb (jC vj.nd (QP.d (yf b (c _) (a.mono (by decide)) (jd (ja 0) (jd (QP.bb (jL (QP.bb (yB (ja 1) qI)) qI)) (jd qI jr))))))
  (jb (j0 (jt (qX a) (QP.bb (jL (ja 1) qI)) qI) (jf (jn (QP.d (kO (je qS (je (QB.f (ja 3)) (je (QB.f (Yz (ja 2) (QP.bb (jL (QP.bb (yB (ja 1) qI)) qI)))) ye)))))))
  jo)
  (jb (j0 (jt (qX a) (QP.bb (jL (ja 1) qI)) qI) (jf (jn (QP.d (kO (je qS (je (QB.f (ja 4)) (je (yf b (c _) (a.mono (by decide)) (jd (ja 0) (jd (QP.bb (jL (QP.bb (yB (ja 1) qI)) qI)) (jd (QP.bb (je3 qI qI)) jr)))) ye)))))))
  jo)
  (jb (j0 (jt (qX a) (QP.bb (jL (ja 1) qI)) qI) (jf (jn (QP.d (kO (je qS (je (QB.f (ja 3)) (je (QB.f (ja 4)) (je (yf b (c _) (a.mono (by decide)) (jd (ja 0) (jd (QP.bb (jL (QP.bb (yB (ja 1) qI)) qI)) (jd qI jr)))) ye))))))))
  jo)
  (jf (jn (QP.d (kO (je (QB.f (Yz (QP.bb (kO (je qS (je qS ye)))) (QP.bb (jL (QP.bb (yB (ja 1) qI)) qI)))) (je (QB.f (ja 3)) (je (QB.f (ja 4)) ye)))))))))))))⟩⟩
theorem K4(T:Txt P w K mg cl t_LONGEST_NAME jj t_LETTERS t_LONGEST_NUMBER t_FIGURES ji jv b_FORMS_0 b_FORMS_1 b_FORMS_2 b_FORMS_3 b_FORMS_4 jZ x_Unfinished x_Misplaced x_TooMany x_NoName x_Twice x_Unguarded x_DealError):vH K mg "row_told" kl vW->YO P w K mg cl->YW P w K mg cl:=by
 obtain⟨b,g,c,e⟩:=T.ini;intro h i;obtain⟨_,_,F⟩:=h;obtain⟨_,_,j,k⟩:=i;exact⟨_,_,F,λbase=>jaO F.fn yR rfl λl A outer s H E a=>⟨_,_,show QXs _ _ _ _ _ _ zM y6 from
  (ql (jcC (QW.t (Kj (jt jfg (ja 1) (QP.bb YD)) (YX (jt (c_ne a) (QP.bb (Vn T.n_len (jd (ja 1) jr))) (QP.bb (jcV (QP.bb (Vn T.n_len (jd (ja 0) jr))) qI)))))) (YR (Q9 jbC b (e _) (a.mono (by decide)) c T.g_BadRow (je qS (je (QB.f (ja 2)) ye))))
  (wK jo))
  (ql (qx (jC yR.nd (QP.d (kO (je (QB.f (Yz (ja 0) qI)) ye)))))
  (ql (jeZ zU rfl (jec T.n_zip (je (xk (ja 0) (yA qI) yC) (je (QB.f (ja 1)) ye))) (wA rfl (kd (vR yR.nd) (kd (vR yR.nd) K9)))
  (ql (qx (jC yR.nd (QP.d (yf j (k _) (a.mono (by decide)) (jd (ja 4) (jd (ja 5) jr))))))
  (ql (jcC (jt jfg (ja 6) (QP.bb YD)) (YR (Q9 jbC b (e _) (a.mono (by decide)) c T.g_BadRow (je jfv (je (QB.f (ja 2)) ye))))
  (wK jo))
  (YR (qx (xE (ja 3) (QB.f (ja 6))))))))
  (YR (qx (jn (jfw 3)))))))⟩⟩
theorem YG(T:Txt P w K mg cl t_LONGEST_NAME jj t_LETTERS t_LONGEST_NUMBER t_FIGURES ji jv b_FORMS_0 b_FORMS_1 b_FORMS_2 b_FORMS_3 b_FORMS_4 jZ x_Unfinished x_Misplaced x_TooMany x_NoName x_Twice x_Unguarded x_DealError):vH K mg "debt_row_of" yF yH->YW P w K mg cl->YZ P w K mg cl->qu P w K mg cl:=by
 obtain⟨l,b,m,n⟩:=T.ini;intro c e f;obtain⟨_,_,F⟩:=c;obtain⟨_,_,g,h⟩:=e;obtain⟨_,_,i,j⟩:=f;exact⟨_,_,F,λbase=>jaO F.fn kK rfl λk A outer s H E a=>⟨_,_,show QXs _ _ _ _ _ _ Y4 vw from
  (ql (qx (jC kK.nd (QP.d (yf i (j _) (a.mono (by decide)) (jd (ja 0) jr)))))
  (ql (jcC (jt (qX a) (QP.bb (Vn T.n_len (jd (ja 2) jr))) qI) (YR (qx (jn (QP.d YD))))
  (wK jo))
  (YR (jdK jbC g (h _) (a.mono (by decide)) (jd (ja 2) (jd (jb8 T.c_FORMS T.k_FORMS (T.r_FORMS cl) rfl (Yz (ja 2) qI)) (jd (ja 1) jr)))))))⟩⟩
theorem jeL(T:Txt P w K mg cl t_LONGEST_NAME jj t_LETTERS t_LONGEST_NUMBER t_FIGURES ji jv b_FORMS_0 b_FORMS_1 b_FORMS_2 b_FORMS_3 b_FORMS_4 jZ x_Unfinished x_Misplaced x_TooMany x_NoName x_Twice x_Unguarded x_DealError):vH K mg "law" Kn u8->YN P w K mg cl->YJ P w K mg cl->qc P w K mg cl->Jz P w K mg cl->Jy P w K mg cl->qu P w K mg cl->jgp P w K mg cl:=by
 intro e g h i j k l;obtain⟨_,_,F⟩:=e;obtain⟨_,_,m,n⟩:=g;obtain⟨_,_,o,p⟩:=h;obtain⟨_,_,b,c⟩:=i;obtain⟨_,_,q,r⟩:=j;obtain⟨_,_,u,v⟩:=k;obtain⟨_,_,x,y⟩:=l;exact⟨_,_,F,λbase=>km F.fn kt rfl λz A outer s H E a=>⟨_,show QSs _ _ _ _ _ u0 from
  (jb (jC kt.nd (QP.d (JZ V2 jcM T.n_list zT (jd (ja 0) jr))))
  (jb (j0 (jt (qX a) (QP.bb (Vn T.n_len (jd (ja 1) jr))) qI) (jf (jC kt.nd (QP.d (kO (je xL ye)))))
  jo)
  (jb (QS.fz 1 (xS PassesOwn.never rfl (wb T.n_enumerate (je (QB.f (ja 1)) ye)) (wA rfl (kd (vR kt.nd) (kd (vR kt.nd) K9)))
  (jb (jC kt.nd (QP.d (yf b (c _) (a.mono (by decide)) (jd (ja 3) (jd (ja 2) jr)))))
  (jb (jC kt.nd (QP.d (yf u (v _) (a.mono (by decide)) (jd (QP.bb (yf m (n _) (a.mono (by decide)) (jd (ja 3) (jd (ja 4) jr)))) (jd (QP.bb (yf b (c _) (a.mono (by decide)) (jd (ja 3) (jd (QP.bb (jH (ja 2) qI)) jr)))) jr)))))
  (jb (jC kt.nd (QP.d (jH qI (QP.bb (jL (ja 4) qI)))))
  (jb (jC kt.nd (QP.d YD))
  (jb (jdV x (y _) (a.mono (by decide)) T.g_DealError T.XD T.sub0 kt.nd (jd (QP.bb (yf q (r _) (a.mono (by decide)) (jd (ja 5) (jd (QP.bb (yB (ja 4) qI)) jr)))) (jd (ja 6) jr)))
  (jb (j0 (QW.t (Kj (jt jfg (ja 7) (QP.bb YD)) (YX (jt (c_ne a) (QP.bb (yf o (p _) (a.mono (by decide)) (jd (ja 7) jr))) (QP.bb qS))))) (jf (jn (QP.d jde)))
  jo)
  (jf (j0 (QW.t (Kj (JU (J2 (QP.bb (jcp (T:="int") (by decide) T.n_isinstance T.n_int V3 (QP.bb (K6 T.pl0 (ja 7))))))) (Kj (J2 (QP.bb (jcp (T:="bool") (by decide) T.n_isinstance T.n_bool zS (QP.bb (K6 T.pl0 (ja 7)))))) (YX (jt (c_ne a) (QP.bb (K6 T.pl0 (ja 7))) (ja 6)))))) (jf (jn (QP.d jde)))
  jo))))))))))
  (jf (jn (QP.d jde))))))⟩⟩
end
def Cd(w:List Nat):Prop:=∀ c∈w,c < 1114112
noncomputable def kH(c k:Int):Int :=
 let m:=(c % 2147483647*48271+(k*k+3*k+7)*69621) % 2147483647
 m*m % 2147483647
theorem KY(c k:Int):0<=kH c k:=U0 _ (by decide)
theorem jcb(c k:Int):kH c k < 2147483647:=N9 _ (by decide)
theorem jf1{k n:Int}(a:0<=k)(h1:k<=n):0<=k*k/\k*k<=n*n:=⟨Int.mul_nonneg a a,Int.mul_le_mul h1 h1 a (Int.le_trans a h1)⟩
theorem Vt{c k:Int}(a:0<=k)(h1:k<=1000000):ym [.int c,.int k]=some (.int (kH c k)):=by
 have e:=jf1 a h1;have b:=U0 (c % 2147483647*48271+(k*k+3*k+7)*69621) (show(2147483647:Int)≠0 by decide);have d:=N9 (c % 2147483647*48271+(k*k+3*k+7)*69621) (show(0:Int) < 2147483647 by decide);simp(disch:=omega) [ym,jA,kY,wz,jE,kH]
noncomputable def abc:List Nat:=[97,98,99,100,101,102,103,104,105,106,107,108,109,110,112,113,114,115,116,117,118,119,120,121,122]
noncomputable def cons:List Nat:=[98,99,100,102,103,104,106,107,108,109,110,112,113,114,115,116,118,119,120,122]
theorem jdD{i:Int}(a:0<=i)(h1:i < 25):yE (.str abc) (.int i)=some (.str [abc.getD i.toNat 0]):=xl (by decide) a (by have:abc.length=25:=rfl;omega)
theorem xW{i:Int}(a:0<=i)(h1:i < 20):yE (.str cons) (.int i)=some (.str [cons.getD i.toNat 0]):=xl (by decide) a (by have:cons.length=20:=rfl;omega)
theorem jew(i:Nat):abc.getD i 0 < 1114112:=x3 (by decide) (by decide)
theorem wL(i:Nat):cons.getD i 0 < 1114112:=x3 (by decide) (by decide)
theorem uC:∀ ws:List (List Nat),qM [] ws=ws.flatten
 | []=>rfl
 | w::ws=>by rw[YL];simp
theorem jcD:∀ X:List Nat,(X.map λc=>[c]).flatten=X
 | []=>rfl
 | c::X=>by rw[L5,List.flatten_cons,jcD X];rfl
theorem zc(k b:Nat):(List.replicate k [b]).flatten=List.replicate k b:=by
 have:List.replicate k [b]=(List.replicate k b).map λc=>[c]:=by rw[List.map_replicate]
 rw[this,jcD]
theorem jc0{a s:Int}(h:0<=a)(c:0 < s):((a+1) % s).toNat=(a.toNat+1) % s.toNat:=by
 obtain⟨n,rfl⟩:∃ n:Nat,a=(n:Int):=⟨a.toNat,by omega⟩;obtain⟨m,rfl⟩:∃ m:Nat,s=(m:Int):=⟨s.toNat,by omega⟩;have e:((n:Int)+1) % (m:Int)=(((n+1) % m:Nat):Int):=by simp
 have b:((((n+1) % m:Nat):Int)).toNat=(n+1) % m:=N8 _;rw[e,b];rfl
def NmK(w:List Nat):Prop:=(∃ k b,1<=k/\k<=8/\b∈abc/\w=List.replicate k b) \/
 ∃ s n b c1 c2,2<=s/\s<=8/\n < s/\b∈abc/\c1∈cons/\c2∈cons/\w=((List.replicate s b).set n c1).set ((n+1) % s) c2
theorem zI{a0 a1:Option D}{m b s at_:Int}{bc:Nat}(u:bc < 1114112){out:List D}{i:Nat}{o9:Option D}(P:0<=m)(Q:2<=s)(F:s<=8)(R:0<=at_)(G:at_ < s)(hi:i < 100)(H:out.length<=100) :
  ∃(c1 c2:Nat) (o9':Option D),c1∈cons/\c2∈cons/\yG [a0,a1,some (.int m),some (.str [bc]),some (.str cons),some (.int s),some (.int at_),some (.lst true out),some (.int (0+(i:Int))),o9]=some (.nx [a0,a1,some (.int m),some (.str [bc]),some (.str cons),some (.int s),some (.int at_),some (.lst true (out++[.str (((List.replicate s.toNat bc).set at_.toNat c1).set ((at_+1) % s).toNat c2)])),some (.int (0+(i:Int))),o9']):=by
 have d:yT (jJ [] 0) qT (pF (pV 1)) (Kl 0 s.toNat) (j7 [none,some 3] [a0,a1,some (.int m),some (.str [bc]),some (.str cons),some (.int s),some (.int at_),some (.lst true out),some (.int (0+(i:Int))),o9])=some ((List.range s.toNat).map λ_=>D.str [bc]):=by
  refine Yw (l:=List.range s.toNat) (en:=λi=>.int (0+(i:Int))) rfl (λρ=>∃ o,ρ=[o,some (.str [bc])]) ?_ ⟨none,rfl⟩;rintro x t ρ ⟨o,rfl⟩;exact⟨_,rfl,rfl,_,rfl⟩
 have I:((List.range s.toNat).map λ_=>D.str [bc])=(List.replicate s.toNat [bc]).map D.str:=by
  rw[List.map_const',List.map_replicate,List.length_range]
 rw[I] at d;have J:=xW (i:=(m / 4200+3*(0+(i:Int))) % 20) (by omega) (by omega);have K:=xW (i:=(m / 84000+(0+(i:Int)) / 20) % 20) (by omega) (by omega);have S:=U0 (at_+1) (show s≠0 by omega);have T:=N9 (at_+1) (show 0 < s by omega);obtain⟨a,rfl⟩:∃ n:Nat,at_=(n:Int):=⟨at_.toNat,by omega⟩;obtain⟨f,v⟩:∃ n:Nat,((a:Int)+1) % s=(n:Int):=⟨(((a:Int)+1) % s).toNat,by omega⟩;have x1:ixN s.toNat (a:Int)=some a:=Qz (by omega);have L:ixN s.toNat (f:Int)=some f:=Qz (by omega);have y:=QY (j:=s) (by omega) (by omega);have z:lim (Kl 0 s.toNat).length=true:=jx (by rw[JM];omega);have A:((List.replicate s.toNat [bc]).map D.str).set a (.str [cons.getD ((m / 4200+3*(0+(i:Int))) % 20).toNat 0])=((List.replicate s.toNat [bc]).set a [cons.getD ((m / 4200+3*(0+(i:Int))) % 20).toNat 0]).map D.str:=by rw[List.map_set]
 have k:∀(l:List (List Nat)),(l.map D.str).set f (.str [cons.getD ((m / 84000+(0+(i:Int)) / 20) % 20).toNat 0])=(l.set f [cons.getD ((m / 84000+(0+(i:Int)) / 20) % 20).toNat 0]).map D.str:=λl=>by rw[List.map_set]
 have g:∀ w∈((List.replicate s.toNat [bc]).set a [cons.getD ((m / 4200+3*(0+(i:Int))) % 20).toNat 0]).set f [cons.getD ((m / 84000+(0+(i:Int)) / 20) % 20).toNat 0],w.length=1/\Cd w:=by
  intro w p;rcases List.mem_or_eq_of_mem_set p with p | rfl
  ·rcases List.mem_or_eq_of_mem_set p with p | rfl
   ·rw[List.eq_of_mem_replicate p];exact⟨rfl,λc d=>by rw[M8.mp d];exact u⟩
   ·exact⟨rfl,λc d=>by rw[M8.mp d];exact wL _⟩
  ·exact⟨rfl,λc d=>by rw[M8.mp d];exact wL _⟩
 have q:(((List.replicate s.toNat [bc]).set a [cons.getD ((m / 4200+3*(0+(i:Int))) % 20).toNat 0]).set f [cons.getD ((m / 84000+(0+(i:Int)) / 20) % 20).toNat 0]).length<=8:=by simp;omega
 generalize E:((List.replicate s.toNat [bc]).set a [cons.getD ((m / 4200+3*(0+(i:Int))) % 20).toNat 0]).set f [cons.getD ((m / 84000+(0+(i:Int)) / 20) % 20).toNat 0]=W at g q;have r:∀(l:List (List Nat)),(∀ w∈l,w.length=1/\Cd w)->(l.map List.length).sum=l.length/\l.flatten.length=l.length/\Cd l.flatten:=by
  intro l
  induction l with
  | nil=>intro _;exact⟨rfl,rfl,λc d=>by simp at d⟩
  | cons w l M =>
   intro h;have a1:=M λx t=>h x (by simp[t]);have N:=h w (by simp);refine⟨by simp only[L5,List.sum_cons,M3];omega,by simp only[List.flatten_cons,N4,M3];omega,?_⟩;intro c d;rw[List.flatten_cons,N2] at d;exact d.elim (N.2 c) (a1.2.2 c)
 have O:kQ [] W=true:=by
  unfold kQ;have:=r W g;simp only[List.length_nil,Nat.mul_zero];exact U7 (by omega)
 have t:W.flatten=((List.replicate s.toNat bc).set a (cons.getD ((m / 4200+3*(0+(i:Int))) % 20).toNat 0)).set f (cons.getD ((m / 84000+(0+(i:Int)) / 20) % 20).toNat 0):=by
  rw[<- E];have e:((List.replicate s.toNat [bc]).set a [cons.getD ((m / 4200+3*(0+(i:Int))) % 20).toNat 0]).set f [cons.getD ((m / 84000+(0+(i:Int)) / 20) % 20).toNat 0]=(((List.replicate s.toNat bc).set a (cons.getD ((m / 4200+3*(0+(i:Int))) % 20).toNat 0)).set f (cons.getD ((m / 84000+(0+(i:Int)) / 20) % 20).toNat 0)).map λc=>[c]:=by
   rw[List.map_set,List.map_set,List.map_replicate]
  rw[e];exact jcD _
 have B:(a:Int).toNat=a:=by omega
 have C:(((a:Int)+1) % s).toNat=f:=by omega
 refine⟨cons.getD ((m / 4200+3*(0+(i:Int))) % 20).toNat 0,cons.getD ((m / 84000+(0+(i:Int)) / 20) % 20).toNat 0,some (.lst true (W.map D.str)),yw (by have:cons.length=20:=rfl;omega),yw (by have:cons.length=20:=rfl;omega),?_⟩;rw[B,C,<- t,<- uC];simp(disch:=omega) [yG,y,z,d,jE,jP,wz,J,K,x1,L,v,A,k,E,O,jx,-Int.zero_add,-List.getD_eq_getElem?_getD,-List.map_set,-List.map_replicate]
theorem jaB(c:Int){many:Nat}(h1:1<=many)(h2:many<=8):∃ ns:List (List Nat),yu [.int c,.int (many:Int)]=some (.lst true (ns.map D.str))/\ns.length=many/\∀ w∈ns,NmK w:=by
 have key:∃ ns:List D,yu [.int c,.int (many:Int)]=some (.lst true ns)/\ns.length=many/\∀ d∈ns,∃ w,d=.str w/\NmK w:=by
  have M:=KY c 3;have N:=jcb c 3;have E:=Vt (c:=c) (k:=3) (by decide) (by decide);have q:=jdD (i:=kH c 3 % 25) (by omega) (by omega);have F:=jew (kH c 3 % 25).toNat
  have h:abc.getD (kH c 3 % 25).toNat 0∈abc:=yw (by have:abc.length=25:=rfl;omega);generalize O:abc.getD (kH c 3 % 25).toNat 0=b at q F h;have H:([97,98,99,100,101,102,103,104,105,106,107,108,109,110,112,113,114,115,116,117,118,119,120,121,122]:List Nat)=abc:=rfl;have I:([98,99,100,102,103,104,106,107,108,109,110,112,113,114,115,116,118,119,120,122]:List Nat)=cons:=rfl;have J:wX [.int (many:Int)]=some (Kl 0 many):=by
   have:=QY (j:=(many:Int)) (by omega) (by omega);simpa using this
  have u:lim (Kl 0 many).length=true:=jx (by rw[JM];omega);by_cases K:kH c 3 / 25 % 3=0/\many < 9
  ·obtain⟨R,S,g,T⟩:=Q3 (G:=jJ [] 0) (p:=p2 yP (pV 1) (p2 YC (pV 2) (pV 0))) (Good:=λd=>∃ w,d=.str w/\NmK w) (P:=λρ=>∃ o,ρ=[o,some (.str [b]),some (.int (many:Int))]) (xs:=Kl 0 many) (by
    rintro x v ρ ⟨o,rfl⟩;obtain⟨i,y,rfl⟩:=M6.mp v;have y:=List.mem_range.mp y;refine⟨_,.str (List.replicate ((many:Int) - (0+(i:Int))).toNat [b]).flatten,rfl,?_,⟨_,rfl,.inl ⟨((many:Int) - (0+(i:Int))).toNat,b,by omega,by omega,h,?_⟩⟩,_,rfl⟩
    ·have:=jaP (a:=[b]) (n:=(many:Int) - (0+(i:Int))) (by simp) (by omega) (by omega);simp[this,-Int.zero_add]
    ·exact zc _ _) (ρ:=j7 [none,some 3,some 1] [some (.int c),some (.int (many:Int)),some (.int (kH c 3)),some (.str [b]),some (.str cons),none,none,none,none,none]) ⟨none,rfl⟩
   rw[JM] at g;refine⟨R,?_,g,T⟩;have U:(many:Int) < 9:=by omega
   unfold yu;rw[jA];unfold vv;rw[H,I];simp(disch:=omega) [E,q,jE,jP,K.1,U,J,u,S]
  ·have L:=U0 (kH c 3 / 525) (show(2+kH c 3 / 75 % 7)≠0 by omega);have V:=N9 (kH c 3 / 525) (show 0 < (2+kH c 3 / 75 % 7) by omega);obtain⟨ρ',e,out,A,r,rfl,g,t⟩:=wa (G:=jJ [] 8) (f:=yG) (xs:=Kl 0 many) (λi ρ=>∃(out:List D) (A r:Option D),ρ=[some (.int c),some (.int (many:Int)),some (.int (kH c 3)),some (.str [b]),some (.str cons),some (.int (2+kH c 3 / 75 % 7)),some (.int (kH c 3 / 525 % (2+kH c 3 / 75 % 7))),some (.lst true out),A,r]/\out.length=i/\∀ d∈out,∃ w,d=.str w/\NmK w) (by
    rintro i x ρ v ⟨out,A,r,rfl,g,t⟩;obtain⟨rfl,y⟩:=uP v;obtain⟨W,X,Y,B,C,q⟩:=zI (a0:=some (.int c)) (a1:=some (.int (many:Int))) (m:=kH c 3) (b:=0) (s:=2+kH c 3 / 75 % 7) (at_:=kH c 3 / 525 % (2+kH c 3 / 75 % 7)) (bc:=b) F (out:=out) (i:=i) (o9:=r) M (by omega) (by omega) L V (by omega) (by omega);refine⟨_,_,rfl,.inl q,out++[_],_,_,rfl,by simp[g],λd hd=>?_⟩;rcases N2.mp hd with hd | hd
    ·exact t d hd
    ·rw[M8.mp hd];exact⟨_,rfl,.inr ⟨(2+kH c 3 / 75 % 7).toNat,(kH c 3 / 525 % (2+kH c 3 / 75 % 7)).toNat,b,W,X,by omega,by omega,by omega,h,B,C,by rw[jc0 L (by omega)]⟩⟩) (ρ:=[some (.int c),some (.int (many:Int)),some (.int (kH c 3)),some (.str [b]),some (.str cons),some (.int (2+kH c 3 / 75 % 7)),some (.int (kH c 3 / 525 % (2+kH c 3 / 75 % 7))),some (.lst true []),none,none]) ⟨[],none,none,rfl,rfl,by simp⟩
   rw[JM] at g;refine⟨out,?_,g,t⟩;unfold yu;rw[jA];unfold vv;rw[H,I];have Z:¬ kH c 3 / 25 % 3=0:=λz=>K ⟨z,by omega⟩;simp(disch:=omega) [E,q,jE,jP,Z,J,jx,e]
 obtain⟨ns,e,g,t⟩:=key;obtain⟨l,rfl,hk⟩:=Q1 (f:=D.str) (Q:=NmK) t;rw[L0] at g;exact⟨l,e,g,hk⟩
theorem Y9{c w most:Int}(d:0<=w)(b:w<=2000)(e:7<=most)(h1:most<=10 ^ 12):∃ v,yn [.int c,.int w,.int most]=some (.int v)/\1<=v/\v<=most:=by
 have f:=U0 c (show most≠0 by omega);have a:0 < most:=by omega
 have g:=N9 c a;have h:=U0 ((c % most+1)*(w+48271)*99999999999999997) (show most≠0 by omega);have i:=N9 ((c % most+1)*(w+48271)*99999999999999997) a;have j:0<=(c % most+1)*(w+48271)/\(c % most+1)*(w+48271)<=10 ^ 12*60000:=⟨Int.mul_nonneg (by omega) (by omega),Int.mul_le_mul (by omega) (by omega) (by omega) (by omega)⟩;simp(disch:=omega) [yn,jA,qm,wz,jE,jP]
 repeat' split
 all_goals simp
 all_goals omega
noncomputable def jgE:List Nat:=[48,49,50,51,52,53,54,55,56,57]
theorem fig_mem{c:Nat}:c∈jgE↔48<=c/\c<=57:=by simp[jgE];omega
theorem vh(w s:List Nat)(b:w.length<=1000):y4 [.str w,.str s]=some (.bl (w.all λc=>decide (c∈s))):=by
 have a:yT (jJ [] 0) qT (p2 (jaq false) (pV 0) (pV 1)) (w.map λc=>D.str [c]) (j7 [none,some 1] [some (.str w),some (.str s)])=some (w.map λc=>D.bl (decide (c∈s))):=by
  refine Yw rfl (λρ=>∃ o,ρ=[o,some (.str s)]) ?_ ⟨none,rfl⟩;rintro x d ρ ⟨o,rfl⟩;exact⟨[some (.str [x]),some (.str s)],rfl,by simp,_,rfl⟩
 have e:(w.map λc=>D.bl (decide (c∈s)))=(w.map λc=>decide (c∈s)).map D.bl:=by rw[List.map_map];rfl
 rw[e] at a;simp(disch:=omega) [y4,jA,Ju,a,jx,-List.map_map];rfl
theorem yy{w:List Nat}(n:w.length<=1000):js [.str w]=some (if 1<=w.length/\w.length<=13/\¬ (1 < w.length/\w.getD 0 0=48)/\(∀ c∈w,48<=c/\c<=57) then .int (NumText.digitsVal w:Nat) else .non):=by
 have a:=vh w [48,49,50,51,52,53,54,55,56,57] n;by_cases f:1<=w.length
 ·have b:(1:Int)<=w.length:=by omega
  by_cases i:w.length<=13
  ·have d:(w.length:Int)<=13:=by omega
   by_cases e:∀ c∈w,48<=c/\c<=57
   ·have j:(w.all λc=>decide (c∈[48,49,50,51,52,53,54,55,56,57]))=true:=List.all_eq_true.mpr λc k=>U7 (fig_mem.mpr (e c k));rw[j] at a;by_cases g:w.getD 0 0=48
    ·by_cases h:1 < w.length
     ·have l:¬ (w=[48]):=λz=>by rw[z] at h;exact absurd h (by decide)
      rw[if_neg (λz=>z.2.2.1 ⟨h,g⟩)];have m:(w.getD 0 0==48)=true:=by rw[g];rfl
      have o:(w==[48])=false:=U1.mpr l;simp(disch:=first | omega | (simp;done) | (simp;omega)) [js,jA,jT,qV,xl,b,d,a,m,o,-List.getD_eq_getElem?_getD]
     ·rw[if_pos ⟨f,i,λz=>h z.1,e⟩];have l:w=[48]:=by
       obtain⟨c,rfl⟩:=List.length_eq_one_iff.mp (show w.length=1 by omega);have:c=48:=by simpa using g
       rw[this]
      subst l;simp(disch:=first | omega | (simp;done) | (simp;omega)) [js,jA,jT,qV,xl,b,d,a];rfl
    ·rw[if_pos ⟨f,i,λz=>g z.2,e⟩];have m:(w.getD 0 0==48)=false:=U1.mpr g;have p:=jgl (w:=w) (λz=>by rw[z] at f;exact absurd f (by decide)) (by omega) e;simp(disch:=first | omega | (simp;done) | (simp;omega)) [js,jA,jT,qV,xl,b,d,a,m,p,-List.getD_eq_getElem?_getD]
   ·have j:(w.all λc=>decide (c∈[48,49,50,51,52,53,54,55,56,57]))=false:=by
     apply Bool.eq_false_iff.mpr;intro z;exact e λc k=>fig_mem.mp (U9 (List.all_eq_true.mp z c k))
    rw[j] at a;rw[if_neg (λz=>e z.2.2.2)];simp(disch:=first | omega | (simp;done) | (simp;omega)) [js,jA,jT,qV,xl,b,d,a]
  ·have d:¬ (w.length:Int)<=13:=by omega
   rw[if_neg (λz=>i z.2.1)];simp(disch:=first | omega | (simp;done) | (simp;omega)) [js,jA,jT,qV,xl,b,d,a]
 ·have b:¬ (1:Int)<=w.length:=by omega
  rw[if_neg (λz=>f z.1)];simp(disch:=first | omega | (simp;done) | (simp;omega)) [js,jA,jT,qV,xl,b,a]
theorem Kk(m:Nat)(h:10<=m):vJ m=vJ (m / 10)++[(Nat.digitChar (m % 10)).toNat]:=by
 have a:m % 10 < 10:=Nat.mod_lt m (by decide);have t:=Nat.toDigits_append_toDigits (b:=10) (n:=m / 10) (d:=m % 10) (by decide) (by omega) a;rw[Nat.div_add_mod,Nat.toDigits_of_lt_base a] at t;unfold vJ;rw[<- t,N5];rfl
theorem ud:∀ d:Nat,d < 10->(Nat.digitChar d).toNat=48+d:=by decide
theorem ve(m:Nat):∀ c∈vJ m,48<=c/\c<=57:=by
 induction m using Nat.strongRecOn with
 | _ m b =>
  by_cases h:m < 10
  ·intro c a;unfold vJ at a;rw[Nat.toDigits_of_lt_base h] at a;have:=ud m h;simp at a;omega
  ·rw[Kk m (by omega)];intro c a;rcases N2.mp a with a | a
   ·exact b (m / 10) (by omega) c a
   ·have:=ud (m % 10) (Nat.mod_lt m (by decide));rw[M8.mp a];omega
theorem JV(m:Nat)(h1:1<=m):(vJ m).getD 0 0≠48:=by
 induction m using Nat.strongRecOn with
 | _ m b =>
  by_cases h:m < 10
  ·unfold vJ;rw[Nat.toDigits_of_lt_base h];have:=ud m h;simp;omega
  ·rw[Kk m (by omega)];have c:=Jg (m / 10);have e:(vJ (m / 10)++[(Nat.digitChar (m % 10)).toNat]).getD 0 0=(vJ (m / 10)).getD 0 0:=by
    cases hq:vJ (m / 10) with
    | nil=>exact absurd hq c
    | cons a l=>rfl
   rw[e];exact b (m / 10) (by omega) (by omega)
theorem VP{n:Int}(h1:1<=n)(h2:n<=10 ^ 12):js [.str (vJ n.toNat)]=some (.int n):=by
 have a:(vJ n.toNat).length<=13:=qD (by decide) (by omega);have b:=Jg n.toNat
 have c:1<=(vJ n.toNat).length:=List.length_pos_iff.mpr b;rw[yy (by omega),if_pos ⟨c,a,λz=>JV n.toNat (by omega) z.2,ve n.toNat⟩,Ve];congr 2;omega
noncomputable def KW:List (List Nat):=[[112,111,111,108],[99,108,97,105,109],[112,111,116],[101,97,116],[111,114,100,101,114],[112,97,114,116],[112,97,121],[115,104,97,114,101],[114,101,112,97,121],[102,105,108,108],[108,101,110,100],[98,97,99,107],[114,101,115,116],[108,111,111,107],[103,117,97,114,100],[100,101,98,116],[111,110],[108,97,116,101],[101,97,114,108,121],[113,117,105,116]]
theorem jeo:v5=.tup (KW.map D.str):=rfl
theorem jd1:∀ w∈KW,2<=w.length/\w.getD 0 0≠w.getD 1 0:=by decide
theorem je9:∀ w∈KW,∀ n∈List.range w.length,¬ (w.getD n 0∈cons/\w.getD ((n+1) % w.length) 0∈cons/\∀ i∈List.range w.length,i=n \/ i=(n+1) % w.length \/ (w.getD i 0∈abc/\w.getD i 0=w.getD ((n+2) % w.length) 0)):=by decide +kernel
theorem KZ{X:List Nat}{n i c:Nat}(h:n≠i):(X.set n c).getD i 0=X.getD i 0:=by
 rw[List.getD_eq_getElem?_getD,List.getD_eq_getElem?_getD,List.getElem?_set,if_neg h]
theorem ja6{X:List Nat}{n c:Nat}(h:n < X.length):(X.set n c).getD n 0=c:=by
 rw[List.getD_eq_getElem?_getD,List.getElem?_set,if_pos rfl,if_pos h];rfl
theorem Qh{s b i:Nat}(h:i < s):(List.replicate s b).getD i 0=b:=by
 rw[List.getD_eq_getElem?_getD,List.getElem?_replicate,if_pos h];rfl
theorem jcv{w:List Nat}(h:NmK w):w∉KW:=by
 intro m;rcases h with⟨k,b,v,x,o,rfl⟩ | ⟨s,n,b,p,r,v,x,y,o,g,j,rfl⟩
 ·have:=jd1 _ m;rw[List.length_replicate] at this;rw[Qh (by omega),Qh (by omega)] at this;exact this.2 rfl
 ·have a:(((List.replicate s b).set n p).set ((n+1) % s) r).length=s:=by simp
  have t:=je9 _ m n (List.mem_range.mpr (by rw[a];exact y));rw[a] at t;have D:(n+1) % s < s:=Nat.mod_lt _ (by omega);have l:(n+2) % s < s:=Nat.mod_lt _ (by omega);have ne:(n+1) % s≠n:=by
   by_cases q:n+1=s
   ·rw[q,Nat.mod_self];omega
   ·rw[Nat.mod_eq_of_lt (by omega)];omega
  have c:∀ i,i < s->i≠n->i≠(n+1) % s->(((List.replicate s b).set n p).set ((n+1) % s) r).getD i 0=b:=λi d e f=>by
   rw[KZ (Ne.symm f),KZ (Ne.symm e),Qh d]
  refine t ⟨?_,?_,λi d=>?_⟩
  ·rw[KZ ne,ja6 (by simp;omega)];exact g
  ·rw[ja6 (by simp;omega)];exact j
  ·have d:=List.mem_range.mp d;by_cases e:i=n
   ·exact .inl e
   ·by_cases f:i=(n+1) % s
    ·exact .inr (.inl f)
    ·refine .inr (.inr ⟨by rw[c i d e f];exact o,?_⟩);have z:3<=s:=by
      rcases Nat.lt_or_ge s 3 with q | q
      ·exfalso;have:s=2:=by omega
       subst this;omega
      ·exact q
     have A:(n+2) % s≠n:=by
      by_cases q:n+2 < s
      ·rw[Nat.mod_eq_of_lt q];omega
      ·have:(n+2) % s=n+2 - s:=by rw[Nat.mod_eq_sub_mod (by omega),Nat.mod_eq_of_lt (by omega)]
       omega
     have B:(n+2) % s≠(n+1) % s:=by
      by_cases q:n+2 < s
      ·rw[Nat.mod_eq_of_lt q,Nat.mod_eq_of_lt (by omega)];omega
      ·have u:(n+2) % s=n+2 - s:=by rw[Nat.mod_eq_sub_mod (by omega),Nat.mod_eq_of_lt (by omega)]
       by_cases C:n+1=s
       ·rw[C,Nat.mod_self,u];omega
       ·rw[Nat.mod_eq_of_lt (show n+1 < s by omega),u];omega
     rw[c i d e f,c _ l A B]
theorem Yc{w:List Nat}(h:NmK w):1<=w.length/\w.length<=8:=by
 rcases h with⟨k,b,a,c,d,rfl⟩ | ⟨s,n,b,g,i,a,c,j,d,e,f,rfl⟩
 ·rw[List.length_replicate];exact⟨a,c⟩
 ·simp;omega
theorem uo:∀ c∈abc,97<=c/\c<=122:=by decide
theorem Q2:∀ c∈cons,97<=c/\c<=122:=by decide
theorem Vf{w:List Nat}(h:NmK w):∀ c∈w,97<=c/\c<=122:=by
 rcases h with⟨k,b,g,i,d,rfl⟩ | ⟨s,n,b,j,l,g,i,m,d,e,f,rfl⟩
 ·intro c a;rw[List.eq_of_mem_replicate a];exact uo b d
 ·intro c a;rcases List.mem_or_eq_of_mem_set a with a | rfl
  ·rcases List.mem_or_eq_of_mem_set a with a | rfl
   ·rw[List.eq_of_mem_replicate a];exact uo b d
   ·exact Q2 _ e
  ·exact Q2 _ f
theorem ja1(w:List Nat)(l:List (List Nat)):jaq true (.str w) (.tup (l.map D.str))=some (.bl (true != decide (w∈l))):=by
 show(bif xF (.str w) (l.map D.str) then some (D.bl (true != inL (.str w) (l.map D.str))) else none)=_;rw[uh,jaf];rfl
theorem KK{c:Nat}(h:97<=c/\c<=122):c∈[97,98,99,100,101,102,103,104,105,106,107,108,109,110,111,112,113,114,115,116,117,118,119,120,121,122]:=by
 simp only[M5,List.not_mem_nil,or_false];omega
theorem zL{w:List Nat}(h:NmK w):jR [.str w]=some (.bl true):=by
 have i:=Yc h;have b:=vh w [97,98,99,100,101,102,103,104,105,106,107,108,109,110,111,112,113,114,115,116,117,118,119,120,121,122] (by omega);rw[List.all_eq_true.mpr λc e=>U7 (KK (Vf h c e))] at b;have a:=ja1 w KW;rw[U8 (jcv h)] at a;have f:(1:Int)<=w.length:=by omega
 have g:(w.length:Int)<=8:=by omega
 have d:=jeo;generalize KW.map D.str=KL at a d;simp(disch:=first | omega | (simp;done) | (simp;omega)) [jR,jA,y9,qV,f,g,b,d,a]
inductive Item where
 | nm (w:List Nat) | nu (n:Int)
noncomputable def Item.enc:Item->D
 | .nm w=>.str w
 | .nu n=>.int n
noncomputable def Item.wd:Item->List Nat
 | .nm w=>w
 | .nu n=>vJ n.toNat
noncomputable abbrev kM:List Nat:=[110,97,109,101]
inductive Fit:Item->List Nat->Prop where
 | nm (w:List Nat) (h:NmK w):Fit (.nm w) kM
 | nu (n:Int) (k:List Nat) (g:Int) (hk:k≠kM) (hg:Yy ks_GREATEST yK (.str k)=some (.int g)) (h1:1<=n) (h2:n<=g) (h3:g<=10 ^ 12):Fit (.nu n) k
theorem Fit.wd{x:Item}{k:List Nat}(h:Fit x k):x.wd≠[]/\32∉x.wd/\x.wd.length<=13:=by
 cases h with
 | nm w h =>
  have a:=Yc h;exact⟨λz=>by rw[show(Item.nm w).wd=w from rfl] at z;rw[z] at a;simp at a,λz=>by have:=Vf h 32 z;omega,by show w.length<=13;omega⟩
 | nu n k g b c d e f=>exact⟨Jg _,λz=>by have:=ve _ 32 z;omega,qD (by decide) (by omega)⟩
theorem Fit.str{x:Item}{k:List Nat}(h:Fit x k):zO [x.enc]=some (.str x.wd):=by
 cases h with
 | nm w h=>rfl
 | nu n k g c d e a b=>exact jc3 (by omega) (Int.lt_of_le_of_lt (Int.le_trans a b) (by decide))
theorem Fit.atom{x:Item}{k:List Nat}(h:Fit x k):frz x.enc=true/\y3 x.enc=true/\Yh x.enc .non=some (.bl false):=by cases h<;>exact⟨rfl,rfl,rfl⟩
theorem uJ{x:Item}{k:List Nat}(h:Fit x k):jl [.str x.wd,.str k]=some x.enc:=by
 cases h with
 | nm w h =>
  have e:=zL h;show jl [.str w,.str kM]=some (.str w);simp[jl,jA,yc,e]
 | nu n k g b c a d j =>
  have e:=VP a (by omega);have f:(k==[110,97,109,101])=false:=U1.mpr b;have i:Yh (.int n) .non=some (.bl false):=rfl;show jl [.str (vJ n.toNat),.str k]=some (.int n);simp[jl,jA,yc,f,e,i,c,a,d]
structure Fm(kw:List Nat)(xs:List Item)(kinds:List (List Nat)):Prop where
 kw1:kw≠[]
 kw2:32∉kw
 kw3:kw.length<=13
 at_:Yy ks_FORMS vC (.str kw)=some (.tup (kinds.map D.str))
 len:xs.length=kinds.length
 few:xs.length<=5
 fit:∀(i:Nat) (x:Item) (k:List Nat),xs[i]?=some x->kinds[i]?=some k->Fit x k
inductive Fits:List Item->List (List Nat)->Prop where
 | nil:Fits [] []
 | cons {x:Item}{k:List Nat}{xs:List Item}{ks:List (List Nat)}(h:Fit x k) (t:Fits xs ks):Fits (x::xs) (k::ks)
noncomputable abbrev jcL:D->Rh->Option Rh:=gT 2 (gC (jJ [] 4) (gC (jJ [] 5) gN))
theorem zA{a0 a1:Option D}{pl:Int}{w k:List Nat}(l:jl [.str w,.str k]=some .non)(m:w.length<=1000)(n:(w.all λc=>decide (c < 1000))=true){rest kr:List (List Nat)}{xs:List Item}{ks:List (List Nat)}(o:Fits xs ks) :
  ∀{acc:List D}{o4 o5 o6:Option D},acc.length+xs.length<=1000->Vu jcL yI yJ (VL ((xs.map Item.wd++w::rest).map D.str) ((ks++k::kr).map D.str)) [a0,a1,some (.int pl),some (.lst true acc),o4,o5,o6]=some (0,pl):=by
 induction o with
 | nil =>
  intro acc o4 o5 o6 s;have f:jcL (.tup [.str w,.str k]) [a0,a1,some (.int pl),some (.lst true acc),o4,o5,o6]=some [a0,a1,some (.int pl),some (.lst true acc),some (.str w),some (.str k),o6]:=rfl;have e:Yh .non .non=some (.bl true):=rfl;have g:yJ [a0,a1,some (.int pl),some (.lst true acc),some (.str w),some (.str k),o6]=some (0,pl):=by
   simp[yJ,KG,xN,xIf,JA,jfj,l,m,n,e]
  simp only[List.map_nil,X1,L5,VL,Vu,f,g]
 | @cons x a xs ks i t p =>
  intro acc o4 o5 o6 q;rw[M3] at q;have b:=uJ i;obtain⟨j,d,e⟩:=i.atom;have f:jcL (.tup [.str x.wd,.str a]) [a0,a1,some (.int pl),some (.lst true acc),o4,o5,o6]=some [a0,a1,some (.int pl),some (.lst true acc),some (.str x.wd),some (.str a),o6]:=rfl;have h:lim acc.length=true:=jx (by omega);have g:yJ [a0,a1,some (.int pl),some (.lst true acc),some (.str x.wd),some (.str a),o6]=none:=by
   simp[yJ,KG,xN,xIf,b,d,e,j]
  have r:yI [a0,a1,some (.int pl),some (.lst true acc),some (.str x.wd),some (.str a),o6]=some (.nx [a0,a1,some (.int pl),some (.lst true (acc++[x.enc])),some (.str x.wd),some (.str a),some x.enc]):=by
   simp[yI,b,d,e,j,h]
  simp only[L5,List.cons_append,VL,Vu,f,g,r];exact p (by rw[N4];simp only[M3,List.length_nil];omega)
theorem wn{ws:List (List Nat)}(pl:Int):jX [.lst false (ws.map D.str),.non,.int pl]=some (0,pl):=by
 have a:Yh .non .non=some (.bl true):=rfl;simp[jX,fnR,y6,KG,xIf,JA,a]
theorem uW{ws a:List (List Nat)}(h:a.length+1≠ws.length)(d:ws.length<=1000)(e:a.length<=1000)(pl:Int):jX [.lst false (ws.map D.str),.tup (a.map D.str),.int pl]=some (0,pl):=by
 have c:Yh (.tup (a.map D.str)) .non=some (.bl false):=rfl;have b:((a.length:Int)==(ws.length:Int) - 1)=false:=U1.mpr (by omega);simp(disch:=omega) [jX,fnR,y6,KG,xIf,JA,c,b]
theorem uK{T:List Nat}(d:T.length<=1000):y8 [.str T]=some (.lst true ((wgo 32 [] T).map D.str)):=by
 have c:yT (jJ [] 0) (jp (p2 Qp (pV 0) (pC (.str [])))) (pF (pV 0)) ((vd T [32]).map D.str) [none]=some (((vd T [32]).filter λw=>!(w==[])).map D.str):=by
  refine zu (λρ=>∃ o,ρ=[o]) ?_ ⟨none,rfl⟩;rintro w e ρ ⟨o,rfl⟩;exact⟨[some (.str w)],rfl,by simp only[ul,jgP,pV0,jgU,L4,jgq,jc7],rfl,_,rfl⟩
 rw[VV] at c;have a:QF (.str T) [.str [32]]=some (.lst true ((vd T [32]).map D.str)):=by
  show(bif !([32]:List Nat).isEmpty&&decide (T.length<=1000000) then _ else _)=_;rw[U7 (by omega)];rfl
 have b:lim (vd T [32]).length=true:=by
  refine jx ?_;unfold vd;rw[L0];have:=PyProof.Rows.split_le (S T) (S [32]);rw[vz] at this;omega
 simp[y8,jA,qY,a,b,j7,c,-ul]
structure Txd(t:List Nat)(done:List (List Nat)):Prop where
 go:∀ n r,wgo 32 [] (t++(List.replicate (n+1) 32++r))=done++wgo 32 [] r
 fin:∀ n,wgo 32 [] (t++List.replicate n 32)=done
theorem Txd.first{w:List Nat}(h1:w≠[])(h2:32∉w)(a:Nat):Txd (List.replicate a 32++w) [w]:=⟨λn r=>by rw[List.append_assoc,Q5,Vv 32 h1 h2];rfl,λn=>by rw[List.append_assoc,Q5,QV 32 h1 h2]⟩
theorem Txd.step{t:List Nat}{done:List (List Nat)}(h:Txd t done){w:List Nat}(h1:w≠[])(h2:32∉w)(b:Nat):Txd (t++List.replicate (b+1) 32++w) (done++[w]):=by
 refine⟨λn r=>?_,λn=>?_⟩
 ·have e:t++List.replicate (b+1) 32++w++(List.replicate (n+1) 32++r)=t++(List.replicate (b+1) 32++(w++(List.replicate (n+1) 32++r))):=by simp only[List.append_assoc]
  rw[e,h.go,Vv 32 h1 h2,List.append_assoc];rfl
 ·have e:t++List.replicate (b+1) 32++w++List.replicate n 32=t++(List.replicate (b+1) 32++(w++List.replicate n 32)):=by simp only[List.append_assoc]
  rw[e,h.go,QV 32 h1 h2]
theorem uy{n:Int}(a:0<=n)(h1:n<=100):yP (.str [32]) (.int n)=some (.str (List.replicate n.toNat 32)):=by
 rw[jaP (by simp) a (by omega),zc]
theorem Yg{a0:Option D}{m:Int}(l:0<=m):∀{W:List (List Nat)}{k:Nat}{t:List Nat}{done:List (List Nat)}{o3 o4:Option D},(∀ w∈W,w≠[]/\32∉w/\w.length<=14)->1<=k->Txd t done->t.length+20*W.length<=500->k+W.length<=100 ->
  ∃(t':List Nat) (o3' o4':Option D),kq (gT 2 (gC (jJ [] 3) (gC (jJ [] 4) gN))) jI (kn k (W.map D.str)) [a0,some (.int m),some (.str t),o3,o4]=some (.nx [a0,some (.int m),some (.str t'),o3',o4'])/\Txd t' (done++W)/\t'.length<=500
 | [],k,t,done,o3,o4,_,_,ht,hl,_=>⟨t,o3,o4,rfl,by rw[N0];exact ht,by simp at hl;omega⟩
 | w::W,k,t,done,o3,o4,hW,hk,ht,hl,hkl=>by
  rw[M3] at hl hkl;obtain⟨p,q,A⟩:=hW w (by simp);have B:(0:Int)<=m / (3+(k:Int)):=Int.ediv_nonneg l (by omega);obtain⟨b,o⟩:∃ b:Nat,(1+m / (3+(k:Int)) % 3)=((b+1:Nat):Int)/\b<=2:=⟨(m / (3+(k:Int)) % 3).toNat,by omega,by omega⟩;obtain⟨t',o3',o4',e,r,f⟩:=Yg (a0:=a0) l (W:=W) (k:=k+1) (t:=t++List.replicate (b+1) 32++w) (done:=done++[w]) (o3:=some (.int k)) (o4:=some (.str w)) (λv s=>hW v (by simp[s])) (by omega) (ht.step p q b) (by simp only[N4,List.length_replicate];omega) (by omega);refine⟨t',o3',o4',?_,by simpa using r,f⟩;have u:(gT 2 (gC (jJ [] 3) (gC (jJ [] 4) gN))) (.tup [.int k,.str w]) [a0,some (.int m),some (.str t),o3,o4]=some [a0,some (.int m),some (.str t),some (.int k),some (.str w)]:=rfl;have g:(0:Int) < (k:Int):=by omega
  have h:¬ k=0:=by omega
  have i:0 < k:=by omega
  have c:=uy (n:=1+m / (3+(k:Int)) % 3) (by omega) (by omega);rw[o.1,N8] at c;have j:jI [a0,some (.int m),some (.str t),some (.int k),some (.str w)]=some (.nx [a0,some (.int m),some (.str (t++List.replicate (b+1) 32++w)),some (.int k),some (.str w)]):=by
   have x:j4 (.int m) (.int (3+(k:Int)))=some (.int (m / (3+(k:Int)))):=jP (by omega) (by omega);have d:yP (.str [32]) (.int (1+m / (3+(k:Int)) % 3))=some (.str (List.replicate (b+1) 32)):=by rw[o.1];exact c
   have y:=vG (a:=t) (b:=List.replicate (b+1) 32) (by rw[List.length_replicate];omega);have z:=vG (a:=t++List.replicate (b+1) 32) (b:=w) (by rw[N4,List.length_replicate];omega);simp(disch:=omega) [jI,g,h,i,x,jE,d,y,z,-List.append_assoc]
  rw[L5,kn,ki,u,L4,j,L4,Qr,e]
theorem xU{w:List Nat}{W:List (List Nat)}{m:Int}(l:0<=m)(h:∀ v∈w::W,v≠[]/\32∉v/\v.length<=14)(E:W.length<=10):∃ T:List Nat,yU [.lst false ((w::W).map D.str),.int m]=some (.str T)/\wgo 32 [] T=w::W/\T.length<=1000:=by
 obtain⟨o,p,F⟩:=h w (by simp);have q:=uy (n:=m % 3) (by omega) (by omega);obtain⟨c,i,j,e,r,s⟩:=Yg (a0:=some (.lst false ((w::W).map D.str))) l (W:=W) (k:=1) (t:=List.replicate (m % 3).toNat 32++w) (done:=[w]) (o3:=some (.int 0)) (o4:=some (.str w)) (λv u=>h v (by simp[u])) (M9 _) (Txd.first o p _) (by rw[N4,List.length_replicate];omega) (by omega);have x:=uy (n:=m / 7 % 3) (by omega) (by omega);have y:=vG (a:=List.replicate (m % 3).toNat 32) (b:=w) (by rw[List.length_replicate];omega);have z:=vG (a:=c) (b:=List.replicate (m / 7 % 3).toNat 32) (by rw[List.length_replicate];omega);refine⟨c++List.replicate (m / 7 % 3).toNat 32,?_,r.fin _,by rw[N4,List.length_replicate];omega⟩;have A:(gT 2 (gC (jJ [] 3) (gC (jJ [] 4) gN))) (.tup [.int (0:Nat),.str w]) [some (.lst false ((w::W).map D.str)),some (.int m),some (.str (List.replicate (m % 3).toNat 32)),none,none]=some [some (.lst false ((w::W).map D.str)),some (.int m),some (.str (List.replicate (m % 3).toNat 32)),some (.int (0:Nat)),some (.str w)]:=rfl;have B:jI [some (.lst false ((w::W).map D.str)),some (.int m),some (.str (List.replicate (m % 3).toNat 32)),some (.int (0:Nat)),some (.str w)]=some (.nx [some (.lst false ((w::W).map D.str)),some (.int m),some (.str (List.replicate (m % 3).toNat 32++w)),some (.int (0:Nat)),some (.str w)]):=by
  simp[jI,y]
 have C:kq (gT 2 (gC (jJ [] 3) (gC (jJ [] 4) gN))) jI (kn 0 ((w::W).map D.str)) [some (.lst false ((w::W).map D.str)),some (.int m),some (.str (List.replicate (m % 3).toNat 32)),none,none]=some (.nx [some (.lst false ((w::W).map D.str)),some (.int m),some (.str c),i,j]):=by
  conv=>lhs;rw[L5,kn]
  rw[ki];rw[<- L5 (f:=D.str)] at *;rw[A,L4,B,L4,Qr];exact e
 have d:=qE (w::W);have g:=qJ (w::W);generalize(w::W).map D.str=WW at *;simp(disch:=omega) [yU,jA,vI,jE,jP,q,d,g,C,x,z]
noncomputable abbrev jaL:List Nat:=[97,98,99,100,101,102,103,104,105,106,107,108,109,110,111,112,113,114,115,116,117,118,119,120,121,122]
theorem uq{w:List Nat}(h:9<=w.length)(c:w.length<=1000):jR [.str w]=some (.bl false):=by
 have a:(1:Int)<=w.length:=by omega
 have b:¬ (w.length:Int)<=8:=by omega
 simp(disch:=first | omega | (simp;done) | (simp;omega)) [jR,jA,y9,qV,a,b]
theorem uB{w:List Nat}(h1:1<=w.length)(h2:w.length<=8){c:Nat}(b:c∈w)(d:c∉jaL):jR [.str w]=some (.bl false):=by
 have e:(1:Int)<=w.length:=by omega
 have f:(w.length:Int)<=8:=by omega
 have a:=vh w jaL (by omega);rw[show(w.all λc=>decide (c∈jaL))=false from Bool.eq_false_iff.mpr λz=>d (U9 (List.all_eq_true.mp z c b))] at a;simp(disch:=first | omega | (simp;done) | (simp;omega)) [jR,jA,y9,qV,e,f,a]
theorem jdJ:∀ w∈KW,1<=w.length/\w.length<=8/\(w.all λc=>decide (c∈jaL))=true:=by decide +kernel
theorem jcJ{w:List Nat}(h:w∈KW):jR [.str w]=some (.bl false):=by
 obtain⟨g,i,d⟩:=jdJ w h;have e:(1:Int)<=w.length:=by omega
 have f:(w.length:Int)<=8:=by omega
 have b:=vh w jaL (by omega);rw[d] at b;have a:=ja1 w KW;rw[U7 h] at a;have c:=jeo;generalize KW.map D.str=KL at a c;simp(disch:=first | omega | (simp;done) | (simp;omega)) [jR,jA,y9,qV,e,f,b,c,a]
theorem KR{w:List Nat}(e:jR [.str w]=some (.bl false)):jl [.str w,.str kM]=some .non:=by
 simp[jl,jA,yc,e]
theorem Ko{w k:List Nat}(a:k≠kM)(e:js [.str w]=some .non):jl [.str w,.str k]=some .non:=by
 have b:(k==[110,97,109,101])=false:=U1.mpr a;have c:Yh .non .non=some (.bl true):=rfl;simp[jl,jA,yc,b,e,c]
theorem jaW{w k:List Nat}{n g:Int}(f:k≠kM)(a:Yy ks_GREATEST yK (.str k)=some (.int g))(e:js [.str w]=some (.int n))(h:n < 1 \/ g < n):jl [.str w,.str k]=some .non:=by
 have b:(k==[110,97,109,101])=false:=U1.mpr f;have c:Yh (.int n) .non=some (.bl false):=rfl;by_cases d:1<=n
 ·have i:¬ n<=g:=by omega
  simp[jl,jA,yc,b,e,c,a,d,i]
 ·simp[jl,jA,yc,b,e,c,a,d]
structure Wd(w:List Nat):Prop where
 ne:w≠[]
 bl:32∉w
 len:w.length<=14
 sm:(w.all λc=>decide (c < 1000))=true
theorem Wd.of{w:List Nat}(h1:1<=w.length)(h2:w.length<=14)(h:∀ c∈w,33<=c/\c < 1000):Wd w :=
 ⟨λz=>by rw[z] at h1;simp at h1,λz=>by have:=h 32 z;omega,h2,List.all_eq_true.mpr λc a=>U7 (h c a).2⟩
inductive Bad:List (List Nat)->Prop where
 | form {kw:List Nat}{ws:List (List Nat)}(h:Yy ks_FORMS vC (.str kw)=none):Bad (kw::ws)
 | len {kw:List Nat}{ws kinds:List (List Nat)}(h:Yy ks_FORMS vC (.str kw)=some (.tup (kinds.map D.str))) (hk:kinds.length<=100) (hn:kinds.length≠ws.length):Bad (kw::ws)
 | word {kw w k:List Nat}{rest ks kr:List (List Nat)}{xs:List Item}(h:Yy ks_FORMS vC (.str kw)=some (.tup ((ks++k::kr).map D.str))) (hf:Fits xs ks) (hl:rest.length=kr.length) (hx:xs.length<=10) (hr:kr.length<=10)
   (hw:Wd w) (hv:jl [.str w,.str k]=some .non):Bad (kw::(xs.map Item.wd++w::rest))
theorem Fits.len{xs:List Item}{ks:List (List Nat)}(h:Fits xs ks):xs.length=ks.length:=by
 induction h with
 | nil=>rfl
 | cons _ _ a=>simp[a]
theorem uv{kw w k:List Nat}{rest ks kr:List (List Nat)}{xs:List Item}(c:Fits xs ks)(t:rest.length=kr.length)(u:xs.length<=10)(v:kr.length<=10)(d:Wd w)(j:jl [.str w,.str k]=some .non)(pl:Int) :
  jX [.lst false ((kw::(xs.map Item.wd++w::rest)).map D.str),.tup ((ks++k::kr).map D.str),.int pl]=some (0,pl):=by
 have l:=c.len;generalize f:xs.map Item.wd++w::rest=W;generalize g:ks++k::kr=Ks;have m:W.length=xs.length+rest.length+1:=by rw[<- f];simp;omega
 have h:Ks.length=W.length:=by rw[m,<- g];simp;omega
 have e:=zA (a0:=some (.lst false ((kw::W).map D.str))) (a1:=some (.tup (Ks.map D.str))) (pl:=pl) j (by have:=d.len;omega) d.sm (rest:=rest) (kr:=kr) c (acc:=[.str kw]) (o4:=none) (o5:=none) (o6:=none) (by simp;omega);rw[f,g] at e;have n:Yh (.tup (Ks.map D.str)) .non=some (.bl false):=rfl;have a:Kh (some 1) none (.lst false ((kw::W).map D.str))=some (.lst true (W.map D.str)):=by
  rw[J8,vb _ (by decide)];rfl
 have o:yE (.lst false ((kw::W).map D.str)) (.int 0)=some (.str kw):=by rw[jdq (by decide) (by simp)];rfl
 have p:jdu [.lst true (W.map D.str),.tup (Ks.map D.str)]=some (VL (W.map D.str) (Ks.map D.str)):=by
  show(bif decide ((W.map D.str).length<=(Ks.map D.str).length) then some (VL (fzs (W.map D.str)) (fzs (Ks.map D.str))) else none)=_;rw[L0,L0,U7 (by omega),qJ,qJ];rfl
 have q:((Ks.length:Int)==((kw::W).length:Int) - 1)=true:=by rw[h];simp;try omega
 have i:(((kw::W).map D.str).length:Int) - 1=(W.length:Int):=by simp;try omega
 have b:((W.length:Int)+1 - 1)=W.length:=by omega
 generalize r:(kw::W).map D.str=L at *;have s:L.length=W.length+1:=by rw[<- r];simp
 simp(disch:=omega) [jX,fnR,y6,KG,xIf,xN,jez,n,a,o,p,e,jx,h,s,b]
theorem jbu{W:List (List Nat)}(h:Bad W){T:List Nat}(o:T.length<=1000)(p:wgo 32 [] T=W)(k:W.length<=1000)(pl:Int):yh [.str T,.int pl]=some (0,pl):=by
 have e:=uK o;rw[p] at e;have key:∀(kw:List Nat) (a:List (List Nat)) (d:D),W=kw::a->(Yy ks_FORMS vC (.str kw)).getD .non=d->frz d=true->jX [.lst false ((kw::a).map D.str),d,.int pl]=some (0,pl)->yh [.str T,.int pl]=some (0,pl):=by
  intro kw a d q r f l;subst q;have m:yE (.lst true ((kw::a).map D.str)) (.int 0)=some (.str kw):=by rw[jdq (by decide) (by simp)];rfl
  have n:fzs ((kw::a).map D.str)=(kw::a).map D.str:=qJ _;have b:yb ((kw::a).map D.str)=true:=by rw[yM,List.all_map,List.all_eq_true];intro x _;rfl
  have hd:fz d=d:=jbm d f;have g:((((kw::a).map D.str).length:Int)==0)=false:=by simp;omega
  have c:((kw::a).map D.str).length<=1000:=by simpa using k
  generalize(kw::a).map D.str=L at e m n b l g c;simp[yh,fnR,vw,KG,xIf,xN,xM,e,m,r,n,b,hd,l,g]
 cases h with
 | form h=>exact key _ _ .non rfl (by rw[h];rfl) rfl (wn pl)
 | len h v g=>exact key _ _ _ rfl (by rw[h];rfl) (by rw[frz];exact Yr λd hd=>by obtain⟨x,_,rfl⟩:=M6.mp hd;rfl) (uW (by simp;omega) k (by omega) pl)
 | word h f i s t j u=>exact key _ _ _ rfl (by rw[h];rfl) (by rw[frz];exact Yr λd hd=>by obtain⟨x,_,rfl⟩:=M6.mp hd;rfl) (uv f i s t j u pl)
theorem xy{w:List Nat}(a:w.length<=1000)(h:¬ (1<=w.length/\w.length<=13/\¬ (1 < w.length/\w.getD 0 0=48)/\(∀ c∈w,48<=c/\c<=57))):js [.str w]=some .non:=by rw[yy a,if_neg h]
theorem jc2{n:Int}(d:0<=n)(h2:n < 10 ^ 13):js [.str (vJ n.toNat)]=some (.int n):=by
 rcases Int.lt_or_le n 1 with h | h
 ·obtain rfl:n=0:=by omega
  rw[yy (by decide)];rfl
 ·rcases Int.lt_or_le (10 ^ 12) n with a | a
  ·have b:(vJ n.toNat).length<=13:=qD (by decide) (by omega);have c:1<=(vJ n.toNat).length:=List.length_pos_iff.mpr (Jg _);rw[yy (by omega),if_pos ⟨c,b,λz=>JV _ (by omega) z.2,ve _⟩,Ve];congr 2;omega
  ·exact VP h a
theorem JG{n g m:Int}{k:List Nat}(e:k≠kM)(v:Yy ks_GREATEST yK (.str k)=some (.int g))(h1:1<=n)(h2:n<=g)(D:g<=10 ^ 12)(R:0<=m) :
  ∃ w,jk [.int n,.int g,.int m]=some (.str w)/\Wd w/\jl [.str w,.str k]=some .non:=by
 have d:zO [.int n]=some (.str (vJ n.toNat)):=jc3 (by omega) (Int.lt_of_le_of_lt (Int.le_trans h2 D) (by decide));have E:(vJ n.toNat).length<=13:=qD (by decide) (by omega);have l:1<=(vJ n.toNat).length:=List.length_pos_iff.mpr (Jg _);have hd:=ve n.toNat
 have H:=JV n.toNat (by omega);generalize vJ n.toNat=F at d E l hd H;have y:∀(A:List Nat),(∀ c∈A,33<=c/\c < 1000)->∀ c∈A++F,33<=c/\c < 1000:=λA o c a=>(N2.mp a).elim (o c) λz=>by have:=hd c z;omega
 have p:∀(A:List Nat),(∀ c∈A,33<=c/\c < 1000)->∀ c∈F++A,33<=c/\c < 1000:=λA o c a=>(N2.mp a).elim (λz=>by have:=hd c z;omega) (o c);by_cases I:m % 7=0
 ·refine⟨[48],?_,.of (by decide) (by decide) (by decide),jaW (n:=0) e v (by rw[yy (by decide)];rfl) (.inl (by decide))⟩;simp(disch:=omega) [jk,jA,jm,d,jE,I]
 by_cases J:m % 7=1
 ·have i:0<=m / 7 % 3:=by omega
  have j:m / 7 % 3 < 3:=by omega
  have q:zO [.int (g+1+m / 7 % 3)]=some (.str (vJ (g+1+m / 7 % 3).toNat)):=jc3 (by omega) (Int.lt_of_le_of_lt (show _<=(10:Int) ^ 12+3 by omega) (by decide));refine⟨vJ (g+1+m / 7 % 3).toNat,?_,.of (List.length_pos_iff.mpr (Jg _)) (N7 (qD (k:=13) (by decide) (by omega)) (by decide)) (λc a=>by have:=ve _ c a;omega),jaW e v (jc2 (by omega) (by omega)) (.inr (by omega))⟩;simp(disch:=omega) [jk,jA,jm,d,q,jE,jP,J]
 have nd:∀(A B:List Nat) (c:Nat),c∈A++B->¬ (48<=c/\c<=57)->(A++B).length<=1000->js [.str (A++B)]=some .non:=λA B c a K r=>xy r λz=>K (z.2.2.2 c a);by_cases L:m % 7=2
 ·have b:jq (.str [48]) (.str F)=some (.str ([48]++F)):=vG (by simp;omega);refine⟨[48]++F,?_,.of (by simp) (by simp;omega) (y _ (by decide)),Ko e (xy (by simp;omega) λz=>z.2.2.1 ⟨by simp;omega,rfl⟩)⟩;simp(disch:=omega) [jk,jA,jm,d,jE,L,b]
 by_cases M:m % 7=3
 ·have i:0<=m / 7 % 2:=by omega
  have j:m / 7 % 2 < 2:=by omega
  have f:yE (.str [43,45]) (.int (m / 7 % 2))=some (.str [[43,45].getD (m / 7 % 2).toNat 0]):=xl (by decide) i (by simpa using j);have a:[43,45].getD (m / 7 % 2).toNat 0=43 \/ [43,45].getD (m / 7 % 2).toNat 0=45:=by
   rcases(by omega:m / 7 % 2=0 \/ m / 7 % 2=1) with z | z<;>rw[z]<;>decide
  generalize [43,45].getD (m / 7 % 2).toNat 0=c at f a;have b:jq (.str [c]) (.str F)=some (.str ([c]++F)):=vG (by simp;omega);refine⟨[c]++F,?_,.of (by simp) (by simp;omega) (y _ λx s=>by rw[M8.mp s];omega),Ko e (nd _ _ c (by simp) (by omega) (by simp;omega))⟩;simp(disch:=omega) [jk,jA,jm,d,jE,jP,M,f,b]
 by_cases N:m % 7=4
 ·have i:0<=m / 7 % 4:=by omega
  have j:m / 7 % 4 < 4:=by omega
  have f:yE (.str [97,120,46,44]) (.int (m / 7 % 4))=some (.str [[97,120,46,44].getD (m / 7 % 4).toNat 0]):=xl (by decide) i (by simpa using j);have a:[97,120,46,44].getD (m / 7 % 4).toNat 0∈[97,120,46,44]:=yw (by simp;omega);have t:∀ x∈[97,120,46,44],33<=x/\x < 1000/\¬ (48<=x/\x<=57):=by decide
  generalize [97,120,46,44].getD (m / 7 % 4).toNat 0=c at f a;have u:=t c a;have b:jq (.str F) (.str [c])=some (.str (F++[c])):=vG (by simp;omega);refine⟨F++[c],?_,.of (by simp) (by simp;omega) (p _ λx s=>by rw[M8.mp s];omega),Ko e (nd _ _ c (by simp) u.2.2 (by simp;omega))⟩;simp(disch:=omega) [jk,jA,jm,d,jE,jP,N,f,b]
 by_cases O:m % 7=5
 ·have r:yP (.str [48]) (.int 13)=some (.str [48,48,48,48,48,48,48,48,48,48,48,48,48]):=rfl;have b:jq (.str [49]) (.str [48,48,48,48,48,48,48,48,48,48,48,48,48])=some (.str [49,48,48,48,48,48,48,48,48,48,48,48,48,48]):=rfl;refine⟨[49,48,48,48,48,48,48,48,48,48,48,48,48,48],?_,.of (by decide) (by decide) (by decide),Ko e (xy (by decide) λz=>absurd z.2.1 (by decide))⟩;simp(disch:=omega) [jk,jA,jm,d,jE,O,r,b]
 ·have P:m % 7=6:=by omega
  have h:Kh (some 1) none (.str F)=some (.str (F.drop 1)):=by rw[jfn (by omega),vb _ (by decide)];rfl
  have C:∀ c∈F.drop 1,48<=c/\c<=57:=λc a=>hd c (List.mem_of_mem_drop a);have Q:(F.drop 1).length<=13:=by rw[List.length_drop];omega
  generalize F.drop 1=G at h C Q;have b:jq (.str [120]) (.str G)=some (.str ([120]++G)):=vG (by simp;omega);refine⟨[120]++G,?_,.of (by simp) (by simp;omega) (λc a=>?_),Ko e (nd _ _ 120 (by simp) (by omega) (by simp;omega))⟩
  ·simp(disch:=omega) [jk,jA,jm,d,jE,P,h,b]
  ·rcases N2.mp a with z | z
   ·rw[M8.mp z];omega
   ·have:=C c z;omega
noncomputable def VW:FS:=(jK (yD (dP (p2 jy (pV 1) (pC (.int 4)))) (jJ [] 3))
 (jK (yD (dP (p2 jy (p2 j4 (pV 1) (pC (.int 4))) (pCB JP (jc (pV 0) pN)))) (jJ [] 4))
 (jK (sIf (dPT (jp (p2 vF (pV 3) (pC (.int 0))))) (yj (dP (pF (p2 yE (pV 2) (p2 jy (p2 j4 (pV 1) (pC (.int 32))) (pC (.int 20)))))))
 jF)
 (jK (sIf (dPT (jp (p2 vF (pV 3) (pC (.int 1))))) (yj (dP (p2 jq (p2 jq (pSl (pV 0) oN (oS (pV 4))) (p2 yE (pC (.str [65,66,88,89,90])) (p2 jy (p2 j4 (pV 1) (pC (.int 32))) (pC (.int 5))))) (pSl (pV 0) (oS (p2 jq (pV 4) (pC (.int 1)))) oN))))
 jF)
 (jK (sIf (dPT (jp (p2 vF (pV 3) (pC (.int 2))))) (yj (dP (p2 jq (p2 jq (pSl (pV 0) oN (oS (pV 4))) (p2 yE (pC (.str [48,49,53,57,45,95,46])) (p2 jy (p2 j4 (pV 1) (pC (.int 32))) (pC (.int 7))))) (pSl (pV 0) (oS (p2 jq (pV 4) (pC (.int 1)))) oN))))
 jF)
 (yj (dP (p2 jq (pV 0) (pSl (pC (.str [113,114,115,116,117,118,119,120,122])) oN (oS (p2 YC (pC (.int 9)) (pCB JP (jc (pV 0) pN)))))))))))))
theorem JL{u:List Nat}{m:Int}:yt [some (.str u),some (.int m),none,none,none]=VW [some (.str u),some (.int m),some (.lst true (KW.map D.str)),none,none]:=rfl
theorem YH{u:List Nat}(v:NmK u){m:Int}(Q:0<=m):∃ w,ju [.str u,.int m]=some (.str w)/\Wd w/\jl [.str w,.str kM]=some .non:=by
 have R:=Yc v;have n:=Vf v;have i:(0:Int) < u.length:=by omega
 have y:0<=m / 4 % (u.length:Int):=U0 _ (by omega);have F:m / 4 % (u.length:Int) < u.length:=N9 _ i;have b:jy (.int (m / 4)) (.int (u.length:Int))=some (.int (m / 4 % (u.length:Int))):=jE (by omega);generalize m / 4 % (u.length:Int)=at_ at y F b;have j:yE (.lst true (KW.map D.str)) (.int (m / 32 % 20))=some (.str (KW.getD (m / 32 % 20).toNat [])):=JW (by omega) (by have:KW.length=20:=rfl;omega);have d:KW.getD (m / 32 % 20).toNat []∈KW:=yw (by have:KW.length=20:=rfl;omega);generalize KW.getD (m / 32 % 20).toNat []=kx at j d;have e:Kh none (some at_) (.str u)=some (.str (u.take at_.toNat)):=by rw[jfn (by omega),JO _ y]
 have f:Kh (some (at_+1)) none (.str u)=some (.str (u.drop (at_+1).toNat)):=by rw[jfn (by omega),vb _ (by omega)]
 have C:(u.take at_.toNat).length+(u.drop (at_+1).toNat).length+1=u.length:=by rw[X3,List.length_drop];omega
 have mp:∀ c∈u.take at_.toNat,97<=c/\c<=122:=λc a=>n c (List.mem_of_mem_take a);have E:∀ c∈u.drop (at_+1).toNat,97<=c/\c<=122:=λc a=>n c (List.mem_of_mem_drop a);generalize u.take at_.toNat=A at e C mp;generalize u.drop (at_+1).toNat=B at f C E;have put:∀ c:Nat,33<=c->c < 1000->c∉jaL->Wd (A++[c]++B)/\jl [.str (A++[c]++B),.str kM]=some .non:=λc o p H=>by
  refine⟨.of (by simp;omega) (by simp;omega) λx I=>?_,KR (uB (by simp;omega) (by simp;omega) (c:=c) (by simp) H)⟩;rcases N2.mp I with z | z
  ·rcases N2.mp z with z | z
   ·have:=mp x z;omega
   ·rw[M8.mp z];omega
  ·have:=E x z;omega
 have o:∀ c:Nat,jq (.str A) (.str [c])=some (.str (A++[c])):=λc=>vG (by simp;omega);have p:∀ c:Nat,jq (.str (A++[c])) (.str B)=some (.str (A++[c]++B)):=λc=>vG (by simp;omega);by_cases J:m % 4=0
 ·obtain⟨K,S,L⟩:=jdJ kx d;refine⟨kx,?_,.of K (by omega) (λc a=>?_),KR (jcJ d)⟩
  ·simp(disch:=omega) [ju,jA,JL,VW,jE,jP,qV,b,J,j]
  ·have:=U9 (List.all_eq_true.mp L c a);have q:∀ x∈jaL,33<=x/\x < 1000:=by decide
   exact q c this
 by_cases M:m % 4=1
 ·have k:yE (.str [65,66,88,89,90]) (.int (m / 32 % 5))=some (.str [[65,66,88,89,90].getD (m / 32 % 5).toNat 0]):=xl (by decide) (by omega) (by simp;omega);have a:[65,66,88,89,90].getD (m / 32 % 5).toNat 0∈[65,66,88,89,90]:=yw (by simp;omega);have g:∀ x∈[65,66,88,89,90],33<=x/\x < 1000/\x∉jaL:=by decide
  generalize [65,66,88,89,90].getD (m / 32 % 5).toNat 0=c at k a;obtain⟨r,s,t⟩:=g c a;refine⟨_,?_,put c r s t⟩;simp(disch:=omega) [ju,jA,JL,VW,jE,jP,qV,b,M,k,e,f,o,p,-List.append_assoc,-List.cons_append,-List.nil_append]
 by_cases N:m % 4=2
 ·have k:yE (.str [48,49,53,57,45,95,46]) (.int (m / 32 % 7))=some (.str [[48,49,53,57,45,95,46].getD (m / 32 % 7).toNat 0]):=xl (by decide) (by omega) (by simp;omega);have a:[48,49,53,57,45,95,46].getD (m / 32 % 7).toNat 0∈[48,49,53,57,45,95,46]:=yw (by simp;omega);have g:∀ x∈[48,49,53,57,45,95,46],33<=x/\x < 1000/\x∉jaL:=by decide
  generalize [48,49,53,57,45,95,46].getD (m / 32 % 7).toNat 0=c at k a;obtain⟨r,s,t⟩:=g c a;refine⟨_,?_,put c r s t⟩;simp(disch:=omega) [ju,jA,JL,VW,jE,jP,qV,b,N,k,e,f,o,p,-List.append_assoc,-List.cons_append,-List.nil_append]
 ·have O:m % 4=3:=by omega
  have l:Kh none (some (9 - (u.length:Int))) (.str [113,114,115,116,117,118,119,120,122])=some (.str ([113,114,115,116,117,118,119,120,122].take (9 - (u.length:Int)).toNat)):=by rw[jfn (by decide),JO _ (by omega)]
  have lt:([113,114,115,116,117,118,119,120,122].take (9 - (u.length:Int)).toNat).length=9 - u.length:=by rw[X3];simp;try omega
  have mt:∀ c∈[113,114,115,116,117,118,119,120,122].take (9 - (u.length:Int)).toNat,33<=c/\c < 1000:=λc a=>by
   have h:∀ x∈[113,114,115,116,117,118,119,120,122],33<=x/\x < 1000:=by decide
   exact h c (List.mem_of_mem_take a)
  generalize [113,114,115,116,117,118,119,120,122].take (9 - (u.length:Int)).toNat=G at l lt mt;have P:jq (.str u) (.str G)=some (.str (u++G)):=vG (by omega);refine⟨u++G,?_,.of (by simp;omega) (by simp;omega) (λc a=>?_),KR (uq (by simp;omega) (by simp;omega))⟩
  ·simp(disch:=omega) [ju,jA,JL,VW,jE,jP,qV,b,O,l,P]
  ·rcases N2.mp a with z | z
   ·have:=n c z;omega
   ·exact mt c z
theorem Fit.wd'{x:Item}{k:List Nat}(h:Fit x k):Wd x.wd:=by
 have:=h.wd;cases h with
 | nm w h=>exact .of (Yc h).1 (by have:=(Yc h).2;omega) λc a=>by have:=Vf h c a;omega
 | nu n k g b d e f i=>exact .of (List.length_pos_iff.mpr this.1) (by have:=this.2.2;omega) λc a=>by have:=ve _ c a;omega
theorem Fits.split{xs:List Item}{ks:List (List Nat)}(h:Fits xs ks):∀ i,i < xs.length->∃ xa x xb ka k kb,xs=xa++x::xb/\ks=ka++k::kb/\xa.length=i/\Fits xa ka/\Fit x k/\xb.length=kb.length:=by
 induction h with
 | nil=>intro i a;simp at a
 | @cons x k xs ks h t b =>
  intro i a;cases i with
  | zero=>exact⟨[],x,xs,[],k,ks,rfl,rfl,rfl,.nil,h,t.len⟩
  | succ i =>
   obtain⟨xa,y,xb,ka,l,kb,rfl,rfl,c,d,e,f⟩:=b i (by simpa using a);exact⟨x::xa,y,xb,k::ka,l,kb,rfl,rfl,by simp[c],.cons h d,e,f⟩
theorem Fits.mem{xs:List Item}{ks:List (List Nat)}(h:Fits xs ks):∀ x∈xs,∃ k,Fit x k:=by
 induction h with
 | nil=>intro x a;simp at a
 | @cons y k xs ks h t b =>
  intro x a;rcases M5.mp a with rfl | a
  ·exact⟨k,h⟩
  ·exact b x a
structure Fq(kw:List Nat)(xs:List Item)(kinds:List (List Nat)):Prop where
 at_:Yy ks_FORMS vC (.str kw)=some (.tup (kinds.map D.str))
 no:Yy ks_FORMS vC (.str (kw++[115]))=none
 wk:Wd kw
 wk2:Wd (kw++[115])
 fits:Fits xs kinds
 two:2<=xs.length
 few:xs.length<=3
 most:∀(i:Nat) (n:Int),xs[i]?=some (.nu n)->∃ g k,kinds[i]?=some k/\jY [.lst false (.str kw::xs.map Item.enc),.int ((i:Int)+1)]=some (.int g)/\k≠kM/\Yy ks_GREATEST yK (.str k)=some (.int g)/\1<=n/\n<=g/\g<=10 ^ 12
theorem Fq.words{kw:List Nat}{xs:List Item}{a:List (List Nat)}(h:Fq kw xs a):∀ w∈kw::xs.map Item.wd,Wd w:=λw b=>by
 rcases M5.mp b with rfl | b
 ·exact h.wk
 ·obtain⟨x,c,rfl⟩:=M6.mp b;obtain⟨k,d⟩:=h.fits.mem x c;exact d.wd'
theorem jcf{kw:List Nat}{xs:List Item}{a:List (List Nat)}(h:Fq kw xs a):yT (jJ [] 0) qT (pCB zO (jc (pV 0) pN)) (.str kw::xs.map Item.enc) [none]=some ((kw::xs.map Item.wd).map D.str):=by
 have e:=Yw (G:=jJ [] 0) (p:=pCB zO (jc (pV 0) pN)) (xs:=.str kw::xs.map Item.enc) (l:=Item.nm kw::xs) (en:=Item.enc) (out:=λx=>D.str x.wd) rfl (λρ=>∃ o,ρ=[o]) (λx b ρ=>by
  rintro⟨o,rfl⟩;refine⟨[some x.enc],rfl,?_,_,rfl⟩;have:zO [x.enc]=some (.str x.wd):=by
   rcases M5.mp b with rfl | b
   ·rfl
   ·obtain⟨k,c⟩:=h.fits.mem x b;exact c.str
  simp[this]) ⟨none,rfl⟩
 rw[e];simp[Item.wd]
theorem wc{kw:List Nat}{xs:List Item}{A:List (List Nat)}(h:Fq kw xs A){m:Int}(hm:0<=m) :
  ∃ W:List (List Nat),jD [.lst false (.str kw::xs.map Item.enc),.int m]=some (.lst true (W.map D.str))/\Bad W/\(∀ w∈W,Wd w)/\1<=W.length/\W.length<=10:=by
 have few:=h.few;have two:=h.two;have t:=h.words;have H:=jcf h;have fl:=h.fits.len;have B:(.str kw::xs.map Item.enc).length=xs.length+1:=by simp
 generalize Y:D.str kw::xs.map Item.enc=E at *;generalize c:kw::xs.map Item.wd=W0 at H t;have Z:W0.length=xs.length+1:=by rw[<- c];simp
 have f:frzs E=true:=by
  rw[<- Y];refine Yr λd hd=>?_;rcases M5.mp hd with rfl | hd
  ·rfl
  ·obtain⟨x,hx,rfl⟩:=M6.mp hd;cases x<;>rfl
 have a0:0<=m % ((xs.length:Int)+1):=U0 _ (by omega);have a1:m % ((xs.length:Int)+1) < (xs.length:Int)+1:=N9 _ (by omega);have l:jy (.int m) (.int ((xs.length:Int)+1))=some (.int (m % ((xs.length:Int)+1))):=jE (by omega);obtain⟨at_,hat⟩:∃ n:Nat,m % ((xs.length:Int)+1)=(n:Int):=⟨(m % ((xs.length:Int)+1)).toNat,by omega⟩;rw[hat] at a0 a1 l;have J:Kh none (some (at_:Int)) (.lst true (W0.map D.str))=some (.lst true ((W0.take at_).map D.str)):=by rw[J8,JO _ (by omega)];simp
 have y:Kh (some ((at_:Int)+1)) none (.lst true (W0.map D.str))=some (.lst true ((W0.drop (at_+1)).map D.str)):=by rw[J8,vb _ (by omega)];rfl
 have K:Kh none (some ((at_:Int)+1)) (.lst true (W0.map D.str))=some (.lst true ((W0.take (at_+1)).map D.str)):=by rw[J8,JO _ (by omega)];rfl
 have M:yE (.lst true (W0.map D.str)) (.int (at_:Int))=some (.str (W0.getD at_ [])):=by rw[JW (by omega) (by omega)];rfl
 have lenE:JP [.lst false E]=some (.int ((xs.length:Int)+1)):=by
  show some (D.int (E.length:Int))=_;rw[B];simp
 have q:Y5 (.lst false E)=some E:=by
  show some (fzs E)=some E;rw[yW E f]
 have r:lim E.length=true:=jx (by omega);have ltk:(W0.take at_).length=at_:=by rw[X3];omega
 have ltk1:(W0.take (at_+1)).length=at_+1:=by rw[X3];omega
 have ldr:(W0.drop (at_+1)).length=xs.length - at_:=by rw[List.length_drop];omega
 by_cases V:m / 4 % 5=0/\0 < at_
 ·obtain⟨V,c0'⟩:=V;have N:=JN (o:=true) (o':=true) (a:=W0.take at_) (b:=W0.drop (at_+1)) (by omega);refine⟨W0.take at_++W0.drop (at_+1),?_,?_,λw p=>t w ((N2.mp p).elim List.mem_of_mem_take List.mem_of_mem_drop),by rw[N4];omega,by rw[N4];omega⟩
  ·have g:(0:Int) < at_:=by omega
   have g0:¬ at_=0:=by omega
   simp(disch:=omega) [jD,jA,jS,j7,q,H,f,r,B,l,jE,jP,V,g,g0,J,y,N,jx,Z,-List.map_append,-List.map_take,-List.map_drop]
  ·have e:W0.take at_++W0.drop (at_+1)=kw::((xs.map Item.wd).take (at_ - 1)++(xs.map Item.wd).drop at_):=by
    rw[<- c];obtain⟨j,rfl⟩:∃ j,at_=j+1:=⟨at_ - 1,by omega⟩;simp
   rw[e];exact .len h.at_ (by omega) (by rw[N4,X3,List.length_drop,L0];omega)
 by_cases X:m / 4 % 5=1
 ·have N:=JN (o:=true) (o':=true) (a:=W0.take (at_+1)) (b:=[W0.getD at_ []]) (by simp;omega);have hb:=JN (o:=true) (o':=true) (a:=W0.take (at_+1)++[W0.getD at_ []]) (b:=W0.drop (at_+1)) (by simp;omega);have hg:W0.getD at_ []∈W0:=yw (by omega);refine⟨W0.take (at_+1)++[W0.getD at_ []]++W0.drop (at_+1),?_,?_,λw p=>?_,by simp;omega,by simp;omega⟩
  ·generalize W0.getD at_ []=wx at M N hb;simp only[L5,List.map_nil] at N;simp(disch:=omega) [jD,jA,jS,j7,q,H,f,r,B,l,jE,jP,X,K,y,M,N,hb,jx,Z,-List.map_append,-List.map_take,-List.map_drop,-List.append_assoc]
  ·have e:W0.take (at_+1)++[W0.getD at_ []]++W0.drop (at_+1)=kw::((xs.map Item.wd).take at_++[W0.getD at_ []]++(xs.map Item.wd).drop at_):=by
    generalize W0.getD at_ []=wx;rw[<- c];simp
   rw[e];exact .len h.at_ (by omega) (by simp;omega)
  ·rcases N2.mp p with z | z
   ·rcases N2.mp z with z | z
    ·exact t w (List.mem_of_mem_take z)
    ·rw[M8.mp z];exact t _ hg
   ·exact t w (List.mem_of_mem_drop z)
 have n01:¬ (m / 4 % 5=0/\(0:Int) < at_):=λz=>V ⟨z.1,by omega⟩;by_cases c2:at_=0
 ·subst c2;have hi0:yE (.lst true (W0.map D.str)) (.int 0)=some (.str kw):=by rw[JW (by omega) (by omega),<- c];rfl
  have O:jq (.str kw) (.str [115])=some (.str (kw++[115])):=vG (by have:=h.wk.len;simp;omega);have P:Kh (some 1) none (.lst true (W0.map D.str))=some (.lst true ((xs.map Item.wd).map D.str)):=by rw[J8,vb _ (by omega),<- c];rfl
  have C:=JN (o:=true) (o':=true) (a:=[kw++[115]]) (b:=xs.map Item.wd) (by simp;omega);refine⟨[kw++[115]]++xs.map Item.wd,?_,.form h.no,λw p=>?_,by simp,by simp;omega⟩
  ·generalize kw++[115]=kz at O C;simp only[L5,List.map_nil] at C;simp(disch:=omega) [jD,jA,jS,j7,q,H,f,r,B,l,jE,jP,X,hi0,O,P,C,jx,-List.map_append,-List.map_map]
  ·rcases N2.mp p with z | z
   ·rw[M8.mp z];exact h.wk2
   ·exact t w (by rw[<- c];exact L6 _ z)
 obtain⟨i,rfl⟩:∃ i,at_=i+1:=⟨at_ - 1,by omega⟩;obtain⟨xa,x,xb,ka,k,kb,ex,ek,Q,fa,fx,lb⟩:=h.fits.split i (by omega);have eW:∀ w:List Nat,W0.set (i+1) w=kw::(xa.map Item.wd++w::xb.map Item.wd):=λw=>by
  rw[<- c,ex,List.set_cons_succ,N5,L5,List.set_append_right _ _ (by simp[Q])];simp[Q]
 have eE:yE (.lst false E) (.int ((i:Int)+1))=some x.enc:=by
  rw[jdq (by omega) (by rw[B];omega),<- Y,ex];simp[Q]
 have rng:∀ w:List Nat,∀ v∈kw::(xa.map Item.wd++w::xb.map Item.wd),Wd w->Wd v:=λw v s p=>by
  rcases M5.mp s with rfl | s
  ·exact h.wk
  rcases N2.mp s with s | s
  ·exact t v (by rw[<- c,ex];simp only[N5];exact L6 _ (List.mem_append_left _ s))
  ·rcases M5.mp s with rfl | s
   ·exact p
   ·exact t v (by rw[<- c,ex];simp only[N5,L5];exact L6 _ (U2 _ (L6 _ s)))
 have lx:xa.length+xb.length+1=xs.length:=by rw[ex];simp;omega
 have fin:∀ w:List Nat,jD [.lst false E,.int m]=some (.lst true ((W0.set (i+1) w).map D.str))->Wd w->jl [.str w,.str k]=some .non->∃ W:List (List Nat),jD [.lst false E,.int m]=some (.lst true (W.map D.str))/\Bad W/\(∀ w∈W,Wd w)/\1<=W.length/\W.length<=10:=λw R I S=>by
  refine⟨_,R,?_,?_,?_,?_⟩
  ·rw[eW];exact .word (by rw[h.at_,ek]) fa (by rw[L0];exact lb) (by omega) (by omega) I S
  ·rw[eW];exact λv s=>rng w v s I
  ·rw[List.length_set];omega
  ·rw[List.length_set];omega
 have T:0<=m / 20:=by omega
 have ec:((i+1:Nat):Int)=(i:Int)+1:=rfl;rw[ec] at l;have gi:¬ (i:Int)+1=0:=by omega
 have n0:¬ m / 4 % 5=0:=λz=>n01 ⟨z,by omega⟩;have hx:ixN (W0.map D.str).length ((i:Int)+1)=some (i+1):=Qz (i:=i+1) (by rw[L0,Z];omega);have U:∀ w:List Nat,(W0.map D.str).set (i+1) (.str w)=(W0.set (i+1) w).map D.str:=λw=>by rw[List.map_set]
 generalize hL:W0.map D.str=L at *;cases x with
 | nm u =>
  obtain⟨hu,rfl⟩:NmK u/\k=kM:=by cases fx;exact⟨‹_›,rfl⟩
  obtain⟨w,R,I,S⟩:=YH hu T;refine fin w ?_ I S;have F:yE (.lst false E) (.int ((i:Int)+1))=some (.str u):=eE;rw[<- U w];simp(disch:=omega) [jD,jA,jS,j7,q,H,f,r,B,l,jE,jP,X,n0,gi,F,R,hx,Qk,jx]
 | nu n =>
  obtain⟨g,k',G,e0,hk,hg,g1,g2,g3⟩:=h.most i n (by rw[ex];simp[Q]);obtain rfl:k'=k:=by
   rw[ek] at G;have lk:ka.length=i:=by rw[<- fa.len];exact Q
   simp[lk] at G;exact G.symm
  obtain⟨w,R,I,S⟩:=JG hk hg g1 g2 g3 T;refine fin w ?_ I S;have F:yE (.lst false E) (.int ((i:Int)+1))=some (.int n):=eE;rw[Y] at e0;have hfz:fzs E=E:=yW E f;rw[<- U w];simp(disch:=omega) [jD,jA,jS,j7,q,H,f,r,B,l,jE,jP,X,n0,gi,F,e0,R,hx,hfz,Qk,jx]
noncomputable abbrev jbh:List Nat:=[100,97,121]
noncomputable abbrev wl:List Nat:=[99,111,105,110,115]
noncomputable abbrev kBy:List Nat:=[98,121]
theorem Y7{n:Int}(h1:1<=n)(h2:n<=60):Fit (.nu n) jbh:=.nu n _ 60 (by decide) rfl h1 h2 (by decide)
theorem jd5{n:Int}(h1:1<=n)(h2:n<=30):Fit (.nu n) kBy:=.nu n _ 30 (by decide) rfl h1 h2 (by decide)
theorem xP{n:Int}(h1:1<=n)(h2:n<=1000000000000):Fit (.nu n) wl:=.nu n _ 1000000000000 (by decide) rfl h1 h2 (by decide)
theorem Jr{kw:List Nat}{l:List D}{at_ g:Int}(h:g=if kw=[111,110]/\at_=2 then 1000000000000 else if kw=[108,97,116,101]/\at_=3 then 30 else 60):jY [.lst false (.str kw::l),.int at_]=some (.int g):=by
 have d:yE (.lst false (.str kw::l)) (.int 0)=some (.str kw):=by rw[jdq (by decide) (by simp)];rfl
 have p3:zo (.int 10) (.int 12)=some (.int 1000000000000):=rfl;subst h;by_cases a:kw=[111,110]
 ·subst a;by_cases b:at_=2
  ·subst b;simp[jY,jA,yp,d,p3]
  ·simp[jY,jA,yp,d,b]
 ·have e:(kw==[111,110])=false:=U1.mpr a;by_cases c:kw=[108,97,116,101]
  ·subst c;by_cases b:at_=3
   ·subst b;simp[jY,jA,yp,d]
   ·simp[jY,jA,yp,d,b]
  ·have f:(kw==[108,97,116,101])=false:=U1.mpr c;simp[jY,jA,yp,d,a,c,e,f]
theorem jcr{c m:Int}(J:0<=m):∃(kw:List Nat) (xs:List Item) (kinds:List (List Nat)),yd [.int c,.int m]=some (.lst true (.str kw::xs.map Item.enc))/\Fq kw xs kinds:=by
 obtain⟨N,f,K,A⟩:=jaB c (many:=4) (by decide) (by decide);rw[show((4:Nat):Int)=4 from rfl] at f;have g:=JW (o:=true) (l:=N) (i:=m / 5 % 4) (by omega) (by omega);have h:=A _ (yw (l:=N) (i:=(m / 5 % 4).toNat) (d:=[]) (by omega));generalize N.getD (m / 5 % 4).toNat []=u at g h;have B:=JW (o:=true) (l:=N) (i:=m / 21 % 4) (by omega) (by omega);have C:=A _ (yw (l:=N) (i:=(m / 21 % 4).toNat) (d:=[]) (by omega));generalize N.getD (m / 21 % 4).toNat []=v at B C;obtain⟨y,j,a,b⟩:=Y9 (c:=c) (w:=m / 20 % 1009) (most:=60) (by omega) (by omega) (by decide) (by decide);obtain⟨z,I,D,E⟩:=Y9 (c:=c) (w:=m / 22 % 997) (most:=1000000000000) (by omega) (by omega) (by decide) (by decide);obtain⟨q,eq,F,G⟩:=Y9 (c:=c) (w:=m / 23 % 991) (most:=30) (by omega) (by omega) (by decide) (by decide);have p3:zo (.int 10) (.int 12)=some (.int 1000000000000):=rfl;by_cases k:m % 5=0
 ·refine⟨[100,101,98,116],[.nm u,.nm v],[kM,kM],?_,rfl,rfl,.of (by decide) (by decide) (by decide),.of (by decide) (by decide) (by decide),.cons (.nm u h) (.cons (.nm v C) .nil),by simp,by simp,λi n e=>?_⟩
  ·simp(disch:=omega) [yd,jA,yo,f,g,B,j,jE,jP,k,jx,Item.enc]
  ·match i,e with
   | 0,e=>cases e
   | 1,e=>cases e
   | i+2,e=>simp at e
 by_cases p:m % 5=1
 ·refine⟨[111,110],[.nu y,.nu z],[jbh,wl],?_,rfl,rfl,.of (by decide) (by decide) (by decide),.of (by decide) (by decide) (by decide),.cons (Y7 a b) (.cons (xP D E) .nil),by simp,by simp,λi n e=>?_⟩
  ·simp(disch:=omega) [yd,jA,yo,f,g,j,I,p3,jE,jP,p,jx,Item.enc]
  ·match i,e with
   | 0,e=>cases e;exact⟨60,jbh,rfl,Jr (by decide),by decide,rfl,a,b,by decide⟩
   | 1,e=>cases e;exact⟨1000000000000,wl,rfl,Jr (by decide),by decide,rfl,D,E,by decide⟩
   | i+2,e=>simp at e
 by_cases r:m % 5=2
 ·refine⟨[108,97,116,101],[.nm u,.nu y,.nu q],[kM,jbh,kBy],?_,rfl,rfl,.of (by decide) (by decide) (by decide),.of (by decide) (by decide) (by decide),.cons (.nm u h) (.cons (Y7 a b) (.cons (jd5 F G) .nil)),by simp,by simp,λi n e=>?_⟩
  ·simp(disch:=omega) [yd,jA,yo,f,g,j,eq,jE,jP,r,jx,Item.enc]
  ·match i,e with
   | 0,e=>cases e
   | 1,e=>cases e;exact⟨60,jbh,rfl,Jr (by decide),by decide,rfl,a,b,by decide⟩
   | 2,e=>cases e;exact⟨30,kBy,rfl,Jr (by decide),by decide,rfl,F,G,by decide⟩
   | i+3,e=>simp at e
 have H:∀ kw:List Nat,(kw=[101,97,114,108,121] \/ kw=[113,117,105,116])->Fq kw [.nm u,.nu y] [kM,jbh]:=λkw s=>by
  rcases s with rfl | rfl
  ·refine⟨rfl,rfl,.of (by decide) (by decide) (by decide),.of (by decide) (by decide) (by decide),.cons (.nm u h) (.cons (Y7 a b) .nil),by simp,by simp,λi n e=>?_⟩
   match i,e with
   | 0,e=>cases e
   | 1,e=>cases e;exact⟨60,jbh,rfl,Jr (by decide),by decide,rfl,a,b,by decide⟩
   | i+2,e=>simp at e
  ·refine⟨rfl,rfl,.of (by decide) (by decide) (by decide),.of (by decide) (by decide) (by decide),.cons (.nm u h) (.cons (Y7 a b) .nil),by simp,by simp,λi n e=>?_⟩
   match i,e with
   | 0,e=>cases e
   | 1,e=>cases e;exact⟨60,jbh,rfl,Jr (by decide),by decide,rfl,a,b,by decide⟩
   | i+2,e=>simp at e
 rcases(by omega:m / 24 % 2=0 \/ m / 24 % 2=1) with t | t
 ·refine⟨_,_,_,?_,H _ (.inl rfl)⟩;have x:yE (.lst true [.str [101,97,114,108,121],.str [113,117,105,116]]) (.int 0)=some (.str [101,97,114,108,121]):=rfl;simp(disch:=omega) [yd,jA,yo,f,g,j,jE,jP,k,p,r,t,x,jx,Item.enc]
 ·refine⟨_,_,_,?_,H _ (.inr rfl)⟩;have x:yE (.lst true [.str [101,97,114,108,121],.str [113,117,105,116]]) (.int 1)=some (.str [113,117,105,116]):=rfl;simp(disch:=omega) [yd,jA,yo,f,g,j,jE,jP,k,p,r,t,x,jx,Item.enc]
theorem jcw(p:Int):Jm [.exc 0 p]=some (.str [98,97,100]):=rfl
theorem jal{a0 a1:Option D}{c:Int}{k:Nat}(O:k<=100){o4 o5 o6 o7 o8:Option D}:∃ o4' o5' o6' o7' o8',Vc [a0,a1,some (.int k),some (.int c),o4,o5,o6,o7,o8]=some (.nx [a0,a1,some (.int k),some (.int c),o4',o5',o6',o7',o8']):=by
 have s:=Vt (c:=c) (k:=(k:Int)) (by omega) (by omega);have g:=Vt (c:=c) (k:=(k:Int)+70) (by omega) (by omega);have t:=KY c k;have u:=KY c ((k:Int)+70);generalize kH c k=M at s t;generalize kH c ((k:Int)+70)=M2 at g u;obtain⟨kw,l,n,y,B⟩:=jcr (c:=c) t;obtain⟨W,o,C,p,F,G⟩:=wc B u;have h:fzs (D.str kw::l.map Item.enc)=D.str kw::l.map Item.enc:=xz λd hd=>by
  rcases M5.mp hd with rfl | hd
  ·rfl
  ·obtain⟨x,H,rfl⟩:=M6.mp hd;cases x<;>rfl
 have i:yb (D.str kw::l.map Item.enc)=true:=by
  rw[yM];refine List.all_eq_true.mpr λd hd=>?_;rcases M5.mp hd with rfl | hd
  ·rfl
  ·obtain⟨x,H,rfl⟩:=M6.mp hd;cases x<;>rfl
 generalize D.str kw::l.map Item.enc=E at y o h i;obtain⟨e,f,rfl⟩:∃ e f,W=e::f:=by
  cases W with
  | nil=>simp at F
  | cons a b=>exact⟨a,b,rfl⟩
 obtain⟨T,z,q,I⟩:=xU (w:=e) (W:=f) (m:=M / 8) (by omega) (λv r=>⟨(p v r).ne,(p v r).bl,(p v r).len⟩) (by simp at G;omega);have J:=jbu C I q (by omega) (1+M % 400);have A:fzs ((e::f).map D.str)=(e::f).map D.str:=qJ _;have j:yb ((e::f).map D.str)=true:=by rw[yM,List.all_map,List.all_eq_true];intro x _;rfl
 generalize(e::f).map D.str=L at o z A j;have K:=jcw (1+M % 400);have N:Yh (.exc 0 (1+M % 400)) .non=some (.bl false):=rfl;refine⟨some (.int M),some (.lst true L),some (.int (1+M % 400)),some (.exc 0 (1+M % 400)),none,?_⟩;simp(disch:=omega) [Vc,s,g,y,o,h,i,A,j,z,J,K,N,jE,jP,jeX,YY,fz,frz,y3,fzs,frzs,Qk,tyD]
theorem Vo{a0 a1:Option D}:∀{C:List Int}{k:Nat}{o2 o3 o4 o5 o6 o7 o8:Option D},k+C.length<=100 ->
  ∃ o2' o3' o4' o5' o6' o7' o8',kq (gT 2 (gC (jJ [] 2) (gC (jJ [] 3) gN))) Vc (kn k (C.map D.int)) [a0,a1,o2,o3,o4,o5,o6,o7,o8]=some (.nx [a0,a1,o2',o3',o4',o5',o6',o7',o8'])
 | [],k,o2,o3,o4,o5,o6,o7,o8,_=>⟨o2,o3,o4,o5,o6,o7,o8,rfl⟩
 | c::C,k,o2,o3,o4,o5,o6,o7,o8,h=>by
  rw[M3] at h;obtain⟨a,b,d,f,g,i⟩:=jal (a0:=a0) (a1:=a1) (c:=c) (k:=k) (by omega) (o4:=o4) (o5:=o5) (o6:=o6) (o7:=o7) (o8:=o8);obtain⟨j,l,m,n,o,p,q,e⟩:=Vo (a0:=a0) (a1:=a1) (C:=C) (k:=k+1) (o2:=some (.int k)) (o3:=some (.int c)) (o4:=a) (o5:=b) (o6:=d) (o7:=f) (o8:=g) (by omega);refine⟨j,l,m,n,o,p,q,?_⟩;have r:(gT 2 (gC (jJ [] 2) (gC (jJ [] 3) gN))) (.tup [.int k,.int c]) [a0,a1,o2,o3,o4,o5,o6,o7,o8]=some [a0,a1,some (.int k),some (.int c),o4,o5,o6,o7,o8]:=rfl;rw[L5,kn,ki,r,L4,i,L4,Qr,e]
theorem jb9(l:List Int):fzs (l.map D.int)=l.map D.int:=xz λd hd=>by obtain⟨x,_,rfl⟩:=M6.mp hd;rfl
theorem uN(l:List Int):frzs (l.map D.int)=true:=Yr λd hd=>by obtain⟨x,_,rfl⟩:=M6.mp hd;rfl
theorem jai(ns:List Int)(o:ns.length<=63)(p:∀ x∈ns,Builtin.Int.intBits x<=2 ^ 20):K2 [.lst false (ns.map D.int)]=some (.bl true):=by
 have f:=jb9 ns;have fr:=uN ns;cases ns with
 | nil =>
  obtain⟨g,h,i,j,l,m,n,e⟩:=Vo (a0:=some (.lst false [])) (a1:=some (.lst false [.int 0])) (C:=[0]) (k:=0) (o2:=none) (o3:=none) (o4:=none) (o5:=none) (o6:=none) (o7:=none) (o8:=none) (by simp);simp only[L5,List.map_nil] at e;simp[K2,jA,u0,e,jx]
 | cons c C =>
  obtain⟨g,h,i,j,l,m,n,e⟩:=Vo (a0:=some (.lst false ((c::C).map D.int))) (a1:=some (.lst false ((c::C).map D.int))) (C:=c::C) (k:=0) (o2:=none) (o3:=none) (o4:=none) (o5:=none) (o6:=none) (o7:=none) (o8:=none) (by omega);have a:¬ (((c::C).map D.int).length:Int)=0:=by rw[L0,M3];omega
  have d:lim ((c::C).map D.int).length=true:=jx (by rw[L0];omega);generalize(c::C).map D.int=CC at *;have b:¬ CC=[]:=λz=>a (by rw[z];rfl);simp[K2,jA,u0,f,fr,a,b,d,e]
end K11
set_option maxHeartbeats 0
namespace K11
open PySem L2 QD QX
theorem all_mk{l:PySem.W.OpenLaw}{w:World}{K:PySem.W.Frag}{h:Heap}{mg:Str->Option Value}{fa:Addr}(X:K.In h)(G:h.Ns mainGlobals mg)(hfa:mg "law" = some (.ref fa))
  {a_C0 x_Unfinished x_Misplaced x_TooMany x_NoName x_Twice x_Unguarded x_DealError:Addr}
  {nm_C0 q_C0:Str}{N_C0:Addr}{bs_C0 bm_C0:List Value}{sn_C0:List Str}{sub_C0:List Value}{ab_C0:Bool}{col_C0:Option Bool}{dd_C0:Option Addr}{k0_C0 k1_C0 k2_C0 k3_C0 k5_C0:Option Value}{nm_D q_D:Str}{N_D:Addr}{bs_D bm_D:List Value}{sn_D:List Str}{sub_D:List Value}{ab_D:Bool}{col_D:Option Bool}{dd_D:Option Addr}{k0_D k1_D k2_D k3_D k5_D:Option Value}{Vh:Option Addr}{Vj:ClassData}{Y2:Array (Option Value)}{V5:Option Addr}{V0:ClassData}{Kb:Array (Option Value)}{zt:Option Addr}{zY:ClassData}{zx:Array (Option Value)}{xT:Option Addr}{xC:ClassData}{wI:Array (Option Value)}{uV:Option Addr}{jaw:ClassData}{jak:Array (Option Value)}{Kt:Option Addr}{VD:ClassData}{Kf:Array (Option Value)}{VB:Option Addr}{Kq:ClassData}{Kd:Array (Option Value)}
  {jc5:Addr}{jep jeE:Option Addr}{jem:Array (Option Value)}{jeR je4 jeO jeM ja5 jd7:Value}
  {t_LONGEST_NAME:Tok}
  {jj:Addr}
  {Kx:Nat}{V6:Array (Option Value)}{qB qH qF qr qw qL qN qA qv qP kJ ky kI kC kB kE kA kG kF ku:Tok}
  {t_LETTERS:Tok}
  {t_LONGEST_NUMBER:Tok}
  {t_FIGURES:Tok}
  {ji:Addr}
  {GREATEST_ep:Nat}{GREATEST_k0 GREATEST_k1 GREATEST_k2 GREATEST_k3 GREATEST_k4:Tok}
  {GREATEST_u0:Tok}
  {GREATEST_u1:Tok}
  {GREATEST_u2:Tok}
  {GREATEST_u3:Tok}
  {GREATEST_u4:Tok}
  {jv b_FORMS_0 b_FORMS_1 b_FORMS_2 b_FORMS_3 b_FORMS_4:Addr}
  {FORMS_ep:Nat}{FORMS_k0 FORMS_k1 FORMS_k2 FORMS_k3 FORMS_k4:Tok}
  {b_FORMS_0_n:Nat}{b_FORMS_0_s:Array (Option Value)}{b_FORMS_0_t0 b_FORMS_0_t1:Tok}
  {b_FORMS_1_n:Nat}{b_FORMS_1_s:Array (Option Value)}{b_FORMS_1_t0 b_FORMS_1_t1:Tok}
  {b_FORMS_2_n:Nat}{b_FORMS_2_s:Array (Option Value)}{b_FORMS_2_t0 b_FORMS_2_t1 b_FORMS_2_t2:Tok}
  {b_FORMS_3_n:Nat}{b_FORMS_3_s:Array (Option Value)}{b_FORMS_3_t0 b_FORMS_3_t1:Tok}
  {b_FORMS_4_n:Nat}{b_FORMS_4_s:Array (Option Value)}{b_FORMS_4_t0 b_FORMS_4_t1:Tok}
  (c1_C0:PySem.W.nsIn K mainGlobals "BadRow" = some (some (.ref a_C0))) (c2_C0:K.lookup a_C0=some (excClassObj nm_C0 q_C0 a_C0 N_C0 bs_C0 bm_C0 true sn_C0 sub_C0 ab_C0 col_C0 dd_C0 k0_C0 k1_C0 k2_C0 k3_C0 k5_C0 "ValueError.__new__")) (c8_C0:JH bm_C0=true) (c3_C0:PySem.W.findIn K (.ref a_C0) "__getattribute__" = some (some (.builtin "BaseException.__getattribute__"))) (c4_C0:PySem.W.findIn K (.ref a_C0) "__getattr__" = some none) (c5_C0:PySem.W.findIn K (.ref a_C0) "__setattr__" = some (some (.builtin "object.__setattr__"))) (c6_C0:PySem.W.findIn K (.ref a_C0) "__class__" = some (some (.builtin "object.__class__"))) (c7_C0:PySem.W.mroIn K a_C0 (.type "object")=some true) (c9_C0:PySem.W.keepIn K (.ref a_C0)=true) (c10_C0:PySem.W.findIn K (.ref a_C0) "place" = some none) (u_BadRow:PySem.W.subIn K (.ref a_C0) (.ref a_C0)=some true) (y_Unfinished:PySem.W.nsIn K mainGlobals "Unfinished" = some (some (.ref x_Unfinished))) (t_Unfinished:K.lookup x_Unfinished=some ⟨.type "type",Vh,.cls Vj,Y2⟩) (u_Unfinished:PySem.W.subIn K (.ref a_C0) (.ref x_Unfinished)=some false) (y_Misplaced:PySem.W.nsIn K mainGlobals "Misplaced" = some (some (.ref x_Misplaced))) (t_Misplaced:K.lookup x_Misplaced=some ⟨.type "type",V5,.cls V0,Kb⟩) (u_Misplaced:PySem.W.subIn K (.ref a_C0) (.ref x_Misplaced)=some false) (y_TooMany:PySem.W.nsIn K mainGlobals "TooMany" = some (some (.ref x_TooMany))) (t_TooMany:K.lookup x_TooMany=some ⟨.type "type",zt,.cls zY,zx⟩) (u_TooMany:PySem.W.subIn K (.ref a_C0) (.ref x_TooMany)=some false) (y_NoName:PySem.W.nsIn K mainGlobals "NoName" = some (some (.ref x_NoName))) (t_NoName:K.lookup x_NoName=some ⟨.type "type",xT,.cls xC,wI⟩) (u_NoName:PySem.W.subIn K (.ref a_C0) (.ref x_NoName)=some false) (y_Twice:PySem.W.nsIn K mainGlobals "Twice" = some (some (.ref x_Twice))) (t_Twice:K.lookup x_Twice=some ⟨.type "type",uV,.cls jaw,jak⟩) (u_Twice:PySem.W.subIn K (.ref a_C0) (.ref x_Twice)=some false) (y_Unguarded:PySem.W.nsIn K mainGlobals "Unguarded" = some (some (.ref x_Unguarded))) (t_Unguarded:K.lookup x_Unguarded=some ⟨.type "type",Kt,.cls VD,Kf⟩) (u_Unguarded:PySem.W.subIn K (.ref a_C0) (.ref x_Unguarded)=some false) (y_DealError:PySem.W.nsIn K mainGlobals "DealError" = some (some (.ref x_DealError))) (t_DealError:K.lookup x_DealError=some ⟨.type "type",VB,.cls Kq,Kd⟩) (u_DealError:PySem.W.subIn K (.ref a_C0) (.ref x_DealError)=some true) (d2_D:K.lookup x_DealError=some (excClassObj nm_D q_D x_DealError N_D bs_D bm_D true sn_D sub_D ab_D col_D dd_D k0_D k1_D k2_D k3_D k5_D "ValueError.__new__")) (d8_D:JH bm_D=true) (d3_D:PySem.W.findIn K (.ref x_DealError) "__getattribute__" = some (some (.builtin "BaseException.__getattribute__"))) (d4_D:PySem.W.findIn K (.ref x_DealError) "__getattr__" = some none) (d5_D:PySem.W.findIn K (.ref x_DealError) "__setattr__" = some (some (.builtin "object.__setattr__"))) (d6_D:PySem.W.findIn K (.ref x_DealError) "__class__" = some (some (.builtin "object.__class__"))) (d7_D:PySem.W.mroIn K x_DealError (.type "object")=some true) (u_V:PySem.W.subIn K (.ref a_C0) (.type "ValueError")=some true)
  (wt:jgI K a_C0 "__init__" "DealError.__init__" ja4 ["self","words","place"])
  (Jw:vH K mg "words_in" ke kg)
  (Jh:vH K mg "has_only" vX vZ)
  (kZ:vH K mg "_law_mixed" vx vy)
  (kS:vH K mg "_law_coins" vg vi)
  (vP:vH K mg "_law_spaced" yZ y0)
  (Je:vH K mg "_law_kind" vY vV)
  (q0:vH K mg "_law_most" kf vU)
  (yk:vH K mg "_law_name_spoilt" jU jW)
  (j8:vH K mg "_law_number_spoilt" jO jM)
  (Yq:vH K mg "is_name" qW qG)
  (kR:vH K mg "number_in" vD vA)
  (kW:vH K mg "_law_names" vm vB)
  (vL:vH K mg "_law_spoilt" yV yY)
  (qZ:vH K mg "value_in" vT v9)
  (Jp:vH K mg "_law_form" kh v8)
  (Jo:vH K mg "row_told" kl vW)
  (vq:vH K mg "debt_row_of" yF yH)
  (VS:PySem.W.nsIn K mainGlobals "law" = some (some (.ref jc5))) (um:K.lookup jc5=some ⟨jeR,jep,.func (PySem.W.fnOf "law" "law" (vo Kn) (yg Kn) (jg Kn) .none je4 jeO jeM jeE ja5 jd7),jem⟩) (uk:PySem.W.codeIn K ja5 "law" = true) (wv:PySem.W.keepIn K (.ref jc5)=true)
  (g1_LONGEST_NAME:PySem.W.nsIn K mainGlobals "LONGEST_NAME" = some (some (.int 8 t_LONGEST_NAME)))
  (g1_KEYWORDS:PySem.W.nsIn K mainGlobals "KEYWORDS" = some (some (.ref jj)))
  (vN:K.lookup jj=some ⟨.type "tuple",none,.seq #[.str "pool" qB,.str "claim" qH,.str "pot" qF,.str "eat" qr,.str "order" qw,.str "part" qL,.str "pay" qN,.str "share" qA,.str "repay" qv,.str "fill" qP,.str "lend" kJ,.str "back" ky,.str "rest" kI,.str "look" kC,.str "guard" kB,.str "debt" kE,.str "on" kA,.str "late" kG,.str "early" kF,.str "quit" ku] Kx,V6⟩)
  (g1_LETTERS:PySem.W.nsIn K mainGlobals "LETTERS" = some (some (.str "abcdefghijklmnopqrstuvwxyz" t_LETTERS)))
  (g1_LONGEST_NUMBER:PySem.W.nsIn K mainGlobals "LONGEST_NUMBER" = some (some (.int 13 t_LONGEST_NUMBER)))
  (g1_FIGURES:PySem.W.nsIn K mainGlobals "FIGURES" = some (some (.str "0123456789" t_FIGURES)))
  (g1_GREATEST:PySem.W.nsIn K mainGlobals "GREATEST" = some (some (.ref ji)))
  (g2_GREATEST:K.lookup ji=some { cls:=.type "dict",data:=.dict #[⟨PyData.keyHash w.params "coins",.str "coins" GREATEST_k0,.int 1000000000000 GREATEST_u0⟩,⟨PyData.keyHash w.params "tenths",.str "tenths" GREATEST_k1,.int 10 GREATEST_u1⟩,⟨PyData.keyHash w.params "days",.str "days" GREATEST_k2,.int 9 GREATEST_u2⟩,⟨PyData.keyHash w.params "day",.str "day" GREATEST_k3,.int 60 GREATEST_u3⟩,⟨PyData.keyHash w.params "by",.str "by" GREATEST_k4,.int 30 GREATEST_u4⟩] GREATEST_ep }) (g3_GREATEST:(ji==sysModules)=false)
  (g1_FORMS:PySem.W.nsIn K mainGlobals "FORMS" = some (some (.ref jv)))
  (g2_FORMS:K.lookup jv=some { cls:=.type "dict",data:=.dict #[⟨PyData.keyHash w.params "debt",.str "debt" FORMS_k0,.ref b_FORMS_0⟩,⟨PyData.keyHash w.params "on",.str "on" FORMS_k1,.ref b_FORMS_1⟩,⟨PyData.keyHash w.params "late",.str "late" FORMS_k2,.ref b_FORMS_2⟩,⟨PyData.keyHash w.params "early",.str "early" FORMS_k3,.ref b_FORMS_3⟩,⟨PyData.keyHash w.params "quit",.str "quit" FORMS_k4,.ref b_FORMS_4⟩] FORMS_ep }) (g3_FORMS:(jv==sysModules)=false)
  (qk:K.lookup b_FORMS_0=some ⟨.type "tuple",none,.seq #[.str "name" b_FORMS_0_t0,.str "name" b_FORMS_0_t1] b_FORMS_0_n,b_FORMS_0_s⟩)
  (qj:K.lookup b_FORMS_1=some ⟨.type "tuple",none,.seq #[.str "day" b_FORMS_1_t0,.str "coins" b_FORMS_1_t1] b_FORMS_1_n,b_FORMS_1_s⟩)
  (kU:K.lookup b_FORMS_2=some ⟨.type "tuple",none,.seq #[.str "name" b_FORMS_2_t0,.str "day" b_FORMS_2_t1,.str "by" b_FORMS_2_t2] b_FORMS_2_n,b_FORMS_2_s⟩)
  (kN:K.lookup b_FORMS_3=some ⟨.type "tuple",none,.seq #[.str "name" b_FORMS_3_t0,.str "day" b_FORMS_3_t1] b_FORMS_3_n,b_FORMS_3_s⟩)
  (qh:K.lookup b_FORMS_4=some ⟨.type "tuple",none,.seq #[.str "name" b_FORMS_4_t0,.str "day" b_FORMS_4_t1] b_FORMS_4_n,b_FORMS_4_s⟩)
  (yX:PySem.W.nsIn K mainGlobals "ValueError" = some none)
  (jb4:PySem.W.nsIn K mainGlobals "all" = some none)
  (xX:PySem.W.nsIn K mainGlobals "bool" = some none)
  (kL:PySem.W.nsIn K mainGlobals "enumerate" = some none)
  (jcZ:PySem.W.nsIn K mainGlobals "int" = some none)
  (vM:PySem.W.nsIn K mainGlobals "isinstance" = some none)
  (jbN:PySem.W.nsIn K mainGlobals "len" = some none)
  (ue:PySem.W.nsIn K mainGlobals "list" = some none)
  (Qs:PySem.W.nsIn K mainGlobals "range" = some none)
  (jbG:PySem.W.nsIn K mainGlobals "str" = some none)
  (jcj:PySem.W.nsIn K mainGlobals "zip" = some none)
  : ∃ fd:FuncData,(∀(s:Shared) (v:Value),BindsTo s fd ⟨[v],[]⟩ [("_law_script",v)])/\∀ base:Heap,K.In base->base.Ns mainGlobals mg->FnOk l.prog w K mg base CX0 6 fa fd ["_law_script"] (λvs H Q E=>∀ C:Addr,spP ⟨K,λ_=>C⟩ K2 1 vs H Q E):=by
 have e:=hfa.symm.trans (PySem.W.mg_of X G VS);cases e;obtain⟨jZ,jcu,Mi⟩:=wt;have XC0:XC K a_C0:=⟨jeb c2_C0 c8_C0,c3_C0,c4_C0,c5_C0,c6_C0,c7_C0,YE c2_C0⟩;have T:Txt l.prog w K mg (λ_=>a_C0) t_LONGEST_NAME jj t_LETTERS t_LONGEST_NUMBER t_FIGURES ji jv b_FORMS_0 b_FORMS_1 b_FORMS_2 b_FORMS_3 b_FORMS_4 jZ x_Unfinished x_Misplaced x_TooMany x_NoName x_Twice x_Unguarded x_DealError:=⟨PySem.W.mg_of X G g1_LONGEST_NAME,PySem.W.mg_of X G g1_KEYWORDS,(λcl Z H=>vf (xs:=["pool","claim","pot","eat","order","part","pay","share","repay","fill","lend","back","rest","look","guard","debt","on","late","early","quit"]) (ts:=[qB,qH,qF,qr,qw,qL,qN,qA,qv,qP,kJ,ky,kI,kC,kB,kE,kA,kG,kF,ku]) (ws:=[[112,111,111,108],[99,108,97,105,109],[112,111,116],[101,97,116],[111,114,100,101,114],[112,97,114,116],[112,97,121],[115,104,97,114,101],[114,101,112,97,121],[102,105,108,108],[108,101,110,100],[98,97,99,107],[114,101,115,116],[108,111,111,107],[103,117,97,114,100],[100,101,98,116],[111,110],[108,97,116,101],[101,97,114,108,121],[113,117,105,116]]) (by decide +kernel) vN rfl (by decide) cl Z H),PySem.W.mg_of X G g1_LETTERS,PySem.W.mg_of X G g1_LONGEST_NUMBER,PySem.W.mg_of X G g1_FIGURES,PySem.W.mg_of X G g1_GREATEST,jen (xs:=["coins","tenths","days","day","by"]) (ts:=[GREATEST_k0,GREATEST_k1,GREATEST_k2,GREATEST_k3,GREATEST_k4]) (us:=[.int 1000000000000 GREATEST_u0,.int 10 GREATEST_u1,.int 9 GREATEST_u2,.int 60 GREATEST_u3,.int 30 GREATEST_u4]) (vs:=[.int 1000000000000,.int 10,.int 9,.int 60,.int 30]) (by decide +kernel) g2_GREATEST g3_GREATEST rfl rfl (.cons ⟨_,rfl⟩ (.cons ⟨_,rfl⟩ (.cons ⟨_,rfl⟩ (.cons ⟨_,rfl⟩ (.cons ⟨_,rfl⟩ .nil))))) (by decide +kernel),(λcl Z H=>(.cons (O:=[]) (P:=[]) .int_mk (.cons (O:=[]) (P:=[]) .int_mk (.cons (O:=[]) (P:=[]) .int_mk (.cons (O:=[]) (P:=[]) .int_mk (.cons (O:=[]) (P:=[]) .int_mk .empty)))))),PySem.W.mg_of X G g1_FORMS,jen (xs:=["debt","on","late","early","quit"]) (ts:=[FORMS_k0,FORMS_k1,FORMS_k2,FORMS_k3,FORMS_k4]) (us:=[.ref b_FORMS_0,.ref b_FORMS_1,.ref b_FORMS_2,.ref b_FORMS_3,.ref b_FORMS_4]) (vs:=[.ref b_FORMS_0,.ref b_FORMS_1,.ref b_FORMS_2,.ref b_FORMS_3,.ref b_FORMS_4]) (by decide +kernel) g2_FORMS g3_FORMS rfl rfl (.cons rfl (.cons rfl (.cons rfl (.cons rfl (.cons rfl .nil))))) (by decide +kernel),(λcl Z H=>(.cons (O:=[]) (P:=[]) ((λcl Z H=>vf (xs:=["name","name"]) (ts:=[b_FORMS_0_t0,b_FORMS_0_t1]) (ws:=[[110,97,109,101],[110,97,109,101]]) (by decide +kernel) qk rfl (by decide) cl Z H) cl Z H) (.cons (O:=[]) (P:=[]) ((λcl Z H=>vf (xs:=["day","coins"]) (ts:=[b_FORMS_1_t0,b_FORMS_1_t1]) (ws:=[[100,97,121],[99,111,105,110,115]]) (by decide +kernel) qj rfl (by decide) cl Z H) cl Z H) (.cons (O:=[]) (P:=[]) ((λcl Z H=>vf (xs:=["name","day","by"]) (ts:=[b_FORMS_2_t0,b_FORMS_2_t1,b_FORMS_2_t2]) (ws:=[[110,97,109,101],[100,97,121],[98,121]]) (by decide +kernel) kU rfl (by decide) cl Z H) cl Z H) (.cons (O:=[]) (P:=[]) ((λcl Z H=>vf (xs:=["name","day"]) (ts:=[b_FORMS_3_t0,b_FORMS_3_t1]) (ws:=[[110,97,109,101],[100,97,121]]) (by decide +kernel) kN rfl (by decide) cl Z H) cl Z H) (.cons (O:=[]) (P:=[]) ((λcl Z H=>vf (xs:=["name","day"]) (ts:=[b_FORMS_4_t0,b_FORMS_4_t1]) (ws:=[[110,97,109,101],[100,97,121]]) (by decide +kernel) qh rfl (by decide) cl Z H) cl Z H) .empty)))))),PySem.W.mg_none_of X G yX,PySem.W.mg_none_of X G jb4,PySem.W.mg_none_of X G xX,PySem.W.mg_none_of X G kL,PySem.W.mg_none_of X G jcZ,PySem.W.mg_none_of X G vM,PySem.W.mg_none_of X G jbN,PySem.W.mg_none_of X G ue,PySem.W.mg_none_of X G Qs,PySem.W.mg_none_of X G jbG,PySem.W.mg_none_of X G jcj,PySem.W.mg_of X G y_Unfinished,PySem.W.mg_of X G y_Misplaced,PySem.W.mg_of X G c1_C0,PySem.W.mg_of X G y_TooMany,PySem.W.mg_of X G y_NoName,PySem.W.mg_of X G y_Twice,PySem.W.mg_of X G y_Unguarded,PySem.W.mg_of X G y_DealError,⟨⟨XC0,Mi.mt.at_,Mi.mt.fn,c10_C0,c9_C0⟩,jcu,Mi.bd,λbase=>jbZ Mi.fn jby λcdv A outer s H E=>Vb (jaE (yS (pv 0) (yS (pv 1) Yx)) (PySem.W.mg_none_of X G yX)) (Va (jbP (pv 0) (pv 2)))⟩,⟨jeb d2_D d8_D,d3_D,d4_D,d5_D,d6_D,d7_D,YE d2_D⟩,lt1 ⟨XC0,u_DealError⟩,lt1 ⟨XC0,c10_C0⟩,jat XC0 (λcv r=>by cases r;exact⟨YE t_Unfinished,u_Unfinished⟩),jat XC0 (λcv r=>by cases r;exact⟨YE t_Misplaced,u_Misplaced⟩),jat XC0 (λcv r=>by cases r;exact⟨YE c2_C0,u_BadRow⟩),jat XC0 (λcv r=>by cases r;exact⟨YE t_TooMany,u_TooMany⟩),jat XC0 (λcv r=>by cases r;exact⟨YE t_NoName,u_NoName⟩),jat XC0 (λcv r=>by cases r;exact⟨YE t_Twice,u_Twice⟩),jat XC0 (λcv r=>by cases r;exact⟨YE t_Unguarded,u_Unguarded⟩),jat XC0 (λcv r=>by cases r;exact⟨YE t_DealError,u_DealError⟩),jat XC0 (λcv r=>by cases r;exact⟨jgM,u_V⟩)⟩;have F:Fun K "law" "law" Kn _ _:=Vz um uk wv;have jfG:vH K mg "law" Kn u8:=⟨_,_,F,PySem.W.mg_of X G VS,F.binds λ_ _ _ _ _ _ us hl=>match us,hl with | [_],_=>rfl⟩;have Jv:=K8 T Jw;have yL:=Qj T Jh;have ya:=Ki T kZ;have yN:=V1 T kS;have vQ:=Vk T vP;have Ji:=KQ T Je;have Jf:=Qa T q0;have yq:=qK T yk;have j9:=ko T j8;have Yn:=zV T Yq yL;have kX:=Km T kR yL;have k9:=Ku T kW ya;have vS:=Y6 T vL Jf yq j9;have Jn:=Qw T qZ Yn kX;have Jk:=K0 T Jp yN k9;have Jb:=K4 T Jo Jn;have vk:=YG T vq Jb Jv;have jfZ:=jeL T jfG Jk Ji ya vQ vS vk;obtain⟨f',fd',F',G'⟩:=jfZ;cases(PySem.W.mg_of X G VS).symm.trans F'.mgf;obtain⟨⟨oc,od,kV,doc,pm,an,cdv,ct,osl,rfl,_,_⟩,_⟩:=F'.fn;exact⟨_,λs v=>.of_eq rfl,λbase _ _=>(G' base).imp λvs H Q E h=>h a_C0⟩
theorem walk{l:PySem.W.OpenLaw}{q:Program}{loose:List Str}{XP:(Str->Option Value)->Heap->Prop}{YP:World->Heap->Prop}{d:DefRec}{K:Params->PySem.W.Frag}(hn:l.most=some 63)(hdf:d.params.defaults=[])
  (hY:∀(w:World) (h:Heap),YP w h->(K w.params).In h)
  (F:∀(w:World) (mg:Str->Option Value) (fa:Addr) (h:Heap),(K w.params).In h->h.Ns mainGlobals mg->mg d.name=some (.ref fa) ->
   ∃ fd:FuncData,(∀(s:Shared) (u:Value),BindsTo s fd ⟨[u],[]⟩ [("_law_script",u)])/\∀ base:Heap,(K w.params).In base->base.Ns mainGlobals mg->FnOk l.prog w (K w.params) mg base CX0 6 fa fd ["_law_script"] (λvs H Q E=>∀ C:Addr,spP ⟨K w.params,λ_=>C⟩ K2 1 vs H Q E)) :
  PySem.W.WalkO q loose XP YP l.row.toRowW d [] (λf vs=>PySem.call f vs) :=
 L2.walk_ofB (n:=63) (k:=6) (x:="_law_script") (CX:=λ_=>CX0) (sp:=λw=>(λvs H Q E=>∀ C:Addr,spP ⟨K w.params,λ_=>C⟩ K2 1 vs H Q E)) hn (by decide) hdf ⟨rfl,by decide,by decide⟩ hY F (λ_ H a ns hl hb _ hS=>λC=>jdP (jai ns hl hb) hS) λ_ _ _ _ _ z=>z
end K11
namespace PySem.W.Fast
def tw14745770918364105649:=0
def tw13090721874927025975:=0
def tw440315413824836729:=0
def tw13349222381726551749:=0
def tw1135007565088919026:=0
def tw13071745104032151090:=0
def tw9161113426594682709:=0
def tw2230508055490456322:=0
def tw3776256510407449254:=0
def tw4219613130928269144:=0
def tw13885706724693235938:=0
def tw2629167969396741671:=0
def tw6657171399956477033:=0
def tw18016645136005125378:=0
def tw1584567280049247934:=0
def tw3359437265397462453:=0
def tw7946680828706728874:=0
def tw8278610311456033163:=0
def tw14585153490467177907:=0
def tw17571931138968650237:=0
def tw8265463398446671568:=0
def tw2568695668112228561:=0
def tw7286430016361601856:=0
def tw16209113011557848160:=0
def tw18224722103333317850:=0
def tw9867458170648810274:=0
def tw2691758321705489571:=0
def tw1924634874984220726:=0
def tw10530534259205818653:=0
def tw17568759551358485325:=0
def tw16836144658455630980:=0
def tw6544149631912885824:=0
def tw16060404271965105741:=0
def tw14253755354906727672:=0
def tw476500517990644260:=0
def tw3612924680402250470:=0
def tw6652528786356304611:=0
def tw12936741700662997295:=0
def tw17374205671636287664:=0
def tw12165776205388769579:=0
def tw7599420495870648544:=0
def tw9794473169203581177:=0
end PySem.W.Fast
set_option maxHeartbeats 0
open PySem PySem.W PyProof.Rows
set_option maxRecDepth 100000 in
set_option maxHeartbeats 0 in
theorem PySem.Challenge.cw_tranchefall_k11_debt_rows_refused_holds : PySem.Challenge.rw_tranchefall_k11_debt_rows_refused.Holds := by
 w_on;o_law;k_head;(case hw=>w_witness2)
 k_fill
 refine K11.walk (l:=PySem.Challenge.rw_tranchefall_k11_debt_rows_refused) rfl rfl (λw h Y=>PySem.W.kIn_of Y) ?F
 case F =>
  intro w mg fa h KX G hmg;refine' K11.all_mk KX G hmg ?c1_C0 ?c2_C0 ?c8_C0 ?c3_C0 ?c4_C0 ?c5_C0 ?c6_C0 ?c7_C0 ?c9_C0 ?c10_C0 ?u_BadRow ?y_Unfinished ?t_Unfinished ?u_Unfinished ?y_Misplaced ?t_Misplaced ?u_Misplaced ?y_TooMany ?t_TooMany ?u_TooMany ?y_NoName ?t_NoName ?u_NoName ?y_Twice ?t_Twice ?u_Twice ?y_Unguarded ?t_Unguarded ?u_Unguarded ?y_DealError ?t_DealError ?u_DealError ?d2_D ?d8_D ?d3_D ?d4_D ?d5_D ?d6_D ?d7_D ?u_V ?wt ?Jw ?Jh ?kZ ?kS ?vP ?Je ?q0 ?yk ?j8 ?Yq ?kR ?kW ?vL ?qZ ?Jp ?Jo ?vq ?VS ?um ?uk ?wv ?g1_LONGEST_NAME ?g1_KEYWORDS ?vN ?g1_LETTERS ?g1_LONGEST_NUMBER ?g1_FIGURES ?g1_GREATEST ?g2_GREATEST ?g3_GREATEST ?g1_FORMS ?g2_FORMS ?g3_FORMS ?qk ?qj ?kU ?kN ?qh ?yX ?jb4 ?xX ?kL ?jcZ ?vM ?jbN ?ue ?Qs ?jbG ?jcj
  (case c1_C0 | c2_C0 | c3_C0 | c4_C0 | c5_C0 | c6_C0 | c7_C0 | c9_C0 | c10_C0 | u_BadRow | y_Unfinished | t_Unfinished | u_Unfinished | y_Misplaced | t_Misplaced | u_Misplaced | y_TooMany | t_TooMany | u_TooMany | y_NoName | t_NoName | u_NoName | y_Twice | t_Twice | u_Twice | y_Unguarded | t_Unguarded | u_Unguarded | y_DealError | t_DealError | u_DealError | d2_D | d3_D | d4_D | d5_D | d6_D | d7_D | u_V | VS | um | uk | wv | g1_LONGEST_NAME | g1_KEYWORDS | vN | g1_LETTERS | g1_LONGEST_NUMBER | g1_FIGURES | g1_GREATEST | g2_GREATEST | g1_FORMS | g2_FORMS | qk | qj | kU | kN | qh | yX | jb4 | xX | kL | jcZ | vM | jbN | ue | Qs | jbG | jcj=>k_is)
  (case c8_C0=>first | rfl | decide +kernel)
  (case d8_D=>first | rfl | decide +kernel)
  (case wt=>exact QD.hasM (by k_is) (by k_is) (by k_is) (by k_is) (by k_is) (λ_ _ _ _ _ _ us hl=>(match us,hl with | [_,_,_],_=>rfl)))
  (case g3_GREATEST=>first | rfl | decide)
  (case g3_FORMS=>first | rfl | decide)
  (case Jw | Jh | kZ | kS | vP | Je | q0 | yk | j8 | Yq | kR | kW | vL | qZ | Jp | Jo | vq =>
   first | exact QD.hasF KX G (by k_is) (by k_is) (by k_is) (by k_is) (by first | exact λ_ _ _ _ _ _ us hl=>(match us,hl with | [_],_=>rfl) | exact λ_ _ _ _ _ _ us hl=>(match us,hl with | [_,_],_=>rfl) | exact λ_ _ _ _ _ _ us hl=>(match us,hl with | [_,_,_],_=>rfl)) | exact QD.hasM (by k_is) (by k_is) (by k_is) (by k_is) (by k_is) (by first | exact λ_ _ _ _ _ _ us hl=>(match us,hl with | [_],_=>rfl) | exact λ_ _ _ _ _ _ us hl=>(match us,hl with | [_,_],_=>rfl) | exact λ_ _ _ _ _ _ us hl=>(match us,hl with | [_,_,_],_=>rfl)))
