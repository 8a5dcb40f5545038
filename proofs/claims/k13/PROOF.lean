import PyProof.Rows.All
import Wide.All
import OpenK.AllK
import Wide.FinOn
import Lean
import PyProof.EqAt
import PyProof.EqKinds
import PyProof.TupleCall
import PySem.Challenge.RW_tranchefall_k13_debts_refused
set_option Elab.async false
set_option linter.all false
set_option maxRecDepth 100000
section
open PySem PySem.Spec PyProof.Rows
abbrev L0:=@List.length_map
abbrev L3:=@wpAny_bind
abbrev L4:=@Option.bind_some
abbrev L5:=@List.map_cons
abbrev L6:=@List.mem_cons_of_mem
abbrev L7:=@List.mem_cons_self
abbrev L8:=@Heap.get?_push_of_some
abbrev L9:=@List.getElem?_eq_some_iff
abbrev M0:=@Bool.and_eq_true
abbrev M3:=@List.length_cons
abbrev M4:=@Bool.false_ne_true
abbrev M5:=@List.mem_cons
abbrev M6:=@List.mem_map
abbrev M7:=@wpAny_pure
abbrev M8:=@List.mem_singleton
abbrev M9:=@Nat.le_refl
abbrev N1:=@List.append_nil
abbrev N2:=@Heap.lt_size
abbrev N3:=@List.mem_append
abbrev N4:=@List.size_toArray
abbrev N5:=@List.length_append
abbrev N6:=@List.map_append
abbrev N7:=@Nat.ne_of_lt
abbrev N8:=@Nat.le_trans
abbrev N9:=@Int.toNat_natCast
abbrev U0:=@Int.emod_lt_of_pos
abbrev U1:=@Int.emod_nonneg
abbrev U2:=@List.map_map
abbrev U3:=@beq_eq_false_iff_ne
abbrev U4:=@List.mem_append_right
abbrev U5:=@Nat.lt_of_lt_of_le
abbrev U6:=@Nat.zero_le
abbrev U7:=@wpAny_field
abbrev U8:=@List.zip_cons_cons
abbrev U9:=@List.count_append
abbrev X0:=@List.nodup_append
abbrev X1:=@decide_eq_true
abbrev X2:=@decide_eq_false
abbrev X3:=@of_decide_eq_true
abbrev X4:=@Option.some.inj
abbrev X5:=@List.nil_append
abbrev X6:=@List.getElem?_eq_getElem
abbrev X7:=@Heap.get?_push_size
end
namespace QX
open PySem
noncomputable abbrev fms(l:List Env):List Addr:=l.filterMap (·.frame)
structure Kp(fs xs:List Addr)(h h':Heap):Prop where
 keep:∀ b o,h.get? b=some o->b∉fs->b∉xs->h'.get? b=some o
 slot:∀ b o,h.get? b=some o->b∈fs->∃ sl,h'.get? b=some { o with slots:=sl }
theorem Kp.trans{fs xs h1 h2 h3}(a:Kp fs xs h1 h2)(b:Kp fs xs h2 h3):Kp fs xs h1 h3 :=
 ⟨λc o e n m=>b.keep c o (a.keep c o e n m) n m,λc o e n=>let ⟨_,e1⟩:=a.slot c o e n;let ⟨s2,e2⟩:=b.slot c _ e1 n;⟨s2,e2⟩⟩
theorem Kp.mono{fs xs ys h1 h2}(a:Kp fs xs h1 h2)(k:∀ b∈xs,b∈ys):Kp fs ys h1 h2:=⟨λc o e n m=>a.keep c o e n λz=>m (k c z),a.slot⟩
theorem Kp.funs{fs xs h h' base}{l:List Env}(a:Kp fs xs h h')(d:∀ b∈fms l,b∈fs)(f:h.FunFrames base l):h'.FunFrames base l:=by
 induction l with
 | nil=>trivial
 | cons env r g =>
  obtain⟨i,⟨L,o,c,j,k,hd⟩,m⟩:=f;have n:L∈fms (env::r):=by unfold fms;rw[List.filterMap_cons,c];exact L7
  obtain⟨q,e⟩:=a.slot L o k (d L n);exact⟨i,⟨L,_,c,j,e,hd⟩,g (λb p=>d b (by unfold fms;rw[List.filterMap_cons,c];exact L6 _ p)) m⟩
def Fly(e:Addr)(cl:Value)(dx:Option Addr)(T:Addr)(fl:Value)(h:Heap):Prop :=
 ∃ oe vs oT ts,h.get? e=some oe/\oe.cls=cl/\oe.dict=dx/\oe.data=.fields vs/\vs[1]?=some (.ref T)/\T≠e/\h.get? T=some oT/\oT.data=.fields ts/\ts[3]?=some fl
theorem zy(f:Array Value->Array Value)(o:Obj):(Obj.mapFields f o).dict=o.dict:=by
 obtain⟨c,d,a,b⟩:=o;cases a<;>rfl
section
variable {M:Model}{A:Around}{E:Value->Shared->Prop}{s:Shared}{base:Heap}{env:Env}{outer:List Env}{L e T:Addr}{cl:Value}{dx:Option Addr}{Q:Unit->Shared->Prop}
theorem Ky(d:s.heap.FunFrames base outer){b:Obj}{vs:Array Value}(f:s.heap.get? e=some b)(hd:b.data=.fields vs):e∉fms outer:=λg=>by
 obtain⟨_,o,c,a⟩:=d.mem g;rw[f] at c;cases c;exact a vs hd
theorem uu{i:Obj}{vs:Array Value}{f:Value}{c:Bool}(x:A.frames=some (env::outer))(C:s.heap.FunFrames base (env::outer))(F:env.frame=some L)
  (D:s.heap.get? e=some i) (hd:i.data=.fields vs) (j:1 < vs.size)
  (h:∀ h' T,Kp (fms (env::outer)) [e] s.heap h'->s.heap.objs.size<=T->Fly e i.cls i.dict T (rawInt L) h'->Q () { s with heap:=h' }) :
  wpAny M A (do let a <- frameOf env;let pl <- entryPlaceOf L c;let b <- EntryCells.newEntry f a .none (rawInt L) .none pl;setField (.ref e) 1 b) Q E s:=by
 have k:=Ky C D hd;refine L3 (wpAny_frameOf_fun x C F λg d=>?_);refine L3 (wpAny_entryPlaceOf λpl l=>?_);unfold EntryCells.newEntry newFields;refine L3 (wpAny_newObj_type ?_ (l.sizeOk5 _ _ _ _ _));have p:g.get? e=some i:=(d.2.1 e k).trans D;generalize r:({ cls:=.type "traceback",dict:=none,data:=.fields ([f,.ref L,.none,rawInt L,.none]++(if pl.isEmpty then List.replicate 6 Value.none else pl)).toArray }:Obj)=ob;have t:=L8 (h:=g) ob p;have y:ob.isFreed=false:=by rw[<- r];rfl
 have G:∃ w,ob.data=.fields w/\w[3]?=some (rawInt L):=by
  rw[<- r];exact⟨_,rfl,by first | (simp;done) | (rcases l with rfl | ⟨_,_,_,_,_,_,_,rfl⟩<;>simp)⟩
 refine wpAny_setField t hd j (h _ g.objs.size ?_ (Nat.le_of_eq d.1.symm) ?_)
 ·refine⟨λb o q n m=>?_,λb o q n=>?_⟩
  ·have ne:e≠b:=λz=>m (by rw[z];exact L7);rw[Heap.get?_update_other _ _ ne];exact L8 _ ((d.2.1 b n).trans q)
  ·obtain⟨H,I⟩:=d.2.2 b o q;have ne:e≠b:=λz=>k (by rw[z];exact n);exact⟨H,by rw[Heap.get?_update_other _ _ ne];exact L8 _ I⟩
 ·have u:g.objs.size≠e:=Nat.ne_of_gt (N2 p);have v:=Obj.data_mapFields hd (·.setIfInBounds 1 (Value.ref g.objs.size));have B:=Heap.get?_update_self (Obj.mapFields (·.setIfInBounds 1 (Value.ref g.objs.size))) t (Obj.isFreed_of_fields v);obtain⟨w,J,K⟩:=G;refine⟨_,_,ob,w,B,Obj.cls_mapFields _ _,zy _ _,v,by simp[j],u,?_,J,K⟩;rw[Heap.get?_update_other _ _ (Ne.symm u)];exact X7 g y
theorem jcj{a:Obj}{vs:Array Value}(b:A.frames=some (env::outer))(f:s.heap.FunFrames base (env::outer))(c:env.frame=some L)
  (d:s.heap.get? e=some a) (hd:a.data=.fields vs) (h1:vs[1]?=some .none)
  (h:∀ h' T,Kp (fms (env::outer)) [e] s.heap h'->s.heap.objs.size<=T->Fly e a.cls a.dict T (rawInt L) h'->Q () { s with heap:=h' }):wpAny M A (noteFrame (.ref e) env) Q E s:=by
 unfold noteFrame;simp only[c];refine L3 (U7 d hd h1 ?_);rw[if_neg (by decide)];exact uu b f c d hd (Array.getElem?_eq_some_iff.mp h1).1 h
theorem wU(i:A.frames=some (env::outer))(r:s.heap.FunFrames base (env::outer))(t:env.frame=some L)(y:Fly e cl dx T .none s.heap)
  (h:∀ h' T',Kp (fms (env::outer)) [e,T] s.heap h'->s.heap.objs.size<=T'->Fly e cl dx T' (rawInt L) h'->Q () { s with heap:=h' }):wpAny M A (noteFrame (.ref e) env) Q E s:=by
 obtain⟨D,F,G,H,u,B,j,hd,v,l,p,a,w⟩:=y;unfold noteFrame;simp only[t];refine L3 (U7 u hd v ?_);rw[if_pos (show(Value.ref T != Value.none)=true from by simp)];refine L3 (U7 p a w ?_);rw[if_neg (show ¬ ((Value.none==rawInt L)=true) from by simp[rawInt])];refine L3 (wpAny_setField p a (Array.getElem?_eq_some_iff.mp w).1 ?_);have c:∀ b,b≠T->(s.heap.update T (Obj.mapFields (·.setIfInBounds 3 Value.none))).get? b=s.heap.get? b:=λb g=>Heap.get?_update_other _ _ (Ne.symm g);have d:=Ky r p a;have x:Kp (fms (env::outer)) [e,T] s.heap (s.heap.update T (Obj.mapFields (·.setIfInBounds 3 Value.none))) :=
  ⟨λb o q _ m=>(c b λz=>m (by rw[z];simp)).trans q,λb o q n=>⟨o.slots,(c b λz=>d (by rw[<- z];exact n)).trans q⟩⟩
 refine uu (s:={ s with heap:=s.heap.update T (Obj.mapFields (·.setIfInBounds 3 Value.none)) }) i (x.funs (λ_ b=>b) r) t ((c e (Ne.symm l)).trans u) hd (Array.getElem?_eq_some_iff.mp v).1 λh' T' k C f=>?_;refine h h' T' (x.trans (k.mono λb g=>by simp at g;simp[g])) ?_ (by rw[<- B,<- j];exact f);rw[<- Heap.size_after_update s.heap T (Obj.mapFields (·.setIfInBounds 3 Value.none))];exact C
theorem jmj{p:Value}(r:Fly e cl dx T p s.heap)(t:s.heap.FunFrames base outer)
  (h:∀ h',Kp (fms outer) [T] s.heap h'->Fly e cl dx T .none h'->h'.objs.size=s.heap.objs.size->Q () { s with heap:=h' }):wpAny M A (setFlight (.ref e) none) Q E s:=by
 obtain⟨u,v,y,B,k,w,i,hd,l,d,j,c,x⟩:=r;have f:=Ky t j c;have g:=(Array.getElem?_eq_some_iff.mp x).1;refine wpAny_setFlight_none k hd l j c g (h _ ?_ ?_ (Heap.size_after_update ..))
 ·exact⟨λb o q _ m=>by rw[Heap.get?_update_other _ _ (λz=>m (by rw[<- z];simp))];exact q,λb o q n=>⟨o.slots,by rw[Heap.get?_update_other _ _ (λz=>f (by rw[z];exact n))];exact q⟩⟩
 ·have a:=Obj.data_mapFields c (·.setIfInBounds 3 Value.none);refine⟨u,v,_,_,by rw[Heap.get?_update_other _ _ d];exact k,w,i,hd,l,d,Heap.get?_update_self _ j (Obj.isFreed_of_fields a),a,by simp[g]⟩
theorem uS{a:Obj}{vs:Array Value}(c:A.frames=some (env::outer))(d:s.heap.FunFrames base (env::outer))(j:env.frame=some L)
  (l:s.heap.get? e=some a) (hd:a.data=.fields vs) (h1:vs[1]?=some .none)
  (h:∀ h' T,Kp (fms (env::outer)) [e] s.heap h'->s.heap.objs.size<=T->Fly e a.cls a.dict T .none h'->Q () { s with heap:=h' }):wpAny M A (leaving env (.ref e)) Q E s:=by
 unfold leaving;refine L3 (jcj c d j l hd h1 λh' T k g f=>?_);refine jmj (base:=base) (outer:=env::outer) f (k.funs (λ_ b=>b) d) λp i r sz=>?_;refine h p T ⟨λb o q n m=>i.keep b o (k.keep b o q n m) n λz=>?_,λb o q n=>?_⟩ g r
 ·have:b=T:=by simpa using z
  subst this;exact absurd (N2 q) (Nat.not_lt.mpr g)
 ·obtain⟨w,t⟩:=k.slot b o q n;obtain⟨u,v⟩:=i.slot b _ t n;exact⟨u,v⟩
theorem jcc(a:A.frames=some (env::outer))(c:s.heap.FunFrames base (env::outer))(i:env.frame=some L)(j:Fly e cl dx T .none s.heap)
  (h:∀ h' T',Kp (fms (env::outer)) [e,T] s.heap h'->s.heap.objs.size<=T'->Fly e cl dx T' .none h'->Q () { s with heap:=h' }):wpAny M A (leaving env (.ref e)) Q E s:=by
 unfold leaving;refine L3 (wU a c i j λh' T' k d f=>?_);refine jmj (base:=base) (outer:=env::outer) f (k.funs (λ_ b=>b) c) λl g p sz=>?_;refine h l T' ⟨λb o q n m=>g.keep b o (k.keep b o q n m) n λz=>?_,λb o q n=>?_⟩ d p
 ·have:b=T':=by simpa using z
  subst this;exact absurd (N2 q) (Nat.not_lt.mpr d)
 ·obtain⟨v,r⟩:=k.slot b o q n;obtain⟨t,u⟩:=g.slot b _ r n;exact⟨t,u⟩
end
end QX
namespace QX
open PySem PySem.W
noncomputable def vtail:List Value:=[.type "ValueError",.type "Exception",.type "BaseException",.type "object"]
noncomputable def zb:List Value->Bool
 | .ref _::r=>zb r
 | l=>l==vtail
theorem vD:∀{l:List Value},zb l=true->∀ X:String,l.contains (.type X)=vtail.contains (.type X)
 | [],h,_=>absurd h (by decide)
 | .ref a::r,h,X=>by
  rw[List.contains_cons,vD (l:=r) h X];rfl
 | .none::r,h,_=>by rw[beq_iff_eq.mp (show(_==vtail)=true from h)]
 | .bool _::r,h,_=>by rw[beq_iff_eq.mp (show(_==vtail)=true from h)]
 | .int _ _::r,h,_=>by rw[beq_iff_eq.mp (show(_==vtail)=true from h)]
 | .float _ _::r,h,_=>by rw[beq_iff_eq.mp (show(_==vtail)=true from h)]
 | .str _ _::r,h,_=>by rw[beq_iff_eq.mp (show(_==vtail)=true from h)]
 | .bytes _ _::r,h,_=>by rw[beq_iff_eq.mp (show(_==vtail)=true from h)]
 | .type _::r,h,_=>by rw[beq_iff_eq.mp (show(_==vtail)=true from h)]
 | .builtin _::r,h,_=>by rw[beq_iff_eq.mp (show(_==vtail)=true from h)]
noncomputable def wq(K:Frag)(C:Addr):Bool:=match K.lookup C with
 | some ⟨.type T,_,.cls cd,sl⟩=>(match cd.mro,sl.toList with
  | .ref C'::bm,[_,_,_,_,some (.builtin n),_]=>T=="type"&&C'==C&&!cd.hasDel&&cd.hasDict&&n=="ValueError.__new__"&&zb bm
  | _,_=>false)
 | _=>false
theorem QC{K:Frag}{h:Heap}{C:Addr}(X:K.In h)(q:wq K C=true):∃ nm qn N bs bm sn sub ab col dd k0 k1 k2 k3 k5,
  h.get? C=some (excClassObj nm qn C N bs bm true sn sub ab col dd k0 k1 k2 k3 k5 "ValueError.__new__")/\zb bm=true:=by
 unfold wq at q;split at q
 ·rename_i T dd g d i;split at q
  ·rename_i m bm k0 k1 k2 k3 n k5 e f;simp only[M0,beq_iff_eq,Bool.not_eq_true'] at q;obtain⟨⟨⟨⟨⟨rfl,rfl⟩,a⟩,b⟩,rfl⟩,j⟩:=q;obtain⟨nm,bs,mro,ns,qn,hd,sn,sub,ab,col,k⟩:=g;dsimp only at e a b;subst e a b;have c:d = #[k0,k1,k2,k3,some (.builtin "ValueError.__new__"),k5]:=by
    obtain⟨l⟩:=d;simp only at f;rw[f]
   subst c;exact⟨nm,qn,ns,bs,bm,sn,sub,ab,col,dd,k0,k1,k2,k3,k5,X _ _ i,j⟩
  ·cases q
 ·cases q
section
variable {prog:Program}{w:World}{A:Around}{E:Value->Shared->Prop}{h:Heap}{g:Array GenState}{d:Drawn}{t:Nat}{os:OsState}
variable {nm q:Str}{C N:Addr}{bs bm:List Value}{hdct:Bool}{sn:List Str}{sub:List Value}{ab:Bool}{col:Option Bool}{dd:Option Addr}{k0 k1 k2 k3 k5:Option Value}
theorem jjv{M:Model}(T:zb bm=true){rest:List Value}{Q:Unit->Shared->Prop}(a:h.get? C=some (excClassObj nm q C N bs bm hdct sn sub ab col dd k0 k1 k2 k3 k5 "ValueError.__new__"))
  (c:Q () ⟨h,g,d,t,os⟩):wpAny M A (checkBuiltinCall "ValueError.__new__" ⟨.ref C::rest,[]⟩) Q E ⟨h,g,d,t,os⟩:=by
 have e:(Value.ref C::bm).contains (.type "ValueError")=true:=by rw[List.contains_cons,vD T];rfl
 have F:=F.excBase_ValueError;have b:=F.noStar;simp only[checkBuiltinCall,F.newKind,F.newSplit,F.newRow]
 repeat (first | refine wpAny_loadPart_at a ?_ | (refine wpAny_isSubtype_exc a ?_;rw[e]) | refine wpAny_staticBase_exc a ?_ | refine wpAny_madeBy_exc a ?_ | simp only[bne_self_eq_false,Bool.false_eq_true,if_false] | wp_step)
 exact c
theorem jhX{R:Result->Shared->Prop}(T:zb bm=true){rest:List Value}(a:h.get? C=some (excClassObj nm q C N bs bm hdct sn sub ab col dd k0 k1 k2 k3 k5 "ValueError.__new__"))
  (k:R (.ok (.ret (.ref (h.objs.size+1)))) ⟨(h.push { cls:=.type "tuple",data:=.seq rest.toArray }).push
   { cls:=.ref C,data:=.fields #[.ref h.objs.size,.none,.none,.none,.bool false,.none] },g,d,t,os⟩) (b:rest.length<=sizeLine) :
  codeAny (model prog w) A (.builtin "ValueError.__new__" ⟨.ref C::rest,[]⟩) R ⟨h,g,d,t,os⟩:=by
 have F:=F.excBase_ValueError;have c:=F.ends;have e:(Value.ref C::bm).contains (.type "ValueError")=true:=by rw[List.contains_cons,vD T];rfl
 have f:(Value.ref C::bm).contains (.type "AttributeError")=false:=by rw[List.contains_cons,vD T];rfl
 have i:(Value.ref C::bm).contains (.type "NameError")=false:=by rw[List.contains_cons,vD T];rfl
 refine codeAny_builtinAt F.entry ?_;unfold Builtin.«BaseException.__new__»;refine wpAt_bind ?_;show wpAt _ _ _ (stack >>= _) _ _ _;refine wpAt_bind (wpAt_stack λp j=>wpAt_of_wpAny ?_)
 wp_walk
 refine wpAt_of_wpAny ?_;rw[F.owner]
 repeat (first | with_reducible refine wpAny_madeHere_exc F.canon a ?_ | with_reducible refine wpAny_loadPart_at a ?_ | (with_reducible refine wpAny_isSubtype_exc a ?_;first | rw[e] | rw[f] | rw[i]) | wp_step)
 show R _ _;rw[Heap.size_push];exact k
theorem jiC{K:Frag}{rest:List Value}{j:Addr}{Q:Fin->Shared->Prop}(X:K.In h)(T:zb bm=true)
  (c:h.get? C=some (excClassObj nm q C N bs bm hdct sn sub ab col dd k0 k1 k2 k3 k5 "ValueError.__new__")) (hi:findIn K (.ref C) "__init__" = some (some (.ref j))) (s:isFn K (.ref j)=true)
  (u:∀ h' e,h.objs.size<=e->Heap.MadeExcOf h h' e (.ref C) rest ->
   wpAny (model prog w) A (call (.ref j) (.ref e::rest)) (λr s'=>r=.none/\Q (.done (.ret (.ref e))) s') E ⟨h',g,d,t,os⟩) (a:rest.length<=sizeLine) :
  wpAny (model prog w) A (Builtin.«type.__call__» ⟨.ref C::rest,[]⟩) Q E ⟨h,g,d,t,os⟩:=by
 repeat (first | with_reducible refine wpAny_loadPart_at c ?_ | with_reducible refine wpAny_madeBy_exc c ?_ | wp_step)
 refine codeAny_call_builtin_code (Code.quiet_builtin _ F.excBase_ValueError.quiet) (jjv T c ?_);refine jhX T c ?_ a;show wpAny _ _ _ _ _ _;generalize p:({ cls:=.type "tuple",data:=.seq rest.toArray }:Obj)=o1;generalize k:({ cls:=.ref C,data:=.fields #[.ref h.objs.size,.none,.none,.none,.bool false,.none] }:Obj)=o2;have i:∀ b o,h.get? b=some o->((h.push o1).push o2).get? b=some o:=λb o z=>L8 _ (L8 _ z);have l:=i _ _ c;have f:((h.push o1).push o2).get? (h.objs.size+1)=some o2:=by subst p k;heap_get
 have m:o2.cls=.ref C:=by subst k;rfl
 have n:(Value.ref C::bm).contains (.ref C)=true:=by simp
 have v:=(looks_findIn (M:=model prog w) X hi).keeps i;have y:=(looks_typeIn (M:=model prog w) X (beq_iff_eq.mp s)).keeps i;unfold isInstance
 repeat (first | (with_reducible refine wpAny_loadPart_at f ?_;rw[m]) | (with_reducible refine wpAny_isSubtype_exc l ?_;rw[n]) | wp_step)
 show wpAny _ _ (typeLookup (.ref C) _) _ _ _;refine v.here ?_;refine wpAny_holding (L3 ?_);unfold bindSpecial;refine L3 (y.here ?_);rw[if_pos (by decide)];refine M7 (L3 (wpAny_mono (u _ (h.objs.size+1) (Nat.le_succ _) ⟨i,Heap.get?_none_of_le (Nat.le_succ _),h.objs.size,by rw[f,<- k],Heap.get?_none_of_le (M9 _),?_⟩) (λr s' B=>?_) λ_ _ x=>x))
 ·rw[<- p];exact L8 _ (Heap.get?_push_at rfl rfl)
 ·obtain⟨rfl,D⟩:=B
  wp_walk
  exact D
theorem je5{K:Frag}{rest:List Value}{c:Addr}{Q:Value->Shared->Prop}(X:K.In h)(f:wq K C=true)(hi:findIn K (.ref C) "__init__" = some (some (.ref c)))(i:isFn K (.ref c)=true)
  (j:∀ h' e,h.objs.size<=e->Heap.MadeExcOf h h' e (.ref C) rest ->
   wpAny (model prog w) (A.under (.builtin "type.__call__" ⟨.ref C::rest,[]⟩)) (call (.ref c) (.ref e::rest)) (λr s'=>r=.none/\Q (.ref e) s') E ⟨h',g,d,t,os⟩) (a:rest.length<=sizeLine) :
  wpAny (model prog w) A (call (.ref C) rest) Q E ⟨h,g,d,t,os⟩:=by
 obtain⟨nm,n,N,bs,bm,o,sub,p,k,dd,q,s,u,v,x,b,T⟩:=QC X f;have y:=tc_lookup;have z:=tc_bind (.ref C);have B:(⟨h,g,d,t,os⟩:Shared).TypeIs (.ref C) "type":=⟨_,b,rfl⟩;refine wpAny_call (codeAny_of_tree ?_);show wpAny _ _ (callAny (.ref C) _) _ _ _
 repeat (any_goals (first | assumption | with_reducible refine wpAny_loadPart_at b ?_ | wp_step))
 refine⟨rfl,?_⟩;refine codeAny_call_builtin_at (Code.quiet_builtin _ (by decide +kernel)) entry_typeCall (wpAny_check_type_call_sub b (jiC X T b hi i (λh' e l m=>?_) a));exact j h' e l m
end
end QX
namespace QX
open PySem PySem.W Builtin Builtin.ObjectAttr
noncomputable def uQ(C t:Addr):Obj:={ cls:=.ref C,data:=.fields #[.ref t,.none,.none,.none,.bool false,.none] }
section
variable {prog:Program}{w:World}{A:Around}{E:Value->Shared->Prop}{h:Heap}{g:Array GenState}{d:Drawn}{t:Nat}{os:OsState}
variable {nm q:Str}{C N e:Addr}{bs bm:List Value}{hdct:Bool}{sn:List Str}{sub:List Value}{ab:Bool}{col:Option Bool}{dd:Option Addr}{k0 k1 k2 k3 k5:Option Value}{newId:String}{K:Frag}
theorem je2{M:Model}(T:zb bm=true){j:Obj}{rest:List Value}{Q:Unit->Shared->Prop}
  (k:h.get? C=some (excClassObj nm q C N bs bm hdct sn sub ab col dd k0 k1 k2 k3 k5 newId)) (l:h.get? e=some j) (c:j.cls=.ref C) (m:Q () ⟨h,g,d,t,os⟩) :
  wpAny M A (checkBuiltinCall "ValueError.__init__" ⟨.ref e::rest,[]⟩) Q E ⟨h,g,d,t,os⟩:=by
 have F:=F.excBase_ValueError;have i:(Value.ref C::bm).contains (.type "ValueError")=true:=by rw[List.contains_cons,vD T];rfl
 have f:=F.noStar;simp only[checkBuiltinCall,F.initKind,F.initSplit,F.initRow]
 repeat (first | (with_reducible refine wpAny_loadPart_at l ?_;rw[c]) | with_reducible refine wpAny_loadPart_at k ?_ | (with_reducible refine wpAny_isSubtype_exc k ?_;rw[i]) | wp_step)
 refine wpAny_onRaise ?_;rw[show ∀(a b:String) (n:Nat),Bind.check ⟨.positional,"*","ValueError",.self,[⟨"args",.varPos,false⟩]⟩ a b n (List.map (λx=>x.fst) ({ pos:=Value.ref e::rest }:Args).kw)=pure () from
  λa b n=>check_star_args _ _ _ _ _ _]
 exact M7 m
theorem jmP{u:Value}{c:Addr}{Q:Value->Shared->Prop}(X:K.In h)(f:wq K C=true)(a:h.get? e=some (uQ C c))
  (i:∀ h' t1,(∀ b o,b≠e->h.get? b=some o->h'.get? b=some o)->h'.get? e=some (uQ C t1)->Q .none ⟨h',g,d,t,os⟩) :
  wpAny (model prog w) A (call (.builtin "ValueError.__init__") [.ref e,u]) Q E ⟨h,g,d,t,os⟩:=by
 obtain⟨nm,m,N,bs,bm,n,sub,p,j,dd,q,r,s,v,x,k,T⟩:=QC X f;have F:=F.excBase_ValueError;refine wpAny_call (codeAny_call_builtin F.init.plain F.initEntry (je2 T k a rfl ?_));unfold uQ at a
 wp_walk
 refine i _ h.objs.size (λb o ne l=>?_) ?_
 ·rw[Heap.get?_update_other _ _ (Ne.symm ne)];exact L8 _ l
 ·rw[Heap.get?_update_self _ (L8 _ a) rfl];rfl
theorem jkB(self:Value):∀{l:List Value},zb l=true->refuseLoop self "__setattr__" l=pure ()
 | [],h=>absurd h (by decide)
 | .ref a::r,h=>by rw[refuseLoop_ref];exact jkB self (l:=r) h
 | .none::r,h=>by rw[beq_iff_eq.mp (show(_==vtail)=true from h)];exact F.store_ValueError.passes self
 | .bool _::r,h=>by rw[beq_iff_eq.mp (show(_==vtail)=true from h)];exact F.store_ValueError.passes self
 | .int _ _::r,h=>by rw[beq_iff_eq.mp (show(_==vtail)=true from h)];exact F.store_ValueError.passes self
 | .float _ _::r,h=>by rw[beq_iff_eq.mp (show(_==vtail)=true from h)];exact F.store_ValueError.passes self
 | .str _ _::r,h=>by rw[beq_iff_eq.mp (show(_==vtail)=true from h)];exact F.store_ValueError.passes self
 | .bytes _ _::r,h=>by rw[beq_iff_eq.mp (show(_==vtail)=true from h)];exact F.store_ValueError.passes self
 | .type _::r,h=>by rw[beq_iff_eq.mp (show(_==vtail)=true from h)];exact F.store_ValueError.passes self
 | .builtin _::r,h=>by rw[beq_iff_eq.mp (show(_==vtail)=true from h)];exact F.store_ValueError.passes self
theorem jgf{x:Addr}{name:Str}{v:Value}{r:Addr}{tk:Tok}{R:Result->Shared->Prop}(X:K.In h)(V:wq K C=true)(W:findIn K (.ref C) name=some none)(i:h.get? x=some (uQ C r))
  (Y:∀ h' tk',h'.get? x=some { uQ C r with dict:=some h.objs.size }->h'.Ns1 h.objs.size (λy=>if y=name then some v else none) ->
   (∀ b o,b≠x->h.get? b=some o->h'.get? b=some o)->R (.ok (.ret .none)) ⟨h',g,d,tk',os⟩) :
  codeAny (model prog w) A (.call (.builtin "object.__setattr__") ⟨[.ref x,.str name tk,v],[]⟩) R ⟨h,g,d,t,os⟩:=by
 have j:=F.store_object;obtain⟨nm,qn,N,bs,bm,sn,sub,ab,Z,dd,k0,k1,k2,k3,k5,S,T⟩:=QC X V;have u:Looks (model prog w) h (typeOf (.ref x)) (.ref C):=(Looks.ld i).andThen .now;have B:(Value.ref C::bm).contains (.type "object")=true:=by rw[List.contains_cons,vD T];rfl
 have L1:Looks (model prog w) h (isSubtype (.ref C) (.type "object")) true:=λA Q E s k z=>wpAny_isSubtype_exc (k _ _ S) (by rw[B];exact z);have sub:Looks (model prog w) h (isInstance (.ref x) (.type "object")) true:=u.andThen L1;have hm:Looks (model prog w) h (mroOf (.ref C)) (.ref C::bm):=λA Q E s k z=>wpAny_mroOf_exc (k _ _ S) z;refine codeAny_call_builtin j.slot.plain j.entry (@check_slot (model prog w) _ _ ⟨h,g,d,t,os⟩ "object.__setattr__" "object" "__setattr__" (.ref x) [.str name tk,v] [] _ j.kind j.split sub (j.args (.ref x) (.str name tk) v) ?_);rw[osa_eq,refuse_eq];refine L3 (L3 (u.at (L3 (hm.at ?_))));rw[refuseLoop_ref,jkB _ T];refine M7 (L3 (u.at (L3 ((looks_findIn X W).at ?_))));refine L3 (M7 ?_);generalize l:uQ C r=o at i;have D:o.dict=none:=by rw[<- l];rfl
 have G:o.cls=.ref C:=by rw[<- l];rfl
 have H:∀ c,o.data≠.cls c:=λc z=>by rw[<- l] at z;cases z
 repeat (first | (with_reducible refine wpAny_loadPart_at i ?_;rw[G]) | wp_step)
 rw[D,if_neg (by simp[typeHasDict])];split
 ·rename_i a;cases a
 split
 ·rename_i c a;exact absurd a (H c)
 have m:(h.push { cls:=.type "dict",data:=.dict #[] }).get? x=some o:=L8 _ i;have n:x≠h.objs.size:=N7 (N2 i);refine L3 (wpAny_alloc' ?_);refine L3 (wpAny_update' m ?_);refine M7 ?_;show wpAny _ _ (storeInDict h.objs.size (.str name tk) name v) _ _ _;generalize f:((h.push { cls:=.type "dict",data:=.dict #[] }).update x λo=>{ cls:=o.cls,dict:=some h.objs.size,data:=o.data,slots:=o.slots })=h2;have I:h2.get? h.objs.size=some { cls:=.type "dict",data:=.dict #[] }:=by rw[<- f];exact(Heap.get?_update_ne _ _ _ _ n.symm).trans (Heap.get?_push_at rfl rfl)
 have J:h2.Ns h.objs.size (λ_=>none):=⟨_,#[],_,I,rfl,λe he=>absurd he (by simp),λ_=>rfl⟩;have L:h2.get? x=some { uQ C r with dict:=some h.objs.size }:=by rw[<- f,l];exact(Heap.get?_update_self _ m (by rw[<- l];rfl))
 unfold storeInDict newKeyGuard;refine L3 (M7 (L3 (wpAny_nsSet1 (Heap.Ns1.of_empty J) λh' p U=>?_)));obtain⟨oD,esD,epD,M,O,P⟩:=p.count (Within.cons name v Within.nil);refine L3 (wpAny_lookBehind M (by rw[O];exact pastItsLine_dict (N8 P (by rw[M3,List.length_nil,sizeLine_eq];omega))) ?_)
 wp_walk
 refine Y h' _ ((U.2 x n).trans L) p (λb o hb q=>?_);rw[U.2 b (N7 (N2 q)),<- f];exact(Heap.get?_update_ne _ _ _ _ hb).trans (L8 _ q)
theorem jn9{x:Addr}{name:Str}{v:Value}{e:Addr}{Q:Unit->Shared->Prop}(X:K.In h)(i:wq K C=true)(j:findIn K (.ref C) "__setattr__" = some (some (.builtin "object.__setattr__")))(k:findIn K (.ref C) name=some none)(f:h.get? x=some (uQ C e))
  (l:∀ h' tk',h'.get? x=some { uQ C e with dict:=some h.objs.size }->h'.Ns1 h.objs.size (λy=>if y=name then some v else none) ->
   (∀ b o,b≠x->h.get? b=some o->h'.get? b=some o)->Q () ⟨h',g,d,tk',os⟩):wpAny (model prog w) A (setAttr (.ref x) name v) Q E ⟨h,g,d,t,os⟩:=by
 have I:InstAt h x (uQ C e) C none:=⟨f,rfl,rfl,True.intro⟩;exact set_plain (s:=⟨h,g,d,t,os⟩) X I j (jgf X i k f λh' tk' a b c=>l h' tk' a b c)
end
section
variable {prog:Program}{w:World}{A:Around}{E:Value->Shared->Prop}{h:Heap}{g:Array GenState}{d:Drawn}{t:Nat}{os:OsState}
variable {C x:Addr}{ox od:Obj}{K:Frag}{name:Str}
theorem jnY(X:K.In h)(a:wq K C=true)(T:String){M:Model}:Looks M h (isSubtype (.ref C) (.type T)) (vtail.contains (.type T)):=by
 obtain⟨nm,e,N,bs,bm,f,sub,g,b,dd,i,j,l,m,n,c,d⟩:=QC X a;exact λA Q E s k z=>wpAny_isSubtype_exc (k _ _ c) (by rw[List.contains_cons,vD d];exact z)
theorem jg7{M:Model}{a:Value}{Q:Unit->Shared->Prop}(X:K.In h)(b:wq K C=true)(I:InstAt h x ox C (some od))(c:Q () ⟨h,g,d,t,os⟩) :
  wpAny M A (checkBuiltinCall "BaseException.__getattribute__" ⟨[.ref x,a],[]⟩) Q E ⟨h,g,d,t,os⟩ :=
 @check_slot M _ _ ⟨h,g,d,t,os⟩ "BaseException.__getattribute__" "BaseException" "__getattribute__" (.ref x) [a] [] _ (by decide +kernel) (by decide +kernel) (I.type.andThen (jnY X b "BaseException")) (F.args_bexc_ga (.ref x) a) c
theorem jcl{v:Value}{tk:Tok}{Q:Fin->Shared->Prop}(X:K.In h)(I:InstAt h x ox C (some od))(a:findObj K C (some od) name=some (.value v))(e:Q (.done (.ret v)) ⟨h,g,d,t,os⟩) :
  wpAny (model prog w) A (Builtin.«object.__getattribute__» ⟨[.ref x,.str name tk],[]⟩) Q E ⟨h,g,d,t,os⟩:=by
 have b:=I.type (M:=model prog w);have c:=looks_find (M:=model prog w) X I a
 repeat (any_goals (first | assumption | with_reducible refine b.at ?_ | with_reducible refine c.at ?_ | wp_step))
theorem jhI{v:Value}{tk:Tok}{b a:Bool}{Q:Value->Shared->Prop}(X:K.In h)(i:wq K C=true)(I:InstAt h x ox C (some od))(h1:findIn K (.ref C) "__getattribute__" = some (some (.builtin "BaseException.__getattribute__")))
  (h2:findIn K (.ref C) "__getattr__" = some none) (j:findObj K C (some od) name=some (.value v)) (k:handedIn v=true) (q:Q v ⟨h,g,d,t,os⟩) :
  wpAny (model prog w) A (getAttrBy (.ref x) (.str name tk) b a) Q E ⟨h,g,d,t,os⟩:=by
 have f:=F.attrBase_ValueError;have r:=f.ga.bind (.ref x);have l:(a&&onTheHeap (Value.builtin "BaseException.__getattribute__"))=false:=by cases a<;>rfl
 have c:(Value.builtin "BaseException.__getattribute__"==Value.builtin "object.__getattribute__")=false:=by decide +kernel
 have m:(onTheHeap (Value.ref C)&&Value.builtin "BaseException.__getattribute__"==Value.builtin "object.__getattribute__")=false:=by rw[c];rfl
 have n:=I.type (M:=model prog w);have o:=looks_findIn (M:=model prog w) X h1;have p:=looks_findIn (M:=model prog w) X h2;have e:=handedOut_of k
 repeat (any_goals (first | assumption | with_reducible refine n.at ?_ | with_reducible refine o.at ?_ | with_reducible refine p.at ?_ | wp_step))
 refine codeAny_call_builtin f.ga.plain F.entry_bexc_ga (jg7 X i I (jcl X I j ?_))
 repeat (any_goals (first | assumption | rw[e] | wp_step))
theorem joc{v:Value}{a:Bool}{Q:Value->Shared->Prop}(X:K.In h)(b:wq K C=true)(I:InstAt h x ox C (some od))(h1:findIn K (.ref C) "__getattribute__" = some (some (.builtin "BaseException.__getattribute__")))
  (h2:findIn K (.ref C) "__getattr__" = some none) (c:findObj K C (some od) name=some (.value v)) (e:handedIn v=true) (f:Q v ⟨h,g,d,t+1,os⟩) :
  wpAny (model prog w) A (getAttr (.ref x) name a) Q E ⟨h,g,d,t,os⟩:=by
 unfold getAttr
 repeat (any_goals (first | assumption | with_reducible apply jhI X b I h1 h2 c e | wp_step))
end
noncomputable def jd1(K:Frag):Value->Bool
 | .ref D=>(clsIn K D).isSome&&typeIn K (.ref D)==some (.type "type")
 | .type T=>pureOf (typeOf (.type T))==some (.type "type")
 | _=>false
structure XC(K:Frag)(C:Addr):Prop where
 cls:wq K C=true
 ga:findIn K (.ref C) "__getattribute__" = some (some (.builtin "BaseException.__getattribute__"))
 gn:findIn K (.ref C) "__getattr__" = some none
 sa:findIn K (.ref C) "__setattr__" = some (some (.builtin "object.__setattr__"))
 kc:findIn K (.ref C) "__class__" = some (some (.builtin "object.__class__"))
 mo:mroIn K C (.type "object")=some true
 ty:jd1 K (.ref C)=true
section
variable {prog:Program}{w:World}{A:Around}{E:Value->Shared->Prop}{h:Heap}{g:Array GenState}{d:Drawn}{t:Nat}{os:OsState}
variable {C x:Addr}{ox od:Obj}{K:Frag}{name:Str}
theorem jcg{tk:Tok}{Q:Fin->Shared->Prop}(X:K.In h)(c:XC K C)(I:InstAt h x ox C (some od))(j:Q (.done (.ret (.ref C))) ⟨h,g,d,t,os⟩) :
  wpAny (model prog w) A (Builtin.«object.__getattribute__» ⟨[.ref x,.str "__class__" tk],[]⟩) Q E ⟨h,g,d,t,os⟩:=by
 have a:findObj K C (some od) "__class__" = some (.bind (.builtin "getset_descriptor.__get__") (.builtin "object.__class__")):=findObj_data (by
  obtain⟨nm,k,N,bs,bm,l,sub,m,b,dd,n,o,p,r,u,v,y⟩:=QC X c.cls;have q:=c.cls;unfold clsIn;unfold wq at q;split at q
  ·rename_i e;rw[e];rfl
  ·cases q) c.kc rfl rfl
 have f:=I.type (M:=model prog w);have i:=looks_find (M:=model prog w) X I a
 repeat (any_goals (first | assumption | with_reducible refine f.at ?_ | with_reducible refine i.at ?_ | wp_step))
 refine class_get (s:=⟨h,g,d,t,os⟩) X I c.mo ?_
 repeat (any_goals (first | assumption | wp_step))
end
section
variable {prog:Program}{w:World}{A:Around}{E:Value->Shared->Prop}{h:Heap}{g:Array GenState}{d:Drawn}{t:Nat}{os:OsState}
variable {C x:Addr}{ox od:Obj}{K:Frag}{name:Str}
theorem jhj{tk:Tok}{b a:Bool}{Q:Value->Shared->Prop}(X:K.In h)(c:XC K C)(I:InstAt h x ox C (some od))(n:Q (.ref C) ⟨h,g,d,t,os⟩) :
  wpAny (model prog w) A (getAttrBy (.ref x) (.str "__class__" tk) b a) Q E ⟨h,g,d,t,os⟩:=by
 have f:=F.attrBase_ValueError;have o:=f.ga.bind (.ref x);have i:(a&&onTheHeap (Value.builtin "BaseException.__getattribute__"))=false:=by cases a<;>rfl
 have e:(Value.builtin "BaseException.__getattribute__"==Value.builtin "object.__getattribute__")=false:=by decide +kernel
 have j:(onTheHeap (Value.ref C)&&Value.builtin "BaseException.__getattribute__"==Value.builtin "object.__getattribute__")=false:=by rw[e];rfl
 have k:=I.type (M:=model prog w);have l:=looks_findIn (M:=model prog w) X c.ga;have m:=looks_findIn (M:=model prog w) X c.gn
 repeat (any_goals (first | assumption | with_reducible refine k.at ?_ | with_reducible refine l.at ?_ | with_reducible refine m.at ?_ | wp_step))
 refine codeAny_call_builtin f.ga.plain F.entry_bexc_ga (jg7 X c.cls I (jcg X c I ?_))
 repeat (any_goals (first | assumption | wp_step))
theorem jog{Q:Option Value->Shared->Prop}(X:K.In h)(c:XC K C)(I:InstAt h x ox C (some od))(a:Q (some (.ref C)) ⟨h,g,d,t+1,os⟩) :
  wpAny (model prog w) A (getAttr? (.ref x) "__class__") Q E ⟨h,g,d,t,os⟩:=by
 unfold getAttr? getAttrBy?
 refine L3 (wpAny_mkText (L3 (wpAny_attempt ?_)));refine jhj X c I ?_;exact M7 a
theorem jbA{c:Value}(e:jd1 K c=true)(X:K.In h)(M:Model):Looks M h (typeOf c) (.type "type")/\Looks M h (isType c) true:=by
 unfold jd1 at e;cases c with
 | ref D =>
  rw[M0] at e;refine⟨looks_typeIn X (beq_iff_eq.mp e.2),?_⟩;have a:=e.1;unfold clsIn at a;split at a
  ·rename_i g i b d f;intro j l m n k q;unfold isType loadHead;exact L3 (wpAny_loadPart (k _ _ (X _ _ f)) (M7 q))
  ·cases a
 | type T=>exact⟨Looks.of_pure (of_pureOf (beq_iff_eq.mp e)),Looks.of_pure rfl⟩
 | _=>cases e
theorem jct{c:Value}{b:Bool}{l:Int}{tk:Tok}{Q:Fin->Shared->Prop}(X:K.In h)(k:XC K C)(I:InstAt h x ox C (some od))(e:jd1 K c=true)(o:subIn K (.ref C) c=some b)
  (f:∀ tk',Q (.done (.ret (.bool b))) ⟨h,g,d,tk',os⟩):wpAny (model prog w) A (Builtin.«isinstance.nested» ⟨[.ref x,c,.int l tk],[]⟩) Q E ⟨h,g,d,t,os⟩:=by
 obtain⟨m,n⟩:=jbA e X (model prog w);have p:=I.type (M:=model prog w);have r:=looks_subIn (M:=model prog w) X o;have u:Looks (model prog w) h (isInstance (.ref x) c) b:=p.andThen r;have i:=(jbA k.ty X (model prog w)).2;unfold Builtin.«isinstance.nested»;refine L3 (p.at ?_);by_cases q:(Value.ref C==c)=true
 ·have v:=beq_iff_eq.mp q;subst v;obtain rfl:b=true:=by
   have s:mroIn K C (.ref C)=some b:=o;unfold mroIn at s;obtain⟨D,a,z⟩:=Option.bind_eq_some_iff.mp s;split at z
   ·cases z
   ·cases z;have q:=k.cls;unfold wq at q;unfold clsIn at a;split at a
    ·rename_i y;cases a;split at q
     ·rename_i j;rw[y] at j;cases j;split at q
      ·rename_i B _;simp only[M0,beq_iff_eq] at q;rw[B,q.1.1.1.1.2];simp
      ·cases q
     ·cases q
    ·cases a
  rw[if_pos q];exact L3 (wpAny_rule (L3 (M7 (M7 (f _)))))
 ·rw[if_neg q];refine L3 (m.at ?_);rw[if_pos (by decide)]
  k_delta "plainIsInstance"
  refine L3 (L3 (n.at ?_));simp only[Bool.not_true,Bool.false_eq_true,if_false];refine L3 (u.at ?_);cases b with
  | true =>
   simp only[if_true];exact M7 (M7 (f _))
  | false =>
   simp only[Bool.false_eq_true,if_false];refine L3 (jog X k I ?_);refine L3 (i.at ?_);simp only[Bool.not_true,Bool.false_eq_true,if_false];refine L3 (wpAny_rule ?_);refine r.at ?_
   first
    | exact M7 (f _)
    | exact M7 (M7 (f _))
    | exact L3 (M7 (M7 (f _)))
theorem xis{c:Value}{b:Bool}{s:Shared}{Q:Value->Shared->Prop}(X:K.In s.heap)(k:XC K C)(I:InstAt s.heap x ox C (some od))(e:jd1 K c=true)(d:subIn K (.ref C) c=some b)
  (f:∀ tk',Q (.bool b) { s with toks:=tk' }):wpAny (model prog w) A (call (.builtin "isinstance") [.ref x,c]) Q E s :=
 call_isinstance (S:=λ_ R s=>(K.In s.heap/\InstAt s.heap x ox C (some od))/\∀ tk',R (.ok (.ret (.bool b))) { s with toks:=tk' })
  (λ_ _ _ _ _ a=>isinstance_outer (jct a.1.1 k a.1.2 e d a.2) (by intro q;cases q)) ⟨⟨X,I⟩,f⟩
theorem jki{D:Addr}{c:Obj}{Q:Bool->Shared->Prop}(X:K.In h)(k:XC K C)(i:XC K D)(j:h.get? x=some c)(a:c.cls=.ref C)(l:subIn K (.ref C) (.ref D)=some true)
  (m:Q true ⟨h,g,d,t,os⟩):wpAny (model prog w) A (excMatches (.ref x) (.ref D)) Q E ⟨h,g,d,t,os⟩:=by
 obtain⟨nm,p,N,bs,bm,q,sub,r,n,dd,s,u,v,y,z,e,T⟩:=QC X i.cls;have b:(Value.ref D::bm).contains (.type "BaseException")=true:=by rw[List.contains_cons,vD T];rfl
 have f:=tc_notTuple;have o:=looks_subIn (M:=model prog w) X l;unfold excMatches
 repeat (first | (with_reducible refine wpAny_loadPart_at j ?_;rw[a]) | with_reducible refine wpAny_loadPart_at e ?_ | with_reducible refine o.at ?_ | (with_reducible refine wpAny_isSubtype_exc e ?_;rw[b]) | wp_step)
 exact m
end
end QX
namespace L2
open PySem PySem.Spec PyProof.Rows
noncomputable abbrev Key:=Sum Int Str
noncomputable def jbQ:Key->Value->Bool
 | .inl k,v=>Value.isInt k v
 | .inr x,v=>Value.isStrOf x v
noncomputable def jn2(w:World):Key->Int
 | .inl k=>hashInt k
 | .inr x=>hashStr w x
theorem yT:∀{k:Key}{v:Value},jbQ k v=true->(∃ i t,k=Sum.inl i/\v=Value.int i t) \/ (∃ x t,k=Sum.inr x/\v=Value.str x t)
 | .inl i,v,h=>by
  obtain⟨t,e⟩:=Value.isInt_shape (k:=i) (v:=v) h;exact .inl ⟨i,t,rfl,e⟩
 | .inr x,v,h=>by
  obtain⟨t,e⟩:=Value.isStrOf_shape (x:=x) (v:=v) h;exact .inr ⟨x,t,rfl,e⟩
theorem jdH(i:Int)(t:Tok):jbQ (.inl i) (.int i t)=true:=by simp[jbQ,Value.isInt]
theorem jdn(x:Str)(t:Tok):jbQ (.inr x) (.str x t)=true:=by simp[jbQ,Value.isStrOf]
theorem jkv(a b:Int):decide ((Sum.inl a:Key)=Sum.inl b)=(a==b):=by
 by_cases e:a=b
 ·subst e;simp
 ·have h:¬ (Sum.inl a:Key)=Sum.inl b:=λq=>e (Sum.inl.inj q);rw[X2 h];exact(U3.mpr e).symm
theorem jkz(a b:Str):decide ((Sum.inr a:Key)=Sum.inr b)=decide (a=b):=by
 by_cases e:a=b
 ·subst e;simp
 ·have h:¬ (Sum.inr a:Key)=Sum.inr b:=λq=>e (Sum.inr.inj q);rw[X2 h,X2 e]
theorem jjD(a:Int)(b:Str):decide ((Sum.inl a:Key)=Sum.inr b)=false:=X2 (λq=>nomatch q)
theorem jjU(a:Str)(b:Int):decide ((Sum.inr a:Key)=Sum.inl b)=false:=X2 (λq=>nomatch q)
noncomputable def qk(prog:Program)(w:World):PySem.KeyKind prog w Key where
 is:=jbQ
 hash:=jn2 w
 inj:=λv a b ha hb=>by
  rcases yT ha with⟨i,t,rfl,rfl⟩ | ⟨x,t,rfl,rfl⟩
  ·rcases yT hb with⟨j,u,rfl,e⟩ | ⟨y,u,rfl,e⟩
   ·injection e with e1 _;rw[e1]
   ·exact nomatch e
  ·rcases yT hb with⟨j,u,rfl,e⟩ | ⟨y,u,rfl,e⟩
   ·exact nomatch e
   ·injection e with e1 _;rw[e1]
 byValue:=λk v h=>by
  rcases yT h with⟨i,t,rfl,rfl⟩ | ⟨x,t,rfl,rfl⟩<;>rfl
 pyHash:=λhv h=>by
  rcases yT hv with⟨i,t,rfl,rfl⟩ | ⟨x,t,rfl,rfl⟩
  ·exact wpAny_pyHash_int h
  ·exact wpAny_pyHash_str h
 eqBool:=λhu hv h=>by
  rcases yT hu with⟨i,t,rfl,rfl⟩ | ⟨x,t,rfl,rfl⟩
  ·rcases yT hv with⟨j,u,rfl,rfl⟩ | ⟨y,u,rfl,rfl⟩
   ·rw[jkv] at h;exact wpAny_eqBool_int h
   ·rw[jjD] at h;exact SeqAt.EqAt.int_str i t y u _ _ _ _ h
  ·rcases yT hv with⟨j,u,rfl,rfl⟩ | ⟨y,u,rfl,rfl⟩
   ·rw[jjU] at h;exact SeqAt.EqAt.str_int x t j u _ _ _ _ h
   ·rw[jkz] at h;exact wpAny_eqBool_str h
 «strs»:=λk x t v h=>by
  rcases yT h with⟨i,u,rfl,e⟩ | ⟨y,u,rfl,e⟩
  ·exact nomatch e
  ·injection e with e1 _;subst e1;cases v<;>rfl
theorem jas(prog:Program)(w:World)(i:Int)(t:Tok):(qk prog w).is (.inl i) (.int i t)=true:=jdH i t
theorem YZ(prog:Program)(w:World)(x:Str)(t:Tok):(qk prog w).is (.inr x) (.str x t)=true:=jdn x t
inductive V where
 | non | bl (b:Bool) | int (i:Int) | str (x:Str) | byt (b:Array UInt8) | flt (b:UInt64) | ref (a:Addr) | ty (n:String)
 deriving DecidableEq
def RelV:V->Value->Prop
 | .non,u=>u=Value.none
 | .bl b,u=>u=Value.bool b
 | .int i,u=>∃ t,u=Value.int i t
 | .str x,u=>∃ t,u=Value.str x t
 | .byt b,u=>∃ t,u=Value.bytes b t
 | .flt b,u=>∃ t,u=Value.float b t
 | .ref a,u=>u=Value.ref a
 | .ty n,u=>u=Value.type n
abbrev Vals:List V->List Value->Prop:=Paired RelV
theorem Vals.length{xs:List V}{us:List Value}(r:Vals xs us):xs.length=us.length:=Paired.length r
theorem Vals.get:∀{xs:List V}{us:List Value}{i:Nat}{x:V},Vals xs us->xs[i]?=some x->∃ u,us[i]?=some u/\RelV x u
 | _,_,_,_,.nil,e=>by simp at e
 | _,_,0,_,.cons r _,e=>by simp at e;subst e;exact⟨_,rfl,r⟩
 | _,_,i+1,x,.cons _ t,e=>by
  obtain⟨u,a,b⟩:=Vals.get (i:=i) (x:=x) t (by simpa using e);exact⟨u,by simpa using a,b⟩
theorem Vals.set{x:V}{u:Value}(r:RelV x u):∀{xs:List V}{us:List Value}(i:Nat),Vals xs us->Vals (xs.set i x) (us.set i u)
 | _,_,_,.nil=>.nil
 | _,_,0,.cons _ t=>.cons r t
 | _,_,i+1,.cons q t=>.cons q (Vals.set r i t)
theorem Vals.append:∀{xs ys:List V}{us ws:List Value},Vals xs us->Vals ys ws->Vals (xs++ys) (us++ws)
 | _,_,_,_,.nil,s=>s
 | _,_,_,_,.cons r t,s=>.cons r (Vals.append t s)
theorem Vals.take:∀{xs:List V}{us:List Value}(n:Nat),Vals xs us->Vals (xs.take n) (us.take n)
 | _,_,0,_=>.nil
 | _,_,_+1,.nil=>.nil
 | _,_,n+1,.cons r t=>.cons r (Vals.take n t)
theorem Vals.drop:∀{xs:List V}{us:List Value}(n:Nat),Vals xs us->Vals (xs.drop n) (us.drop n)
 | _,_,0,r=>r
 | _,_,_+1,.nil=>.nil
 | _,_,n+1,.cons _ t=>Vals.drop n t
def RelO:Option V->Option Value->Prop
 | some v,some u=>RelV v u
 | none,none=>True
 | _,_=>False
def KV{κ:Type}:List (κ×V)->List (κ×Value)->Prop:=Paired λ(p:κ×V) (q:κ×Value)=>p.1=q.1/\RelV p.2 q.2
noncomputable def kV:Key->V
 | .inl i=>.int i
 | .inr x=>.str x
inductive HO where
  | lst (xs:List V)
  | tup (xs:List V)
  | dK (kvs:List (Key×V)) | dT (kvs:List (List Key×V))
  | set (S:Int->Bool) (n:Nat)
  | ins (C dx:Addr) (fs:List (Str×V))
  | own (x:Addr)
  | xd (fs:List (Str×V))
  | met (f x:Addr)
  | rng (lo hi:Int)
  | frz (o:Obj) (u:HO)
  | tbl (ps:Array Value)
  | ext (φ:Heap->Prop)
noncomputable abbrev Hp:=Addr->Option HO
noncomputable def upd(H:Hp)(a:Addr)(o:HO):Hp:=λb=>if b=a then some o else H b
theorem jU{H:Hp}{a:Addr}{o:HO}:upd H a o a=some o:=by unfold upd;rw[if_pos rfl]
theorem jo{H:Hp}{a b:Addr}{o:HO}(h:b≠a):upd H a o b=H b:=by unfold upd;rw[if_neg h]
theorem ji7{H:Hp}{a:Addr}{o u:HO}:upd (upd H a o) a u=upd H a u:=by
 funext b;unfold upd;split<;>rfl
theorem Ja{H:Hp}{a b:Addr}{o:HO}(h:H a=some o)(h':H b=none):a≠b:=by
 intro e;subst e;rw[h] at h';cases h'
def IsTupN(h:Heap)(a:Addr)(its:Array Value):Prop:=IsTup h a its/\∃ o,h.get? a=some o/\o.dict=none
theorem IsTupN.new(h:Heap)(its:Array Value):IsTupN (h.push { cls:=.type "tuple",data:=.seq its }) h.objs.size its:=⟨IsTup.new h its,_,X7 _ rfl,rfl⟩
theorem IsTupN.lt{h:Heap}{a:Addr}{its:Array Value}(x:IsTupN h a its):a < h.objs.size:=x.1.lt
section
variable (P:Program)(w:World)
def ObjOk(H:Hp)(h:Heap)(a:Addr):HO->Prop
 | .lst xs=>xs.length<=sizeLine/\∃(its:List Value) (n:Nat),Vals xs its/\h.get? a=some { cls:=.type "list",data:=.seq its.toArray n }
 | .tup xs=>xs.length<=sizeLine/\∃ its:List Value,Vals xs its/\IsTupN h a its.toArray
 | .dK kvs=>kvs.length<=sizeLine/\(a==sysModules)=false/\∃ vs,KV kvs vs/\h.DictOf (qk P w) a vs
 | .dT kvs=>kvs.length<=sizeLine/\(a==sysModules)=false/\∃ xs:List (List Key×Addr×Value),
   Paired (λ(p:List Key×V) (q:List Key×Addr×Value)=>p.1=q.1/\H q.2.1=some (.tup (p.1.map kV))/\RelV p.2 q.2.2) kvs xs /\
   ∃ o es ep,h.get? a=some o/\o.ExactDict/\o.data=.dict es ep/\es.toList=xs.map (entryOfKey (tupleKind (qk P w)))/\(xs.map (·.1)).Nodup
 | .set S n=>h.SetOf (intKind P w) a S n
 | .ins C dx fs=>H dx=some (.own a)/\fs.length<=1000/\dx≠a/\h.get? a=some (PySem.W.instObj C dx) /\
   ∃ mA,h.Ns1 dx mA/\(∀ f,RelO (fs.lookup f) (mA f))/\PySem.Within mA (fs.map (·.1))
 | .own _=>∃ o,h.get? a=some o
 | .xd fs=>∃ mA,h.Ns1 a mA/\∀ f,RelO (fs.lookup f) (mA f)
 | .rng lo hi=>∃ t u v,h.get? a=some { cls:=.type "range",data:=.fields #[.int lo t,.int hi u,.int 1 v] }
 | .frz o u=>h.get? a=some o/\ObjOk H h a u
 | .tbl ps=>h.get? a=some { cls:=.none,data:=.fields ps }
 | .met f x=>h.get? a=some (PySem.W.methodObj (.ref f) (.ref x))
 | .ext φ=>φ h/\(∃ o,h.get? a=some o)/\∀ h1 h2:Heap,φ h1->(∀ o,h1.get? a=some o->h2.get? a=some o)->φ h2
def HOk(H:Hp)(h:Heap):Prop:=∀ a o,H a=some o->ObjOk P w H h a o
end
section
variable {P:Program}{w:World}{H H':Hp}{h h':Heap}{a:Addr}{o:HO}
theorem ObjOk.lt(x:ObjOk P w H h a o):a < h.objs.size:=by
 cases o with
 | lst xs=>obtain⟨_,_,_,_,e⟩:=x;exact N2 e
 | tup xs=>obtain⟨_,_,_,p⟩:=x;exact p.lt
 | dK b=>obtain⟨_,_,_,_,o,_,_,e,_⟩:=x;exact N2 e
 | dT b=>obtain⟨_,_,_,_,o,_,_,e,_⟩:=x;exact N2 e
 | set S n=>obtain⟨o,_,_,_,e,_⟩:=x;exact N2 e
 | ins C dx fs=>obtain⟨_,_,_,e,_⟩:=x;exact N2 e
 | own y=>obtain⟨_,e⟩:=x;exact N2 e
 | xd fs=>obtain⟨_,⟨_,_,_,e,_⟩,_⟩:=x;exact N2 e
 | rng c d=>obtain⟨_,_,_,e⟩:=x;exact N2 e
 | frz g u=>obtain⟨e,_⟩:=x;exact N2 e
 | tbl i=>exact N2 (show h.get? a=some _ from x)
 | met f y=>exact N2 (show h.get? a=some _ from x)
 | ext φ=>obtain⟨_,⟨_,e⟩,_⟩:=x;exact N2 e
theorem Paired.mapP{α β:Type}{F G:α->β->Prop}:∀{l₁:List α}{l₂:List β},Paired F l₁ l₂->(∀ a b,F a b->G a b)->Paired G l₁ l₂
 | _,_,.nil,_=>.nil
 | _,_,.cons r t,f=>.cons (f _ _ r) (Paired.mapP t f)
theorem ObjOk.stay(x:ObjOk P w H h a o)(k:∀ b u,(b=a \/ H b=some (.own a))->h.get? b=some u->h'.get? b=some u)
  (D:∀ b,H b=some (.own a)->H' b=some (.own a)) (E:∀ b xs,H b=some (.tup xs)->H' b=some (.tup xs)):ObjOk P w H' h' a o:=by
 induction o with
 | lst xs=>obtain⟨z,its,n,r,e⟩:=x;exact⟨z,its,n,r,k _ _ (.inl rfl) e⟩
 | tup xs=>obtain⟨z,its,r,⟨g,e,c⟩,l,m,F⟩:=x;exact⟨z,its,r,⟨g,k _ _ (.inl rfl) e,c⟩,l,k _ _ (.inl rfl) m,F⟩
 | dK s=>obtain⟨z,y,G,r,g,i,j,e,c⟩:=x;exact⟨z,y,G,r,g,i,j,k _ _ (.inl rfl) e,c⟩
 | dT s =>
  obtain⟨z,y,xs,r,g,i,j,e,c⟩:=x;exact⟨z,y,xs,Paired.mapP r λp q z=>⟨z.1,E _ _ z.2.1,z.2.2⟩,g,i,j,k _ _ (.inl rfl) e,c⟩
 | set S n=>obtain⟨g,i,j,t,e,c⟩:=x;exact⟨g,i,j,t,k _ _ (.inl rfl) e,c⟩
 | ins C dx fs =>
  obtain⟨d,z,ne,e,A,⟨od,i,j,m,c⟩,r⟩:=x;exact⟨D _ d,z,ne,k _ _ (.inl rfl) e,A,⟨od,i,j,k _ _ (.inr d) m,c⟩,r⟩
 | own y=>obtain⟨g,e⟩:=x;exact⟨g,k _ _ (.inl rfl) e⟩
 | xd fs=>obtain⟨A,⟨od,i,j,e,c⟩,r⟩:=x;exact⟨A,⟨od,i,j,k _ _ (.inl rfl) e,c⟩,r⟩
 | rng J K=>obtain⟨t,u,v,e⟩:=x;exact⟨t,u,v,k _ _ (.inl rfl) e⟩
 | frz g u I=>obtain⟨e,q⟩:=x;exact⟨k _ _ (.inl rfl) e,I q⟩
 | tbl B =>
  have e:h.get? a=some { cls:=.none,data:=.fields B }:=x;show h'.get? a=some { cls:=.none,data:=.fields B };exact k a _ (.inl rfl) e
 | met f y =>
  have e:h.get? a=some (PySem.W.methodObj (.ref f) (.ref y)):=x;show h'.get? a=some (PySem.W.methodObj (.ref f) (.ref y));exact k a _ (.inl rfl) e
 | ext φ=>obtain⟨p,⟨o,e⟩,st⟩:=x;exact⟨st _ _ p λo q=>k _ _ (.inl rfl) q,⟨o,k _ _ (.inl rfl) e⟩,st⟩
theorem HOk.lt(x:HOk P w H h)(e:H a=some o):a < h.objs.size:=(x a o e).lt
theorem HOk.fresh(x:HOk P w H h)(e:h.objs.size<=a):H a=none:=by
 cases q:H a with
 | none=>rfl
 | some u=>exact absurd (U5 (x.lt q) e) (Nat.lt_irrefl _)
theorem HOk.kept(x:HOk P w H h)(k:∀ b u,h.get? b=some u->h'.get? b=some u):HOk P w H h':=λa o e =>
 (x a o e).stay (λb u _ q=>k b u q) (λ_ q=>q) λ_ _ q=>q
theorem HOk.laid(x:HOk P w H h)(k:∀ b u,h.get? b=some u->h'.get? b=some u)(hp:h.objs.size<=a)(new:ObjOk P w (upd H a o) h' a o):HOk P w (upd H a o) h':=λb u e=>by
 have d:=x.fresh hp;by_cases f:b=a
 ·subst f;rw[jU] at e;cases e;exact new
 ·rw[jo f] at e;exact(x b u e).stay (λc v _ q=>k c v q) (λc q=>by rw[jo (Ja q d)];exact q) λc xs q=>by rw[jo (Ja q d)];exact q
end
def Rd(H:Hp)(a:Addr)(u:HO):Prop:=H a=some u \/ ∃ o,H a=some (.frz o u)
theorem Rd.ok{P:Program}{w:World}{H:Hp}{h:Heap}{a:Addr}{u:HO}(r:Rd H a u)(x:HOk P w H h):ObjOk P w H h a u:=by
 rcases r with r | ⟨o,r⟩
 ·exact x a u r
 ·obtain⟨_,q⟩:=x a _ r;exact q
def Mut:Option HO->Prop
 | some (.lst _)=>True
 | some (.dK _)=>True
 | some (.dT _)=>True
 | some (.set _ _)=>True
 | some (.ins _ _ _)=>True
 | some (.ext _)=>True
 | _=>False
section
variable {P:Program}{w:World}{H:Hp}{h h':Heap}{x e:Addr}{o':HO}
theorem HOk.write(ok:HOk P w H h)(g:Mut (H x))(m:e=x \/ H e=some (.own x))(k:∀ b u,b≠e->h.get? b=some u->h'.get? b=some u)(l:∃ u,h'.get? e=some u)
  (new:ObjOk P w (upd H x o') h' x o'):HOk P w (upd H x o') h':=λb u q=>by
 have d:∀ c y,H c=some (.own y)->c≠x:=λc y r z=>by subst z;rw[r] at g;exact g
 have f:∀ c xs,H c=some (.tup xs)->c≠x:=λc xs r z=>by subst z;rw[r] at g;exact g
 by_cases i:b=x
 ·subst i;rw[jU] at q;cases q;exact new
 ·rw[jo i] at q;by_cases a:b=e
  ·have n:H b=some (.own x):=by
    rcases m with z | z
    ·exact absurd (a.trans z) i
    ·rw[a];exact z
   rw[q] at n;cases n;obtain⟨v,o⟩:=l;exact⟨v,by rw[a];exact o⟩
  ·refine(ok b u q).stay (λc v j r=>k c v ?_ r) (λc r=>by rw[jo (d c b r)];exact r) λc xs r=>by rw[jo (f c xs r)];exact r
   rcases j with rfl | j
   ·exact a
   ·rintro rfl;rcases m with z | z
    ·exact d c b j z
    ·rw[j] at z;cases z;exact i rfl
end
structure Un(fs ex:List Addr)(H H':Hp)(h h':Heap):Prop where
 keep:∀ b o,h.get? b=some o->H b=none->b∉fs->b∉ex->h'.get? b=some o
 slot:∀ b o,h.get? b=some o->H b=none->b∈fs->b∉ex->∃ sl,h'.get? b=some { o with slots:=sl }
 free:∀ b o,h.get? b=some o->H b=none->b∉ex->H' b=none
 there:∀ b o,h.get? b=some o->b∉ex->∃ o',h'.get? b=some o'
 tups:∀ b xs,H b=some (.tup xs)->H' b=some (.tup xs)
 frzs:∀ b o u,H b=some (.frz o u)->H' b=some (.frz o u)
 tbls:∀ b ps,H b=some (.tbl ps)->∃ more,H' b=some (.tbl (ps++more))
section
variable {fs fs' ex ex':List Addr}{H H1 H2:Hp}{h h1 h2 h':Heap}{a x e:Addr}{o:HO}
theorem Un.any(u:Un fs ex H H1 h h1){b:Addr}{a:Obj}(q:h.get? b=some a)(n:H b=none)(c:b∉ex):∃ sl,h1.get? b=some { a with slots:=sl }:=by
 by_cases d:b∈fs
 ·exact u.slot b a q n d c
 ·exact⟨a.slots,u.keep b a q n d c⟩
theorem Un.kept(k:∀ b u,h.get? b=some u->h'.get? b=some u):Un fs ex H H h h' :=
 ⟨λb a q _ _ _=>k b a q,λb a q _ _ _=>⟨a.slots,k b a q⟩,λ_ _ _ n _=>n,λb a q _=>⟨a,k b a q⟩,λ_ _ q=>q,λ_ _ _ q=>q,λ_ c q=>⟨#[],by rw[q];simp⟩⟩
theorem Un.refl:Un fs ex H H h h:=Un.kept λ_ _ q=>q
theorem Un.laid(k:∀ b u,h.get? b=some u->h'.get? b=some u)(hp:h.objs.size<=a)(c:H a=none):Un fs ex H (upd H a o) h h' where
 keep:=λb u q _ _ _=>k b u q
 slot:=λb u q _ _ _=>⟨u.slots,k b u q⟩
 free:=λb u q n _=>by rw[jo (N7 (U5 (N2 q) hp))];exact n
 there:=λb u q _=>⟨u,k b u q⟩
 tups:=λb xs q=>by rw[jo (Ja q c)];exact q
 frzs:=λb u xs q=>by rw[jo (Ja q c)];exact q
 tbls:=λb d q=>⟨#[],by rw[jo (Ja q c),q];simp⟩
theorem Un.write(c:Mut (H x))(j:e=x \/ H e=some (.own x))(k:∀ b u,b≠e->h.get? b=some u->h'.get? b=some u)(d:∃ u,h'.get? e=some u):Un fs ex H (upd H x o) h h':=by
 have g:∀ b,H b=none->b≠x:=λb n z=>by subst z;rw[n] at c;exact c
 have i:∀ b,H b=none->b≠e:=λb n z=>by
  subst z;rcases j with r | r
  ·exact g b n r
  ·rw[n] at r;cases r
 have f:∀ b u,H b=some u->¬ Mut (some u)->b≠x:=λb u q nm z=>by subst z;rw[q] at c;exact nm c
 refine⟨λb u q n _ _=>k b u (i b n) q,λb u q n _ _=>⟨u.slots,k b u (i b n) q⟩,λb u q n _=>by rw[jo (g b n)];exact n,λb u q _=>?_,
  λb xs q=>by rw[jo (f b _ q λz=>z)];exact q,λb u xs q=>by rw[jo (f b _ q λz=>z)];exact q,λb l q=>⟨#[],by rw[jo (f b _ q λz=>z),q];simp⟩⟩
 by_cases a:b=e
 ·subst a;exact d
 ·exact⟨u,k b u a q⟩
end
noncomputable def trk(h:Heap)(H:Hp):List Addr:=(List.range h.objs.size).filter λa=>(H a).isSome
noncomputable def jgb(h:Heap)(H:Hp):Heap:=PySem.W.hideAll h (trk h H)
theorem jcS(h:Heap)(H:Hp):(jgb h H).objs.size=h.objs.size:=PySem.W.hideAll_size _ _
theorem jf7{h:Heap}{H:Hp}{b:Addr}{o:Obj}(e:h.get? b=some o)(n:H b=none):(jgb h H).get? b=some o :=
 PySem.W.hideAll_get _ e λa=>by
  have q:(H b).isSome=true:=(List.mem_filter.mp a).2;rw[n] at q;simp at q
theorem jiz{h:Heap}{H:Hp}{b:Addr}{o:Obj}(e:(jgb h H).get? b=some o):h.get? b=some o/\H b=none:=by
 have a:h.get? b=some o:=PySem.W.of_hideAll (trk h H) e;refine⟨a,?_⟩;cases q:H b with
 | none=>rfl
 | some x =>
  have c:b∈trk h H:=List.mem_filter.mpr ⟨List.mem_range.mpr (N2 a),by simp[q]⟩;have z:(jgb h H).get? b=none:=PySem.W.hideAll_none (trk h H) c;rw[z] at e;cases e
noncomputable def jhN(g h:Heap)(L:Addr):List (Addr×Obj):=(List.range h.objs.size).filterMap λa=>if a=L \/ (g.get? a).isSome=true then none else(h.get? a).map λo=>(a,o)
noncomputable def rest(g h:Heap)(L d:Addr):List (Addr×Obj):=(jhN g h L).filter λp=>decide (p.1≠d)
structure Mod(K:PySem.W.Frag)(mg:Str->Option Value)(base:Heap):Prop where
 kin:K.In base
 glob:base.Ns mainGlobals mg
 blt:∃ mb,base.Ns builtinsNs mb/\∀ x:Str,x≠"__name__"->mb x=bootBuiltins x
 nolimit:base.NoLimit
structure Cx where
 prog:Program
 w:World
 K:PySem.W.Frag
 mg:Str->Option Value
 base:Heap
 A:Around
 N:List Str
 s₀:Shared
 H₀:Hp
 env:Env
 outer:List Env
 stack:List Env
 ex:List Addr
 fn:Str->Bool
 calm:Bool
 pn:List (Addr×Obj)
 xe:Value->Shared->Prop
noncomputable def frs(l:List Env):List Addr:=l.filterMap (·.frame)
noncomputable abbrev Cx.fs(X:Cx):List Addr:=frs X.outer
def Vis(sc:Scope)(x:Str):Prop:=sc.names.lookup x=some .local \/ sc.names.lookup x=some .cell \/ sc.names.lookup x=some .free
def Loc(sc:Scope)(x:Str):Prop:=sc.names.lookup x=some .local \/ sc.names.lookup x=some .cell
def jn1(env:Env)(h:Heap)(m:Str->Option Value)(x:Str)(u:Value):Prop :=
 (env.kindOf x=some .local/\m x=some u) \/ ((env.kindOf x=some .cell \/ env.kindOf x=some .free)/\∃ c,env.cells.lookup x=some c/\h.IsCell c (some u))
structure Cx.Ok(X:Cx):Prop where
 mod:Mod X.K X.mg X.base
 kind:X.env.scope.kind=.function
 glob:X.env.globals=mainGlobals
 blt:X.env.builtins=builtinsNs
 above:X.s₀.heap.objs.size<=X.env.locals
 inj:∀ x y c,X.env.cells.lookup x=some c->X.env.cells.lookup y=some c->x=y
 has:∀ x,(X.env.kindOf x=some .cell \/ X.env.kindOf x=some .free)->∃ c,X.env.cells.lookup x=some c
 cab:∀ x c,X.fn x=true->X.env.cells.lookup x=some c->X.s₀.heap.objs.size<=c
 hd:X.calm=true->X.A.handled=none
 frames:X.A.frames=some X.stack
 stk:X.stack=X.outer \/ (X.stack=X.env::X.outer/\X.env.frame=some X.env.locals)
 exf:∀ b∈X.ex,b≠X.env.locals/\∀ x c,X.env.cells.lookup x=some c->c≠b
 bs:∀ b o,X.base.get? b=some o->X.s₀.heap.get? b=some o/\X.H₀ b=none
 bsz:X.base.objs.size<=X.s₀.heap.objs.size
 noex:∀ b o,X.base.get? b=some o->b∉X.ex
 exfs:∀ b∈X.ex,b∉X.fs
 funs:X.s₀.heap.FunFrames X.base X.outer
 frf:∀ b∈X.fs,X.H₀ b=none
structure Inv(X:Cx)(pins:List (Addr×Obj))(σ:List (Option V))(H:Hp)(s:Shared):Prop where
 ok:X.Ok
 os:s.os=X.s₀.os
 bare:AllBare s.gens
 base:Un X.fs X.ex X.H₀ H X.s₀.heap s.heap
 loc:∃ m,s.heap.Ns X.env.locals m/\∀(i:Nat) (x:Str) (v:V),X.N[i]?=some x->σ[i]?=some (some v)->Vis X.env.scope x->∃ u,RelV v u/\jn1 X.env s.heap m x u
 cell:∀ x c,X.env.cells.lookup x=some c->∃ v,s.heap.IsCell c v
 free:H X.env.locals=none
 freeC:∀ x c,X.env.cells.lookup x=some c->H c=none
 pin:∀ p∈X.pn++pins,s.heap.get? p.1=some p.2/\H p.1=none/\p.1≠X.env.locals/\p.1∉X.fs/\∀ v,p.2.data≠.cell v
 hok:HOk X.prog X.w H s.heap
 len:σ.length=X.N.length
section
variable {X:Cx}{pins:List (Addr×Obj)}{σ:List (Option V)}{H H':Hp}{s:Shared}{h':Heap}
theorem Cx.Ok.nofr(ok:X.Ok){b:Addr}{o:Obj}(e:X.base.get? b=some o):b∉X.fs:=λa=>by
 have:=(ok.funs.mem a).1;rw[e] at this;cases this
theorem Inv.bs(I:Inv X pins σ H s):∀ b o,X.base.get? b=some o->s.heap.get? b=some o/\H b=none:=λb o e =>
 ⟨I.base.keep b o (I.ok.bs b o e).1 (I.ok.bs b o e).2 (I.ok.nofr e) (I.ok.noex b o e),I.base.free b o (I.ok.bs b o e).1 (I.ok.bs b o e).2 (I.ok.noex b o e)⟩
theorem Inv.bk(I:Inv X pins σ H s):∀ b o,X.base.get? b=some o->s.heap.get? b=some o:=λb o e=>(I.bs b o e).1
theorem Inv.mod(I:Inv X pins σ H s):Mod X.K X.mg X.base:=I.ok.mod
theorem Inv.kIn(I:Inv X pins σ H s):X.K.In s.heap:=I.ok.mod.kin.keeps I.bk
theorem Inv.fr(I:Inv X pins σ H s):∃ m,Fr X.base X.env.locals s.heap m :=
 let ⟨m,hn,_⟩:=I.loc
 ⟨m,hn,I.bk,N8 I.ok.bsz I.ok.above⟩
theorem Inv.lt(I:Inv X pins σ H s):X.env.locals < s.heap.objs.size:=let ⟨_,hn,_⟩:=I.loc;hn.lt
theorem Inv.sz(I:Inv X pins σ H s):X.s₀.heap.objs.size<=s.heap.objs.size:=N8 I.ok.above (Nat.le_of_lt I.lt)
theorem Inv.nofs(I:Inv X pins σ H s){a:Addr}(h:s.heap.objs.size<=a):a∉X.fs:=λb=>by
 obtain⟨_,o,c,_⟩:=I.ok.funs.mem b;exact absurd (U5 (N2 c) (N8 I.sz h)) (Nat.lt_irrefl _)
theorem Inv.cne(I:Inv X pins σ H s):∀ x c,X.env.cells.lookup x=some c->c≠X.env.locals:=λx c e z=>by
 obtain⟨v,o,d,hd⟩:=I.cell x c e;obtain⟨m,⟨f,g,h,a,b,_⟩,_⟩:=I.loc;rw[z,a] at d;cases d;rw[b] at hd;cases hd
theorem Inv.funs(I:Inv X pins σ H s):s.heap.FunFrames X.base X.outer:=by
 have all:∀(l:List Env),(∀ b∈frs l,b∈X.fs)->X.s₀.heap.FunFrames X.base l->s.heap.FunFrames X.base l:=by
  intro l
  induction l with
  | nil=>intro _ _;trivial
  | cons env r g =>
   intro f h;obtain⟨i,⟨L,o,a,j,k,hd⟩,m⟩:=h;have c:L∈X.fs:=f L (by unfold frs;rw[List.filterMap_cons,a];exact L7);obtain⟨n,e⟩:=I.base.slot L o k (I.ok.frf L c) c λz=>I.ok.exfs L z c;exact⟨i,⟨L,_,a,j,e,hd⟩,g (λb d=>f b (by unfold frs;rw[List.filterMap_cons,a];exact L6 _ d)) m⟩
 exact all X.outer (λ_ d=>d) I.ok.funs
theorem Inv.stack(I:Inv X pins σ H s):s.heap.FunFrames X.base X.stack:=by
 rcases I.ok.stk with e | ⟨e,a⟩
 ·rw[e];exact I.funs
 ·rw[e];obtain⟨m,b,_⟩:=I.loc;refine .cons (by rw[I.ok.kind];decide) a b ?_ I.funs;exact Heap.get?_none_of_le (N8 I.ok.bsz I.ok.above)
theorem Inv.stkSub(I:Inv X pins σ H s):∀ b∈frs X.stack,b∈X.env.locals::X.fs:=λb a=>by
 rcases I.ok.stk with e | ⟨e,c⟩
 ·rw[e] at a;exact L6 _ a
 ·rw[e] at a;unfold frs at a;rw[List.filterMap_cons,c] at a;exact a
theorem Inv.stkFree(I:Inv X pins σ H s):∀ b∈frs X.stack,H b=none:=λb a=>by
 rcases M5.mp (I.stkSub b a) with e | a
 ·rw[e];exact I.free
 ·obtain⟨_,o,c,_⟩:=I.ok.funs.mem a;exact I.base.free b o c (I.ok.frf b a) λz=>I.ok.exfs b z a
theorem Inv.step{g':Array GenState}{t':Nat}{d':Drawn}{ch:List Addr}(I:Inv X pins σ H s)
  (f:∀ b∈ch,(b∈X.ex \/ X.s₀.heap.objs.size<=b)/\b≠X.env.locals/\(∀ x c,X.env.cells.lookup x=some c->c≠b)/\∀ p∈X.pn++pins,p.1≠b)
  (keep:∀ b o,b≠X.env.locals->b∉X.fs->b∉ch->s.heap.get? b=some o->H b=none->h'.get? b=some o)
  (slot:∀ b o,b≠X.env.locals->b∈X.fs->b∉ch->s.heap.get? b=some o->H b=none->∃ sl,h'.get? b=some { o with slots:=sl }) (free:∀ b o,b∉ch->s.heap.get? b=some o->H b=none->H' b=none)
  (there:∀ b o,b∉ch->s.heap.get? b=some o->∃ o',h'.get? b=some o')
  (tups:∀ b xs,H b=some (.tup xs)->H' b=some (.tup xs)) (frzs:∀ b o u,H b=some (.frz o u)->H' b=some (.frz o u)) (tbls:∀ b ps,H b=some (.tbl ps)->∃ more,H' b=some (.tbl (ps++more)))
  (ns:∀ m,s.heap.Ns X.env.locals m->h'.Ns X.env.locals m) (hok:HOk X.prog X.w H' h') (J:AllBare g') :
  Inv X pins σ H' { s with heap:=h',gens:=g',drawn:=d',toks:=t' }:=by
 have B:∀ b o,X.s₀.heap.get? b=some o->b≠X.env.locals:=λb o e=>N7 (U5 (N2 e) I.ok.above);have j:∀ b o,X.s₀.heap.get? b=some o->b∉X.ex->b∉ch:=λb o e a y=>by
  rcases(f b y).1 with z | z
  ·exact a z
  ·exact absurd (U5 (N2 e) z) (Nat.lt_irrefl _)
 have g:∀ x c,X.env.cells.lookup x=some c->∀ v,s.heap.IsCell c v->h'.IsCell c v:=λx c e v ⟨o,A,hd⟩=>by
  have h:c∉ch:=λz=>(f c z).2.2.1 x c e rfl;by_cases E:c∈X.fs
  ·obtain⟨sl,q⟩:=slot c o (I.cne x c e) E h A (I.freeC x c e);exact⟨_,q,hd⟩
  ·exact⟨o,keep c o (I.cne x c e) E h A (I.freeC x c e),hd⟩
 refine⟨I.ok,I.os,J,⟨λb o e n y a=>?_,λb o e n y a=>?_,λb o e n a=>?_,λb o e a=>?_,λb xs e=>tups b xs (I.base.tups b xs e),λb o xs e=>frzs b o xs (I.base.frzs b o xs e),λb ps e=>?_⟩,?_,λx c e=>?_,?_,λx c e=>?_,λp F=>?_,hok,I.len⟩
 ·exact keep b o (B b o e) y (j b o e a) (I.base.keep b o e n y a) (I.base.free b o e n a)
 ·obtain⟨sl,t⟩:=I.base.slot b o e n y a;obtain⟨D,C⟩:=slot b _ (B b o e) y (j b o e a) t (I.base.free b o e n a);exact⟨D,C⟩
 ·obtain⟨o',t⟩:=I.base.there b o e a;exact free b o' (j b o e a) t (I.base.free b o e n a)
 ·obtain⟨o',t⟩:=I.base.there b o e a;exact there b o' (j b o e a) t
 ·obtain⟨K,t⟩:=I.base.tbls b ps e;obtain⟨L,C⟩:=tbls b _ t;exact⟨K++L,by rw[C,Array.append_assoc]⟩
 ·obtain⟨m,M,N⟩:=I.loc;refine⟨m,ns m M,λi x v t C O=>?_⟩;obtain⟨u,r,l⟩:=N i x v t C O;refine⟨u,r,?_⟩;rcases l with l | ⟨k,c,e,z⟩
  ·exact .inl l
  ·exact .inr ⟨k,c,e,g x c e _ z⟩
 ·obtain⟨v,z⟩:=I.cell x c e;exact⟨v,g x c e v z⟩
 ·obtain⟨m,⟨o,_,_,A,_⟩,_⟩:=I.loc;exact free _ o (λz=>(f _ z).2.1 rfl) A I.free
 ·obtain⟨v,o,A,hd⟩:=I.cell x c e;exact free c o (λz=>(f c z).2.2.1 x c e rfl) A (I.freeC x c e)
 ·obtain⟨e,n,ne,G,d⟩:=I.pin p F;have h:p.1∉ch:=λz=>(f p.1 z).2.2.2 p F rfl;exact⟨keep p.1 p.2 ne G h e n,free p.1 p.2 h e n,ne,G,d⟩
theorem Inv.un{t':Nat}(I:Inv X pins σ H s)(u:Un X.fs [] H H' s.heap h')(hok:HOk X.prog X.w H' h'):Inv X pins σ H' { s with heap:=h',toks:=t' }:=by
 obtain⟨m,⟨o,k,l,g,r⟩,_⟩:=id I.loc;obtain⟨p,h⟩:=u.any g I.free (by simp);exact I.step (g':=s.gens) (d':=s.drawn) (ch:=[]) (λ_ z=>nomatch z) (λb o _ c _ e n=>u.keep b o e n c (by simp)) (λb o _ c _ e n=>u.slot b o e n c (by simp)) (λb o _ e n=>u.free b o e n (by simp)) (λb o _ e=>u.there b o e (by simp)) u.tups u.frzs u.tbls (λq i=>by
  obtain⟨t,d,f,a,j⟩:=i;rw[g] at a;cases a;exact⟨_,d,f,h,j⟩) hok I.bare
theorem Inv.call{g':Array GenState}{t':Nat}{d':Drawn}{ch:List Addr}(I:Inv X pins σ H s)(u:Un (frs X.stack) ch H H' s.heap h')(hok:HOk X.prog X.w H' h')(k:AllBare g')
  (d:∀ b∈ch,(b∈X.ex \/ X.s₀.heap.objs.size<=b)/\b≠X.env.locals/\(∀ x c,X.env.cells.lookup x=some c->c≠b)/\∀ p∈X.pn++pins,p.1≠b) :
  Inv X pins σ H' { s with heap:=h',gens:=g',drawn:=d',toks:=t' }:=by
 obtain⟨m,⟨o,v,y,j,r⟩,_⟩:=id I.loc;obtain⟨A,g⟩:=u.any j I.free λz=>(d _ z).2.1 rfl;exact I.step (ch:=ch) d (λb o g l a e n=>u.keep b o e n (λz=>(M5.mp (I.stkSub b z)).elim g l) a) (λb o _ _ a e n=>u.any e n a) (λb o a e n=>u.free b o e n a) (λb o a e=>u.there b o e a) u.tups u.frzs u.tbls (λB q=>by
  obtain⟨C,h,i,f,t⟩:=q;rw[j] at f;cases f;exact⟨_,h,i,g,t⟩) hok k
theorem Inv.turned{t':Nat}{a:Addr}(I:Inv X pins σ H s)(k:∀ b o,b≠a->s.heap.get? b=some o->h'.get? b=some o)(h:H a=none)(g:a≠X.env.locals)
  (h1:a∈X.ex \/ X.s₀.heap.objs.size<=a) (h2:∀ x c,X.env.cells.lookup x=some c->c≠a) (i:∀ p∈X.pn++pins,p.1≠a):Inv X pins σ H { s with heap:=h',toks:=t' }:=by
 have f:∀ b u,H b=some u->b≠a:=λb u e z=>by rw[z,h] at e;cases e
 refine I.step (g':=s.gens) (d':=s.drawn) (ch:=[a]) (λb j=>?_) (λb o _ _ d e _=>k b o (λz=>d (by simp[z])) e) (λb o _ _ d e _=>⟨o.slots,k b o (λz=>d (by simp[z])) e⟩) (λ_ _ _ _ n=>n)
  (λb o d e=>⟨o,k b o (λz=>d (by simp[z])) e⟩) (λ_ _ e=>e) (λ_ _ _ e=>e) (λb A e=>⟨#[],by rw[e];simp⟩) (λm l=>?_) (λb u e=>?_) I.bare
 ·have e:b=a:=by simpa using j
  subst e;exact⟨h1,g,h2,i⟩
 ·obtain⟨o,t,w,y,r⟩:=l;exact⟨o,t,w,k _ o (Ne.symm g) y,r⟩
 ·refine(I.hok b u e).stay (λc v d q=>k c v ?_ q) (λ_ q=>q) λ_ _ q=>q;rcases d with z | z
  ·rw[z];exact f b u e
  ·exact f c _ z
theorem Inv.tok(I:Inv X pins σ H s)(t:Nat):Inv X pins σ H { s with toks:=t }:=I.un (h':=s.heap) (t':=t) Un.refl I.hok
theorem Inv.kept{t':Nat}(I:Inv X pins σ H s)(k:∀ b u,s.heap.get? b=some u->h'.get? b=some u):Inv X pins σ H { s with heap:=h',toks:=t' }:=I.un (Un.kept k) (I.hok.kept k)
theorem Inv.laid{a:Addr}{o:HO}{t':Nat}(I:Inv X pins σ H s)(k:∀ b u,s.heap.get? b=some u->h'.get? b=some u)(hp:s.heap.objs.size<=a)(new:ObjOk X.prog X.w (upd H a o) h' a o) :
  Inv X pins σ (upd H a o) { s with heap:=h',toks:=t' }:=I.un (Un.laid k hp (I.hok.fresh hp)) (I.hok.laid k hp new)
theorem Inv.write{x e:Addr}{o:HO}{t':Nat}(I:Inv X pins σ H s)(c:Mut (H x))(d:e=x \/ H e=some (.own x))(k:∀ b u,b≠e->s.heap.get? b=some u->h'.get? b=some u)(a:∃ u,h'.get? e=some u)
  (new:ObjOk X.prog X.w (upd H x o) h' x o):Inv X pins σ (upd H x o) { s with heap:=h',toks:=t' }:=I.un (Un.write c d k a) (I.hok.write c d k a new)
theorem Inv.pins_of{a:List (Addr×Obj)}(I:Inv X pins σ H s)(h:∀ p∈a,s.heap.get? p.1=some p.2/\H p.1=none/\p.1≠X.env.locals/\p.1∉X.fs/\∀ v,p.2.data≠.cell v):Inv X a σ H s :=
 ⟨I.ok,I.os,I.bare,I.base,I.loc,I.cell,I.free,I.freeC,λp b=>(N3.mp b).elim (λz=>I.pin p (List.mem_append_left _ z)) (h p),I.hok,I.len⟩
theorem wg{N:List Str}(c:N.Nodup){i j:Nat}{x:Str}(a:N[i]?=some x)(b:N[j]?=some x):i=j:=by
 obtain⟨f,d⟩:=L9.mp a;obtain⟨g,e⟩:=L9.mp b;exact(List.getElem_inj c).mp (d.trans e.symm)
theorem jdF{M:Model}{A:Around}{E:Value->Shared->Prop}{i:Nat}{x:Str}{v:V}{u:Value}{Q:Unit->Shared->Prop}(I:Inv X pins σ H s)(hN:X.N.Nodup)(hi:X.N[i]?=some x)(B:Loc X.env.scope x)(r:RelV v u)
  (h:∀ s',Inv X pins (σ.set i (some v)) H s'->(∃ a,Heap.SameBut a s.heap s'.heap/\(a=X.env.locals \/ X.env.cells.lookup x=some a))->Q () s') (hf:X.fn x=true \/ X.env.scope.names.lookup x=some .local:=by first | exact .inl rfl | exact .inr rfl | assumption):wpAny M A (storeName X.env x u) Q E s:=by
 obtain⟨m,Z,hl⟩:=id I.loc;have O:(X.env.scope.kind==.class||(X.env.scope.kind==.module&&X.env.locals != X.env.globals))=false:=by rw[I.ok.kind];rfl
 have P:i < σ.length:=by rw[I.len];exact(L9.mp hi).1
 have cne:=I.cne;have g:∀{a:Addr}{L:Heap},(∃ o,s.heap.get? a=some o/\H a=none)->Heap.SameBut a s.heap L->HOk X.prog X.w H L:=λ{a L} ha f b ob e=>by
  obtain⟨_,_,C⟩:=ha;refine(I.hok b ob e).stay (λc W t q=>(f.2 c ?_).trans q) (λ_ q=>q) λ_ _ q=>q;rintro rfl;rcases t with rfl | t
  ·rw[C] at e;cases e
  ·rw[C] at t;cases t
 rcases B with F | F
 ·refine wpAny_storeName_local F Z (λL hn' f=>?_) O;obtain⟨oL,_,_,hoL,_⟩:=id Z;refine h _ ⟨I.ok,I.os,I.bare,⟨λb o e n G B=>?_,λb o e n G B=>?_,I.base.free,λb o e B=>?_,I.base.tups,I.base.frzs,I.base.tbls⟩,⟨_,hn',λj y v' l D e3=>?_⟩,λy c e=>?_,I.free,I.freeC,λp hp=>?_,g ⟨oL,hoL,I.free⟩ f,by simpa using I.len⟩ ⟨_,f,.inl rfl⟩
  ·exact(f.2 b (N7 (U5 (N2 e) I.ok.above))).trans (I.base.keep b o e n G B)
  ·obtain⟨sl,l⟩:=I.base.slot b o e n G B;exact⟨sl,(f.2 b (N7 (U5 (N2 e) I.ok.above))).trans l⟩
  ·obtain⟨o',l⟩:=I.base.there b o e B;exact⟨o',(f.2 b (N7 (U5 (N2 e) I.ok.above))).trans l⟩
  ·by_cases J:j=i
   ·subst J;rw[hi] at l;cases l;rw[List.getElem?_set_self P] at D;cases D;exact⟨u,r,.inl ⟨F,by simp⟩⟩
   ·rw[List.getElem?_set_ne (Ne.symm J)] at D;obtain⟨u',r',q⟩:=hl j y v' l D e3;refine⟨u',r',?_⟩;rcases q with⟨k,e⟩ | ⟨k,c,e,z⟩
    ·refine .inl ⟨k,?_⟩;have:y≠x:=λe=>J (wg hN l (e▸hi));simp[this,e]
    ·exact .inr ⟨k,c,e,z.sameBut f (cne y c e)⟩
  ·obtain⟨W,z⟩:=I.cell y c e;exact⟨W,z.sameBut f (cne y c e)⟩
  ·obtain⟨e,n,ne,nf,d⟩:=I.pin p hp;exact⟨(f.2 p.1 ne).trans e,n,ne,nf,d⟩
 ·have K:X.fn x=true:=by
   rcases hf with z | z
   ·exact z
   ·rw[z] at F;cases F
  obtain⟨c,t⟩:=I.ok.has x (.inl F);obtain⟨W,z⟩:=I.cell x c t;refine wpAny_storeName_cell I.ok.kind F t z (λL R f=>?_);obtain⟨oc,S,T⟩:=id z;refine h { s with heap:=L } ⟨I.ok,I.os,I.bare,⟨λb o e n G B=>?_,λb o e n G B=>?_,I.base.free,λb o e B=>?_,I.base.tups,I.base.frzs,I.base.tbls⟩,⟨m,Z.sameBut f (Ne.symm (cne x c t)),λj y v' l D e3=>?_⟩,λy Y e=>?_,I.free,I.freeC,λp hp=>?_,g ⟨oc,S,I.freeC x c t⟩ f,by simpa using I.len⟩ ⟨c,f,.inr t⟩
  ·exact(f.2 b (N7 (U5 (N2 e) (I.ok.cab x c K t)))).trans (I.base.keep b o e n G B)
  ·obtain⟨sl,l⟩:=I.base.slot b o e n G B;exact⟨sl,(f.2 b (N7 (U5 (N2 e) (I.ok.cab x c K t)))).trans l⟩
  ·obtain⟨o',l⟩:=I.base.there b o e B;exact⟨o',(f.2 b (N7 (U5 (N2 e) (I.ok.cab x c K t)))).trans l⟩
  ·by_cases J:j=i
   ·subst J;rw[hi] at l;cases l;rw[List.getElem?_set_self P] at D;cases D;exact⟨u,r,.inr ⟨.inl F,c,t,R⟩⟩
   ·rw[List.getElem?_set_ne (Ne.symm J)] at D;obtain⟨u',r',q⟩:=hl j y v' l D e3;refine⟨u',r',?_⟩;rcases q with q | ⟨k,Y,e,z'⟩
    ·exact .inl q
    ·refine .inr ⟨k,Y,e,z'.sameBut f ?_⟩;rintro rfl;exact J (wg hN l (I.ok.inj _ _ _ e t▸hi))
  ·by_cases U:Y=c
   ·subst U;exact⟨_,R⟩
   ·obtain⟨w2,z2⟩:=I.cell y Y e;exact⟨w2,z2.sameBut f U⟩
  ·obtain⟨e,n,ne,nf,d⟩:=I.pin p hp;refine⟨(f.2 p.1 ?_).trans e,n,ne,nf,d⟩;intro q;rw[q,S] at e;have q':oc=p.2:=X4 e;exact d W (by rw[<- q'];exact T)
theorem Vt{M:Model}{A:Around}{E:Value->Shared->Prop}{i:Nat}{x:Str}{v:V}{u:Value}{Q:Unit->Shared->Prop}(I:Inv X pins σ H s)(a:X.N.Nodup)(hi:X.N[i]?=some x)(b:Loc X.env.scope x)(r:RelV v u)
  (h:∀ s',Inv X pins (σ.set i (some v)) H s'->Q () s') (c:X.fn x=true \/ X.env.scope.names.lookup x=some .local:=by first | exact .inl rfl | exact .inr rfl | assumption):wpAny M A (storeName X.env x u) Q E s :=
 jdF I a hi b r (λs' d _=>h s' d) c
theorem Inv.call'{s':Shared}{ch:List Addr}(I:Inv X pins σ H s)(h:s'.os=s.os)(u:Un (frs X.stack) ch H H' s.heap s'.heap)(hok:HOk X.prog X.w H' s'.heap)(i:AllBare s'.gens)
  (a:∀ b∈ch,(b∈X.ex \/ X.s₀.heap.objs.size<=b)/\b≠X.env.locals/\(∀ x c,X.env.cells.lookup x=some c->c≠b)/\∀ p∈X.pn++pins,p.1≠b):Inv X pins σ H' s':=by
 obtain⟨k,d,f,g,j⟩:=s';have e:j=s.os:=h;subst e;exact I.call (g':=d) (t':=g) (d':=f) u hok i a
end
noncomputable abbrev XK:=Value->Option Addr->Hp->Prop
noncomputable abbrev St:=List (Option V)
noncomputable abbrev VK:=V->Hp->Prop
noncomputable abbrev TE:=St->Hp->VK->Prop
noncomputable abbrev TT:=St->Hp->(Bool->Hp->Prop)->Prop
noncomputable abbrev TA:=St->Hp->(List V->Hp->Prop)->Prop
structure Ends where
 nx:St->Hp->Prop
 rt:VK
 bk:St->Hp->Prop:=λ_ _=>False
 ct:St->Hp->Prop:=λ_ _=>False
noncomputable abbrev TS:=Ends->St->Hp->Prop
def EP(X:Cx)(pins:List (Addr×Obj))(σ:St)(Q:VK)(u:Value)(s':Shared):Prop:=∃ v H',Inv X pins σ H' s'/\RelV v u/\Q v H'
def TP(X:Cx)(pins:List (Addr×Obj))(σ:St)(Q:Bool->Hp->Prop)(b:Bool)(s':Shared):Prop:=∃ H',Inv X pins σ H' s'/\Q b H'
def AP(X:Cx)(pins:List (Addr×Obj))(σ:St)(Q:List V->Hp->Prop)(us:List Value)(s':Shared):Prop:=∃ vs H',Inv X pins σ H' s'/\Vals vs us/\Q vs H'
def SP(X:Cx)(pins:List (Addr×Obj))(D:Ends)(f:Flow)(s':Shared):Prop :=
 match f with
 | .next=>∃ σ' H',Inv X pins σ' H' s'/\D.nx σ' H'
 | .brk=>∃ σ' H',Inv X pins σ' H' s'/\D.bk σ' H'
 | .cont=>∃ σ' H',Inv X pins σ' H' s'/\D.ct σ' H'
 | .ret u=>∃ v σ' H',Inv X pins σ' H' s'/\RelV v u/\D.rt v H'
def PE(X:Cx)(e:Expr)(t:TE):Prop :=
 ∀(pins:List (Addr×Obj)) (s:Shared) (σ:St) (H:Hp) (Q:VK),Inv X pins σ H s->t σ H Q->wpAny (model X.prog X.w) X.A (eval e X.env) (EP X pins σ Q) X.xe s
def PT(X:Cx)(e:Expr)(t:TT):Prop :=
 ∀(pins:List (Addr×Obj)) (s:Shared) (σ:St) (H:Hp) (Q:Bool->Hp->Prop),Inv X pins σ H s->t σ H Q->wpAny (model X.prog X.w) X.A (isTrue e X.env (eval e X.env)) (TP X pins σ Q) X.xe s
def PW(X:Cx)(e:Expr)(t:TT):Prop :=
 ∀(whole:Sem Value) (pins:List (Addr×Obj)) (s:Shared) (σ:St) (H:Hp) (Q:Bool->Hp->Prop),Inv X pins σ H s->t σ H Q->wpAny (model X.prog X.w) X.A (isTrue e X.env whole) (TP X pins σ Q) X.xe s
theorem PW.pt{X:Cx}{e:Expr}{t:TT}(h:PW X e t):PT X e t:=h _
def PA(X:Cx)(es:List Expr)(t:TA):Prop :=
 ∀(pos:Pos) (pins:List (Addr×Obj)) (s:Shared) (σ:St) (H:Hp) (Q:List V->Hp->Prop),Inv X pins σ H s->t σ H Q->wpAny (model X.prog X.w) X.A (spliced (backTo pos (starEach es X.env))) (AP X pins σ Q) X.xe s
def PS(X:Cx)(st:Stmt)(t:TS):Prop :=
 ∀(pins:List (Addr×Obj)) (s:Shared) (σ:St) (H:Hp) (D:Ends),Inv X pins σ H s->t D σ H->wpAny (model X.prog X.w) X.A (exec st X.env) (SP X pins D) X.xe s
def PSs(X:Cx)(st:List Stmt)(t:TS):Prop :=
 ∀(pins:List (Addr×Obj)) (s:Shared) (σ:St) (H:Hp) (D:Ends),Inv X pins σ H s->t D σ H->wpAny (model X.prog X.w) X.A (execs st X.env) (SP X pins D) X.xe s
theorem thn{α:Type}{t:Sem α}{Q b:α->Shared->Prop}{M:Model}{A:Around}{E:Value->Shared->Prop}{s:Shared}(h:wpAny M A t Q E s)(c:∀ a s,Q a s->b a s):wpAny M A t b E s:=wpAny_mono h c λ_ _ x=>x
section
variable {X:Cx}
noncomputable def Yj(i:Nat):TE:=λσ H Q=>∃ v,σ[i]?=some (some v)/\Q v H
noncomputable def tC(v:V):TE:=λ_ H Q=>Q v H
theorem ui{i:Nat}{x:Str}{pos:Pos}(k:X.N[i]?=some x)(n:Vis X.env.scope x)(hd:(x==("__debug__" : Str))=false:=by decide)(g:(x==("__classdict__" : Str))=false:=by decide):PE X (.Name x pos) (Yj i):=by
 intro f s σ H Q I h;obtain⟨v,e,h⟩:=h;obtain⟨m,o,p⟩:=I.loc;obtain⟨u,r,l⟩:=p i x v k e n;have b:EP X f σ Q u s:=⟨v,H,I,r,h⟩;rcases l with⟨d,q⟩ | ⟨d,c,j,a⟩
 ·exact wpAny_Name (wpAny_loadName_local I.ok.kind d o q b) hd
 ·rcases d with d | d
  ·exact wpAny_Name (wpAny_loadName_cell I.ok.kind d j a b) hd
  ·exact wpAny_Name (wpAny_loadName_free I.ok.kind d j a b g) hd
theorem jee{i j pos}:PE X (.Constant (.int i) j pos) (tC (.int i)):=λ_ _ _ H _ I h=>wpAny_Constant_int ⟨.int i,H,I.tok _,⟨_,rfl⟩,h⟩
theorem jnr{b j pos}:PE X (.Constant (.bool b) j pos) (tC (.bl b)):=λ_ _ _ H _ I h=>Constant_bool ⟨.bl b,H,I,rfl,h⟩
theorem jlu{j pos}:PE X (.Constant .none j pos) (tC .non):=λ_ _ _ H _ I h=>Constant_none ⟨.non,H,I,rfl,h⟩
theorem jlY{x j pos}:PE X (.Constant (.str x) j pos) (tC (.str x)):=λ_ _ _ H _ I h=>Calls.Constant_str ⟨.str x,H,I.tok _,⟨_,rfl⟩,h⟩
def Gl(X:Cx)(x:Str):Prop:=X.env.kindOf x=some .globalImplicit
theorem JZ{E:Value->Shared->Prop}{pins:List (Addr×Obj)}{s:Shared}{σ:St}{H:Hp}{x:Str}{u:Value}{pos:Pos}{Q:Value->Shared->Prop}(I:Inv X pins σ H s)(a:Gl X x)(b:X.mg x=some u)(h:Q u s)
  (hd:(x==("__debug__" : Str))=false:=by decide):wpAny (model X.prog X.w) X.A (eval (.Name x pos) X.env) Q E s :=
 Calls.Name_function_global I.ok.kind a (Calls.loadGlobal_global (by rw[I.ok.glob];exact I.mod.glob.keeps I.bk) b h) hd
theorem KM{E:Value->Shared->Prop}{pins:List (Addr×Obj)}{s:Shared}{σ:St}{H:Hp}{x:Str}{u:Value}{pos:Pos}{Q:Value->Shared->Prop}(I:Inv X pins σ H s)(a:Gl X x)(b:X.mg x=none)(c:bootBuiltins x=some u)(h:Q u s)
  (d:x≠"__name__":=by decide) (hd:(x==("__debug__" : Str))=false:=by decide):wpAny (model X.prog X.w) X.A (eval (.Name x pos) X.env) Q E s:=by
 obtain⟨g,e,f⟩:=I.mod.blt;exact Calls.Name_function_global I.ok.kind a (Calls.loadGlobal_builtin (by rw[I.ok.glob];exact I.mod.glob.keeps I.bk) b (by rw[I.ok.blt];exact e.keeps I.bk) ((f x d).trans c) h) hd
theorem xZ{x:Str}{v:V}{u:Value}{pos:Pos}(a:Gl X x)(b:X.mg x=some u)(r:RelV v u)(hd:(x==("__debug__" : Str))=false:=by decide):PE X (.Name x pos) (tC v) :=
 λ_ _ _ H _ I h=>JZ I a b ⟨v,H,I,r,h⟩ hd
theorem jdK{x:Str}{v:V}{u:Value}{pos:Pos}(a:Gl X x)(b:X.mg x=none)(c:bootBuiltins x=some u)(r:RelV v u)(d:x≠"__name__":=by decide)(hd:(x==("__debug__" : Str))=false:=by decide):PE X (.Name x pos) (tC v) :=
 λ_ _ _ H _ I h=>KM I a b c ⟨v,H,I,r,h⟩ d hd
variable {a b:Expr}{ta tb:TE}{pos:Pos}
noncomputable def tB(t:TE):TT:=λσ H Q=>t σ H λx H1=>∃ c,x=.bl c/\Q c H1
theorem jkb{e:Expr}{t:TE}(h:PE X e t)(b:∀ whole,isTrue e X.env whole=(do let v <- whole;standAt e.pos;holding [v] (truthy v)):=by intro _;rfl):PT X e (tB t):=by
 intro a s σ H Q I c;refine isTrue_plain (thn (h a s σ H _ I c) λv k ⟨x,f,g,i,j⟩=>?_) (b _);obtain⟨d,rfl,q⟩:=j;cases i;exact wpAny_truthy_bool ⟨f,g,q⟩
variable {tA tB':TT}{rest:List Expr}
noncomputable def jnD(t u:TT):TT:=λσ H Q=>t σ H λc H1=>if c=true then u σ H1 Q else Q false H1
noncomputable def tOr(t u:TT):TT:=λσ H Q=>t σ H λc H1=>if c=true then Q true H1 else u σ H1 Q
noncomputable def jmD(t:TT):TT:=λσ H Q=>t σ H λc H1=>Q (!c) H1
theorem jiB(d:PT X a tA):PW X (.BoolOp .And [a] pos) tA:=by
 intro f b s σ H Q I h;refine isTrue_and (thn (d b s σ H Q I h) λc g e=>?_);cases c with
 | true=>exact isTrue_and_nil e
 | false=>exact e
theorem jjP(d:PT X a tA):PW X (.BoolOp .Or [a] pos) tA:=by
 intro f b s σ H Q I h;refine isTrue_or (thn (d b s σ H Q I h) λc g e=>?_);cases c with
 | false=>exact isTrue_or_nil e
 | true=>exact e
theorem jj9(i:PT X a tA)(j:PW X (.BoolOp .And (b::rest) pos) tB'):PW X (.BoolOp .And (a::b::rest) pos) (jnD tA tB'):=by
 intro k d s σ H Q I h;refine isTrue_and (thn (i d s σ H _ I h) λc l ⟨e,f,g⟩=>?_);cases c with
 | true=>exact j k d l σ e Q f g
 | false=>exact⟨e,f,g⟩
theorem jnC(i:PT X a tA)(j:PW X (.BoolOp .Or (b::rest) pos) tB'):PW X (.BoolOp .Or (a::b::rest) pos) (tOr tA tB'):=by
 intro k d s σ H Q I h;refine isTrue_or (thn (i d s σ H _ I h) λc l ⟨e,f,g⟩=>?_);cases c with
 | true=>exact⟨e,f,g⟩
 | false=>exact j k d l σ e Q f g
theorem jlN(d:PT X a tA):PT X (.UnaryOp .Not a pos) (jmD tA):=by
 intro b s σ H Q I h;exact isTrue_not (d b s σ H (λc e=>Q (!c) e) I h)
noncomputable def jh2(ta tb:TE):TE:=λσ H Q=>ta σ H λx H1=>∃ c,x=.bl c/\if c=true then tb σ H1 Q else Q (.bl false) H1
noncomputable def jmw(ta tb:TE):TE:=λσ H Q=>ta σ H λx H1=>∃ c,x=.bl c/\if c=true then Q (.bl true) H1 else tb σ H1 Q
noncomputable def jik(ta:TE):TE:=λσ H Q=>ta σ H λx H1=>∃ c,x=.bl c/\Q (.bl (!c)) H1
theorem jlP{op}{t:TE}(h:PE X a t):PE X (.BoolOp op [a] pos) t:=λb s σ H Q I c=>BoolOp_one (h b s σ H Q I c)
theorem jlq(i:PE X a ta)(j:PE X (.BoolOp .And (b::rest) pos) tb):PE X (.BoolOp .And (a::b::rest) pos) (jh2 ta tb):=by
 intro d s σ H Q I h;refine BoolOp_and (thn (i d s σ H _ I h) λv k ⟨x,f,g,l,e⟩=>?_);obtain⟨c,rfl,e⟩:=e;cases l;refine wpAny_truthy_bool ?_;cases c with
 | true=>exact j d k σ f Q g e
 | false=>exact⟨.bl false,f,g,rfl,e⟩
theorem jmQ(i:PE X a ta)(j:PE X (.BoolOp .Or (b::rest) pos) tb):PE X (.BoolOp .Or (a::b::rest) pos) (jmw ta tb):=by
 intro d s σ H Q I h;refine BoolOp_or (thn (i d s σ H _ I h) λv k ⟨x,f,g,l,e⟩=>?_);obtain⟨c,rfl,e⟩:=e;cases l;refine wpAny_truthy_bool ?_;cases c with
 | false=>exact j d k σ f Q g e
 | true=>exact⟨.bl true,f,g,rfl,e⟩
theorem jkJ(e:PE X a ta):PE X (.UnaryOp .Not a pos) (jik ta):=by
 intro b s σ H Q I h;refine UnaryOp_ (thn (e b s σ H _ I h) λv j ⟨x,f,g,i,d⟩=>?_);obtain⟨c,rfl,d⟩:=d;cases i;exact not_of (wpAny_truthy_bool ⟨.bl (!c),f,g,rfl,d⟩)
noncomputable def tIf(t:TT)(ta tb:TE):TE:=λσ H Q=>t σ H λc H1=>if c=true then ta σ H1 Q else tb σ H1 Q
theorem jfJ{c:Expr}(k:PT X c tA)(l:PE X a ta)(m:PE X b tb):PE X (.IfExp c a b pos) (tIf tA ta tb):=by
 intro e s σ H Q I h;refine wpAny_IfExp (thn (k e s σ H _ I h) λd f ⟨g,i,j⟩=>?_);cases d with
 | true=>exact l e f σ g Q i j
 | false=>exact m e f σ g Q i j
end
def SqL(K:PySem.W.Frag)(H:Hp)(a:Addr)(xs:List V):Prop :=
 Rd H a (.lst xs) \/
  ∃(o:Obj) (its:Array Value) (n:Nat),K.lookup a=some o/\o.cls=.type "list"/\o.dict=none/\o.data=.seq its n/\its.size<=sizeLine/\Vals xs its.toList
def SqT(K:PySem.W.Frag)(H:Hp)(a:Addr)(xs:List V):Prop :=
 Rd H a (.tup xs) \/
  ∃(o:Obj) (its:Array Value) (n:Nat),K.lookup a=some o/\o.cls=.type "tuple"/\o.data=.seq its n/\its.size<=sizeLine/\Vals xs its.toList
noncomputable def jn4:Value->Option V
 | .none=>some .non
 | .bool b=>some (.bl b)
 | .int i _=>some (.int i)
 | .str x _=>some (.str x)
 | .bytes b _=>some (.byt b)
 | .float b _=>some (.flt b)
 | .ref a=>some (.ref a)
 | .type n=>some (.ty n)
 | _=>none
theorem RelV.abs{x:V}{u:Value}(r:RelV x u):jn4 u=some x:=by
 cases x with
 | non=>cases r;rfl
 | bl _=>cases r;rfl
 | int _=>obtain⟨t,rfl⟩:=r;rfl
 | str _=>obtain⟨t,rfl⟩:=r;rfl
 | byt _=>obtain⟨t,rfl⟩:=r;rfl
 | flt _=>obtain⟨t,rfl⟩:=r;rfl
 | ref _=>cases r;rfl
 | ty _=>cases r;rfl
theorem RelV.inj{x y:V}{u:Value}(r:RelV x u)(q:RelV y u):x=y:=X4 (r.abs.symm.trans q.abs)
theorem Vals.inj:∀{xs ys:List V}{us:List Value},Vals xs us->Vals ys us->xs=ys
 | _,_,_,.nil,.nil=>rfl
 | _,_,_,.cons r t,.cons a b=>by rw[r.inj a,Vals.inj t b]
section
variable {X:Cx}{pins:List (Addr×Obj)}{σ:St}{H:Hp}{s:Shared}{a:Addr}{xs ys:List V}
theorem SqL.of{K:PySem.W.Frag}(h:H a=some (.lst xs)):SqL K H a xs:=.inl (.inl h)
theorem Inv.list(I:Inv X pins σ H s)(h:SqL X.K H a xs):∃ its:List Value,Vals xs its/\PlainL s.heap a its.toArray/\xs.length<=sizeLine:=by
 rcases h with h | ⟨o,its,n,b,c,hd,d,f,r⟩
 ·obtain⟨z,its,n,r,e⟩:=h.ok I.hok;exact⟨its,r,⟨_,n,e,rfl,rfl,rfl⟩,z⟩
 ·refine⟨its.toList,r,⟨o,n,I.kIn a o b,c,hd,by simpa using d⟩,?_⟩;have e:=r.length;simp only[Array.length_toList] at e;omega
theorem Inv.tuple(I:Inv X pins σ H s)(h:SqT X.K H a xs):∃ its:List Value,Vals xs its/\IsTup s.heap a its.toArray/\xs.length<=sizeLine:=by
 rcases h with h | ⟨o,its,n,b,c,d,f,r⟩
 ·obtain⟨z,its,r,p⟩:=h.ok I.hok;exact⟨its,r,p.1,z⟩
 ·refine⟨its.toList,r,⟨o,I.kIn a o b,c,n,by simpa using d⟩,?_⟩;have e:=r.length;simp only[Array.length_toList] at e;omega
theorem Inv.list_inj(I:Inv X pins σ H s)(h:SqL X.K H a xs)(h':SqL X.K H a ys):xs=ys:=by
 obtain⟨its,r,⟨o,n,e,_,_,d⟩,_⟩:=I.list h;obtain⟨b,g,⟨i,j,c,_,_,f⟩,_⟩:=I.list h';rw[e] at c;cases c;rw[d] at f;injection f with d1 _;have:its=b:=by simpa using congrArg Array.toList d1
 subst this;exact r.inj g
theorem Inv.tuple_inj(I:Inv X pins σ H s)(h:SqT X.K H a xs)(h':SqT X.K H a ys):xs=ys:=by
 obtain⟨its,r,⟨o,e,_,n,d⟩,_⟩:=I.tuple h;obtain⟨b,g,⟨i,c,_,j,f⟩,_⟩:=I.tuple h';rw[e] at c;cases c;rw[d] at f;injection f with d1 _;have:its=b:=by simpa using congrArg Array.toList d1
 subst this;exact r.inj g
end
noncomputable abbrev Cx.wish(X:Cx)(E:Value->Shared->Prop):Cx:={ X with xe:=E }
noncomputable abbrev Cx.nox(X:Cx):Cx:=X.wish λ_ _=>False
theorem Cx.Ok.wish{X:Cx}(ok:X.Ok)(E:Value->Shared->Prop):(X.wish E).Ok :=
 ⟨ok.mod,ok.kind,ok.glob,ok.blt,ok.above,ok.inj,ok.has,ok.cab,ok.hd,ok.frames,ok.stk,ok.exf,ok.bs,ok.bsz,ok.noex,ok.exfs,ok.funs,ok.frf⟩
theorem Cx.Ok.unwish{X:Cx}{E:Value->Shared->Prop}(ok:(X.wish E).Ok):X.Ok :=
 ⟨ok.mod,ok.kind,ok.glob,ok.blt,ok.above,ok.inj,ok.has,ok.cab,ok.hd,ok.frames,ok.stk,ok.exf,ok.bs,ok.bsz,ok.noex,ok.exfs,ok.funs,ok.frf⟩
section
variable {X:Cx}{pins:List (Addr×Obj)}{σ:St}{H:Hp}{s:Shared}{E:Value->Shared->Prop}
theorem Inv.wish(I:Inv X pins σ H s)(E:Value->Shared->Prop):Inv (X.wish E) pins σ H s:=⟨I.ok.wish E,I.os,I.bare,I.base,I.loc,I.cell,I.free,I.freeC,I.pin,I.hok,I.len⟩
theorem Inv.unwish(I:Inv (X.wish E) pins σ H s):Inv X pins σ H s:=⟨I.ok.unwish,I.os,I.bare,I.base,I.loc,I.cell,I.free,I.freeC,I.pin,I.hok,I.len⟩
theorem SP.unwish{D:Ends}{f:Flow}{s':Shared}(h:SP (X.wish E) pins D f s'):SP X pins D f s':=by
 cases f with
 | next=>obtain⟨a,b,I,q⟩:=h;exact⟨a,b,I.unwish,q⟩
 | brk=>obtain⟨a,b,I,q⟩:=h;exact⟨a,b,I.unwish,q⟩
 | cont=>obtain⟨a,b,I,q⟩:=h;exact⟨a,b,I.unwish,q⟩
 | ret u=>obtain⟨v,a,b,I,r,q⟩:=h;exact⟨v,a,b,I.unwish,r,q⟩
theorem PSs.nox{st:List Stmt}{t:TS}(h:PSs X.nox st t):PSs X st t:=λa s σ H D I b =>
 wpAny_mono (h a s σ H D (I.wish _) b) (λ_ _ q=>q.unwish) λ_ _ z=>False.elim z
end
section
variable {X:Cx}{st:Stmt}{rest:List Stmt}{t u:TS}{e:Expr}{te:TE}{pos:Pos}
noncomputable def ji5:TS:=λD σ H=>D.nx σ H
noncomputable def jjC(t u:TS):TS:=λD σ H=>t { D with nx:=u D } σ H
theorem jiS:PSs X [] ji5:=λ_ _ σ H _ I h=>wpAny_execs_nil ⟨σ,H,I,h⟩
theorem xC(h1:PS X st t)(h2:PSs X rest u):PSs X (st::rest) (jjC t u):=by
 intro a s σ H D I h;refine wpAny_execs_cons (thn (h1 a s σ H { D with nx:=u D } I h) λf b q=>?_);cases f with
 | next =>
  obtain⟨c,d,e,q⟩:=q;exact h2 a b c d D e q
 | ret v=>exact q
 | brk=>exact q
 | cont=>exact q
theorem Qf(h1:PS X st t):PSs X [st] t:=by
 intro a s σ H D I h;refine wpAny_execs_cons (thn (h1 a s σ H D I h) λf b q=>?_);cases f with
 | next=>exact wpAny_execs_nil q
 | ret v=>exact q
 | brk=>exact q
 | cont=>exact q
noncomputable def jiZ:TS:=λD σ H=>D.ct σ H
theorem jax:PS X (.Continue pos) jiZ:=λ_ _ σ H _ I h=>wpAny_Continue ⟨σ,H,I,h⟩
theorem Inv.quiet{pins:List (Addr×Obj)}{σ:St}{H:Hp}{s:Shared}(I:Inv X pins σ H s):interactive X.env=false:=by simp[interactive,I.ok.kind]
noncomputable def zF(te:TE):TS:=λD σ H=>te σ H λ_ H1=>D.nx σ H1
theorem zm(b:PE X e te)(c:swapsWith e none pos.line X.env=pure false:=by rfl):PS X (.Expr e pos) (zF te):=by
 intro a s σ H D I h;exact wpAny_Expr_any (thn (b a s σ H _ I h) λv i ⟨x,d,f,j,g⟩=>⟨σ,d,f,g⟩) I.quiet c
noncomputable def jhs(te:TE):TS:=λD σ H=>te σ H D.rt
theorem jc5(b:PE X e te):PS X (.Return (some e) pos) (jhs te):=by
 intro a s σ H D I h;exact wpAny_Return_some (thn (b a s σ H _ I h) λv i ⟨x,c,d,f,g⟩=>⟨x,σ,c,d,f,g⟩)
noncomputable def jln(c:TT)(t u:TS):TS:=λD σ H=>c σ H λb H1=>if b=true then t D σ H1 else u D σ H1
theorem jj4{c:Expr}{a b:List Stmt}{tc:TT}(k:PT X c tc)(l:PSs X a t)(m:PSs X b u):PS X (.If c a b pos) (jln tc t u):=by
 intro e s σ H D I h;refine wpAny_If (thn (k e s σ H _ I h) λd f ⟨g,i,j⟩=>?_);cases d with
 | true=>exact l e f σ g D i j
 | false=>exact m e f σ g D i j
noncomputable def jdy:TS:=λ_ _ _=>False
theorem jf8:PS X st jdy:=λ_ _ _ _ _ _ h=>h.elim
end
noncomputable abbrev TG:=V->St->Hp->(St->Hp->Prop)->Prop
noncomputable abbrev TGs:=List V->St->Hp->(St->Hp->Prop)->Prop
def PG(X:Cx)(target:Expr)(t:TG):Prop :=
 ∀(pins:List (Addr×Obj)) (s:Shared) (σ:St) (H:Hp) (v:V) (u:Value) (Q:St->Hp->Prop),Inv X pins σ H s->RelV v u->t v σ H Q ->
  wpAny (model X.prog X.w) X.A (assign target X.env u) (λ_ s'=>∃ σ' H',Inv X pins σ' H' s'/\Q σ' H') X.xe s
def PGs(X:Cx)(ts:List Expr)(t:TGs):Prop :=
 ∀(pins:List (Addr×Obj)) (s:Shared) (σ:St) (H:Hp) (vs:List V) (us:List Value) (Q:St->Hp->Prop),Inv X pins σ H s->Vals vs us->t vs σ H Q ->
  wpAny (model X.prog X.w) X.A (assignInOrder ((assignEach ts X.env).map (·.2)) us) (λ_ s'=>∃ σ' H',Inv X pins σ' H' s'/\Q σ' H') X.xe s
noncomputable abbrev jmp:=V->V->V->Hp->(Hp->Prop)->Prop
def jnR(X:Cx)(t:jmp):Prop :=
 ∀(pins:List (Addr×Obj)) (s:Shared) (σ:St) (H:Hp) (o i v:V) (ov iv u:Value) (Q:Hp->Prop),Inv X pins σ H s->RelV o ov->RelV i iv->RelV v u->t o i v H Q ->
  wpAny (model X.prog X.w) X.A (setItem ov iv u) (λ_ s'=>∃ H',Inv X pins σ H' s'/\Q H') X.xe s
section
variable {X:Cx}{pos:Pos}
noncomputable def zK(i:Nat):TG:=λv σ H Q=>Q (σ.set i (some v)) H
theorem jhf{i:Nat}{x:Str}(b:X.N.Nodup)(hi:X.N[i]?=some x)(c:Loc X.env.scope x)(d:X.fn x=true \/ X.env.scope.names.lookup x=some .local:=by first | exact .inl rfl | exact .inr rfl | assumption):PG X (.Name x pos) (zK i):=by
 intro a s σ H v u Q I r h;exact wpAny_assign_Name (Vt I b hi c r (λf e=>⟨_,H,e,h⟩) d)
noncomputable def jm2:TGs:=λvs σ H Q=>vs=[]/\Q σ H
noncomputable def jjq(t:TG)(u:TGs):TGs:=λvs σ H Q=>∃ v r,vs=v::r/\t v σ H λσ' H'=>u r σ' H' Q
theorem jhS:PGs X [] jm2:=by
 intro a s σ H b c Q I r h;obtain⟨e,h⟩:=h;subst e;cases r;exact assignInOrder_nil ⟨σ,H,I,h⟩
theorem jfr{e:Expr}{es:List Expr}{t:TG}{u:TGs}(h1:PG X e t)(h2:PGs X es u)
  (b:(assignEach (e::es) X.env).map (·.2)=assign e X.env::(assignEach es X.env).map (·.2):=by rfl):PGs X (e::es) (jjq t u):=by
 intro a s σ H l m Q I r h;obtain⟨v,n,c,h⟩:=h;subst c;cases r with
 | cons r d =>
  rw[b];refine assignInOrder_cons (thn (h1 a s σ H _ _ _ I r h) λ_ f ⟨g,i,j,k⟩=>?_);exact h2 a f g i _ _ Q j d k
noncomputable def jm1(K:PySem.W.Frag)(n:Nat)(t:TGs):TG:=λv σ H Q=>∃ a xs,v=.ref a/\SqT K H a xs/\xs.length=n/\t xs σ H Q
theorem jkY{es:List Expr}{k:Nat}{t:TGs}{n:Nat}(i:X.calm=true)(h:PGs X es t)
  (j:(assignEach es X.env).length=n:=by rfl) (d:(assignEach es X.env).findIdx? (·.1)=none:=by rfl):PG X (.Tuple es k pos) (jm1 X.K n t):=by
 intro c s σ H v u Q I r f;obtain⟨a,xs,l,m,p,f⟩:=f;subst l;cases r;obtain⟨its,g,q,z⟩:=I.tuple m;refine assign_Tuple_tuple (I.ok.hd i) q (by simp[j,<- p,g.length]) d λw x=>?_;have y:Inv X c σ H { s with heap:=w }:=I.kept (t':=s.toks) λb o e=>x b o (N7 (N2 e)) e;exact h c _ σ H xs _ Q y (by simpa using g) f
noncomputable def jnA(to ti:TE)(t:jmp):TG:=λv σ H Q=>to σ H λo H1=>ti σ H1 λi H2=>t o i v H2 λH3=>Q σ H3
theorem jjO{o i:Expr}{to b:TE}{t:jmp}(c:PE X o to)(hi:PE X i b)(d:jnR X t)
  (e:∀ v,assign (.Subscript o i pos) X.env v=(do
   let ov <- holding [v] (eval o X.env)
   let iv <- holding [v,ov] (eval i X.env)
   standAt pos
   holding [v,ov,iv] (setItem ov iv v)
   release [v,ov,iv] []):=by intro _;rfl):PG X (.Subscript o i pos) (jnA to b t):=by
 intro a s σ H v u Q I r h;rw[e];refine L3 (wpAny_holding (thn (c a s σ H _ I h) λov f ⟨x,g,j,k,l⟩=>?_));refine L3 (wpAny_holding (thn (hi a f σ g _ j l) λiv m ⟨y,n,p,q,w⟩=>?_));refine L3 (wpAny_standAt (L3 (wpAny_holding (thn (d a m σ n x y v ov iv u _ p k q r w) λ_ C ⟨z,A,B⟩=>?_))));exact wpAny_release ⟨σ,z,A,B⟩
noncomputable def jgI(te:TE)(g:TG):TS:=λD σ H=>te σ H λx H1=>g x σ H1 D.nx
theorem jko{tg e:Expr}{te:TE}{g:TG}(b:PE X e te)(c:PG X tg g)(d:swapsWithSole [tg] e pos.line X.env=pure false:=by rfl)(f:swappedStores [tg] e X.env=pure none:=by rfl)
  (h1:(assignEach [tg] X.env).map (·.2)=[assign tg X.env]:=by rfl):PS X (.Assign [tg] e pos) (jgI te g):=by
 intro a s σ H D I h;refine wpAny_Assign_stores (thn (b a s σ H _ I h) λv i ⟨x,j,k,l,m⟩=>?_) d f;rw[h1];exact thn (c a i σ j x v _ k l m) λ_ n q=>q
theorem jdg{i:Nat}{x:Str}{e:Expr}{te:TE}{pos':Pos}(b:X.N.Nodup)(hi:X.N[i]?=some x)(c:Loc X.env.scope x)(d:PE X e te)(f:swapsWith e (some (.Name x pos')) pos.line X.env=pure false:=by rfl)(g:X.fn x=true \/ X.env.scope.names.lookup x=some .local:=by first | exact .inl rfl | exact .inr rfl | assumption) :
  PS X (.Assign [.Name x pos'] e pos) (jgI te (zK i)):=by
 intro a s σ H D I h;refine wpAny_Assign_Name (thn (d a s σ H _ I h) λv o ⟨y,j,k,l,m⟩=>?_) f;exact Vt k b hi c l (λp n=>⟨_,j,n,m⟩) g
end
structure It where
 go:Nat->Hp->Prop
 yld:Nat->Hp->V->Hp->Prop
 stop:Nat->Hp->Prop
def uA(X:Cx)(pins:List (Addr×Obj))(H:Hp)(b:Addr):Prop :=
 H b=none/\b≠X.env.locals/\b∉X.fs/\(b∈X.ex \/ X.s₀.heap.objs.size<=b)/\(∀ x c,X.env.cells.lookup x=some c->c≠b)/\∀ p∈X.pn++pins,p.1≠b
theorem Inv.fpOk{X:Cx}{pins:List (Addr×Obj)}{σ:St}{H H':Hp}{s:Shared}{b:Addr}(I:Inv X pins σ H s)(a:s.heap.objs.size<=b)(d:H' b=none):uA X pins H' b:=by
 refine⟨d,Nat.ne_of_gt (U5 I.lt a),I.nofs a,.inr (N8 I.sz a),λx c e z=>?_,λp f z=>?_⟩
 ·obtain⟨v,q⟩:=I.cell x c e;exact absurd (U5 q.lt (by rw[z];exact a)) (Nat.lt_irrefl _)
 ·exact absurd (U5 (N2 (I.pin p f).1) (by rw[z];exact a)) (Nat.lt_irrefl _)
structure Turn(P:Program)(w:World)(K:PySem.W.Frag)(tg:Expr)(J:It)(fp:List Addr)(it:Addr)(tn:Nat->Heap->Prop):Prop where
 mem:it∈fp
 obj:∀ i h,tn i h->∀ b∈fp,∃ o,h.get? b=some o/\∀ v,o.data≠.cell v
 keep:∀ i h h',tn i h->(∀ b∈fp,∀ o,h.get? b=some o->h'.get? b=some o)->tn i h'
 item:∀(X:Cx),X.prog=P->X.w=w->X.K=K->X.calm=true->∀(i:Nat) (pins:List (Addr×Obj)) (s:Shared) (σ:St) (H:Hp) (E:Value->Shared->Prop),Inv X pins σ H s->(∀ b∈fp,uA X pins H b)->tn i s.heap->J.go i H ->
  wpAny (model P w) X.A (pyNext (.ref it)) (λr s1=>∃ u,r=some u /\
   wpAny (model P w) X.A (letOwnedTupleGo tg (.ref it) u) (λ_ s2=>∃ x H',Inv X pins σ H' s2/\RelV x u/\J.yld i H x H'/\tn (i+1) s2.heap/\∀ b∈fp,H' b=none) E s1) E s
 done:∀(X:Cx),X.prog=P->X.w=w->X.K=K->X.calm=true->∀(i:Nat) (pins:List (Addr×Obj)) (s:Shared) (σ:St) (H:Hp) (E:Value->Shared->Prop),Inv X pins σ H s->(∀ b∈fp,uA X pins H b)->tn i s.heap->J.stop i H ->
  wpAny (model P w) X.A (pyNext (.ref it)) (λr s1=>r=none/\Inv X pins σ H s1) E s
 self:∀(A:Around) (i:Nat) (s:Shared) (Q:Value->Shared->Prop) (E:Value->Shared->Prop),tn i s.heap->Q (.ref it) s->wpAny (model P w) A (pyIter (.ref it)) Q E s
noncomputable abbrev TI:=St->Hp->(It->Hp->Prop)->Prop
def PIE(X:Cx)(pins:List (Addr×Obj))(σ:St)(tg:Expr)(R:It->Hp->Prop)(itv:Value)(s2:Shared):Prop :=
 ∃(it:Addr) (fp:List Addr) (tn:Nat->Heap->Prop) (J:It) (H':Hp),itv=.ref it/\Inv X pins σ H' s2/\Turn X.prog X.w X.K tg J fp it tn/\tn 0 s2.heap/\(∀ b∈fp,uA X pins H' b)/\R J H'
def PI(X:Cx)(tg iter:Expr)(wi:TI):Prop :=
 ∀(pins:List (Addr×Obj)) (s:Shared) (σ:St) (H:Hp) (R:It->Hp->Prop),Inv X pins σ H s->wi σ H R ->
  wpAny (model X.prog X.w) X.A (eval iter X.env) (λv s1=>wpAny (model X.prog X.w) X.A (pyIter v) (PIE X pins σ tg R) X.xe s1) X.xe s
theorem jgc{M:Model}{A:Around}{E:Value->Shared->Prop}{s:Shared}{tg:Expr}{b:Addr}{u:Value}{o:Obj}{n:String}{vs:Array Value}{Q:Unit->Shared->Prop}(c:s.heap.get? b=some o)(d:o.cls=.type n)(hd:o.data=.fields vs)
  (e:["enumerate","zip","dict_itemiterator","dict_reverseitemiterator","odict_iterator","itertools.zip_longest","itertools.pairwise"].contains n=false) (a:Q () s):wpAny M A (letOwnedTupleGo tg (.ref b) u) Q E s:=by
 unfold letOwnedTupleGo;cases tg<;>first
  | exact M7 a
  | (cases u<;>first
    | exact M7 a
    | (refine L3 (wpAny_load c ?_)
       rw[d,hd];show wpAny M A (if(["enumerate","zip","dict_itemiterator","dict_reverseitemiterator","odict_iterator","itertools.zip_longest","itertools.pairwise"].contains n&&vs[0]?==some (rawInt _))=true then _ else _) Q E s;rw[if_neg (by intro h;rw[e,Bool.false_and] at h;cases h)];exact M7 a))
noncomputable def Itl(K:PySem.W.Frag)(a:Addr):It :=
 ⟨λi H=>∃ xs x,SqL K H a xs/\xs[i]?=some x,λi H x H'=>H'=H/\∀ xs,SqL K H a xs->xs[i]?=some x,λi H=>∃ xs,SqL K H a xs/\xs.length<=i⟩
noncomputable def Itt(K:PySem.W.Frag)(a:Addr):It :=
 ⟨λi H=>∃ xs x,SqT K H a xs/\xs[i]?=some x,λi H x H'=>H'=H/\∀ xs,SqT K H a xs->xs[i]?=some x,λi H=>∃ xs,SqT K H a xs/\xs.length<=i⟩
noncomputable def Itr(lo:Int)(n:Nat):It:=⟨λi _=>i < n,λi H x H'=>H'=H/\x=.int (lo+i),λi _=>n<=i⟩
theorem jcU{P:Program}{w:World}{K:PySem.W.Frag}{tg:Expr}(a g:Addr):Turn P w K tg (Itl K a) [g] g (λi h=>h.IsListIter g a i) where
 mem:=by simp
 obj:=λi h st b j=>by
  have e:b=g:=by simpa using j
  subst e;obtain⟨o,e,c,d⟩:=st;exact⟨o,e,λv z=>by rw[d] at z;cases z⟩
 keep:=λi h m st k=>st.at λo e=>k g (by simp) o e
 item:=by
  intro X r t y M i f s σ H E I n st A;subst r t y;obtain⟨xs,x,q,B⟩:=A;obtain⟨its,C,p,N⟩:=I.list q;obtain⟨u,O,Q⟩:=C.get B;obtain⟨D,F,R,G,J,L⟩:=n g (by simp);refine wpAny_pyNext_list_item st p.isList (x:=u) (by simpa using O) λm l S=>?_;have T:Inv X f σ H { s with heap:=m }:=I.turned (t':=s.toks) (λb o j e=>(S.2 b j).trans e) D F G J L;obtain⟨o,e,c,d⟩:=id l;exact⟨u,rfl,jgc (s:={ s with heap:=m }) e c d (by decide) ⟨x,H,T,Q,⟨rfl,λY U=>by rw[I.list_inj U q];exact B⟩,l,λb j=>(n b j).1⟩⟩
 done:=by
  intro X r t y M i f s σ H E I n st A;subst r t y;obtain⟨xs,q,B⟩:=A;obtain⟨its,C,p,N⟩:=I.list q;obtain⟨D,F,R,G,J,L⟩:=n g (by simp);have Z:=C.length;exact wpAny_pyNext_list_end (I.ok.hd M) st p.isList (by simp;omega) λm V=>⟨rfl,I.turned (t':=s.toks) (λb o j e=>V b o j e) D F G J L⟩
 self:=λ_ _ _ _ _ st h=>wpAny_pyIter_listiter st h
theorem jco{P:Program}{w:World}{K:PySem.W.Frag}{tg:Expr}(a g:Addr):Turn P w K tg (Itt K a) [g] g (λi h=>h.IsTupleIter g a i) where
 mem:=by simp
 obj:=λi h st b j=>by
  have e:b=g:=by simpa using j
  subst e;obtain⟨o,e,c,d⟩:=st;exact⟨o,e,λv z=>by rw[d] at z;cases z⟩
 keep:=λi h m st k=>st.at λo e=>k g (by simp) o e
 item:=by
  intro X r t y M i f s σ H E I n st A;subst r t y;obtain⟨xs,x,q,B⟩:=A;obtain⟨its,C,p,N⟩:=I.tuple q;obtain⟨u,O,Q⟩:=C.get B;obtain⟨D,F,R,G,J,L⟩:=n g (by simp);refine wpAny_pyNext_tuple_item st (show s.heap.IsTuple a its.toArray from p) (x:=u) (by simpa using O) λm l S=>?_;have T:Inv X f σ H { s with heap:=m }:=I.turned (t':=s.toks) (λb o j e=>(S.2 b j).trans e) D F G J L;obtain⟨o,e,c,d⟩:=id l;exact⟨u,rfl,jgc (s:={ s with heap:=m }) e c d (by decide) ⟨x,H,T,Q,⟨rfl,λY U=>by rw[I.tuple_inj U q];exact B⟩,l,λb j=>(n b j).1⟩⟩
 done:=by
  intro X r t y M i f s σ H E I n st A;subst r t y;obtain⟨xs,q,B⟩:=A;obtain⟨its,C,p,N⟩:=I.tuple q;obtain⟨D,F,R,G,J,L⟩:=n g (by simp);have Z:=C.length;exact wpAny_pyNext_tuple_end (I.ok.hd M) st (show s.heap.IsTuple a its.toArray from p) (by simp;omega) λm V=>⟨rfl,I.turned (t':=s.toks) (λb o j e=>V b o j e) D F G J L⟩
 self:=λ_ _ _ _ _ st h=>wpAny_pyIter_tupleiter st h
theorem jbJ{P:Program}{w:World}{K:PySem.W.Frag}{tg:Expr}(a:Addr)(lo:Int)(n:Nat):Turn P w K tg (Itr lo n) [a] a (λi h=>IsRangeIter h a (lo+(i:Nat)*1) ((n:Int) - (i:Nat)) 1) where
 mem:=by simp
 obj:=λi h st b d=>by
  have e:b=a:=by simpa using d
  subst e;exact⟨_,st,λv z=>by
   have D:Data.fields _=Data.cell v:=z;cases D⟩
 keep:=λi h g st k=>k a (by simp) _ st
 item:=by
  intro X l m p q i c s σ H E I j st r;subst l m p;obtain⟨u,x,F,y,A,B⟩:=j a (by simp);have W:=Walks.range (prog:=X.prog) (w:=X.w) (I.ok.hd q) a lo 1 n;refine W.item i s _ _ r st λv g C G f J=>?_;obtain⟨t,rfl⟩:=G;have L:Inv X c σ H { s with heap:=g,toks:=C }:=I.turned (λb o d e=>J b o (by simpa using d) e) u x y A B;refine⟨_,rfl,jgc (s:={ s with heap:=g,toks:=C }) (n:="range_iterator") f rfl rfl (by decide) ⟨.int (lo+i),H,L,⟨t,?_⟩,⟨rfl,rfl⟩,f,λb d=>(j b d).1⟩⟩;rw[Int.mul_one]
 done:=by
  intro X l m p q i c s σ H E I j st r;subst l m p;obtain⟨u,x,F,y,A,B⟩:=j a (by simp);exact wpAny_pyNext_range_end (I.ok.hd q) st (by have:n<=i:=r;omega) λg M=>⟨rfl,I.turned (t':=s.toks) (λb o d e=>M b o d e) u x y A B⟩
 self:=λ_ _ _ _ _ st h=>wpAny_pyIter_rangeiter st h
section
variable {X:Cx}{tg:Expr}
theorem jgg{pins:List (Addr×Obj)}{σ:St}{H:Hp}{s:Shared}{R:It->Hp->Prop}{E:Value->Shared->Prop}{lo hi:Int}{t u v:Tok}{tk:Nat}(I:Inv X pins σ H s)(h1:-(2 ^ 62)<=lo)(h2:lo < 2 ^ 62)(c:-(2 ^ 62)<=hi)(d:hi < 2 ^ 62)
  (q:R (Itr lo (hi - lo).toNat) H):wpAny (model X.prog X.w) X.A (pyIter (.ref s.heap.objs.size)) (PIE X pins σ tg R) E { s with heap:=s.heap.push { cls:=.type "range",data:=.fields #[.int lo t,.int hi u,.int 1 v] },toks:=tk }:=by
 refine wpAny_pyIter_range (IsRange.new ..) (small_one h1 h2 c d) ?_;have a:Inv X pins σ H { s with heap:=s.heap.push { cls:=.type "range",data:=.fields #[.int lo t,.int hi u,.int 1 v] },toks:=tk }:=I.kept λb o e=>L8 _ e;refine⟨(s.heap.push { cls:=.type "range",data:=.fields #[.int lo t,.int hi u,.int 1 v] }).objs.size,[(s.heap.push { cls:=.type "range",data:=.fields #[.int lo t,.int hi u,.int 1 v] }).objs.size],_,_,H,rfl,
  a.kept (t':=tk) λb o e=>L8 _ e,jbJ _ lo (hi - lo).toNat,?_,λb f=>?_,q⟩
 ·have g:lo+((0:Nat):Int)*1=lo:=by simp
  have h:(((hi - lo).toNat:Nat):Int) - ((0:Nat):Int)=Builtin.Range.rangeSize lo hi 1:=by rw[rangeSize_one];split<;>omega
  show IsRangeIter _ _ (lo+((0:Nat):Int)*1) ((((hi - lo).toNat:Nat):Int) - ((0:Nat):Int)) 1;rw[g,h];exact X7 _ rfl
 ·have e:b=(s.heap.push { cls:=.type "range",data:=.fields #[.int lo t,.int hi u,.int 1 v] }).objs.size:=by simpa using f
  subst e;exact a.fpOk (M9 _) (a.hok.fresh (M9 _))
noncomputable def jiT(ta:TA):TI:=λσ H R=>ta σ H λvs H1=>∃ j:Int,vs=[.int j]/\-(2 ^ 62)<=j/\j < 2 ^ 62/\R (Itr 0 j.toNat) H1
theorem jez{a:Expr}{ta:TA}{p pos:Pos}(d:Gl X "range")(f:X.mg "range" = none)(g:PA X [a] ta)(i:starEach [a] X.env=[(false,eval a X.env)]:=by rfl):PI X tg (.Call (.Name "range" p) [a] [] pos) (jiT ta):=by
 intro b s σ H R I h;refine Call_ (KM I d f boot_range (PyProof.Rows.callWith_type1 (thn (g pos b s σ H _ I h) λo u ⟨v,w,k,l,c⟩=>?_) i rfl));obtain⟨j,e,c,m,q⟩:=c;subst e;cases l with
 | cons r n =>
  cases n;obtain⟨t,rfl⟩:=r;exact call_range_1 (jgg k (by omega) (by omega) c m (by simpa using q))
noncomputable def jkm(wi:TI)(g:TG)(tb:TS):TS:=λD σ H=>wi σ H λJ H1=>∃ W:Nat->Nat->St->Hp->Prop,(∃ m,W 0 m σ H1)/\∀ i m σ H,W i m σ H ->
 (J.stop i H/\D.nx σ H) \/ (J.go i H/\∃ N:St->Hp->Prop,(∀ σ' H',N σ' H'->∃ m',m' < m/\W (i+1) m' σ' H')/\∀ x H',J.yld i H x H'->g x σ H' λσ2 H2=>tb { D with nx:=N,ct:=N,bk:=D.nx } σ2 H2)
noncomputable def KI(fp:List Addr)(h:Heap):List (Addr×Obj):=fp.filterMap λb=>(h.get? b).map λo=>(b,o)
theorem qd{a:List Addr}{h:Heap}{b:Addr}{o:Obj}(c:b∈a)(e:h.get? b=some o):(b,o)∈KI a h:=List.mem_filterMap.mpr ⟨b,c,by rw[e];rfl⟩
theorem jdX{a:List Addr}{h:Heap}{p:Addr×Obj}(hp:p∈KI a h):p.1∈a/\h.get? p.1=some p.2:=by
 obtain⟨b,c,e⟩:=List.mem_filterMap.mp hp;cases q:h.get? b with
 | none=>rw[q] at e;cases e
 | some o =>
  rw[q] at e;have d:(b,o)=p:=X4 e;subst d;exact⟨c,q⟩
theorem Inv.pinned{pins:List (Addr×Obj)}{σ:St}{H:Hp}{s:Shared}{a:List Addr}(I:Inv X pins σ H s)(g:∀ b∈a,uA X pins H b)(h:∀ b∈a,∃ o,s.heap.get? b=some o/\∀ v,o.data≠.cell v):Inv X (pins++KI a s.heap) σ H s :=
 I.pins_of λp i=>(N3.mp i).elim (λz=>I.pin p (U4 _ z)) λz=>by
  obtain⟨c,e⟩:=jdX z;obtain⟨j,k,l,_⟩:=g p.1 c;obtain⟨o,f,d⟩:=h p.1 c;rw[e] at f;cases f;exact⟨e,j,k,l,d⟩
theorem Inv.unpinned{pins pl:List (Addr×Obj)}{σ:St}{H:Hp}{s:Shared}(I:Inv X (pins++pl) σ H s):Inv X pins σ H s:=I.pins_of λp a=>I.pin p (U4 _ (List.mem_append_left _ a))
theorem jg6{iter:Expr}{body:List Stmt}{wi:TI}{g:TG}{tb:TS}{pos:Pos}(hp:PassesOwn (model X.prog X.w) X.A X.env X.xe)(S:X.calm=true)(hi:PI X tg iter wi)(hg:PG X tg g)(c:PSs X body tb)
  (hs:∀ x,foldedSetIterable iter X.env x=pure x:=by intro _;rfl):PS X (.For tg iter body [] pos) (jkm wi g tb):=by
 intro a s σ H D I h;refine wpAny_For (thn (hi a s σ H _ I h) λv s1 h1=>thn h1 λitv s2 h2=>?_) hs;obtain⟨it,B,U,J,H2,e,I2,T,M,V,W,⟨m0,w0⟩,turn⟩:=h2;subst e
 -- what stays true of the iterator's objects through the loop
 have j:∀{t:Hp},(∀ b∈B,t b=none)->∀ b∈B,uA X a t b:=λhn b c=>⟨hn b c,(V b c).2⟩;refine codeAny_forLoop_any (λn Y=>∃ i C t,Inv X a C t Y/\U i Y.heap/\(∀ b∈B,t b=none)/\W i n C t) ?_ m0 ⟨0,σ,H2,I2,M,λb c=>(V b c).1,w0⟩;rintro n Z ⟨i,E,L,I3,F,G,w3⟩;rcases turn i n E L w3 with⟨stop,qn⟩ | ⟨go,N,hN,step⟩
 ·refine wpAny_passesOwn hp (thn (T.done X rfl rfl rfl S i a Z E L X.xe I3 (j G) F stop) λr s4 ⟨O,I4⟩=>?_);subst O;exact wpAny_execs_nil ⟨E,L,I4,qn⟩
 ·refine wpAny_passesOwn hp (thn (T.item X rfl rfl rfl S i a Z E L X.xe I3 (j G) F go) λr s4 ⟨u,O,h4⟩=>?_);subst O;refine wpAny_passesOwn hp (thn h4 λ_ s5 ⟨x,H5,I5,r5,y5,z,P⟩=>?_);have Q:=I5.pinned (j P) (T.obj _ _ z);refine wpAny_passesOwn hp (thn (hg _ s5 E H5 x u _ Q r5 (step x H5 y5)) λ_ s6 ⟨σ6,H6,I6,q6⟩=>?_);refine wpAny_passesOwn hp (thn (c _ s6 σ6 H6 _ I6 q6) λf R y=>?_);have k:∀{l:St}{p:Hp},Inv X (a++KI B s5.heap) l p R->N l p->∃ m,m < n/\∃ i C t,Inv X a C t R/\U i R.heap/\(∀ b∈B,t b=none)/\W i m C t:=λ{l p} q K=>by
   obtain⟨m',hm,w7⟩:=hN l p K;refine⟨m',hm,i+1,l,p,q.unpinned,T.keep _ _ _ z λb c o e=>(q.pin (b,o) (U4 _ (U4 _ (qd c e)))).1,λb c=>?_,w7⟩;obtain⟨o,e,d⟩:=T.obj _ _ z b c;exact(q.pin (b,o) (U4 _ (U4 _ (qd c e)))).2.1
  cases f with
  | next=>obtain⟨l,p,q,K⟩:=y;exact k q K
  | cont=>obtain⟨l,p,q,K⟩:=y;exact k q K
  | brk=>obtain⟨l,p,q,y⟩:=y;exact⟨l,p,q.unpinned,y⟩
  | ret v=>obtain⟨x7,l,p,q,r7,y⟩:=y;exact⟨x7,l,p,q.unpinned,r7,y⟩
end
noncomputable abbrev R2:=V->V->Hp->VK->Prop
def OpR(X:Cx)(f:Value->Value->Sem Value)(r:R2):Prop :=
 ∀(pins:List (Addr×Obj)) (s:Shared) (σ:St) (H:Hp) (x y:V) (v u:Value) (Q:VK),Inv X pins σ H s->RelV x v->RelV y u->r x y H Q ->
  wpAny (model X.prog X.w) X.A (f v u) (EP X pins σ Q) X.xe s
def UnR(X:Cx)(f:Value->Sem Value)(r:V->Hp->VK->Prop):Prop :=
 ∀(pins:List (Addr×Obj)) (s:Shared) (σ:St) (H:Hp) (x:V) (v:Value) (Q:VK),Inv X pins σ H s->RelV x v->r x H Q ->
  wpAny (model X.prog X.w) X.A (f v) (EP X pins σ Q) X.xe s
def CallR(X:Cx)(f:Value)(r:List V->Hp->VK->Prop):Prop :=
 ∀(pins:List (Addr×Obj)) (s:Shared) (σ:St) (H:Hp) (xs:List V) (us:List Value) (Q:VK),Inv X pins σ H s->Vals xs us->r xs H Q ->
  wpAny (model X.prog X.w) X.A (call f us) (EP X pins σ Q) X.xe s
noncomputable def tOp(r:R2)(ta tb:TE):TE:=λσ H Q=>ta σ H λx H1=>tb σ H1 λy H2=>r x y H2 Q
noncomputable def tUn(r:V->Hp->VK->Prop)(ta:TE):TE:=λσ H Q=>ta σ H λx H1=>r x H1 Q
noncomputable def rI(C:Int->Int->Prop)(g:Int->Int->V):R2:=λx y H Q=>∃ i j,x=.int i/\y=.int j/\C i j/\Q (g i j) H
noncomputable def rI0(g:Int->Int->V):R2:=λx y H Q=>∃ i j,x=.int i/\y=.int j/\Q (g i j) H
def rU(g:Int->V):V->Hp->VK->Prop:=λx H Q=>∃ i,x=.int i/\Q (g i) H
section
variable {X:Cx}{a b c:Expr}{ta tb tc:TE}{pos:Pos}
theorem jmZ(c:PE X a ta)(d:PE X b tb){pins:List (Addr×Obj)}{s:Shared}{σ:St}{H:Hp}{R:V->V->Hp->Prop}(I:Inv X pins σ H s)
  (h:ta σ H λx H1=>tb σ H1 λy H2=>R x y H2) {Q:Value->Shared->Prop}{f:Value->Value->Sem Value}
  (e:∀ v u s2 x y H2,Inv X pins σ H2 s2->RelV x v->RelV y u->R x y H2->wpAny (model X.prog X.w) X.A (f v u) Q X.xe s2) :
  wpAny (model X.prog X.w) X.A (eval a X.env) (λv s₁=>wpAny (model X.prog X.w) X.A (eval b X.env) (λu s₂=>wpAny (model X.prog X.w) X.A (f v u) Q X.xe s₂) X.xe s₁) X.xe s:=by
 refine thn (c pins s σ H _ I h) λv g ⟨x,H1,i,j,k⟩=>?_;refine thn (d pins g σ H1 _ i k) λu s2 ⟨y,H2,l,m,n⟩=>?_;exact e v u s2 x y H2 l j m n
theorem jbU{d:Operator}{r:R2}(e:OpR X (binaryOp d) r)(f:PE X a ta)(g:PE X b tb):PE X (.BinOp a d b pos) (tOp r ta tb):=by
 intro c s σ H Q I h;exact wpAny_BinOp (jmZ f g I h λv u i x y j k l m q=>e c i σ j x y v u Q k l m q)
theorem jk4{c:UnaryOp}{r:V->Hp->VK->Prop}(d:UnR X (unaryOp c) r)(e:PE X a ta):PE X (.UnaryOp c a pos) (tUn r ta):=by
 intro b s σ H Q I h;exact UnaryOp_ (thn (e b s σ H _ I h) λv f ⟨x,g,i,j,k⟩=>d b f σ g x v Q i j k)
theorem opI{f:Value->Value->Sem Value}{C:Int->Int->Prop}{g:Int->Int->Int}
  (a:∀(i j:Int) (t u:Tok) (s:Shared) (Q:Value->Shared->Prop) (E:Value->Shared->Prop),C i j->Q (.int (g i j) s.toks) { s with toks:=s.toks+1 }->wpAny (model X.prog X.w) X.A (f (.int i t) (.int j u)) Q E s) :
  OpR X f (rI C λi j=>.int (g i j)):=by
 intro b s σ H x y v u Q I c d h;obtain⟨i,j,rfl,rfl,e,q⟩:=h;obtain⟨t,rfl⟩:=c;obtain⟨k,rfl⟩:=d;exact a i j t k s _ _ e ⟨.int (g i j),H,I.tok _,⟨_,rfl⟩,q⟩
theorem jnJ{f:Value->Value->Sem Value}{g:Int->Int->Int}
  (a:∀(i j:Int) (t u:Tok) (s:Shared) (Q:Value->Shared->Prop) (E:Value->Shared->Prop),Q (.int (g i j) s.toks) { s with toks:=s.toks+1 }->wpAny (model X.prog X.w) X.A (f (.int i t) (.int j u)) Q E s) :
  OpR X f (rI0 λi j=>.int (g i j)):=by
 intro b s σ H x y v u Q I c d h;obtain⟨i,j,rfl,rfl,q⟩:=h;obtain⟨t,rfl⟩:=c;obtain⟨e,rfl⟩:=d;exact a i j t e s _ _ ⟨.int (g i j),H,I.tok _,⟨_,rfl⟩,q⟩
theorem jl6{f:Value->Value->Sem Value}{g:Int->Int->Bool}
  (a:∀(i j:Int) (t u:Tok) (s:Shared) (Q:Value->Shared->Prop) (E:Value->Shared->Prop),Q (.bool (g i j)) s->wpAny (model X.prog X.w) X.A (f (.int i t) (.int j u)) Q E s) :
  OpR X f (rI0 λi j=>.bl (g i j)):=by
 intro b s σ H x y v u Q I c d h;obtain⟨i,j,rfl,rfl,q⟩:=h;obtain⟨t,rfl⟩:=c;obtain⟨e,rfl⟩:=d;exact a i j t e s _ _ ⟨.bl (g i j),H,I,rfl,q⟩
def jm5(i j:Int):Prop:=0<=j/\j<=1000000/\i.natAbs < 2 ^ 64
theorem jkN:OpR X (binaryOp .Add) (rI0 λi j=>.int (i+j)):=jnJ λ_ _ _ _ _ _ _ q=>add_int q
theorem jkn:OpR X (binaryOp .Sub) (rI0 λi j=>.int (i - j)):=jnJ λ_ _ _ _ _ _ _ q=>sub_int q
theorem jjF:OpR X (binaryOp .Mod) (rI (λ_ j=>0 < j) λi j=>.int (i % j)):=opI λi j _ _ _ _ _ a q=>by
 have b:(0:Int) < j:=a;exact mod_int' (by omega) (by rw[Int.fmod_eq_emod_of_nonneg i (by omega)];exact q)
theorem jlM:OpR X (binaryOp .Pow) (rI jm5 λi j=>.int (i ^ j.toNat)):=opI λ_ _ _ _ _ _ _ a q=>pow_int_small a.1 a.2.1 a.2.2 q
theorem unI{f:Value->Sem Value}{g:Int->Int}
  (a:∀(i:Int) (t:Tok) (s:Shared) (Q:Value->Shared->Prop) (E:Value->Shared->Prop),Q (.int (g i) s.toks) { s with toks:=s.toks+1 }->wpAny (model X.prog X.w) X.A (f (.int i t)) Q E s) :
  UnR X f (rU λi=>.int (g i)):=by
 intro b s σ H x v Q I c h;obtain⟨i,rfl,q⟩:=h;obtain⟨t,rfl⟩:=c;exact a i t s _ _ ⟨.int (g i),H,I.tok _,⟨_,rfl⟩,q⟩
theorem jgw:UnR X (unaryOp .USub) (rU λi=>.int (-i)):=unI λ_ _ _ _ _ q=>neg_int q
end
noncomputable def jnp:V->V->Bool
 | .non,.non=>true | .non,.int _=>true | .int _,.non=>true | .non,.bl _=>true | .bl _,.non=>true | .non,.str _=>true | .str _,.non=>true
 | .int _,.int _=>true | .bl _,.bl _=>true | .str _,.str _=>true | .byt _,.byt _=>true
 | .int _,.str _=>true | .str _,.int _=>true | .bl _,.str _=>true | .str _,.bl _=>true
 | _,_=>false
noncomputable def rEq:R2:=λx y H Q=>jnp x y=true/\Q (.bl (decide (x=y))) H
noncomputable def rNe:R2:=λx y H Q=>jnp x y=true/\Q (.bl (!decide (x=y))) H
theorem jac{i j:Int}:decide (V.int i=V.int j)=(i==j):=by
 rw[Bool.eq_iff_iff];simp
theorem jdW{i j:Bool}:decide (V.bl i=V.bl j)=(i==j):=by
 rw[Bool.eq_iff_iff];simp
theorem jdu{i j:Str}:decide (V.str i=V.str j)=(i==j):=by
 rw[Bool.eq_iff_iff];simp
theorem jeM{i j:Array UInt8}:decide (V.byt i=V.byt j)=(i.toList==j.toList):=by
 rw[Bool.eq_iff_iff];cases i;cases j;simp
section
variable {X:Cx}{a b c:Expr}{ta tb tc:TE}{pos:Pos}
theorem ye{pins:List (Addr×Obj)}{σ:St}{H:Hp}{s:Shared}{Q:VK}{k a:Bool}(I:Inv X pins σ H s)(q:Q (.bl k) H)(e:k=a):EP X pins σ Q (.bool a) s:=by
 subst e;exact⟨.bl k,H,I,rfl,q⟩
theorem jmW:OpR X (compareOp .Eq) rEq:=by
 intro e s σ H x y v u Q I d a h;obtain⟨c,q⟩:=h;cases x with
 | non =>
  cases d;cases y with
  | non=>cases a;exact PySem.EqNone.eq_none_none (ye I q (by simp))
  | bl j=>cases a;exact PySem.EqNone.eq_none_bool (ye I q (by simp))
  | int j=>obtain⟨b,rfl⟩:=a;exact PySem.EqNone.eq_none_int (ye I q (by simp))
  | str j=>obtain⟨b,rfl⟩:=a;exact PySem.EqNone.eq_none_str (ye I q (by simp))
  | _=>exact absurd (show false=true from c) M4
 | bl i =>
  cases d;cases y with
  | non=>cases a;exact PySem.EqNone.eq_bool_none (ye I q (by simp))
  | bl j=>cases a;exact eq_bool (ye I q jdW)
  | str j=>obtain⟨b,rfl⟩:=a;exact PySem.EqMixed.eq_bool_str (ye I q (by simp))
  | _=>exact absurd (show false=true from c) M4
 | int i =>
  obtain⟨t,rfl⟩:=d;cases y with
  | non=>cases a;exact PySem.EqNone.eq_int_none (ye I q (by simp))
  | int j=>obtain⟨b,rfl⟩:=a;exact eq_int (ye I q jac)
  | str j=>obtain⟨b,rfl⟩:=a;exact PySem.EqMixed.eq_int_str (ye I q (by simp))
  | _=>exact absurd (show false=true from c) M4
 | str i =>
  obtain⟨t,rfl⟩:=d;cases y with
  | non=>cases a;exact PySem.EqNone.eq_str_none (ye I q (by simp))
  | bl j=>cases a;exact PySem.EqMixed.eq_str_bool (ye I q (by simp))
  | int j=>obtain⟨b,rfl⟩:=a;exact PySem.EqMixed.eq_str_int (ye I q (by simp))
  | str j=>obtain⟨b,rfl⟩:=a;exact eq_str (ye I q jdu)
  | _=>exact absurd (show false=true from c) M4
 | byt i =>
  obtain⟨t,rfl⟩:=d;cases y with
  | byt j=>obtain⟨b,rfl⟩:=a;exact PySem.W.eq_bytes (ye I q jeM)
  | _=>exact absurd (show false=true from c) M4
 | _=>cases y<;>exact absurd (show false=true from c) M4
theorem jm3:OpR X (compareOp .NotEq) rNe:=by
 intro e s σ H x y v u Q I d a h;obtain⟨c,q⟩:=h;cases x with
 | non =>
  cases d;cases y with
  | non=>cases a;exact PySem.EqNone.ne_none_none (ye I q (by simp))
  | bl j=>cases a;exact PySem.EqNone.ne_none_bool (ye I q (by simp))
  | int j=>obtain⟨b,rfl⟩:=a;exact PySem.EqNone.ne_none_int (ye I q (by simp))
  | str j=>obtain⟨b,rfl⟩:=a;exact PySem.EqNone.ne_none_str (ye I q (by simp))
  | _=>exact absurd (show false=true from c) M4
 | bl i =>
  cases d;cases y with
  | non=>cases a;exact PySem.EqNone.ne_bool_none (ye I q (by simp))
  | bl j=>cases a;exact ne_bool (ye I q (congrArg not jdW))
  | str j=>obtain⟨b,rfl⟩:=a;exact PySem.EqMixed.ne_bool_str (ye I q (by simp))
  | _=>exact absurd (show false=true from c) M4
 | int i =>
  obtain⟨t,rfl⟩:=d;cases y with
  | non=>cases a;exact PySem.EqNone.ne_int_none (ye I q (by simp))
  | int j=>obtain⟨b,rfl⟩:=a;exact ne_int (ye I q (congrArg not jac))
  | str j=>obtain⟨b,rfl⟩:=a;exact PySem.EqMixed.ne_int_str (ye I q (by simp))
  | _=>exact absurd (show false=true from c) M4
 | str i =>
  obtain⟨t,rfl⟩:=d;cases y with
  | non=>cases a;exact PySem.EqNone.ne_str_none (ye I q (by simp))
  | bl j=>cases a;exact PySem.EqMixed.ne_str_bool (ye I q (by simp))
  | int j=>obtain⟨b,rfl⟩:=a;exact PySem.EqMixed.ne_str_int (ye I q (by simp))
  | str j=>obtain⟨b,rfl⟩:=a;exact ne_str (ye I q (congrArg not jdu))
  | _=>exact absurd (show false=true from c) M4
 | byt i =>
  obtain⟨t,rfl⟩:=d;cases y with
  | byt j=>obtain⟨b,rfl⟩:=a;exact PySem.W.ne_bytes (ye I q (congrArg not jeM))
  | _=>exact absurd (show false=true from c) M4
 | _=>cases y<;>exact absurd (show false=true from c) M4
theorem jni:OpR X (compareOp .Lt) (rI0 λi j=>.bl (decide (i < j))):=jl6 λ_ _ _ _ _ _ _ q=>lt_int q
theorem jmY:OpR X (compareOp .LtE) (rI0 λi j=>.bl (decide (i<=j))):=jl6 λ_ _ _ _ _ _ _ q=>le_int q
theorem jnj:OpR X (compareOp .Gt) (rI0 λi j=>.bl (decide (j < i))):=jl6 λ_ _ _ _ _ _ _ q=>gt_int q
theorem jmS:OpR X (compareOp .GtE) (rI0 λi j=>.bl (decide (j<=i))):=jl6 λ_ _ _ _ _ _ _ q=>ge_int q
theorem jes:OpR X (compareOp .In) (λx y H Q=>∃ i j,x=.str i/\y=.str j/\Q (.bl (!(Builtin.Str.occurrences j i 0 j.length 1).isEmpty)) H):=by
 intro a s σ H x y v u Q I b c h;obtain⟨i,j,rfl,rfl,q⟩:=h;obtain⟨t,rfl⟩:=b;obtain⟨d,rfl⟩:=c;exact in_str (ye I q rfl)
theorem jkx:OpR X (compareOp .Is) (λx y H Q=>y=.non/\Q (.bl (decide (x=.non))) H):=by
 intro a s σ H x y v u Q I b c h;obtain⟨rfl,q⟩:=h;cases c;refine is_none_gen (ye I q ?_);cases x<;>first
  | (cases b;rfl)
  | (obtain⟨t,rfl⟩:=b;rfl)
theorem jjp:OpR X (compareOp .IsNot) (λx y H Q=>y=.non/\Q (.bl (!decide (x=.non))) H):=by
 intro a s σ H x y v u Q I b c h;obtain⟨rfl,q⟩:=h;cases c;refine isnot_none_gen (ye I q ?_);cases x<;>first
  | (cases b;rfl)
  | (obtain⟨t,rfl⟩:=b;rfl)
theorem w8:OpR X (compareOp .NotIn) (λx y H Q=>∃ i j,x=.str i/\y=.str j/\Q (.bl (!(!(Builtin.Str.occurrences j i 0 j.length 1).isEmpty))) H):=by
 intro a s σ H x y v u Q I b c h;obtain⟨i,j,rfl,rfl,q⟩:=h;obtain⟨t,rfl⟩:=b;obtain⟨d,rfl⟩:=c;exact notIn_str (ye I q rfl)
theorem KQ(b:Expr){a:CmpOp}(h:a≠.In:=by decide)(h2:a≠.NotIn:=by decide):behindInMarks a b=false:=by
 have c:(a==CmpOp.In)=false:=by cases a<;>first | rfl | exact absurd rfl h
 have d:(a==CmpOp.NotIn)=false:=by cases a<;>first | rfl | exact absurd rfl h2
 cases b<;>simp[behindInMarks,c,d]
theorem jib{d:CmpOp}{r:R2}(e:OpR X (compareOp d) r)(f:PE X a ta)(g:PE X b tb)(i:behindInMarks d b=false):PE X (.Compare a [d] [b] pos) (tOp r ta tb):=by
 intro c s σ H Q I h;exact wpAny_Compare1 (jmZ f g I h λv u j x y k l m n q=>e c j σ k x y v u Q l m n q) i
noncomputable def jer(t:TE):TT:=λσ H Q=>t σ H λx H'=>∃ k,x=.bl k/\Q k H'
theorem jhm{f:CmpOp}{r:R2}(g:OpR X (compareOp f) r)(i:PE X a ta)(j:PE X b tb)(l:behindInMarks f b=false):PT X (.Compare a [f] [b] pos) (jer (tOp r ta tb)):=by
 intro d s σ H Q I h;refine wpAny_isTrue_Compare1 (thn (i d s σ H _ I h) λv m ⟨x,n,o,p,q⟩=>thn (j d m σ n _ o q) λu t ⟨y,w,A,B,C⟩ =>
  thn (g d t σ w x y v u _ A p B C) λc J ⟨z,D,E,F,k,e,G⟩=>?_) l
 subst e;cases F;exact wpAny_truthy_bool ⟨D,E,G⟩
noncomputable def jd0(r r':R2)(ta tb tc:TE):TE:=λσ H Q=>ta σ H λx H1=>tb σ H1 λy H2=>r x y H2 λz H3=>∃ k,z=.bl k /\
 (if k=true then tc σ H3 λw' H4=>r' y w' H4 Q else Q (.bl false) H3)
theorem je7{i g:CmpOp}{r l:R2}(q:OpR X (compareOp i) r)(j:OpR X (compareOp g) l)(t:PE X a ta)(w:PE X b tb)(A:PE X c tc)
  (B:lastMarks [i,g] [b,c]=false:=by with_unfolding_all rfl):PT X (.Compare a [i,g] [b,c] pos) (jer (jd0 r l ta tb tc)):=by
 intro f s σ H Q I h;refine isTrue_chain (thn (t f s σ H _ I h) λv C ⟨x,D,E,F,G⟩=>test_link (thn (w f C σ D _ E G) λu J ⟨y,K,L,m,M⟩ =>
  thn (q f J σ K x y v u _ L F m M) λd N ⟨z,n,o,O,k,e,p⟩=>?_)) B
 subst e;cases O;refine wpAny_truthy_bool ?_;cases k with
 | false =>
  obtain⟨k',P,R⟩:=p;cases P;exact ite_ff ⟨n,o,R⟩
 | true =>
  refine ite_tt (test_last (thn (A f N σ n _ o p) λS T ⟨U,V,W,Y,Z⟩=>thn (j f T σ V y U u S _ W m Y Z) λd' s5 ⟨z2,H5,I5,r5,k2,e2,q5⟩=>?_));subst e2;cases r5;exact wpAny_truthy_bool ⟨H5,I5,q5⟩
theorem uF:(sizeLine:Nat) < 2 ^ 63:=by rw[sizeLine_eq];decide
theorem jbG:OpR X (binaryOp .Add) (λx y H Q=>∃ i j,x=.str i/\y=.str j/\i.length+j.length<=sizeLine/\Q (.str (i++j)) H):=by
 intro a s σ H x y v u Q I b c h;obtain⟨i,j,rfl,rfl,d,q⟩:=h;obtain⟨t,rfl⟩:=b;obtain⟨e,rfl⟩:=c;exact add_str (λe f=>⟨.str (i++j),H,I.tok _,⟨_,rfl⟩,q⟩) d
theorem jhh{x:V}{us:List Value}(r:Vals [x] us):∃ u,us=[u]/\RelV x u:=by
 cases r with
 | cons a b=>cases b;exact⟨_,rfl,a⟩
theorem jjY{x y:V}{us:List Value}(r:Vals [x,y] us):∃ u w',us=[u,w']/\RelV x u/\RelV y w':=by
 cases r with
 | cons a b =>
  cases b with
  | cons c d=>cases d;exact⟨_,_,rfl,a,c⟩
theorem wN(c:X.calm=true):CallR X (.builtin "max") (λxs H Q=>∃ i j,xs=[.int i,.int j]/\Q (.int (if j > i then j else i)) H):=by
 intro b s σ H xs d Q I r h;obtain⟨i,j,rfl,q⟩:=h;obtain⟨u,e,rfl,⟨t,rfl⟩,⟨f,rfl⟩⟩:=jjY r;refine max_two_ints (I.ok.hd c) λg l k=>⟨_,H,I.kept k,?_,q⟩;by_cases a:j > i
 ·rw[if_pos a,if_pos a];exact⟨_,rfl⟩
 ·rw[if_neg a,if_neg a];exact⟨_,rfl⟩
theorem jeJ(c:X.calm=true):CallR X (.builtin "min") (λxs H Q=>∃ i j,xs=[.int i,.int j]/\Q (.int (if j < i then j else i)) H):=by
 intro b s σ H xs d Q I r h;obtain⟨i,j,rfl,q⟩:=h;obtain⟨u,e,rfl,⟨t,rfl⟩,⟨f,rfl⟩⟩:=jjY r;refine min_two_ints (I.ok.hd c) λg l k=>⟨_,H,I.kept k,?_,q⟩;by_cases a:j < i
 ·rw[if_pos a,if_pos a];exact⟨_,rfl⟩
 ·rw[if_neg a,if_neg a];exact⟨_,rfl⟩
theorem uk:CallR X (.type "str") (λxs H Q=>∃ i,xs=[.int i]/\i.natAbs.log2 < 1920/\Q (.str (toString i)) H):=by
 intro a s σ H xs c Q I r h;obtain⟨i,rfl,b,q⟩:=h;obtain⟨u,rfl,t,rfl⟩:=jhh r;exact PySem.P.str_of_int b ⟨.str _,H,I.tok _,⟨_,rfl⟩,q⟩
def jmr(K:PySem.W.Frag)(x:V)(H:Hp)(n:Nat):Prop :=
 match x with
 | .str y=>y.length<=sizeLine/\n=y.length
 | .byt y=>y.size<=sizeLine/\n=y.size
 | .ref p=>(∃ xs,SqL K H p xs/\n=xs.length) \/ ∃ xs,SqT K H p xs/\n=xs.length
 | _=>False
theorem jfi:CallR X (.builtin "len") (λxs H Q=>∃ x n,xs=[x]/\jmr X.K x H n/\Q (.int n) H):=by
 intro g s σ H xs k Q I r h;obtain⟨x,n,rfl,e,q⟩:=h;obtain⟨u,rfl,c⟩:=jhh r;have l:=uF;have m:sizeLine=16777216:=sizeLine_eq;cases x with
 | str y =>
  obtain⟨t,rfl⟩:=c;obtain⟨i,b⟩:y.length<=sizeLine/\n=y.length:=e;subst b;exact len_str (by omega) ⟨.int _,H,I.tok _,⟨_,rfl⟩,q⟩
 | byt y =>
  obtain⟨t,rfl⟩:=c;obtain⟨i,b⟩:y.size<=sizeLine/\n=y.size:=e;subst b;exact PySem.W.len_bytes (by omega) ⟨.int _,H,I.tok _,⟨_,rfl⟩,q⟩
 | ref p =>
  cases c;have b:(∃ xs,SqL X.K H p xs/\n=xs.length) \/ ∃ xs,SqT X.K H p xs/\n=xs.length:=e;rcases b with⟨xs,d,b⟩ | ⟨xs,d,b⟩
  ·subst b;obtain⟨its,f,pl,j⟩:=I.list d;have a:=f.length;exact Calls.call_len_list pl.isList (by simp only[N4];omega) ⟨.int xs.length,H,I.tok _,⟨_,by simp only[N4];rw[a]⟩,q⟩
  ·subst b;obtain⟨its,f,pl,j⟩:=I.tuple d;have a:=f.length;exact len_tuple pl (by simp only[N4];omega) ⟨.int xs.length,H,I.tok _,⟨_,by simp only[N4];rw[a]⟩,q⟩
 | _=>exact(show False from e).elim
end
structure ObjM(h:Heap)(x dx C:Addr)(mA:Str->Option Value):Prop where
 obj:h.get? x=some (PySem.W.instObj C dx)
 ns:h.Ns1 dx mA
 ne:dx≠x
theorem ub{h:Heap}{dx:Addr}{mA:Str->Option Value}(n:h.Ns1 dx mA):∃ od,h.get? dx=some od/\∀ name,PySem.W.lookIn name od=some (mA name):=by
 obtain⟨o,c,k,d,hd,f,_,g⟩:=n;refine⟨o,d,λname=>?_⟩;have e:=g name;unfold nsFind findBy at e;rw[<- Array.find?_toList] at e;unfold PySem.W.lookIn;rw[hd];dsimp only;split
 ·rename_i y q;rw[q] at e;exact congrArg some e
 ·rename_i q;rw[q] at e;have a:c.toList.any (·.refKey)=false:=by
   rw[List.any_eq_false];intro y i;obtain⟨z,t,b⟩:=f y (Array.mem_toList_iff.mp i);simp[DictEntry.refKey,b]
  have j:¬ c.toList.any (·.refKey)=true:=by rw[a];exact M4
  rw[if_neg j];exact congrArg some e
theorem ObjM.look{h:Heap}{x dx C:Addr}{mA:Str->Option Value}(I:ObjM h x dx C mA):∃ od,PySem.W.InstAt h x (PySem.W.instObj C dx) C (some od)/\∀ name,PySem.W.lookIn name od=some (mA name) :=
 let ⟨od,ho,hl⟩:=ub I.ns
 ⟨od,⟨I.obj,rfl,rfl,ho⟩,hl⟩
section
variable {prog:Program}{w:World}{A:Around}{E:Value->Shared->Prop}{s:Shared}{K:PySem.W.Frag}{x dx C f:Addr}{mA:Str->Option Value}{name:Str}{v:Value}
theorem jhD{a:Bool}{Q:Value->Shared->Prop}(X:K.In s.heap)(I:ObjM s.heap x dx C mA)(c:PySem.W.plainGet K C name=true)(d:PySem.W.hasDictIn K C=true)
  (e:PySem.W.findIn K (.ref C) name=some none) (f:mA name=some v) (b:PySem.W.handedIn v=true) (h:Q v { s with toks:=s.toks+1 }) :
  wpAny (model prog w) A (getAttr (.ref x) name a) Q E s:=by
 obtain⟨od,J,g⟩:=I.look;exact PySem.W.get_value X J (PySem.W.plainGet_of c).1 (PySem.W.findObj_own d e rfl (by rw[g,f])) b h
theorem je8{pl:Sem Bool}{Q:Value×List Value->Shared->Prop}(X:K.In s.heap)(I:ObjM s.heap x dx C mA)(a:PySem.W.plainGet K C name=true)
  (b:PySem.W.findIn K (.ref C) name=some (some (.ref f))) (c:PySem.W.isFn K (.ref f)=true) (d:mA name=none) (h:Q (.ref f,[.ref x]) s) :
  wpAny (model prog w) A (getMethod (.ref x) name pl) Q E s:=by
 obtain⟨od,J,e⟩:=I.look;exact PySem.W.method_fn X J (PySem.W.plainGet_of a).1 (PySem.W.plainGet_of a).2 b (beq_iff_eq.mp c) (by show(PySem.W.lookIn name od).map (·.isSome)=some false;rw[e,d];rfl) h
theorem jiV{ns:List Str}{Q:Unit->Shared->Prop}(X:K.In s.heap)(I:ObjM s.heap x dx C mA)
  (j:PySem.W.findIn K (.ref C) "__setattr__" = some (some (.builtin "object.__setattr__"))) (hp:PySem.W.plainOver K C=true) (k:PySem.W.takerIn K C name=some none) (l:PySem.W.hasDictIn K C=true)
  (m:PySem.Within mA ns) (n:ns.length<=sizeLine)
  (h:∀ h',ObjM h' x dx C (λy=>if y=name then some v else mA y)->Heap.SameBut dx s.heap h'->Q () { s with heap:=h',toks:=s.toks+2 }) :
  wpAny (model prog w) A (setAttr (.ref x) name v) Q E s:=by
 obtain⟨od,J,u⟩:=I.look;refine PySem.W.set_plain X J j (PySem.W.osa_open (s:={ s with toks:=s.toks+1 }) (r:=none) X J hp k λb=>?_);obtain⟨z,o,e⟩:=PySem.W.any_some l;have p:s.heap.get? x=some ⟨.ref C,some dx,.plain,#[]⟩:=I.obj;refine L3 (M7 (L3 (L3 (wpAny_loadPart p (L3 (PySem.W.Looks.here (s:={ s with toks:=s.toks+1 }) (PySem.W.looks_clsIn X o) ?_))))));rw[e];refine M7 (a:=some dx) (L3 (M7 (L3 ?_)));refine wpAny_nsSet1 (s:={ s with toks:=s.toks+1 }) I.ns λh' c d=>?_;obtain⟨B,q,t,f,g,i⟩:=c.count (PySem.Within.cons name v m);refine L3 (wpAny_lookBehind f (by rw[g];exact pastItsLine_dict (N8 i (by rw[M3];omega))) ?_);exact M7 (h _ ⟨(d.2 _ (Ne.symm I.ne)).trans I.obj,c,I.ne⟩ d)
theorem jfx{R:Result->Shared->Prop}{vs:List Value}{kw:List (Str×Value)}(X:K.In s.heap)(a:PySem.W.makesIn K C=true)
  (hi:PySem.W.findIn K (.ref C) "__init__" = some (some (.ref f))) (b:PySem.W.typeIn K (.ref f)=some (.type "function"))
  (h:codeAny (model prog w) (A.under (.builtin "type.__call__" ⟨.ref C::vs,kw⟩)) (.call (.ref f) ⟨.ref (s.heap.objs.size+1)::vs,kw⟩) (PySem.W.InitBack (s.heap.objs.size+1) R)
   { s with heap:=(s.heap.push PySem.W.emptyDict).push (PySem.W.instObj C s.heap.objs.size) }) :
  codeAny (model prog w) A (.call (.ref C) ⟨vs,kw⟩) R s:=by
 obtain⟨c,g,d,t,os⟩:=s;exact PySem.W.make_core (PySem.W.makes_of X a) (PySem.W.looks_findIn X hi) (λself=>PySem.W.bind_fn X self b) (.inl rfl) h
end
noncomputable def x8(f:Str)(v:V):List (Str×V)->List (Str×V)
 | []=>[(f,v)]
 | (g,x)::r=>if g=f then(g,v)::r else(g,x)::x8 f v r
theorem Qp(f g:Str)(v:V):∀ fs:List (Str×V),(x8 f v fs).lookup g=if g=f then some v else fs.lookup g
 | []=>by
  show List.lookup g [(f,v)]=_;by_cases h:g=f
  ·have a:(g==f)=true:=beq_iff_eq.mpr h;simp only[List.lookup,a,if_pos h]
  ·have a:(g==f)=false:=U3.mpr h;simp only[List.lookup,a,if_neg h]
 | (k,x)::r=>by
  have c:=Qp f g v r;rw[show x8 f v ((k,x)::r)=(if k=f then(k,v)::r else(k,x)::x8 f v r) from rfl];by_cases b:k=f
  ·rw[if_pos b];by_cases h:g=k
   ·have a:(g==k)=true:=beq_iff_eq.mpr h;simp only[List.lookup,a,if_pos (h.trans b)]
   ·have a:(g==k)=false:=U3.mpr h;simp only[List.lookup,a,if_neg (λe:g=f=>h (e.trans b.symm))]
  ·rw[if_neg b];by_cases h:g=k
   ·have a:(g==k)=true:=beq_iff_eq.mpr h;simp only[List.lookup,a,if_neg (λe:g=f=>b (h.symm.trans e))]
   ·have a:(g==k)=false:=U3.mpr h;simp only[List.lookup,a];exact c
theorem zt(f:Str)(v:V):∀ fs:List (Str×V),f∈(x8 f v fs).map (·.1)/\∀ g,g∈fs.map (·.1)->g∈(x8 f v fs).map (·.1)
 | []=>⟨by simp[x8],λg h=>by simp at h⟩
 | (k,x)::r=>by
  obtain⟨b,c⟩:=zt f v r;rw[show x8 f v ((k,x)::r)=(if k=f then(k,v)::r else(k,x)::x8 f v r) from rfl];by_cases a:k=f
  ·rw[if_pos a];subst a;exact⟨by simp,λg h=>by simpa using h⟩
  ·rw[if_neg a];refine⟨?_,λg h=>?_⟩
   ·rw[L5];exact L6 _ b
   ·rw[L5] at h ⊢;rcases M5.mp h with e | e
    ·exact M5.mpr (.inl e)
    ·exact L6 _ (c g e)
theorem zq(f:Str)(v:V):∀ fs:List (Str×V),(x8 f v fs).length<=fs.length+1
 | []=>by simp[x8]
 | (k,x)::r=>by
  have b:=zq f v r;rw[show x8 f v ((k,x)::r)=(if k=f then(k,v)::r else(k,x)::x8 f v r) from rfl];by_cases a:k=f
  ·rw[if_pos a,M3,M3];omega
  ·rw[if_neg a,M3,M3];omega
theorem RelO.some_of{v:V}{o:Option Value}(r:RelO (some v) o):∃ u,o=some u/\RelV v u:=by
 cases o with
 | none=>exact(show False from r).elim
 | some u=>exact⟨u,rfl,r⟩
theorem RelO.none_of{o:Option Value}(r:RelO none o):o=none:=by
 cases o with
 | none=>rfl
 | some u=>exact(show False from r).elim
theorem ug{v:V}{u:Value}(r:RelV v u):PySem.W.handedIn u=true:=by
 cases v with
 | non=>cases(show u=Value.none from r);rfl
 | bl b=>cases(show u=Value.bool b from r);rfl
 | int i=>obtain⟨t,e⟩:=(show ∃ t,u=Value.int i t from r);cases e;rfl
 | str x=>obtain⟨t,e⟩:=(show ∃ t,u=Value.str x t from r);cases e;rfl
 | byt b=>obtain⟨t,e⟩:=(show ∃ t,u=Value.bytes b t from r);cases e;rfl
 | flt b=>obtain⟨t,e⟩:=(show ∃ t,u=Value.float b t from r);cases e;rfl
 | ref a=>cases(show u=Value.ref a from r);rfl
 | ty n=>cases(show u=Value.type n from r);rfl
section
variable {P:Program}{w:World}{H H':Hp}{h h':Heap}{a C dx:Addr}{fs fs':List (Str×V)}
theorem jaT(hok:HOk P w H h)(e:H a=some (.ins C dx fs)):∃ mA,ObjM h a dx C mA/\(∀ f,RelO (fs.lookup f) (mA f))/\PySem.Within mA (fs.map (·.1))/\fs.length<=1000/\H dx=some (.own a):=by
 obtain⟨d,z,ne,b,mA,n,r,q⟩:=(show ObjOk P w H h a (.ins C dx fs) from hok a _ e);exact⟨mA,⟨b,n,ne⟩,r,q,z,d⟩
end
structure Cls(K:PySem.W.Frag)(C:Addr):Prop where
 pg:PySem.W.plainGet K C Str.empty=true
 hd:PySem.W.hasDictIn K C=true
 po:PySem.W.plainOver K C=true
 sa:PySem.W.findIn K (.ref C) "__setattr__" = some (some (.builtin "object.__setattr__"))
theorem Cls.get{K:PySem.W.Frag}{C:Addr}(c:Cls K C)(f:Str):PySem.W.plainGet K C f=true:=c.pg
def NoAttr(K:PySem.W.Frag)(C:Addr)(f:Str):Prop:=PySem.W.findIn K (.ref C) f=some none
theorem NoAttr.taker{K:PySem.W.Frag}{C:Addr}{f:Str}(n:NoAttr K C f):PySem.W.takerIn K C f=some none:=by
 unfold PySem.W.takerIn;rw[show PySem.W.findIn K (.ref C) f=some none from n];rfl
structure Con(K:PySem.W.Frag)(C:Addr)(f:Str)(v:V)(u:Value):Prop where
 at_:PySem.W.findIn K (.ref C) f=some (some u)
 rel:RelV v u
 get:PySem.W.specialIn K u "__get__" = some none
 cp:PySem.W.copiedNames.contains f=false
structure Meth(K:PySem.W.Frag)(C:Addr)(m:Str)(f:Addr):Prop where
 at_:PySem.W.findIn K (.ref C) m=some (some (.ref f))
 fn:PySem.W.isFn K (.ref f)=true
 kp:PySem.W.keepIn K (.ref f)=true
section
variable {X:Cx}{pins:List (Addr×Obj)}{σ:St}{H:Hp}{s:Shared}{a C dx:Addr}{fs:List (Str×V)}{f:Str}{v:V}{A:Around}{E:Value->Shared->Prop}
theorem jb6{b:Bool}{Q:Value->Shared->Prop}(I:Inv X pins σ H s)(e:H a=some (.ins C dx fs))(c:Cls X.K C)(n:NoAttr X.K C f)(l:fs.lookup f=some v)
  (h:∀ u s',Inv X pins σ H s'->RelV v u->Q u s'):wpAny (model X.prog X.w) A (getAttr (.ref a) f b) Q E s:=by
 obtain⟨g,O,r,_,_,_⟩:=jaT I.hok e;obtain⟨u,i,d⟩:=RelO.some_of (v:=v) (o:=g f) (by rw[<- l];exact r f);exact jhD I.kIn O (c.get f) c.hd n i (ug d) (h u _ (I.tok _) d)
theorem xr{m:Str}{g:Addr}{pl:Sem Bool}{Q:Value×List Value->Shared->Prop}(I:Inv X pins σ H s)(e:H a=some (.ins C dx fs))(c:Cls X.K C)(k:Meth X.K C m g)(l:fs.lookup m=none)
  (h:Q (.ref g,[.ref a]) s):wpAny (model X.prog X.w) A (getMethod (.ref a) m pl) Q E s:=by
 obtain⟨b,O,r,_,_,_⟩:=jaT I.hok e;have d:b m=none:=RelO.none_of (by rw[<- l];exact r m);exact je8 I.kIn O (c.get m) k.at_ k.fn d h
theorem jbW{y:V}{u:Value}{Q:Unit->Shared->Prop}(I:Inv X pins σ H s)(e:H a=some (.ins C dx fs))(c:Cls X.K C)(n:NoAttr X.K C f)(D:fs.length < 1000)(l:RelV y u)
  (h:∀ s',Inv X pins σ (upd H a (.ins C dx (x8 f y fs))) s'->Q () s'):wpAny (model X.prog X.w) A (setAttr (.ref a) f u) Q E s:=by
 obtain⟨i,O,r,j,_,k⟩:=jaT I.hok e;have m:(fs.map (·.1)).length<=sizeLine:=by rw[L0,sizeLine_eq];omega
 refine jiV I.kIn O c.sa c.po n.taker c.hd j m λp d t=>h _ ?_;have hd:∃ o,p.get? dx=some o:=let ⟨o,_,_,e',_⟩:=d.ns;⟨o,e'⟩
 refine I.write (x:=a) (e:=dx) (by rw[e];exact True.intro) (.inr k) (λb q v z=>(t.2 b v).trans z) hd ?_;refine⟨by rw[jo O.ne];exact k,?_,O.ne,d.obj,_,d.ns,λg=>?_,λg B=>?_⟩
 ·have:=zq f y fs;omega
 ·show RelO ((x8 f y fs).lookup g) (if g=f then some u else i g);rw[Qp];by_cases q:g=f
  ·rw[if_pos q,if_pos q];exact l
  ·rw[if_neg q,if_neg q];exact r g
 ·by_cases q:g=f
  ·rw[q];exact(zt f y fs).1
  ·refine(zt f y fs).2 g (j g λz=>B ?_);show(if g=f then some u else i g)=none;rw[if_neg q];exact z
theorem Inv.made(I:Inv X pins σ H s):Inv X pins σ (upd (upd H s.heap.objs.size (.own (s.heap.objs.size+1))) (s.heap.objs.size+1) (.ins C s.heap.objs.size []))
  { s with heap:=(s.heap.push PySem.W.emptyDict).push (PySem.W.instObj C s.heap.objs.size) }:=by
 have c:(s.heap.push PySem.W.emptyDict).get? s.heap.objs.size=some PySem.W.emptyDict:=X7 s.heap rfl;have d:((s.heap.push PySem.W.emptyDict).push (PySem.W.instObj C s.heap.objs.size)).get? (s.heap.objs.size+1)=some (PySem.W.instObj C s.heap.objs.size):=by
  have:=X7 (s.heap.push PySem.W.emptyDict) (o:=PySem.W.instObj C s.heap.objs.size) rfl
  rwa [Heap.size_push] at this
 have f:(s.heap.push PySem.W.emptyDict).Ns s.heap.objs.size (λ_=>none):=⟨PySem.W.emptyDict,#[],_,c,rfl,(λe g=>absurd g (by simp)),λ_=>rfl⟩;have h:=I.laid (a:=s.heap.objs.size) (o:=.own (s.heap.objs.size+1)) (h':=s.heap.push PySem.W.emptyDict) (t':=s.toks) (λb u q=>L8 _ q) (M9 _) ⟨_,c⟩;refine h.laid (a:=s.heap.objs.size+1) (o:=.ins C s.heap.objs.size []) (t':=s.toks) (λb u q=>L8 _ q) (Nat.le_of_eq (Heap.size_push _ _)) ?_;have ne:s.heap.objs.size≠s.heap.objs.size+1:=N7 (Nat.lt_succ_self _);refine⟨by rw[jo ne,jU],U6 _,ne,d,λ_=>none,(Heap.Ns1.of_empty f).at λo q=>L8 _ q,λ_=>True.intro,λy i=>absurd rfl i⟩
theorem jdU{prog:Program}{w:World}{env:Env}{e:Expr}{f:Str}{pos:Pos}{s:Shared}{Q:Value->Shared->Prop}(a:attributeBase e f env (eval e env)=eval e env)
  (h:wpAny (model prog w) A (eval e env) (λo s₁=>wpAny (model prog w) A (getAttr o f true) Q E s₁) E s):wpAny (model prog w) A (eval (.Attribute e f pos) env) Q E s :=
 Attribute_any_ h (by rw[arm_eval_Attribute,a])
end
noncomputable def je3(K:PySem.W.Frag)(ta:TE)(f:Str):TE:=λσ H Q=>ta σ H λx H1=>∃ a C dx fs v,x=.ref a/\H1 a=some (.ins C dx fs)/\Cls K C/\NoAttr K C f/\fs.lookup f=some v/\Q v H1
noncomputable def jmy(K:PySem.W.Frag)(ta tv:TE)(f:Str):TS:=λD σ H=>tv σ H λy H1=>ta σ H1 λx H2=>∃ a C dx fs,x=.ref a/\H2 a=some (.ins C dx fs)/\Cls K C/\NoAttr K C f/\fs.length < 1000 /\
 D.nx σ (upd H2 a (.ins C dx (x8 f y fs)))
section
variable {X:Cx}{o e value:Expr}{f:Str}{pos pos' tpos:Pos}{ta tv:TE}
theorem ja3(d:PE X e ta)(g:attributeBase e f X.env (eval e X.env)=eval e X.env):PE X (.Attribute e f pos) (je3 X.K ta f):=by
 intro b s σ H Q I h;refine jdU g (thn (d b s σ H _ I h) λu r ⟨x,i,j,k,a,C,dx,fs,v,ex,m,c,n,l,q⟩=>?_);subst ex;obtain rfl:u=Value.ref a:=k;exact jb6 j m c n l λt w o p=>⟨v,i,o,p,q⟩
theorem jkP(d:PE X o ta)(e:PE X value tv)(g:swapsWith value (some (.Attribute o f pos')) pos.line X.env=pure false):PS X (.Assign [.Attribute o f pos'] value pos) (jmy X.K ta tv f):=by
 intro b s σ H D I h;refine plainObj_wpAny_Assign_Attribute (thn (e b s σ H _ I h) λu i ⟨y,j,k,m,q⟩=>thn (d b i σ j _ k q) λp A ⟨x,B,r,t,a,C,dx,fs,ex,v,c,n,l,w⟩=>?_) g;subst ex;obtain rfl:p=Value.ref a:=t;exact jbW r v c n l m λE z=>⟨σ,_,z,w⟩
end
section
variable {X:Cx}{pins:List (Addr×Obj)}{σ:St}{H:Hp}{s:Shared}{A:Around}{E:Value->Shared->Prop}{Q:Value->Shared->Prop}{c:Value}{b:Bool}
inductive TyOf (K:PySem.W.Frag) (H:Hp):V->Value->Prop where
 | non:TyOf K H .non (.type "NoneType")
 | bl (x:Bool):TyOf K H (.bl x) (.type "bool")
 | int (i:Int):TyOf K H (.int i) (.type "int")
 | str (x:Str):TyOf K H (.str x) (.type "str")
 | flt (x:UInt64):TyOf K H (.flt x) (.type "float")
 | lst {a:Addr}{xs:List V}(e:H a=some (.lst xs)):TyOf K H (.ref a) (.type "list")
 | frz {a:Addr}{o:Obj}{xs:List V}(e:H a=some (.frz o (.lst xs))):TyOf K H (.ref a) (.type "list")
 | tup {a:Addr}{xs:List V}(e:H a=some (.tup xs)):TyOf K H (.ref a) (.type "tuple")
 | dK {a:Addr}{kvs:List (Key×V)}(e:H a=some (.dK kvs)):TyOf K H (.ref a) (.type "dict")
 | dT {a:Addr}{kvs:List (List Key×V)}(e:H a=some (.dT kvs)):TyOf K H (.ref a) (.type "dict")
 | ins {a C dx:Addr}{fs:List (Str×V)}(e:H a=some (.ins C dx fs)) (cl:Cls K C) (ha:PySem.W.findIn K (.ref C) "__class__" = some (some (.builtin "object.__class__")))
   (hn:PySem.W.specialIn K (.builtin "object.__class__") "__get__" = some (some (.builtin "getset_descriptor.__get__"))) (htk:PySem.W.takesIn K (.builtin "object.__class__")=some true)
   (hm:PySem.W.mroIn K C (.type "object")=some true):TyOf K H (.ref a) (.ref C)
end
structure Room(k:Nat)(A:Around):Prop where
 hd:A.handled=none
 dp:A.depth+3*k+5 < recursionLimit
 un:A.units+16*k+200 < cLine
theorem Room.mono{j k:Nat}{A:Around}(r:Room k A)(h:j<=k):Room j A:=⟨r.hd,by have:=r.dp;omega,by have:=r.un;omega⟩
theorem Room.deeper{k:Nat}{A:Around}(r:Room (k+1) A)(env:Env):Room k (A.deeper env) :=
 ⟨r.hd,by have:=r.dp;show A.depth+1+3*k+5 < _;omega,by have:=r.un;show A.units+3+16*k+200 < _;omega⟩
theorem jcs{A:Around}{C:Addr}{us:List Value}{kw:List (Str×Value)}:(A.under (.builtin "type.__call__" ⟨.ref C::us,kw⟩)).depth=A.depth+1:=by
 first | rfl | simp[Around.under,Code.weight,Code.isCreation,Code.isGuard,Code.isCaller,Code.frames,Code.isFrame,guardIds]
theorem jcm{A:Around}{C:Addr}{us:List Value}{kw:List (Str×Value)}:(A.under (.builtin "type.__call__" ⟨.ref C::us,kw⟩)).units=A.units+1:=by
 first | rfl | simp[Around.under,Code.cUnits,Code.frames,Code.isFrame]
theorem Room.make{k:Nat}{A:Around}(r:Room (k+1) A)(C:Addr)(us:List Value)(kw:List (Str×Value)):Room k (A.under (.builtin "type.__call__" ⟨.ref C::us,kw⟩)) :=
 ⟨r.hd,by have:=r.dp;rw[jcs];omega,by have:=r.un;rw[jcm];omega⟩
theorem Room.depth{k:Nat}{A:Around}(r:Room k A):A.depth < recursionLimit:=by have:=r.dp;omega
theorem Room.units{k:Nat}{A:Around}(r:Room k A):A.units+64 < cLine:=by have:=r.un;omega
noncomputable def K3:TA:=λ_ H Q=>Q [] H
noncomputable def kq(ta:TE)(tr:TA):TA:=λσ H Q=>ta σ H λx H1=>tr σ H1 λxs H2=>Q (x::xs) H2
section
variable {X:Cx}{e:Expr}{es:List Expr}{te:TE}{t:TA}{pos:Pos}
theorem YO:PA X [] K3:=λ_ _ _ _ H Q I h=>Calls.spliced_nil ⟨[],H,I,.nil,h⟩
theorem vJ(b:PE X e te)(c:PA X es t)(d:starEach (e::es) X.env=(false,eval e X.env)::starEach es X.env:=by rfl):PA X (e::es) (kq te t):=by
 intro pos a s σ H Q I h;rw[d];show wpAny _ _ (spliced ((false,eval e X.env)::backTo pos (starEach es X.env))) _ _ s;refine Calls.spliced_cons (thn (b a s σ H _ I h) λu f ⟨x,g,i,j,k⟩=>?_);exact thn (c pos a f σ g _ i k) λp q ⟨xs,l,m,n,o⟩=>⟨x::xs,l,m,.cons j n,o⟩
noncomputable def jlg(t:TA):TE:=λσ H Q=>t σ H λxs H1=>xs.length<=sizeLine/\∀ p,H1 p=none->Q (.ref p) (upd H1 p (.tup xs))
noncomputable def jmV(t:TA):TE:=λσ H Q=>t σ H λxs H1=>xs.length<=sizeLine/\∀ p,H1 p=none->Q (.ref p) (upd H1 p (.lst xs))
theorem jgs{x1}(h:PA X es t):PE X (.Tuple es x1 pos) (jlg t):=by
 intro a s σ H Q I g;refine wpAny_Tuple_spliced (thn (h pos a s σ H _ I g) λi c ⟨xs,d,f,r,z,q⟩=>⟨by rw[<- r.length];exact z,?_⟩);have j:d c.heap.objs.size=none:=f.hok.fresh (M9 _);refine⟨.ref c.heap.objs.size,upd d c.heap.objs.size (.tup xs),f.laid (t':=c.toks) (λb u e=>L8 _ e) (M9 _) ?_,rfl,q _ j⟩;exact⟨z,i,r,⟨_,X7 _ rfl,rfl,_,rfl⟩,_,X7 _ rfl,rfl⟩
theorem jk9(h:PA X es t):PE X (.List es pos) (jmV t):=by
 intro a s σ H Q I g;refine wpAny_List_spliced (thn (h pos a s σ H _ I g) λi c ⟨xs,d,f,r,z,q⟩=>⟨by rw[<- r.length];exact z,?_⟩);have j:d c.heap.objs.size=none:=f.hok.fresh (M9 _);refine⟨.ref c.heap.objs.size,upd d c.heap.objs.size (.lst xs),f.laid (t':=c.toks) (λb u e=>L8 _ e) (M9 _) ?_,rfl,q _ j⟩;exact⟨z,i,0,r,X7 _ rfl⟩
end
noncomputable abbrev Sp:=List V->Hp->VK->XK->Prop
noncomputable abbrev CXT:=List Env->Hp->Shared->XK->Value->Shared->Prop
structure Env0(P:Program)(w:World)(K:PySem.W.Frag)(mg:Str->Option Value)(base:Heap)(A:Around)(outer:List Env)(s:Shared)(H:Hp):Prop where
 frames:A.frames=some outer
 mod:Mod K mg base
 bs:∀ b o,base.get? b=some o->s.heap.get? b=some o/\H b=none
 bsz:base.objs.size<=s.heap.objs.size
 funs:s.heap.FunFrames base outer
 frf:∀ b∈frs outer,H b=none
 hok:HOk P w H s.heap
 bare:AllBare s.gens
def CE(outer:List Env)(P:Program)(w:World)(H:Hp)(s:Shared)(Q:VK)(u:Value)(s':Shared):Prop :=
 ∃ v H',s'.os=s.os/\AllBare s'.gens/\Un (frs outer) [] H H' s.heap s'.heap/\HOk P w H' s'.heap/\RelV v u/\Q v H'
def CR(CX:CXT)(outer:List Env)(P:Program)(w:World)(H:Hp)(s:Shared)(Q:VK)(E:XK)(r:Result)(s':Shared):Prop :=
 match r with
 | .ok (.ret u)=>CE outer P w H s Q u s'
 | .ok _=>False
 | .error e=>CX outer H s E e s'
structure FnOk(P:Program)(w:World)(K:PySem.W.Frag)(mg:Str->Option Value)(base:Heap)(CX:CXT)(k:Nat)(f:Addr)(fd:FuncData)(ps:List Str)(sp:Sp):Prop where
 len:∀ vs H Q E,sp vs H Q E->vs.length=ps.length
 run:∀(A:Around) (outer:List Env) (s:Shared) (H:Hp) (args:Args) (us:List Value) (vs:List V) (Q:VK) (E:XK),Room k A->Env0 P w K mg base A outer s H->BindsTo s fd args (ps.zip us)->Vals vs us->sp vs H Q E ->
  codeAny (model P w) A (.call (.ref f) args) (CR CX outer P w H s Q E) s
theorem FnOk.imp{P:Program}{w:World}{K:PySem.W.Frag}{mg:Str->Option Value}{base:Heap}{CX:CXT}{k:Nat}{f:Addr}{fd:FuncData}{ps:List Str}{sp sp':Sp}(F:FnOk P w K mg base CX k f fd ps sp)
  (h:∀ vs H Q E,sp' vs H Q E->sp vs H Q E):FnOk P w K mg base CX k f fd ps sp' :=
 ⟨λvs H Q E q=>F.len vs H Q E (h _ _ _ _ q),λA outer s H args a vs Q E b c d e g=>F.run A outer s H args a vs Q E b c d e (h _ _ _ _ g)⟩
theorem Env0.make{P:Program}{w:World}{K:PySem.W.Frag}{mg:Str->Option Value}{base:Heap}{A:Around}{outer:List Env}{s:Shared}{H:Hp}(e:Env0 P w K mg base A outer s H)(C:Addr)(us:List Value)(kw:List (Str×Value)) :
  Env0 P w K mg base (A.under (.builtin "type.__call__" ⟨.ref C::us,kw⟩)) outer s H:=⟨by first | exact e.frames | (simpa [Around.under,Code.envs,Code.isFrame,pushEnvs] using e.frames),e.mod,e.bs,e.bsz,e.funs,e.frf,e.hok,e.bare⟩
section
variable {X:Cx}{pins:List (Addr×Obj)}{σ:St}{H:Hp}{s s':Shared}
theorem Inv.env0(I:Inv X pins σ H s):Env0 X.prog X.w X.K X.mg X.base X.A X.stack s H :=
 ⟨I.ok.frames,I.ok.mod,I.bs,N8 I.ok.bsz I.sz,I.stack,I.stkFree,I.hok,I.bare⟩
theorem Inv.after{Q:VK}{u:Value}(I:Inv X pins σ H s)(h:CE X.stack X.prog X.w H s Q u s'):EP X pins σ Q u s':=by
 obtain⟨v,c,os,bare,un,hok,r,q⟩:=h;obtain⟨e,g,d,t,a⟩:=s';obtain rfl:a=s.os:=os;exact⟨v,c,I.call (h':=e) (g':=g) (d':=d) (t':=t) (ch:=[]) un hok bare (λb z=>absurd z (by simp)),r,q⟩
end
noncomputable def zP(sp:Sp)(dvs:List V)(E:XK)(t:TA):TE:=λσ H Q=>t σ H λvs H1=>sp (vs++dvs) H1 Q E
noncomputable def xB(C:Addr)(m:Str)(sp:Sp)(dvs:List V)(E:XK)(ta:TE)(t:TA):TE:=λσ H Q=>ta σ H λx H1=>∃ a dx fs,x=.ref a/\H1 a=some (.ins C dx fs)/\fs.lookup m=none /\
 t σ H1 λvs H2=>sp (x::(vs++dvs)) H2 Q E
noncomputable def jhr(C:Addr)(sp:Sp)(dvs:List V)(E:XK)(t:TA):TE:=λσ H Q=>t σ H λvs H1=>∀ x dx,H1 x=none->H1 dx=none->dx≠x ->
 sp (.ref x::(vs++dvs)) (upd (upd H1 dx (.own x)) x (.ins C dx [])) (λv H2=>v=.non/\Q (.ref x) H2) E
def Binds(K:PySem.W.Frag)(fd:FuncData)(ps:List Str)(ds:List Value):Prop :=
 ∀(s:Shared) (us:List Value),K.In s.heap->(us++ds).length=ps.length->BindsTo s fd ⟨us,[]⟩ (ps.zip (us++ds))
theorem Binds.all{K:PySem.W.Frag}{fd:FuncData}{ps:List Str}(h:∀ us:List Value,us.length=ps.length->bindArgs fd ⟨us,[]⟩=pure (ps.zip us)):Binds K fd ps []:=λs us _ a=>by
 rw[N1] at a ⊢;exact .of_eq (h us a)
def VM(CX:CXT)(X:Cx)(E:XK):Prop:=∀(pins:List (Addr×Obj)) (σ:St) (H:Hp) (s:Shared) (e:Value) (s':Shared),Inv X pins σ H s->CX X.stack H s E e s'->X.xe e s'
section
variable {X:Cx}{CX:CXT}{k:Nat}{f C:Addr}{fd:FuncData}{ps:List Str}{sp:Sp}{dvs:List V}{ds:List Value}{E:XK}{x m:Str}{p pos apos:Pos}{e o:Expr}{es:List Expr}{ta:TE}{t:TA}
theorem jcQ{pins:List (Addr×Obj)}{σ:St}{H:Hp}{s:Shared}{Q:VK}{us:List Value}{vs:List V}(F:FnOk X.prog X.w X.K X.mg X.base CX k f fd ps sp)(c:Room k X.A)(d:Binds X.K fd ps ds)(hd:Vals dvs ds)(g:VM CX X E)
  (I:Inv X pins σ H s) (r:Vals vs us) (h:sp (vs++dvs) H Q E):wpAny (model X.prog X.w) X.A (call (.ref f) us) (EP X pins σ Q) X.xe s:=by
 have b:Vals (vs++dvs) (us++ds):=r.append hd;have i:(us++ds).length=ps.length:=by rw[<- b.length];exact F.len _ _ _ _ h
 refine wpAny_call (codeAny_mono (F.run X.A X.stack s H ⟨us,[]⟩ (us++ds) (vs++dvs) Q E c I.env0 (d s us I.kIn i) b h) λr j a=>?_);cases r with
 | error e=>exact g pins σ H s e j I a
 | ok l =>
  cases l with
  | ret u=>exact I.after a
  | next=>exact False.elim a
  | brk=>exact False.elim a
  | cont=>exact False.elim a
theorem xD(F:FnOk X.prog X.w X.K X.mg X.base CX k f fd ps sp)(g:Room k X.A)(i:Gl X x)(j:X.mg x=some (.ref f))(l:PySem.W.keepIn X.K (.ref f)=true)(m:Binds X.K fd ps ds)(hd:Vals dvs ds)(n:VM CX X E)
  (o:PA X (e::es) t) (b:(x==("__debug__" : Str))=false:=by decide) (u:starEach (e::es) X.env=(false,eval e X.env)::starEach es X.env:=by rfl) (c:(backTo pos (starEach es X.env)).any (·.1)=false:=by rfl) :
  PE X (.Call (.Name x p) (e::es) [] pos) (zP sp dvs E t):=by
 intro a s σ H Q I h;refine wpAny_Call_Name_kw (JZ I i j ?_ b);refine PySem.W.callWith_K (h₀:=X.base) I.ok.mod.kin l (thn (o pos a s σ H _ I h) λv y ⟨z,B,d,r,q⟩=>⟨d.kIn,?_⟩) u c;exact jcQ F g m hd n d r q
theorem jen{pl:Sem Bool}(y:PE X o ta)(c:Cls X.K C)(i:Meth X.K C m f)(F:FnOk X.prog X.w X.K X.mg X.base CX k f fd ps sp)(z:Room k X.A)(B:Binds X.K fd ps ds)(hd:Vals dvs ds)(D:VM CX X E)(G:PA X (e::es) t)
  (d:starEach (e::es) X.env=(false,eval e X.env)::starEach es X.env:=by rfl) (g:(backTo pos (starEach es X.env)).any (·.1)=false:=by rfl)
  (J:eval (.Call (.Attribute o m apos) (e::es) [] pos) X.env=(do
   let ov <- eval o X.env
   standAt apos.atName
   let (f,first) <- holding [ov] (getMethod ov m pl)
   callWith pos f first (backTo pos (starEach (e::es) X.env)) (backToKw pos (keywordEach [] X.env))):=by rfl) :
  PE X (.Call (.Attribute o m apos) (e::es) [] pos) (xB C m sp dvs E ta t):=by
 intro b s σ H Q I h;refine PySem.W.methodCall_KW (pl:=pl) (thn (y b s σ H _ I h) λu L ⟨x,M,j,N,a,dx,fs,ex,O,l,q⟩=>?_) J;subst ex;obtain rfl:u=Value.ref a:=N;refine xr j O c i l ?_;refine PySem.W.callWith_K (first:=[.ref a]) (h₀:=X.base) I.ok.mod.kin i.kp (thn (G pos b L σ M _ j q) λn R ⟨p,S,v,r,P⟩=>⟨v.kIn,?_⟩) d g;exact jcQ (us:=.ref a::n) (vs:=.ref a::p) F z B hd D v (.cons rfl r) P
theorem jbp{pl:Sem Bool}(g:PE X o ta)(c:Cls X.K C)(e:Meth X.K C m f)(F:FnOk X.prog X.w X.K X.mg X.base CX k f fd ps sp)(i:Room k X.A)(j:Binds X.K fd ps ds)(hd:Vals dvs ds)(n:VM CX X E)
  (p:eval (.Call (.Attribute o m apos) [] [] pos) X.env=(do
   let ov <- eval o X.env
   standAt apos.atName
   let (f,first) <- holding [ov] (getMethod ov m pl)
   callWith pos f first (backTo pos (starEach [] X.env)) (backToKw pos (keywordEach [] X.env))):=by rfl) :
  PE X (.Call (.Attribute o m apos) [] [] pos) (xB C m sp dvs E ta K3):=by
 intro b s σ H Q I h;refine PySem.W.methodCall_KW (pl:=pl) (thn (g b s σ H _ I h) λu v ⟨x,y,d,r,a,dx,fs,ex,t,l,q⟩=>?_) p;subst ex;obtain rfl:u=Value.ref a:=r;refine xr d t c e l ?_;exact PySem.W.callWith_K0 (first:=[.ref a]) d.kIn e.kp (jcQ (us:=[.ref a]) (vs:=[.ref a]) F i j hd n d (.cons rfl .nil) q)
structure Mk(K:PySem.W.Frag)(C f:Addr):Prop where
 makes:PySem.W.makesIn K C=true
 init:PySem.W.findIn K (.ref C) "__init__" = some (some (.ref f))
 fn:PySem.W.isFn K (.ref f)=true
 kp:PySem.W.keepIn K (.ref C)=true
theorem jgm{pins:List (Addr×Obj)}{σ:St}{H:Hp}{s:Shared}{Q:VK}{us:List Value}{vs:List V}(M:Mk X.K C f)(F:FnOk X.prog X.w X.K X.mg X.base CX k f fd ps sp)(g:Room (k+1) X.A)(i:Binds X.K fd ps ds)(hd:Vals dvs ds)
  (j:VM CX X E) (I:Inv X pins σ H s) (r:Vals vs us)
  (h:∀ x dx,H x=none->H dx=none->dx≠x->sp (.ref x::(vs++dvs)) (upd (upd H dx (.own x)) x (.ins C dx [])) (λv H2=>v=.non/\Q (.ref x) H2) E) :
  wpAny (model X.prog X.w) X.A (call (.ref C) us) (EP X pins σ Q) X.xe s:=by
 have c:=h (s.heap.objs.size+1) s.heap.objs.size (I.hok.fresh (Nat.le_succ _)) (I.hok.fresh (M9 _)) (N7 (Nat.lt_succ_self _));have b:=Inv.made (C:=C) I;have d:Vals (V.ref (s.heap.objs.size+1)::(vs++dvs)) (Value.ref (s.heap.objs.size+1)::(us++ds)):=.cons rfl (r.append hd);have l:(Value.ref (s.heap.objs.size+1)::us++ds).length=ps.length:=by
  have e:=d.length;rw[F.len _ _ _ _ c] at e;exact e.symm
 refine wpAny_call (jfx (f:=f) I.kIn M.makes M.init (beq_iff_eq.mp M.fn) (codeAny_mono (F.run _ X.stack _ _ ⟨Value.ref (s.heap.objs.size+1)::us,[]⟩ (Value.ref (s.heap.objs.size+1)::(us++ds)) _ _ E (g.make C us [])
  (b.env0.make C us []) (i _ (Value.ref (s.heap.objs.size+1)::us) b.kIn l) d c) λr m a=>?_))
 cases r with
 | error e=>exact j pins σ _ _ e m b a
 | ok n =>
  cases n with
  | ret u =>
   obtain⟨v,o,p,q,ev,t⟩:=b.after a;subst ev;exact⟨q,⟨V.ref (s.heap.objs.size+1),o,p,rfl,t⟩⟩
  | next=>exact False.elim a
  | brk=>exact False.elim a
  | cont=>exact False.elim a
theorem jfn(M:Mk X.K C f)(F:FnOk X.prog X.w X.K X.mg X.base CX k f fd ps sp)(c:Room (k+1) X.A)(d:Gl X x)(e:X.mg x=some (.ref C))(g:Binds X.K fd ps ds)(hd:Vals dvs ds)(i:VM CX X E)
  (a:(x==("__debug__" : Str))=false:=by decide):PE X (.Call (.Name x p) [] [] pos) (jhr C sp dvs E K3):=by
 intro b s σ H Q I h;refine wpAny_Call_Name_kw (JZ I d e ?_ a);exact PySem.W.callWith_K0 I.kIn M.kp (jgm (us:=[]) M F c g hd i I .nil h)
end
def PK(X:Cx)(kws:List Keyword)(t:TA):Prop :=
 ∀(pos:Pos) (pins:List (Addr×Obj)) (s:Shared) (σ:St) (H:Hp) (Q:List V->Hp->Prop),Inv X pins σ H s->t σ H Q->wpAny (model X.prog X.w) X.A (evalAll ((backToKw pos (keywordEach kws X.env)).map (·.2))) (AP X pins σ Q) X.xe s
section
variable {X:Cx}{CX:CXT}{k:Nat}{f C:Addr}{fd:FuncData}{ps ks:List Str}{sp:Sp}{E:XK}{x m:Str}{p pos apos kpos:Pos}{e o:Expr}{es:List Expr}{kws:List Keyword}{te ta:TE}{t tk:TA}{nm:Option Str}
structure KBinds(K:PySem.W.Frag)(fd:FuncData)(ps ks:List Str)(g:List Value->List Value->List Value)(gV:List V->List V->List V):Prop where
 to:∀(s:Shared) (us ws:List Value),K.In s.heap->(g us ws).length=ps.length->BindsTo s fd ⟨us,ks.zip ws⟩ (ps.zip (g us ws))
 rel:∀{vs:List V}{us:List Value}{zs:List V}{ws:List Value},Vals vs us->Vals zs ws->Vals (gV vs zs) (g us ws)
variable {g:List Value->List Value->List Value}{gV:List V->List V->List V}
end
structure FnScope(N P:List Str)(sc:Scope):Prop where
 kind:sc.kind=.function
 co:sc.isCoroutine=false
 gen:sc.isGenerator=false
 nd:N.Nodup
 pre:N.take P.length=P
 par:∀ x∈P,sc.names.lookup x=some .local \/ sc.names.lookup x=some .cell
 nofree:∀ y∈sc.names,y.2≠.free
theorem uK{kindOf:Str->Option NameKind}{x:Str}:∀{binds:List (Str×Value)}{m:Str->Option Value},(∀ v,(x,v)∉binds)->bindL kindOf binds m x=m x
 | [],_,_=>rfl
 | (n,v)::r,m,h=>by
  unfold bindL;rw[uK λw a=>h w (L6 _ a)];split
  ·have:x≠n:=by rintro rfl;exact h v L7
   simp[this]
  ·rfl
theorem wu{kindOf:Str->Option NameKind}{x:Str}:∀{binds:List (Str×Value)}{m:Str->Option Value},(∀ v,(x,v)∉binds)->bindC kindOf binds m x=m x
 | [],_,_=>rfl
 | (n,v)::r,m,h=>by
  unfold bindC;rw[wu λw a=>h w (L6 _ a)];split
  ·rfl
  ·have:x≠n:=by rintro rfl;exact h v L7
   simp[this]
theorem w4{kindOf:Str->Option NameKind}{x:Str}{v:Value}:∀{P:List Str}{vs:List Value}{i:Nat}{m:Str->Option Value},P.Nodup->P[i]?=some x->vs[i]?=some v->kindOf x=some .local ->
  bindL kindOf (P.zip vs) m x=some v
 | [],_,_,_,_,h,_,_=>by simp at h
 | _::_,[],_,_,_,_,h,_=>by simp at h
 | p::P,w::vs,0,m,nd,a,b,c=>by
  simp at a b;subst a;subst b;show bindL kindOf ((p,w)::P.zip vs) m p=_;unfold bindL;rw[uK λv d=>(List.nodup_cons.mp nd).1 (List.of_mem_zip d).1,if_pos c];simp
 | p::P,w::vs,i+1,m,nd,a,b,c=>by
  show bindL kindOf ((p,w)::P.zip vs) m x=_;unfold bindL;exact w4 (i:=i) (List.nodup_cons.mp nd).2 (by simpa using a) (by simpa using b) c
theorem wW{kindOf:Str->Option NameKind}{x:Str}{v:Value}:∀{P:List Str}{vs:List Value}{i:Nat}{m:Str->Option Value},P.Nodup->P[i]?=some x->vs[i]?=some v->kindOf x≠some .local ->
  bindC kindOf (P.zip vs) m x=some v
 | [],_,_,_,_,h,_,_=>by simp at h
 | _::_,[],_,_,_,_,h,_=>by simp at h
 | p::P,w::vs,0,m,nd,a,b,c=>by
  simp at a b;subst a;subst b;show bindC kindOf ((p,w)::P.zip vs) m p=_;unfold bindC;rw[wu λv d=>(List.nodup_cons.mp nd).1 (List.of_mem_zip d).1,if_neg c];simp
 | p::P,w::vs,i+1,m,nd,a,b,c=>by
  show bindC kindOf ((p,w)::P.zip vs) m x=_;unfold bindC;exact wW (i:=i) (List.nodup_cons.mp nd).2 (by simpa using a) (by simpa using b) c
noncomputable def start(N:List Str)(vs:List V):St:=vs.map some++List.replicate (N.length - vs.length) none
noncomputable def uP(CX:CXT)(P:Program)(w:World)(K:PySem.W.Frag)(mg:Str->Option Value)(base:Heap)(N:List Str)(qual:Str)(scope:Scope)(f:Addr)(cd:Value)(A:Around)(outer:List Env)(s:Shared)(H:Hp)(E:XK):Cx where
 prog:=P
 w:=w
 K:=K
 mg:=mg
 base:=base
 A:=A.deeper (envOfC qual scope s.heap.objs.size f cd)
 N:=N
 s₀:=s
 H₀:=H
 env:=envOfC qual scope s.heap.objs.size f cd
 outer:=outer
 stack:=envOfC qual scope s.heap.objs.size f cd::outer
 ex:=[]
 calm:=true
 fn:=λ_=>true
 pn:=[]
 xe:=λe s'=>wpAny (model P w) (A.deeper (envOfC qual scope s.heap.objs.size f cd)) (leaving (envOfC qual scope s.heap.objs.size f cd) e) (λ_ s''=>CX outer H s E e s'') (λe' s''=>CX outer H s E e' s'') s'
theorem jbq{a:Scope}{n:Nat}{x:Str}(h:a.names.lookup x=some .cell):∃ c,(cellsFrom n a.names []).lookup x=some c:=by
 have q:=PySem.W.cellsFrom_some a.names n [] (.inl h);exact Option.isSome_iff_exists.mp q
theorem jds{CX:CXT}{P:Program}{w:World}{K:PySem.W.Frag}{mg:Str->Option Value}{base:Heap}{N ps:List Str}{qual:Str}{scope:Scope}{f:Addr}{cd:Value}{A:Around}{outer:List Env}{s s1:Shared}{H:Hp}{E:XK}{us:List Value}{vs:List V}
  (S:FnScope N ps scope) (hd:A.handled=none) (g:Env0 P w K mg base A outer s H) (J:vs.length=ps.length) (r:Vals vs us)
  (x:InCallC s s.heap.objs.size (bindL (envOfC qual scope s.heap.objs.size f cd).kindOf (ps.zip us) λ_=>none) (cellsFrom (s.heap.objs.size+1) scope.names []) (bindC (envOfC qual scope s.heap.objs.size f cd).kindOf (ps.zip us) λ_=>none) s1) :
  Inv (uP CX P w K mg base N qual scope f cd A outer s H E) [] (start N vs) H s1:=by
 have F:ps.length<=N.length:=by have:=congrArg List.length S.pre;rw[List.length_take] at this;omega
 obtain⟨t,L,rfl,C⟩:=x.done;have j:∀ b:Addr,b∉(uP CX P w K mg base N qual scope f cd A outer s H E).ex:=λb z=>absurd (show b∈([]:List Addr) from z) (by simp);refine⟨⟨g.mod,S.kind,rfl,rfl,M9 _,λy z c t d=>?_,λy l=>?_,λy c _ h=>?_,λ_=>hd,Around.frames_deeper g.frames,.inr ⟨rfl,rfl⟩,λb z=>absurd z (j b),g.bs,g.bsz,λb _ _=>j b,λb z=>absurd z (j b),g.funs,g.frf⟩,
  rfl,g.bare,Un.kept C,⟨_,x.toInCall.ns,λi y v t d M=>?_⟩,λy c h=>⟨_,x.cell y c h⟩,g.hok.fresh (M9 _),λy c h=>?_,λp m=>absurd (show p∈([]:List (Addr×Obj)) from m) (by simp),g.hok.kept C,?_⟩
 ·exact name_of_addr x.apart (PySem.mem_of_lookup t) (PySem.mem_of_lookup d)
 ·have l:scope.names.lookup y=some .cell \/ scope.names.lookup y=some .free:=l;rcases l with l | l
  ·exact jbq l
  ·exact absurd rfl (S.nofree _ (PySem.mem_of_lookup l))
 ·exact Nat.le_of_lt (x.above y c (PySem.mem_of_lookup h))
 ·have B:i < vs.length:=by
   unfold start at d;by_cases B:i < vs.length
   ·exact B
   ·rw[List.getElem?_append_right (by simpa using B)] at d;rw[List.getElem?_replicate] at d;split at d<;>cases d
  have G:vs[i]?=some v:=by
   unfold start at d;rw[List.getElem?_append_left (by simpa using B),List.getElem?_map] at d;cases e:vs[i]? with
   | none=>rw[e] at d;cases d
   | some a=>rw[e] at d;cases d;rfl
  obtain⟨u,D,I⟩:=r.get G;have m:ps[i]?=some y:=by
   rw[<- S.pre,List.getElem?_take_of_lt (by omega)];exact t
  have o:ps.Nodup:=by rw[<- S.pre];exact S.nd.sublist (List.take_sublist _ _)
  refine⟨u,I,?_⟩;rcases S.par y (List.mem_of_getElem? m) with k | k
  ·exact .inl ⟨k,w4 o m D k⟩
  ·obtain⟨c,e⟩:=jbq (n:=s.heap.objs.size+1) k;refine .inr ⟨.inl k,c,e,?_⟩;have q:=x.cell y c e;rw[wW o m D (by show scope.names.lookup y≠_;rw[k];decide)] at q;exact q
 ·exact g.hok.fresh (Nat.le_of_lt (x.above y c (PySem.mem_of_lookup h)))
 ·unfold start;show _=N.length;rw[N5,L0,List.length_replicate];omega
theorem jk2{CX:CXT}{P:Program}{w:World}{K:PySem.W.Frag}{mg:Str->Option Value}{base:Heap}{k:Nat}{f:Addr}{name qual:Str}{params:Arguments}{body:List Stmt}{scope:Scope}{F kV h pm a ct oc:Value}{an od:Option Addr}
  {p:Array (Option Value)}{N ps:List Str}{sp:Sp}(M:K.lookup f=some ⟨oc,od,.func (PySem.W.fnOf name qual params body scope F kV h pm an a ct),p⟩) (z:PySem.W.codeIn K a qual=true) (S:FnScope N ps scope)
  (len:∀ vs H Q E,sp vs H Q E->vs.length=ps.length)
  (c:∀(A:Around) (outer:List Env) (s:Shared) (H:Hp) (vs:List V) (Q:VK) (E:XK),Room k (A.deeper (envOfC qual scope s.heap.objs.size f a))->sp vs H Q E ->
   ∃ t,PSs (uP CX P w K mg base N qual scope f a A outer s H E) body t/\t { nx:=λ_ H'=>Q .non H',rt:=Q } (start N vs) H) :
  FnOk P w K mg base CX (k+1) f (PySem.W.fnOf name qual params body scope F kV h pm an a ct) ps sp:=by
 refine⟨len,λA outer s H args O vs Q E B i R r j=>?_⟩;have T:=len _ _ _ _ j;have G:K.In s.heap:=i.mod.kin.keeps λb o e=>(i.bs b o e).1;have lim:s.heap.NoLimit:=i.mod.nolimit.keeps λb o e=>(i.bs b o e).1;have d:∀ y∈ps.zip O,scope.names.lookup y.1=some .local \/ (scope.names.lookup y.1=some .cell/\((cellsFrom (s.heap.objs.size+1) scope.names []).lookup y.1).isSome=true):=λ⟨n,v⟩ U=>by
  rcases S.par n (List.of_mem_zip U).1 with q | q
  ·exact .inl q
  ·exact .inr ⟨q,PySem.W.cellsFrom_some _ _ _ (.inl q)⟩
 refine codeAny_call_function B.depth (G _ _ M) rfl S.co S.gen rfl (PySem.W.codeRec_of G z) (R _ _ _ _ ?_);refine wpAny_newFunctionEnv_cells S.kind d λenv X L x=>?_;subst X;refine⟨lim.keeps x.toInCall.keep,codeAny_func ?_⟩;obtain⟨t,Y,Z⟩:=c A outer s H vs Q E (B.deeper _) j;have I:Inv (uP CX P w K mg base N qual scope f a A outer s H E) [] (start N vs) H L:=jds S B.hd i T r x;refine wpAny_mono (Y [] L (start N vs) H _ I Z) (λfl C g=>?_) λe C g=>g;have l:∀{m:St}{H':Hp}{v:V}{u:Value},Inv (uP CX P w K mg base N qual scope f a A outer s H E) [] m H' C->RelV v u->Q v H'->CE outer P w H s Q u C :=
  λ{m H' v u} J D q=>⟨v,H',J.os,J.bare,J.base,J.hok,D,q⟩
 cases fl with
 | ret u =>
  obtain⟨v,m,H',J,D,q⟩:=g;exact l J D q
 | next =>
  obtain⟨m,H',J,q⟩:=g;exact l (v:=V.non) (u:=Value.none) J rfl q
 | brk =>
  obtain⟨_,_,_,q⟩:=g;exact False.elim q
 | cont =>
  obtain⟨_,_,_,q⟩:=g;exact False.elim q
section
variable {X:Cx}{x:Str}{p pos:Pos}{e:Expr}{es:List Expr}{t:TA}{id T:String}{r:List V->Hp->VK->Prop}
noncomputable def tCB(r:List V->Hp->VK->Prop)(t:TA):TE:=λσ H Q=>t σ H λvs H1=>r vs H1 Q
theorem K6(d:CallR X (.builtin id) r)(f:Gl X x)(g:X.mg x=none)(i:bootBuiltins x=some (.builtin id))(j:PA X (e::es) t)(k:x≠"__name__":=by decide)(b:(x==("__debug__" : Str))=false:=by decide)
  (l:starEach (e::es) X.env=(false,eval e X.env)::starEach es X.env:=by rfl) (c:(backTo pos (starEach es X.env)).any (·.1)=false:=by rfl):PE X (.Call (.Name x p) (e::es) [] pos) (tCB r t):=by
 intro a s σ H Q I h;refine wpAny_Call_Name_kw (KM I f g i ?_ k b);exact PyProof.Rows.callWith_builtin1 (thn (j pos a s σ H _ I h) λm n ⟨o,q,u,v,w⟩=>d a n σ q o m Q u v w) l c
theorem jdq(d:CallR X (.type T) r)(f:Gl X x)(g:X.mg x=none)(i:bootBuiltins x=some (.type T))(j:PA X (e::es) t)(k:x≠"__name__":=by decide)(b:(x==("__debug__" : Str))=false:=by decide)
  (l:starEach (e::es) X.env=(false,eval e X.env)::starEach es X.env:=by rfl) (c:(backTo pos (starEach es X.env)).any (·.1)=false:=by rfl):PE X (.Call (.Name x p) (e::es) [] pos) (tCB r t):=by
 intro a s σ H Q I h;refine wpAny_Call_Name_kw (KM I f g i ?_ k b);exact PyProof.Rows.callWith_type1 (thn (j pos a s σ H _ I h) λm n ⟨o,q,u,v,w⟩=>d a n σ q o m Q u v w) l c
end
end L2
namespace HT
open PySem PyProof.Rows
section
open PySem.SeqAt
open PySem.AutoSeq1 (wpAny_loadPart')
open PySem.MeetsSeq PySem.MeetsSeq2 PySem.MeetsSeq3
end
section
variable {prog:Program}{w:World}{A:Around}{E:Value->Shared->Prop}{s:Shared}
theorem cat_tup{t b:Addr}{vs ws:List Value}{Q:Value->Shared->Prop}(r:IsTup s.heap t vs.toArray)(u:IsTup s.heap b ws.toArray)(l:vs≠[])
  (h1:ws=[]->Q (.ref t) s) (h2:ws≠[]->Q (.ref s.heap.objs.size) { s with heap:=s.heap.push { cls:=.type "tuple",data:=.seq (vs++ws).toArray } })
  (j:vs.length+ws.length<=sizeLine):wpAny (model prog w) A (binaryOp .Add (.ref t) (.ref b)) Q E s:=by
 obtain⟨⟨cls,dd,data,m⟩,h,o,n,hd⟩:=id r;obtain⟨⟨p,c,k,d⟩,a,f,q,g⟩:=id u;simp only at o hd f g;subst o hd f g;have e:vs.toArray++ws.toArray=(vs++ws).toArray:=by simp
 by_cases i:ws=[]
 ·exact concat_meets ⟨_,h,rfl⟩ ⟨_,a,rfl⟩ noFill_tuple_add seq_tuple_add PySem.F.slot_tuple_add PySem.F.entry_tuple_add (PySem.F.args_tuple_add_2 _ _)
   (tuple_addW1 t b vs.toArray ws.toArray n q dd c m d (by simpa using l) (by simp[i])) ⟨h,a,h1 i⟩
 ·refine concat_meets ⟨_,h,rfl⟩ ⟨_,a,rfl⟩ noFill_tuple_add seq_tuple_add PySem.F.slot_tuple_add PySem.F.entry_tuple_add (PySem.F.args_tuple_add_2 _ _)
   (tuple_addW2 t b vs.toArray ws.toArray n q dd c m d (by simpa using l) (by simpa using i) (by rw[N4,N4];exact j)) ⟨h,a,?_⟩
  rw[e];exact h2 i
noncomputable def sIx(n d:Nat):Option Int->Nat
 | none=>d
 | some v=>if v < 0 then(v+(n:Int)).toNat else min v.toNat n
theorem sIx_none(n d:Nat):sIx n d none=d:=rfl
theorem sIx_nat(n d k:Nat):sIx n d (some (k:Int))=min k n:=by
 show(if(k:Int) < 0 then((k:Int)+(n:Int)).toNat else min (k:Int).toNat n)=min k n;rw[if_neg (by omega),N9]
theorem sIx_le(n d:Nat)(hd:d<=n)(o:Option Int):sIx n d o<=n:=by
 cases o with
 | none=>exact hd
 | some v =>
  show(if v < 0 then(v+(n:Int)).toNat else min v.toNat n)<=n;by_cases a:v < 0
  ·rw[if_pos a];omega
  ·rw[if_neg a];exact Nat.min_le_right _ _
theorem jea(v:Int)(n d:Nat):(if v < 0 then max (v+(n:Int)) 0 else min v (n:Int))=((sIx n d (some v):Nat):Int):=by
 show(if v < 0 then max (v+(n:Int)) 0 else min v (n:Int))=(((if v < 0 then(v+(n:Int)).toNat else min v.toNat n):Nat):Int);by_cases a:v < 0
 ·simp only[if_pos a];omega
 ·simp only[if_neg a];omega
theorem jcu(lo hi:Option Int)(n:Nat):Builtin.Slice.sliceAdjust lo hi 1 (n:Int)=(((sIx n 0 lo:Nat):Int),((sIx n n hi:Nat):Int)):=by
 have a:¬ ((1:Int) < 0):=by omega
 unfold Builtin.Slice.sliceAdjust;simp only[a,if_false];refine Prod.ext ?_ ?_
 ·cases lo with
  | none=>rfl
  | some v=>exact jea v n 0
 ·cases hi with
  | none=>rfl
  | some v=>exact jea v n n
theorem jcd(i j:Nat):Builtin.Slice.slicePlaces (i:Int) (j:Int) 1=j - i:=by
 unfold Builtin.Slice.slicePlaces;have a:(1:Int) > 0:=by omega
 simp only[a,if_true,Int.ediv_one];split<;>omega
theorem zU{v:Value}{o:Option Int}{Q:Option Int->Shared->Prop}(p:IsPart v o)(h:Q o s):wpAny (model prog w) A (Builtin.Slice.slicePartIndex v) Q E s:=by
 cases p with
 | none=>exact slicePart_none h
 | int i t=>exact slicePart_int h
theorem KZ{sl:Addr}{c d:Value}{lo hi:Option Int}{n:Nat}{Q:Int×Int×Nat->Shared->Prop}(e:s.heap.IsSliceOf sl c d .none)(pl:IsPart c lo)(f:IsPart d hi)
  (h:Q (((sIx n 0 lo:Nat):Int),1,sIx n n hi - sIx n 0 lo) s):wpAny (model prog w) A (Builtin.Slice.sliceApplied (.ref sl) (pure (n:Int))) Q E s:=by
 obtain⟨os,a,g,b⟩:=id e;unfold Builtin.Slice.sliceApplied Builtin.Slice.sliceFields;refine L3 (L3 (U7 a b (x:=c) rfl (L3 (U7 a b (x:=d) rfl (L3 (U7 a b (x:=.none) rfl (M7 ?_)))))));refine L3 (slicePart_none ?_);show wpAny _ _ (if((1:Int)==0)=true then _ else _) _ _ s;rw[if_neg (by decide)];refine L3 (zU pl (L3 (zU f (L3 (M7 ?_)))));show wpAny _ _ (match Builtin.Slice.sliceAdjust lo hi 1 (n:Int) with | (lo,hi)=>pure (lo,(1:Int),Builtin.Slice.slicePlaces lo hi 1)) _ _ s;rw[jcu lo hi n];show wpAny _ _ (pure (((sIx n 0 lo:Nat):Int),(1:Int),Builtin.Slice.slicePlaces ((sIx n 0 lo:Nat):Int) ((sIx n n hi:Nat):Int) 1)) _ _ s;rw[jcd];exact M7 h
theorem jfp(xs:Array Value)(i k:Nat):((List.range k).filterMap λ(m:Nat)=>xs[((i:Int)+(m:Int)*1).toNat]?).toArray=((xs.toList.drop i).take k).toArray:=by
 have e:(λ(m:Nat)=>xs[((i:Int)+(m:Int)*1).toNat]?)=λm=>xs[i+m]?:=by
  funext m
  have:((i:Int)+(m:Int)*1).toNat=i+m:=by omega
  rw[this]
 rw[e];have:=pick_run xs i k;rw[List.filterMap_map] at this;have a:((λx=>xs[x]?) ∘ λx=>i+x)=λm=>xs[i+m]?:=rfl;rw[a] at this;rw[this]
theorem getItem_tuple_cut{t sl:Addr}{a:Array Value}{i j:Value}{lo hi:Option Int}{Q:Value->Shared->Prop}(c:IsTup s.heap t a)(k:s.heap.IsSliceOf sl i j .none)(pl:IsPart i lo)(l:IsPart j hi)
  (n:¬ (sIx a.size 0 lo=0/\sIx a.size a.size hi=a.size))
  (h:Q (.ref s.heap.objs.size) { s with heap:=s.heap.push { cls:=.type "tuple",data:=.seq ((a.toList.drop (sIx a.size 0 lo)).take (sIx a.size a.size hi - sIx a.size 0 lo)).toArray } })
  (o:a.size<=sizeLine):wpAny (model prog w) A (getItem (.ref t) (.ref sl)) Q E s:=by
 have b:sizeOk (.seq ((a.toList.drop (sIx a.size 0 lo)).take (sIx a.size a.size hi - sIx a.size 0 lo)).toArray):=by
  show((a.toList.drop (sIx a.size 0 lo)).take (sIx a.size a.size hi - sIx a.size 0 lo)).toArray.size<=sizeLine;rw[N4,List.length_take,List.length_drop,Array.length_toList];omega
 have r:sIx a.size a.size hi<=a.size:=sIx_le _ _ (M9 _) hi;obtain⟨os,d,e,p⟩:=id k;have f:s.TypeIs (.ref sl) "slice":=⟨os,d,e⟩;unfold getItem
 try with_reducible refine wpAny_holding ?_
 first | refine L3 (M7 ?_) | skip
 refine L3 (wpAny_sequenceKey c.typeIs (by decide) ?_);refine L3 (wpAny_callSpecial?_slot (name:=Str.ofString "__getitem__") c.typeIs PyProof.Rows.slot_tuple_getitem
  (wpAny_call_entry PyProof.Rows.slot_tuple_getitem c.typeIs entry_tuple_getitem ?_ (args_tuple_getitem _ _)))
 show wpAny _ _ (Builtin.Tuple.tupleItemsOf (.ref t) >>= _) _ _ s;refine L3 (tupleItemsOf_ c ?_);refine L3 (wpAny_typeOf f ?_);rw[if_pos (by decide)];refine L3 (KZ k pl l ?_);have g:¬ ((((sIx a.size 0 lo:Nat):Int)==0&&(1:Int)==1&&(sIx a.size a.size hi - sIx a.size 0 lo)==a.size)=true):=by
  intro q;rw[M0,M0] at q;have u:((sIx a.size 0 lo:Nat):Int)=0:=eq_of_beq q.1.1;have v:sIx a.size a.size hi - sIx a.size 0 lo=a.size:=eq_of_beq q.2;exact n ⟨by omega,by omega⟩
 show wpAny _ _ (if(((sIx a.size 0 lo:Nat):Int)==0&&(1:Int)==1&&(sIx a.size a.size hi - sIx a.size 0 lo)==a.size)=true then _ else _) _ _ s;rw[if_neg g,jfp]
 first
  | exact L3 (m:=Builtin.Tuple.tupleExact _) (wpAny_newObj_type (M7 ⟨_,rfl,M7 h⟩) b)
  | exact L3 (m:=Builtin.Tuple.tupleExact _) (wpAny_newObj_type (L3 (M7 (M7 ⟨_,rfl,M7 h⟩))) b)
  | exact L3 (L3 (m:=Builtin.Tuple.tupleExact _) (wpAny_newObj_type (M7 (M7 ⟨_,rfl,M7 h⟩)) b))
  | exact L3 (L3 (m:=Builtin.Tuple.tupleExact _) (wpAny_newObj_type (M7 ⟨_,rfl,M7 h⟩) b))
end
end HT
namespace L2
open PySem PySem.Spec PyProof.Rows
noncomputable abbrev TO:=St->Hp->(Option Int->Hp->Prop)->Prop
def PO(X:Cx)(e:Option Expr)(t:TO):Prop :=
 ∀(pins:List (Addr×Obj)) (s:Shared) (σ:St) (H:Hp) (Q:Option Int->Hp->Prop),Inv X pins σ H s->t σ H Q ->
  wpAny (model X.prog X.w) X.A (evalPart e X.env) (λu s'=>∃ o H',Inv X pins σ H' s'/\IsPart u o/\Q o H') X.xe s
noncomputable def jaf:TO:=λ_ H Q=>Q none H
noncomputable def jjh(t:TE):TO:=λσ H Q=>t σ H λx H1=>∃ i,x=.int i/\Q (some i) H1
section
variable {X:Cx}{e:Expr}{te:TE}{lo hi:Option Expr}{tl th:TO}{pos p2:Pos}
theorem jhn:PO X none jaf:=by
 intro a s σ H Q I h;rw[evalPart_none];exact M7 ⟨none,H,I,.none,h⟩
theorem jh6(h:PE X e te):PO X (some e) (jjh te):=by
 intro a s σ H Q I b;rw[evalPart_some];refine thn (h a s σ H _ I b) λu j ⟨x,c,d,f,g⟩=>?_;obtain⟨i,rfl,q⟩:=g;obtain⟨t,rfl⟩:=f;exact⟨some i,c,d,.int i t,q⟩
def SlR(X:Cx)(r:V->Option Int->Option Int->Hp->VK->Prop):Prop :=
 ∀(pins:List (Addr×Obj)) (s:Shared) (σ:St) (H:Hp) (x:V) (v vl vu:Value) (lo hi:Option Int) (sl:Addr) (Q:VK),Inv X pins σ H s->RelV x v->s.heap.IsSliceOf sl vl vu .none->IsPart vl lo->IsPart vu hi->r x lo hi H Q ->
  ∃ T id,typeLookup (.type T) "__getitem__" = pure (some (.builtin id))/\s.TypeIs v T/\wpAny (model X.prog X.w) X.A (getItem v (.ref sl)) (EP X pins σ Q) X.xe s
theorem SlR.or{r b:V->Option Int->Option Int->Hp->VK->Prop}(h:SlR X r)(h':SlR X b):SlR X (λx lo hi H Q=>r x lo hi H Q \/ b x lo hi H Q):=by
 intro a s σ H x v c d lo hi e Q I f g pl i q;rcases q with q | q
 ·exact h a s σ H x v c d lo hi e Q I f g pl i q
 ·exact h' a s σ H x v c d lo hi e Q I f g pl i q
noncomputable def tSl(r:V->Option Int->Option Int->Hp->VK->Prop)(te:TE)(tl th:TO):TE:=λσ H Q=>te σ H λx H1=>tl σ H1 λl H2=>th σ H2 λu H3=>r x l u H3 Q
theorem jfB{r:V->Option Int->Option Int->Hp->VK->Prop}(i:SlR X r)(j:PE X e te)(k:PO X lo tl)(m:PO X hi th):PE X (.Subscript e (.Slice lo hi none p2) pos) (tSl r te tl th):=by
 intro a s σ H Q I h;refine Subscript_ (thn (j a s σ H _ I h) λv n ⟨x,o,p,t,y⟩=>?_);refine wpAny_Slice (thn (k a n σ o _ p y) λd z ⟨l,B,C,pl,D⟩=>thn (m a z σ B _ C D) λf c ⟨u,g,E,F,G⟩=>?_);rw[evalPart_none];refine M7 ?_;have J:Inv X a σ g { c with heap:=c.heap.push { cls:=.type "slice",data:=.fields #[d,f,.none] } }:=E.kept (t':=c.toks) λb N q=>L8 _ q;obtain⟨T,id,K,L,M⟩:=i a { c with heap:=c.heap.push { cls:=.type "slice",data:=.fields #[d,f,.none] } } σ g x v d f l u c.heap.objs.size Q J t (Heap.IsSliceOf.new ..) pl F G;show wpAny (model X.prog X.w) X.A (subscriptTail e (.Slice lo hi none p2) v (.ref c.heap.objs.size)) (EP X a σ Q) X.xe { c with heap:=c.heap.push { cls:=.type "slice",data:=.fields #[d,f,.none] } };exact tail_any (ops:=[.ref c.heap.objs.size,v]) L K M (by with_unfolding_all rfl)
noncomputable def jgP(xs:List V)(lo hi:Option Int):List V:=(xs.drop (HT.sIx xs.length 0 lo)).take (HT.sIx xs.length xs.length hi - HT.sIx xs.length 0 lo)
theorem Qu(xs:List V)(lo hi:Option Int):(jgP xs lo hi).length<=xs.length:=by
 unfold jgP;rw[List.length_take,List.length_drop];omega
def jnN(K:PySem.W.Frag):V->Option Int->Option Int->Hp->VK->Prop:=λx lo hi H Q=>∃ a xs,x=.ref a/\SqT K H a xs /\
 ¬ (HT.sIx xs.length 0 lo=0/\HT.sIx xs.length xs.length hi=xs.length)/\∀ p,H p=none->Q (.ref p) (upd H p (.tup (jgP xs lo hi)))
theorem jkO:SlR X (jnN X.K):=by
 intro f s σ H x v p t d e u Q I j k pl l h;obtain⟨a,xs,rfl,m,n,q⟩:=h;cases j;obtain⟨its,r,g,i⟩:=I.tuple m;have c:its.toArray.size=xs.length:=by rw[N4];exact r.length.symm
 refine⟨"tuple",_,PyProof.Rows.slot_tuple_getitem.lookup,g.typeIs,?_⟩;refine HT.getItem_tuple_cut g k pl l (by rw[c];exact n) ?_ (by rw[c];exact i);rw[c];refine⟨.ref s.heap.objs.size,_,I.laid (t':=s.toks) (o:=.tup (jgP xs d e)) (λb w q=>L8 _ q) (M9 _) ?_,rfl,q _ (I.hok.fresh (M9 _))⟩;exact⟨N8 (Qu xs d e) i,_,(r.drop (HT.sIx xs.length 0 d)).take (HT.sIx xs.length xs.length e - HT.sIx xs.length 0 d),IsTupN.new _ _⟩
noncomputable def jkS(K:PySem.W.Frag):R2:=λx y H Q=>∃ a b xs ys,x=.ref a/\y=.ref b/\SqT K H a xs/\SqT K H b ys/\xs≠[]/\xs.length+ys.length<=sizeLine /\
 (ys=[]->Q (.ref a) H)/\(ys≠[]->∀ p,H p=none->Q (.ref p) (upd H p (.tup (xs++ys))))
theorem Vals.nil_iff{xs:List V}{us:List Value}(r:Vals xs us):us=[]↔xs=[]:=by
 cases r with
 | nil=>simp
 | cons _ _=>simp
theorem jhV:OpR X (binaryOp .Add) (jkS X.K):=by
 intro e s σ H x y v u Q I i j h;obtain⟨a,b,xs,k,rfl,rfl,l,m,n,f,p,r⟩:=h;cases i;cases j;obtain⟨its,d,p1,_⟩:=I.tuple l;obtain⟨g,c,p2,_⟩:=I.tuple m;refine HT.cat_tup p1 p2 (λz=>n (d.nil_iff.mp z)) (λz=>⟨.ref a,H,I,rfl,p (c.nil_iff.mp z)⟩) (λz=>?_) (by rw[<- d.length,<- c.length];exact f);refine⟨.ref s.heap.objs.size,_,I.laid (t':=s.toks) (o:=.tup (xs++k)) (λb t q=>L8 _ q) (M9 _) ?_,rfl,r (λw=>z (c.nil_iff.mpr w)) _ (I.hok.fresh (M9 _))⟩;exact⟨by rw[N5];exact f,_,d.append c,IsTupN.new _ _⟩
end
noncomputable def ixN(n:Nat)(i:Int):Option Nat:=if 0<=i then(if i < n then some i.toNat else none) else if -(n:Int)<=i then some (i+n).toNat else none
noncomputable def atI{α:Type}(xs:List α)(i:Int):Option α:=(ixN xs.length i).bind λj=>xs[j]?
theorem jaw{n:Nat}{i:Int}{j:Nat}(h:ixN n i=some j):seqIndex? i n=some j/\j < n/\-(n:Int)<=i/\i < n:=by
 unfold ixN at h;by_cases b:0<=i
 ·rw[if_pos b] at h;by_cases a:i < n
  ·rw[if_pos a] at h;have e:i.toNat=j:=X4 h;exact⟨by rw[seqIndex_of b a,e],by omega,by omega,a⟩
  ·rw[if_neg a] at h;cases h
 ·rw[if_neg b] at h;by_cases a:-(n:Int)<=i
  ·rw[if_pos a] at h;have e:(i+n).toNat=j:=X4 h;exact⟨by rw[seqIndex_neg (by omega) a,e],by omega,a,by omega⟩
  ·rw[if_neg a] at h;cases h
theorem jaq{α:Type}{xs:List α}{i:Int}{v:α}(h:atI xs i=some v):∃ j,seqIndex? i xs.length=some j/\xs[j]?=some v/\j < xs.length/\-(xs.length:Int)<=i/\i < xs.length:=by
 unfold atI at h;cases e:ixN xs.length i with
 | none=>rw[e] at h;cases h
 | some j =>
  rw[e] at h;obtain⟨a,b,c,d⟩:=jaw e;exact⟨j,a,h,b,c,d⟩
def Q9(b:Expr):Prop:=∀ o i,subscripted b false o i=operate [o,i] (getItem o i)
def IxR(X:Cx)(r:R2):Prop :=
 ∀(value slice:Expr) (pins:List (Addr×Obj)) (s:Shared) (σ:St) (H:Hp) (x y:V) (v u:Value) (Q:VK),Inv X pins σ H s->RelV x v->RelV y u->r x y H Q ->
  subscripted slice false v u=operate [v,u] (getItem v u)->wpAny (model X.prog X.w) X.A (subscriptTail value slice v u) (EP X pins σ Q) X.xe s
def MtR(X:Cx)(id:String)(r:V->List V->Hp->VK->Prop):Prop :=
 ∀(pins:List (Addr×Obj)) (s:Shared) (σ:St) (H:Hp) (x:V) (xs:List V) (v:Value) (us:List Value) (Q:VK),Inv X pins σ H s->RelV x v->Vals xs us->r x xs H Q ->
  wpAny (model X.prog X.w) X.A (call (.builtin id) (v::us)) (EP X pins σ Q) X.xe s
section
variable {X:Cx}{a b:Expr}{ta tb:TE}{pos:Pos}
theorem IxR.or{r b:R2}(h:IxR X r)(h':IxR X b):IxR X (λx y H Q=>r x y H Q \/ b x y H Q):=by
 intro value slice a s σ H x y v u Q I c d q e;rcases q with q | q
 ·exact h value slice a s σ H x y v u Q I c d q e
 ·exact h' value slice a s σ H x y v u Q I c d q e
theorem jiL{r:R2}(d:IxR X r)(e:PE X a ta)(f:PE X b tb)(g:Q9 b):PE X (.Subscript a b pos) (tOp r ta tb):=by
 intro c s σ H Q I h;exact Subscript_ (jmZ e f I h λv u i x y j k l m q=>d a b c i σ j x y v u Q k l m q (g _ _))
noncomputable def jnI(K:PySem.W.Frag):R2:=λx y H Q=>∃ p xs i v,x=.ref p/\y=.int i/\SqL K H p xs/\atI xs i=some v/\Q v H
noncomputable def jnO(K:PySem.W.Frag):R2:=λx y H Q=>∃ p xs i v,x=.ref p/\y=.int i/\SqT K H p xs/\atI xs i=some v/\Q v H
noncomputable def jnP:R2:=λx y H Q=>∃ z i c,x=.str z/\y=.int i/\z.length<=sizeLine/\atI z.cps.toList i=some c/\Q (.str ⟨#[c]⟩) H
theorem ix_list:IxR X (jnI X.K):=by
 intro value slice a s σ H x y v u Q I l m h f;obtain⟨p,xs,i,z,rfl,rfl,n,o,q⟩:=h;cases l;obtain⟨t,rfl⟩:=m;obtain⟨its,r,pl,F⟩:=I.list n;obtain⟨j,c,A,G,B,C⟩:=jaq o;obtain⟨w,g,d⟩:=r.get A;have D:=r.length;have J:=uF;have b:EP X a σ Q w s:=⟨z,H,I,d,q⟩;by_cases k:0<=i
 ·have e:i.toNat=j:=by
   rw[seqIndex_of k C] at c;exact X4 c
  exact item_listR pl.isList k (by omega) (by rw[e];simpa using g) b f
 ·have e:(i+(its.toArray.size:Int)).toNat=j:=by
   rw[seqIndex_neg (by omega) B] at c;rw[N4,<- D];exact X4 c
  exact subscriptTail_builtinR (x:=w) pl.isList.typeIs slot_list_getitem.lookup
   (wpAny_getItem_list_neg (Q:=λr E=>r=w/\EP X a σ Q r E) pl.isList (by omega) (by rw[N4]<;>omega) (by omega) (by rw[e];simpa using g) ⟨rfl,b⟩) f
theorem ix_tup:IxR X (jnO X.K):=by
 intro value slice a s σ H x y v u Q I d e h f;obtain⟨p,xs,i,z,rfl,rfl,g,k,q⟩:=h;cases d;obtain⟨t,rfl⟩:=e;obtain⟨its,r,pl,B⟩:=I.tuple g;obtain⟨j,l,m,C,D,E⟩:=jaq k;obtain⟨w,n,b⟩:=r.get m;have o:=r.length;have F:=uF;have c:EP X a σ Q w s:=⟨z,H,I,b,q⟩;exact subscriptTail_builtinR (x:=w) pl.typeIs slot_tuple_getitem.lookup
  (getItem_tuple (j:=j) (Q:=λr A=>r=w/\EP X a σ Q r A) pl (by omega) (by omega) (by rw[N4,<- o];exact l) (by simpa using n) ⟨rfl,c⟩) f
theorem jlp:IxR X jnP:=by
 intro value slice a s σ H x y v u Q I d e h f;obtain⟨z,i,c,rfl,rfl,r,g,q⟩:=h;obtain⟨t,rfl⟩:=d;obtain⟨w,rfl⟩:=e;obtain⟨j,b,k,A,l,m⟩:=jaq g;have n:z.cps.toList.length=z.length:=by simp[Str.length]
 rw[n] at b l m;have B:=uF;exact tail_any (typeIs_str s z t) slot_str_getitem.lookup (getItem_str (c:=c) (by
  have o:decide (i < -(2 ^ 63:Int))=false:=X2 (by omega);have p:decide (i ≥ 2 ^ 63)=false:=X2 (by omega);rw[o,p,Bool.or_false]) (by rw[b];simpa using k) ⟨.str ⟨#[c]⟩,H,I.tok _,⟨_,rfl⟩,q⟩) f
noncomputable def rIx(K:PySem.W.Frag):R2:=λx y H Q=>jnI K x y H Q \/ jnO K x y H Q \/ jnP x y H Q
theorem jdL:IxR X (rIx X.K):=ix_list.or (ix_tup.or jlp)
theorem jbP(its:List Value)(n j:Nat)(u:Value):Obj.mapSeq (·.setIfInBounds j u) { cls:=.type "list",data:=.seq its.toArray n }={ cls:=.type "list",data:=.seq (its.set j u).toArray n }:=by
 simp[Obj.mapSeq]
theorem Inv.lst{pins:List (Addr×Obj)}{σ:St}{H:Hp}{s:Shared}{p:Addr}{xs:List V}(I:Inv X pins σ H s)(h:H p=some (.lst xs)) :
  ∃(its:List Value) (n:Nat),Vals xs its/\s.heap.get? p=some { cls:=.type "list",data:=.seq its.toArray n }/\xs.length<=sizeLine:=by
 obtain⟨z,its,n,r,e⟩:=I.hok p _ h;exact⟨its,n,r,e,z⟩
theorem Inv.lstUpd{pins:List (Addr×Obj)}{σ:St}{H:Hp}{s:Shared}{p:Addr}{xs ys:List V}{its its':List Value}{n a:Nat}{f:Obj->Obj}(I:Inv X pins σ H s)(h:H p=some (.lst xs))
  (d:s.heap.get? p=some { cls:=.type "list",data:=.seq its.toArray n }) (c:f { cls:=.type "list",data:=.seq its.toArray n }={ cls:=.type "list",data:=.seq its'.toArray a }) (r:Vals ys its') (hz:ys.length<=sizeLine) (t:Nat) :
  Inv X pins σ (upd H p (.lst ys)) { s with heap:=s.heap.update p f,toks:=t }:=by
 have e:(s.heap.update p f).get? p=some { cls:=.type "list",data:=.seq its'.toArray a }:=by
  rw[Heap.get?_update_self f d (by rw[c]<;>rfl),c]
 refine I.write (x:=p) (e:=p) (by rw[h];trivial) (.inl rfl) (λb u g q=>(Heap.get?_update_other _ _ (Ne.symm g)).trans q) ⟨_,e⟩ ?_;exact⟨hz,its',a,r,e⟩
def jh1:V->V->V->Hp->(Hp->Prop)->Prop:=λo i v H Q=>∃ p xs k j,o=.ref p/\i=.int k/\H p=some (.lst xs)/\ixN xs.length k=some j/\Q (upd H p (.lst (xs.set j v)))
theorem jfL:jnR X jh1:=by
 intro a s σ H o i v C D u Q I x y z h;obtain⟨p,xs,k,j,rfl,rfl,f,A,q⟩:=h;cases x;obtain⟨t,rfl⟩:=y;obtain⟨its,n,r,c,B⟩:=I.lst f;obtain⟨b,E,g,l⟩:=jaw A;have d:=r.length;have F:=uF;have m:Inv X a σ (upd H p (.lst (xs.set j v))) { s with heap:=s.heap.update p (Obj.mapSeq (·.setIfInBounds j u)) } :=
  I.lstUpd f c (jbP its n j u) (r.set z j) (by rw[List.length_set];exact B) s.toks
 by_cases w:0<=k
 ·have e:k.toNat=j:=by
   rw[seqIndex_of w l] at b;exact X4 b
  exact PySem.W.ki_setAt c w (by omega) (by rw[N4,<- d];exact l) (by rw[e];exact⟨_,m,q⟩)
 ·have e:(k+(its.toArray.size:Int)).toNat=j:=by
   rw[seqIndex_neg (by omega) g] at b;rw[N4,<- d];exact X4 b
  exact PySem.W.ki_setBack c (by omega) (by rw[N4,<- d];exact g) (by omega) (by rw[e];exact⟨_,m,q⟩)
theorem wv(lo hi:Option Int)(n:Nat):(sliceBounds lo hi none n).1=((HT.sIx n 0 lo:Nat):Int)/\(sliceBounds lo hi none n).2.1=((HT.sIx n n hi:Nat):Int)/\(sliceBounds lo hi none n).2.2=1:=by
 refine⟨?_,?_,rfl⟩
 ·cases lo with
  | none=>simp[sliceBounds,HT.sIx]
  | some i =>
   simp only[sliceBounds,HT.sIx,Option.getD_none,show(1:Int) > 0 by decide,if_true];by_cases h:i < 0
   ·simp only[h,if_true]<;>omega
   ·simp only[h,if_false]<;>omega
 ·cases hi with
  | none=>simp[sliceBounds,HT.sIx]
  | some i =>
   simp only[sliceBounds,HT.sIx,Option.getD_none,show(1:Int) > 0 by decide,if_true];by_cases h:i < 0
   ·simp only[h,if_true]<;>omega
   ·simp only[h,if_false]<;>omega
theorem xG(its:List Value)(lo hi:Option Int):slicePick its.toArray lo hi none=((its.drop (HT.sIx its.length 0 lo)).take (HT.sIx its.length its.length hi - HT.sIx its.length 0 lo)).toArray:=by
 obtain⟨a,b,c⟩:=wv lo hi its.toArray.size;unfold slicePick;rw[a,b,c];simp only[sliceRange_one,pick_run,N4]<;>rfl
def jnU(K:PySem.W.Frag):V->Option Int->Option Int->Hp->VK->Prop:=λx lo hi H Q=>∃ a xs,x=.ref a/\SqL K H a xs/\∀ p,H p=none->Q (.ref p) (upd H p (.lst (jgP xs lo hi)))
theorem jiM:SlR X (jnU X.K):=by
 intro f s σ H x v n p d e t Q I i j pl k h;obtain⟨a,xs,rfl,l,q⟩:=h;cases i;obtain⟨its,r,g,m⟩:=I.list l;have c:=r.length;refine⟨"list",_,slot_list_getitem.lookup,g.isList.typeIs,?_⟩;refine wpAny_getItem_list_slice g.isList j pl k .none (by simp) ?_ (by rw[N4]<;>omega);rw[xG,<- c];refine⟨.ref s.heap.objs.size,_,I.laid (t':=s.toks) (o:=.lst (jgP xs d e)) (λb u q=>L8 _ q) (M9 _) ?_,rfl,q _ (I.hok.fresh (M9 _))⟩;exact⟨N8 (Qu xs d e) m,_,0,(r.drop (HT.sIx xs.length 0 d)).take (HT.sIx xs.length xs.length e - HT.sIx xs.length 0 d),X7 _ rfl⟩
noncomputable def Q6:V->Bool
 | .non=>true
 | .bl _=>true
 | .int _=>true
 | .str _=>true
 | _=>false
noncomputable def eqV:V->V->Bool
 | .non,.non=>true
 | .bl a,.bl b=>a==b
 | .bl a,.int b=>(if a then 1 else 0)==b
 | .int a,.bl b=>a==(if b then 1 else 0)
 | .int a,.int b=>a==b
 | .str a,.str b=>a==b
 | _,_=>false
theorem jlR{A:Around}{s:Shared}{y x:V}{u v:Value}(e:RelV y u)(c:RelV x v)(g:Q6 y=true)(f:Q6 x=true):SeqAt.EqAt A s u v (eqV y x):=by
 cases y with
 | non =>
  cases e;cases x with
  | non=>cases c;exact SeqAt.EqAt.same _
  | bl b=>cases c;exact SeqAt.EqAt.none_bool b
  | int b=>obtain⟨t,rfl⟩:=c;exact SeqAt.EqAt.none_int b t
  | str b=>obtain⟨t,rfl⟩:=c;exact SeqAt.EqAt.none_str b t
  | _=>exact absurd (show false=true from f) M4
 | bl a =>
  cases e;cases x with
  | non=>cases c;exact SeqAt.EqAt.bool_none a
  | bl b=>cases c;exact SeqAt.EqAt.bool_bool a b
  | int b=>obtain⟨t,rfl⟩:=c;exact SeqAt.EqAt.bool_int a b t
  | str b=>obtain⟨t,rfl⟩:=c;exact SeqAt.EqAt.bool_str a b t
  | _=>exact absurd (show false=true from f) M4
 | int a =>
  obtain⟨d,rfl⟩:=e;cases x with
  | non=>cases c;exact SeqAt.EqAt.int_none a d
  | bl b=>cases c;exact SeqAt.EqAt.int_bool a d b
  | int b=>obtain⟨t,rfl⟩:=c;exact SeqAt.EqAt.int_int a d b t
  | str b=>obtain⟨t,rfl⟩:=c;exact SeqAt.EqAt.int_str a d b t
  | _=>exact absurd (show false=true from f) M4
 | str a =>
  obtain⟨d,rfl⟩:=e;cases x with
  | non=>cases c;exact SeqAt.EqAt.str_none a d
  | bl b=>cases c;exact SeqAt.EqAt.str_bool a d b
  | int b=>obtain⟨t,rfl⟩:=c;exact SeqAt.EqAt.str_int a d b t
  | str b=>obtain⟨t,rfl⟩:=c;exact SeqAt.EqAt.str_str a d b t
  | _=>exact absurd (show false=true from f) M4
 | _=>exact absurd (show false=true from g) M4
noncomputable def eqU(x:V)(u:Value):Bool:=match u with
 | .none=>eqV .non x
 | .bool b=>eqV (.bl b) x
 | .int i _=>eqV (.int i) x
 | .str z _=>eqV (.str z) x
 | _=>false
theorem jgB{x y:V}{u:Value}(r:RelV y u)(f:Q6 y=true):eqU x u=eqV y x:=by
 cases y with
 | non=>cases r;rfl
 | bl b=>cases r;rfl
 | int i=>obtain⟨t,rfl⟩:=r;rfl
 | str z=>obtain⟨t,rfl⟩:=r;rfl
 | _=>exact absurd (show false=true from f) M4
theorem Q2{x:V}:∀{xs:List V}{us:List Value},Vals xs us->xs.all Q6=true->us.any (eqU x)=xs.any λy=>eqV y x
 | _,_,.nil,_=>rfl
 | y::xs,u::us,.cons r t,f=>by
  rw[List.all_cons,M0] at f;rw[List.any_cons,List.any_cons,jgB r f.1,Q2 t f.2]
theorem VW{A:Around}{s:Shared}{x:V}{v:Value}(b:RelV x v)(c:Q6 x=true):∀{xs:List V}{us:List Value},Vals xs us->xs.all Q6=true->∀ u∈us,SeqAt.EqAt A s u v (eqU x u)
 | _,_,.nil,_=>λu a=>by cases a
 | y::xs,u::us,.cons r t,f=>λd a=>by
  rw[List.all_cons,M0] at f;rcases M5.mp a with rfl | a
  ·rw[jgB r f.1];exact jlR r b f.1 c
  ·exact VW b c t f.2 d a
noncomputable def inV(x:V)(xs:List V):Bool:=xs.any λy=>eqV y x
noncomputable def rIn(K:PySem.W.Frag)(neg:Bool):R2:=λx y H Q=>∃ p xs,y=.ref p/\(SqL K H p xs \/ SqT K H p xs)/\Q6 x=true/\xs.all Q6=true/\Q (.bl (if neg then !inV x xs else inV x xs)) H
theorem jeG:OpR X (compareOp .In) (rIn X.K false):=by
 intro c s σ H x y v u Q I d f h;obtain⟨p,xs,rfl,a,e,fs,q⟩:=h;cases f;rcases a with a | a
 ·obtain⟨its,r,pl,g⟩:=I.list a;refine SeqAt.in_listAt (eqU x) pl.isList (λw b=>VW d e r fs w (by simpa using b)) ⟨.bl _,H,I,rfl,?_⟩;rw[show its.toArray.any (eqU x)=its.any (eqU x) by simp,Q2 r fs];exact q
 ·obtain⟨its,r,pl,g⟩:=I.tuple a;refine SeqAt.in_tupleAt (eqU x) pl (λw b=>VW d e r fs w (by simpa using b)) ⟨.bl _,H,I,rfl,?_⟩;rw[show its.toArray.any (eqU x)=its.any (eqU x) by simp,Q2 r fs];exact q
theorem uz:OpR X (compareOp .NotIn) (rIn X.K true):=by
 intro c s σ H x y v u Q I d f h;obtain⟨p,xs,rfl,a,e,fs,q⟩:=h;cases f;rcases a with a | a
 ·obtain⟨its,r,pl,g⟩:=I.list a;refine SeqAt.notIn_listAt (eqU x) pl.isList (λw b=>VW d e r fs w (by simpa using b)) ⟨.bl _,H,I,rfl,?_⟩;rw[show its.toArray.any (eqU x)=its.any (eqU x) by simp,Q2 r fs];exact q
 ·obtain⟨its,r,pl,g⟩:=I.tuple a;refine SeqAt.notIn_tupleAt (eqU x) pl (λw b=>VW d e r fs w (by simpa using b)) ⟨.bl _,H,I,rfl,?_⟩;rw[show its.toArray.any (eqU x)=its.any (eqU x) by simp,Q2 r fs];exact q
theorem CallR.or{f:Value}{r b:List V->Hp->VK->Prop}(h:CallR X f r)(h':CallR X f b):CallR X f (λxs H Q=>r xs H Q \/ b xs H Q):=by
 intro a s σ H xs c Q I d q;rcases q with q | q
 ·exact h a s σ H xs c Q I d q
 ·exact h' a s σ H xs c Q I d q
theorem VR:CallR X (.type "tuple") (λxs H Q=>∃ p ys,xs=[.ref p]/\((SqL X.K H p ys/\∀ l,H l=none->Q (.ref l) (upd H l (.tup ys))) \/ (SqT X.K H p ys/\Q (.ref p) H))):=by
 intro a s σ H xs n Q I r h;obtain⟨p,ys,rfl,h⟩:=h;obtain⟨u,rfl,k⟩:=jhh r;cases k;rcases h with⟨d,q⟩ | ⟨d,q⟩
 ·obtain⟨its,f,pl,g⟩:=I.list d;have i:=f.length;refine call_tuple_list pl.isList (λc kp=>?_) (by simp only[N4]<;>omega);have j:Inv X a σ H { s with heap:=c }:=I.kept (t':=s.toks) kp;have m:Inv X a σ (upd H c.objs.size (.tup ys)) { s with heap:=c.push { cls:=.type "tuple",data:=.seq its.toArray } } :=
   j.laid (t':=s.toks) (λb o e=>L8 _ e) (M9 _) (show ObjOk X.prog X.w _ _ _ (.tup ys) from⟨g,its,f,IsTupN.new _ _⟩)
  exact⟨.ref c.objs.size,_,m,rfl,q _ (j.hok.fresh (M9 _))⟩
 ·obtain⟨its,f,pl,g⟩:=I.tuple d;exact call_tuple_same pl ⟨.ref p,H,I,rfl,q⟩
def tyV(K:PySem.W.Frag)(T:String)(x:V)(H:Hp):Prop:=match x with
 | .str _=>T = "str"
 | .int _=>T = "int"
 | .ref p=>(T = "list"/\∃ xs,SqL K H p xs) \/ (T = "tuple"/\∃ o,K.lookup p=some o/\o.cls=.type "tuple"/\o.dict=none) \/
   (T = "dict"/\((∃ kvs,H p=some (.dK kvs)) \/ ∃ kvs,H p=some (.dT kvs))) \/ (T = "set"/\∃ S n,H p=some (.set S n))
 | _=>False
theorem jlB{pins:List (Addr×Obj)}{σ:St}{H:Hp}{s:Shared}{T:String}{x:V}{v:Value}(I:Inv X pins σ H s)(r:RelV x v)(ty:tyV X.K T x H) :
  s.TypeIs v T/\∀ a,v=.ref a->∃ ob,s.heap.get? a=some ob/\ob.dict=none:=by
 cases x with
 | str z =>
  obtain⟨t,rfl⟩:=r;cases(show T = "str" from ty);exact⟨typeIs_str s z t,λ_ e=>nomatch e⟩
 | int i =>
  obtain⟨t,rfl⟩:=r;cases(show T = "int" from ty);exact⟨typeIs_int s i t,λ_ e=>nomatch e⟩
 | ref p =>
  cases r;rcases ty with⟨rfl,xs,g⟩ | ⟨rfl,o,b,h,hd⟩ | ⟨rfl,b⟩ | ⟨rfl,S,n,b⟩
  ·obtain⟨its,_,pl,_⟩:=I.list g;refine⟨pl.isList.typeIs,λa e=>?_⟩;cases e;obtain⟨o,n,e,c,hd,_⟩:=pl;exact⟨o,e,hd⟩
  ·refine⟨⟨o,I.kIn p o b,h⟩,λa e=>?_⟩;cases e;exact⟨o,I.kIn _ o b,hd⟩
  ·have z:∃ o,s.heap.get? p=some o/\o.ExactDict:=by
    rcases b with⟨d,b⟩ | ⟨d,b⟩
    ·obtain⟨_,_,_,_,o,_,_,e,ex,_⟩:=I.hok p _ b;exact⟨o,e,ex⟩
    ·obtain⟨_,_,_,_,o,_,_,e,ex,_⟩:=I.hok p _ b;exact⟨o,e,ex⟩
   obtain⟨o,e,ex⟩:=z;refine⟨⟨o,e,ex.1⟩,λa f=>?_⟩;cases f;exact⟨o,e,ex.2.1⟩
  ·obtain⟨o,_,_,_,e,ex,_⟩:=I.hok p _ b;refine⟨⟨o,e,ex.1⟩,λa f=>?_⟩;cases f;exact⟨o,e,ex.2.1⟩
 | _=>exact False.elim ty
noncomputable def tBM(K:PySem.W.Frag)(T:String)(r:V->List V->Hp->VK->Prop)(to:TE)(t:TA):TE:=λσ H Q=>to σ H λx H1=>tyV K T x H1/\t σ H1 λxs H2=>r x xs H2 Q
variable {o e:Expr}{es:List Expr}{to:TE}{t:TA}{name:Str}{apos cpos:Pos}{T id:String}{r:V->List V->Hp->VK->Prop}
theorem jeA(pa:PlainAttrs T)(slot:Slot T name id)(g:typeOf (.builtin id)=pure (.type "method_descriptor"))(l:MtR X id r)(m:PE X o to)(n:PA X (e::es) t)
  (c:attributeBase o name X.env (eval o X.env)=eval o X.env:=by rfl)
  (f:((backTo cpos (starEach (e::es) X.env)).all (λx=>!x.1)&&(backToKw cpos (keywordEach [] X.env)).all (λx=>x.1.isSome)
   && decide ((e::es).length+([]:List Keyword).length+(if([]:List Keyword).isEmpty then 0 else 1) < 30))=true:=by rfl)
  (d:(apos.endLine==cpos.line)=true:=by rfl) (p:starEach (e::es) X.env=(false,eval e X.env)::starEach es X.env:=by rfl) (b:(backTo cpos (starEach es X.env)).any (·.1)=false:=by rfl) :
  PE X (.Call (.Attribute o name apos) (e::es) [] cpos) (tBM X.K T r to t):=by
 intro a s σ H Q I h;refine wpAny_Call_method_late c f d rfl (thn (m a s σ H _ I h) λv q ⟨x,u,i,j,ty,w⟩=>?_);obtain⟨y,z⟩:=jlB i j ty;refine⟨T,id,pa,slot,g,y,z,?_⟩;have k:=n cpos a q σ u _ i w;rw[p] at k ⊢;refine Calls.callWith_builtin (by show(false||(backTo cpos (starEach es X.env)).any (·.1))=false;rw[b]<;>rfl) (Calls.evalArgs_plain ?_);exact thn k λA B ⟨C,D,E,F,G⟩=>l a B σ D x C v A Q E j F G
end
def MtM(X:Cx)(id:String)(r:V->List V->Hp->VK->Prop):Prop :=
 ∀(pins:List (Addr×Obj)) (s:Shared) (σ:St) (H:Hp) (x:V) (xs:List V) (v:Value) (us:List Value) (Q:VK),Inv X pins σ H s->RelV x v->Vals xs us->r x xs H Q ->
  wpAny (model X.prog X.w) X.A (call (.builtin id) (v::us)) (EP X pins σ Q) X.xe s
theorem Vals.one:∀{x:V}{us:List Value},Vals [x] us->∃ u,us=[u]/\RelV x u
 | _,_,.cons r .nil=>⟨_,rfl,r⟩
theorem Vals.two:∀{x y:V}{us:List Value},Vals [x,y] us->∃ u v,us=[u,v]/\RelV x u/\RelV y v
 | _,_,_,.cons r (.cons q .nil)=>⟨_,_,rfl,r,q⟩
section
variable {X:Cx}{pins:List (Addr×Obj)}{σ:St}{H:Hp}{s:Shared}{l b:Addr}{xs ys zs:List V}
theorem Inv.lset{its its':List Value}{n:Nat}{f:Array Value->Array Value}{t':Nat}(I:Inv X pins σ H s)(a:H l=some (.lst xs))
  (e:s.heap.get? l=some { cls:=.type "list",data:=.seq its.toArray n }) (b:f its.toArray=its'.toArray) (c:Vals ys its') (hz:ys.length<=sizeLine) :
  Inv X pins σ (upd H l (.lst ys)) { s with heap:=s.heap.update l (Obj.mapSeq f),toks:=t' }:=by
 have q:=PySem.IsL.update e f;rw[b] at q;refine I.write (x:=l) (e:=l) (by rw[a];exact trivial) (.inl rfl) (λb' u d g=>(Heap.get?_update_other s.heap (Obj.mapSeq f) (Ne.symm d)).trans g) ⟨_,q⟩ ?_;exact⟨hz,its',_,c,q⟩
theorem Inv.lnew{its:List Value}{t':Nat}(I:Inv X pins σ H s)(a:Vals ys its)(hz:ys.length<=sizeLine) :
  Inv X pins σ (upd H s.heap.objs.size (.lst ys)) { s with heap:=s.heap.push { cls:=.type "list",data:=.seq its.toArray },toks:=t' } :=
 I.laid (λ_ _ q=>L8 _ q) (M9 _) ⟨hz,its,0,a,X7 _ rfl⟩
theorem Inv.fresh(I:Inv X pins σ H s):H s.heap.objs.size=none:=I.hok.fresh (M9 _)
theorem Inv.lstM(I:Inv X pins σ H s)(a:H l=some (.lst xs)):xs.length<=sizeLine/\∃(its:List Value) (n:Nat),Vals xs its/\xs.length=its.length/\s.heap.get? l=some { cls:=.type "list",data:=.seq its.toArray n }:=by
 obtain⟨z,its,n,r,e⟩:=I.hok l _ a;exact⟨z,its,n,r,r.length,e⟩
theorem jbf{n:Nat}(h:n<=sizeLine):Builtin.List.listTooLong n=false:=by
 unfold Builtin.List.listTooLong;exact X2 (by omega)
end
section
variable {X:Cx}
def Qy:V->List V->Hp->VK->Prop:=λx vs H Q=>∃ l xs y,x=.ref l/\vs=[y]/\H l=some (.lst xs)/\xs.length < sizeLine/\Q .non (upd H l (.lst (xs++[y])))
theorem Vz:MtM X "list.append" Qy:=by
 intro a s σ H x g v i Q I c d h;obtain⟨l,xs,y,rfl,rfl,b,j,q⟩:=h;cases c;obtain⟨u,rfl,f⟩:=d.one;obtain⟨z,its,n,r,k,e⟩:=I.lstM b;refine call_meets F.slot_list_append ⟨_,e,rfl⟩ F.entry_list_append (F.args_list_append_2 _ _) (PySem.list_append l its.toArray n u (by rw[N4];omega)) ⟨e,?_⟩;refine⟨.non,_,I.lset (its':=its++[u]) b e (by simp) (r.append (.cons f .nil)) ?_,rfl,q⟩;rw[N5,List.length_singleton];omega
end
end L2
namespace Att
open PySem PySem.W PySem.Calls PyProof.Rows
theorem QY{P:Params}{h:Heap}:∀(ns:List Int) (vs:List Value),WellAll P h vs (ns.map WData.int)->IntsAre vs ns:=by
 intro ns
 induction ns with
 | nil =>
  intro vs w;rw[List.map_nil] at w;cases w;exact .nil
 | cons n ns c =>
  intro vs w;rw[L5] at w;cases w with
  | cons a b =>
   cases a;exact .cons _ _ (c _ b)
theorem script_of{l:OpenLaw}{n:Nat}(o:l.most=some n){P:Params}{h:Heap}{args:List WData}{b:List Value}
  (c:l.row.toRowW.claim.pre args=true) (j:WellAll P h b args) :
  ∃ a vs ns,b=[Value.ref a]/\args=[WData.list (ns.map WData.int)]/\h.get? a=some { cls:=.type "list",data:=.seq vs.toArray }/\IntsAre vs ns/\ns.length<=n:=by
 have k:WShape.hasAll [] args [.list .int]=true:=(pre_splitW c).1;have m:l.pre.holds [] { args:=args }=true:=(pre_splitW c).2;obtain⟨d,r,rfl,p,s⟩:=hasAllW_cons k;obtain rfl:=hasAllW_nil s;obtain⟨xs,rfl,t⟩:=hasW_list p;obtain⟨ns,rfl⟩:=items_int t;have e:ns.length<=n:=by
  unfold OpenLaw.pre at m;have g:(WTm.not (.lt (.lit (.int (n:Int))) (.len (.arg 0)))).holds [] { args:=[.list (ns.map .int)] }=true:=by
   have g:=(holds_andW m).1;rw[o] at g;exact g
  have i:=condW_of g (w_not (w_lt w_lit (w_len_list (w_arg rfl))));rw[L0] at i;refine Nat.le_of_not_lt λq=>?_;have u:(n:Int) < ((ns.length:Nat):Int):=by omega
  first
   | (rw[X1 u] at i;exact absurd i (by decide))
   | (simp at i;omega)
 cases j with
 | cons v w =>
  cases w;cases v with
  | list x f=>exact⟨_,_,ns,rfl,rfl,x,QY ns _ f,e⟩
theorem post_true(l:OpenLaw)(args:List WData):l.row.toRowW.claim.post args (.bool true) args=true :=
 postW_of (r:=l.row.toRowW) (X:=(true==true))
  (show WShape.has [] (.bool true) .bool=true by first | rfl | decide | simp[WShape.has,WShape.arms,WShape.armsAll])
  (show(WTm.eq .res (.lit (.bool true))).value [] { args:=args,res:=some (.bool true),after:=args }=some (.bool (true==true)) from w_eq_bool (w_res rfl) w_lit) rfl
end Att
namespace L2
open PySem PySem.Spec PyProof.Rows
theorem wS:∀{vs:List Value}{ns:List Int},IntsAre vs ns->Vals (ns.map V.int) vs
 | _,_,.nil=>.nil
 | _,_,.cons n t h=>.cons ⟨t,rfl⟩ (wS h)
def jm9(H:Hp):Prop:=∀ b,H b=none \/ ∃ o xs,H b=some (.frz o (.lst xs))
theorem jfz{P:Program}{w:World}{K:PySem.W.Frag}{mg I:Str->Option Value}{CX:CXT}{k:Nat}{fa a:Addr}{fd:FuncData}{x:Str}{sp:Sp}{c:Shared}{vs:List Value}{ns:List Int}
  (Q:K.In c.heap) (p:c.heap.Ns mainGlobals mg) (g:c.heap.Ns builtinsNs I) (J:∀ x:Str,x≠"__name__"->I x=bootBuiltins x) (t:c.heap.NoLimit) (Y:c.gens = #[])
  (G:c.heap.get? a=some { cls:=.type "list",data:=.seq vs.toArray }) (hi:IntsAre vs ns) (R:ns.length<=sizeLine) (Z:Room k callerA)
  (F:∀ base:Heap,K.In base->base.Ns mainGlobals mg->FnOk P w K mg base CX k fa fd [x] sp) (l:∀(s:Shared) (u:Value),BindsTo s fd ⟨[u],[]⟩ [(x,u)])
  (L:∀ H:Hp,jm9 H->SqL K H a (ns.map V.int)->sp [.ref a] H (λv _=>v=.bl true) λ_ _ _=>False)
  (M:∀ H e s',CX [] H c (λ_ _ _=>False) e s'->False) :
  codeAny (model P w) callerA (.call (.ref fa) ⟨[.ref a],[]⟩) (λr s'=>r=.ok (.ret (.bool true))/\OldK c.heap s'.heap/\s'.os=c.os/\AllBare s'.gens) c:=by
 have S:=wS hi;have y:=hi.length
 -- from an abstract heap in which nothing but the script may be tracked
 have j:∀ H:Hp,jm9 H->SqL K H a (ns.map V.int)->HOk P w H c.heap->(∀ b,H b≠none->b=a)->(H a≠none->K.lookup a=none) ->
   codeAny (model P w) callerA (.call (.ref fa) ⟨[.ref a],[]⟩) (λr s'=>r=.ok (.ret (.bool true))/\OldK c.heap s'.heap/\s'.os=c.os/\AllBare s'.gens) c:=by
  intro H T hS hok U hK;have f:∀{b:Addr}{o:Obj},c.heap.get? b=some o->H b=none->(jgb c.heap H).get? b=some o:=λe n=>jf7 e n;have N:∀{b:Addr}{o:Obj}{A:Array DictEntry}{B:Nat},c.heap.get? b=some o->o.data=.dict A B->H b=none:=λ{b o A B} e d=>by
   cases q:H b with
   | none=>rfl
   | some u =>
    have O:b=a:=U b (by rw[q];simp);subst O;rw[G] at e;cases e;have d':Data.seq vs.toArray _=Data.dict A B:=d;cases d'
  have i:∀{b:Addr}{m:Str->Option Value},c.heap.Ns b m->(jgb c.heap H).Ns b m:=λ{b m} ⟨o,A,B,e,d,r⟩=>⟨o,A,B,f e (N e d),d,r⟩;have C:K.In (jgb c.heap H):=λb o e=>f (Q b o e) (by
   cases q:H b with
   | none=>rfl
   | some u =>
    have O:b=a:=U b (by rw[q];simp);subst O;rw[hK (by rw[q];simp)] at e;cases e)
  have hM:Mod K mg (jgb c.heap H):=⟨C,i p,⟨I,i g,J⟩,let ⟨mc,h1,h2⟩:=t;⟨mc,i h1,h2⟩⟩;have e0:Env0 P w K mg (jgb c.heap H) callerA [] c H:=⟨rfl,hM,λb o e=>jiz e,Nat.le_of_eq (jcS _ _),trivial,λb g=>absurd (show b∈([]:List Addr) from g) (by simp),hok,.of_eq Y⟩;refine codeAny_mono ((F _ C (i p)).run callerA [] c H ⟨[.ref a],[]⟩ [.ref a] [.ref a] _ _ Z e0 (l c (.ref a)) (.cons rfl .nil) (L H T hS)) λr s' h=>?_;cases r with
  | error e=>exact(M H e s' h).elim
  | ok fl =>
   cases fl with
   | next=>exact False.elim h
   | brk=>exact False.elim h
   | cont=>exact False.elim h
   | ret u =>
    obtain⟨v,H',os,bare,un,D,r',q⟩:=h;have q':v=.bl true:=q;subst q';obtain rfl:u=Value.bool true:=r';refine⟨rfl,OldK.of_keep λb o e=>?_,os,bare⟩;cases q:H b with
    | none=>exact un.keep b o e q (by intro z;exact absurd (show b∈([]:List Addr) from z) (by simp)) (by simp)
    | some u =>
     rcases T b with z | ⟨ob,xs,z⟩
     ·rw[q] at z;cases z
     ·have z2:=un.frzs b ob _ z;obtain⟨X,_⟩:=hok b _ z;obtain⟨e2,_⟩:=D b _ z2;rw[e] at X;cases X;exact e2
 cases hk:K.lookup a with
 | some o =>
  -- the script is one of the module's own objects
  have e:=Q a o hk;rw[G] at e;cases e;refine j (λ_=>none) (λ_=>.inl rfl) (.inr ⟨_,vs.toArray,_,hk,rfl,rfl,rfl,by rw[N4,y];exact R,by simpa using S⟩) (λb u z=>by have E:(none:Option HO)=some u:=z;cases E) (λb z=>absurd rfl z) λz=>absurd rfl z
 | none =>
  refine j (λb=>if b=a then some (.frz { cls:=.type "list",data:=.seq vs.toArray } (.lst (ns.map V.int))) else none) (λb=>?_) (.inl (.inr ⟨{ cls:=.type "list",data:=.seq vs.toArray },if_pos rfl⟩)) (λb u z=>?_) (λb z=>?_) λ_=>hk
  ·by_cases g:b=a
   ·exact .inr ⟨_,_,if_pos g⟩
   ·exact .inl (if_neg g)
  ·by_cases g:b=a
   ·have E:=(if_pos g).symm.trans z;cases E;subst g;exact⟨G,by rw[L0];exact R,vs,_,S,G⟩
   ·have E:=(if_neg g).symm.trans z;cases E
  ·by_cases g:b=a
   ·exact g
   ·exact absurd (if_neg g) z
noncomputable def Kf(s:Stmt)(j:Nat):Stmt:=match s with
 | .ClassDef _ _ _ body _ _ _ _ _ _ _=>body.getD j (.Pass ⟨0,0,0,0⟩)
 | _=>.Pass ⟨0,0,0,0⟩
noncomputable def JE(s:Stmt):Arguments:=match s with
 | .FunctionDef _ a _ _ _ _ _ _ _ _=>a
 | _=>{ posonlyargs:=[],args:=[],vararg:=none,kwonlyargs:=[],kw_defaults:=[],kwarg:=none,defaults:=[] }
noncomputable def vC(s:Stmt):List Stmt:=match s with
 | .FunctionDef _ _ b _ _ _ _ _ _ _=>b
 | _=>[]
noncomputable def jh(s:Stmt):Scope:=match s with
 | .FunctionDef _ _ _ _ _ _ sc _ _ _=>sc
 | _=>{ kind:=.function,names:=[],isGenerator:=false,isCoroutine:=false }
noncomputable abbrev CX0:CXT:=λ_ _ _ _ _ _=>False
noncomputable abbrev E0:XK:=λ_ _ _=>False
theorem uY{X:Cx}:VM CX0 X E0:=λ_ _ _ _ _ _ _ h=>h.elim
structure Fun(K:PySem.W.Frag)(x qual:Str)(st:Stmt)(f:Addr)(fd:FuncData):Prop where
 ex:∃(oc:Value) (od:Option Addr) (kV doc pm:Value) (an:Option Addr) (cdv ct:Value) (osl:Array (Option Value)),
  fd=PySem.W.fnOf x qual (JE st) (vC st) (jh st) .none kV doc pm an cdv ct/\K.lookup f=some ⟨oc,od,.func fd,osl⟩/\PySem.W.codeIn K cdv qual=true
 kp:PySem.W.keepIn K (.ref f)=true
section
variable {P:Program}{w:World}{K:PySem.W.Frag}{mg:Str->Option Value}{base:Heap}
theorem Fun.ok{x qual:Str}{st:Stmt}{f:Addr}{fd:FuncData}{N ps:List Str}{k:Nat}{sp:Sp}(F:Fun K x qual st f fd)(S:FnScope N ps (jh st))(len:∀ vs H Q E,sp vs H Q E->vs.length=ps.length)
  (a:∀(cdv:Value) (A:Around) (outer:List Env) (s:Shared) (H:Hp) (vs:List V) (Q:VK) (E:XK),Room k (A.deeper (envOfC qual (jh st) s.heap.objs.size f cdv))->sp vs H Q E ->
   ∃ t,PSs (uP CX0 P w K mg base N qual (jh st) f cdv A outer s H E).nox (vC st) t/\t { nx:=λ_ H'=>Q .non H',rt:=Q } (start N vs) H):FnOk P w K mg base CX0 (k+1) f fd ps sp:=by
 obtain⟨j,od,kV,d,l,m,cdv,ct,e,rfl,g,b⟩:=F.ex;refine jk2 g b S len λA outer s H vs Q E i c=>?_;obtain⟨t,h,q⟩:=a cdv A outer s H vs Q E i c;exact⟨t,h.nox,q⟩
theorem Fun.binds{x qual:Str}{st:Stmt}{f:Addr}{fd:FuncData}{ps:List Str}(F:Fun K x qual st f fd)
  (h:∀(kV doc pm:Value) (an:Option Addr) (cdv ct:Value) (us:List Value),us.length=ps.length->bindArgs (PySem.W.fnOf x qual (JE st) (vC st) (jh st) .none kV doc pm an cdv ct) ⟨us,[]⟩=pure (ps.zip us)):Binds K fd ps []:=by
 obtain⟨c,od,kV,doc,pm,an,cdv,ct,a,rfl,d,b⟩:=F.ex;exact .all (h kV doc pm an cdv ct)
theorem uB{x qual:Str}{st:Stmt}{f:Addr}{oc:Value}{od an:Option Addr}{d:Array (Option Value)}{kV b pm a ct:Value}(l:K.lookup f=some ⟨oc,od,.func (PySem.W.fnOf x qual (JE st) (vC st) (jh st) .none kV b pm an a ct),d⟩)
  (c:PySem.W.codeIn K a qual=true) (k:PySem.W.keepIn K (.ref f)=true):Fun K x qual st f (PySem.W.fnOf x qual (JE st) (vC st) (jh st) .none kV b pm an a ct):=⟨⟨oc,od,kV,b,pm,an,a,ct,d,rfl,l,c⟩,k⟩
end
theorem jdd{n:Nat}(h:n<=1000):n < sizeLine:=Nat.lt_of_le_of_lt h (by decide)
section
variable {X:Cx}
theorem pv(i:Nat){x:Str}{pos:Pos}(b:X.N[i]?=some x:=by rfl)(c:Vis X.env.scope x:=by first | exact Or.inl rfl | exact Or.inr (Or.inl rfl) | exact Or.inr (Or.inr rfl))(hd:(x==("__debug__" : Str))=false:=by decide)
  (a:(x==("__classdict__" : Str))=false:=by decide):PE X (.Name x pos) (Yj i):=ui b c hd a
end
theorem jfG{A B:Prop}(h:B):if false=true then A else B:=by
 rw[if_neg M4];exact h
theorem jfE{A B:Prop}(h:A):if true=true then A else B:=by
 rw[if_pos rfl];exact h
theorem KN(I:Nat->Shared->Prop)
  (turn:∀ n s,I n s->wpAny (model prog w) A (pyNext it) (λr s₁=>match r with
   | none=>R (.ok .next) s₁
   | some v=>wpAny (model prog w) A (letOwnedTupleGo target it v) (λ_ s₁'=>wpAny (model prog w) A (assign target env v) (λ_ s₂ =>
     wpAny (model prog w) A (forIn ifs true λc r=>if r=true then do let ok <- isTrue c env (eval c env);pure (ForInStep.yield ok) else pure (ForInStep.yield r)) (λok s₃ =>
      if ok=true then wpAny (model prog w) A (eval elt env) (λx s₄ =>
       wpAny (model prog w) A (call (.builtin "list.append") [acc,x]) (λ_ s₅=>∃ m,m < n/\I m s₅) (λ_ _=>False) s₄) (λ_ _=>False) s₃
      else ∃ m,m < n/\I m s₃) (λ_ _=>False) s₂) (λ_ _=>False) s₁') (λ_ _=>False) s₁) (λ_ _=>False) s)
  (n:Nat) (h:I n s) :
  codeAny (model prog w) A (.compLoop (.ListComp elt [⟨target,iter,ifs,0⟩] scope pos) 0 it acc env) R s:=by
 have a:∀{α:Type}{t:Sem α}{Q:α->Shared->Prop}{E:Value->Shared->Prop}{s:Shared},wpAny (model prog w) A t Q (λ_ _=>False) s->wpAny (model prog w) A t Q E s :=
  λh=>wpAny_mono h (λ_ _ x=>x) λ_ _ z=>z.elim
 refine codeAny_loop rfl I (λn s f=>?_) n h;show wpAny _ A ((compTurn (.ListComp elt [⟨target,iter,ifs,0⟩] scope pos) 0 it acc env).onRaise (λx=>do noteFrame x env;theTreesLotGoes x)) _ _ s;refine wpAny_noted ?_;rw[compTurn_list];refine L3 (wpAny_standAt (L3 (thn (a (turn n s f)) λr s₁ d=>?_)));cases r with
 | none=>exact M7 d
 | some v =>
  refine L3 (thn (a d) λ_ s₁' b=>L3 (thn (a b) λ_ s₂ g=>L3 (thn (a g) λok s₃ e=>?_)));cases ok with
  | false=>exact M7 ⟨rfl,e⟩
  | true =>
   exact L3 (L3 (thn (a e) λx s₄ i=>L3 (thn (a i) λ_ s₅ j=>M7 (M7 ⟨rfl,j⟩))))
noncomputable def jbV(env:Env):List (Str×NameKind)->List (Str×Addr)->List (Str×Addr)
 | [],cs=>cs
 | (n,k)::r,cs=>jbV env r (if k==NameKind.free then(match env.cells.lookup n with | some a=>(n,a)::cs | none=>cs) else cs)
noncomputable def xf(scope:Scope)(env:Env):List (Str×Addr):=jbV env scope.names []
theorem jit:∀(l:List (Str×NameKind)) (cs:List (Str×Addr)),(∀ n k,(n,k)∈l->k=NameKind.free->∃ c,env.cells.lookup n=some c) ->
  (forIn (m:=Sem) l cs λx r=>match x with | (n,k)=>if k==NameKind.free then do let a <- cellOf env n;pure (ForInStep.yield ((n,a)::r)) else pure (ForInStep.yield r))=pure (jbV env l cs)
 | [],cs,_=>rfl
 | (n,k)::r,cs,h=>by
  rw[List.forIn_cons];by_cases b:(k==NameKind.free)=true
  ·obtain⟨c,j⟩:=h n k L7 (by simpa using b);have o:cellOf env n=pure c:=by unfold cellOf;rw[j]
   have d:=jit (env:=env) r ((n,c)::cs) λe f g i=>h e f (L6 _ g) i;simp only[b,if_true,o,pure_bind];rw[d]
   conv=>rhs;unfold jbV
   simp only[b,if_true,j]
  ·have d:=jit (env:=env) r cs λe f g i=>h e f (L6 _ g) i;simp only[b,if_false,pure_bind,Bool.false_eq_true];rw[d]
   conv=>rhs;unfold jbV
   simp only[b,if_false,Bool.false_eq_true]
theorem xj(h:∀ n k,(n,k)∈scope.names->k=NameKind.free->∃ c,env.cells.lookup n=some c):closureFor scope env=pure (xf scope env):=by
 have e:=jit (env:=env) scope.names [] h;unfold closureFor xf;show(forIn (m:=Sem) scope.names [] λx r=>match x with | (n,k)=>if k==NameKind.free then do let a <- cellOf env n;pure (ForInStep.yield ((n,a)::r)) else pure (ForInStep.yield r)) >>= (λb=>pure b)=_;rw[e,pure_bind]
theorem jgN:∀(l:List (Str×NameKind)) (cs:List (Str×Addr)),(x,c)∈jbV env l cs->(x,c)∈cs \/ env.cells.lookup x=some c
 | [],_,h=>.inl h
 | (n,k)::r,cs,h=>by
  unfold jbV at h;rcases jgN r _ h with z | z
  ·split at z
   ·split at z
    ·rename_i a b;rcases M5.mp z with e | e
     ·cases e;exact .inr b
     ·exact .inl e
    ·exact .inl z
   ·exact .inl z
  ·exact .inr z
theorem jdC:∀(l:List (Str×NameKind)) (cs:List (Str×Addr)),(x,c)∈cs->(x,c)∈jbV env l cs
 | [],_,h=>h
 | (n,k)::r,cs,h=>by
  unfold jbV;refine jdC r _ ?_;split
  ·split
   ·exact L6 _ h
   ·exact h
  ·exact h
theorem jgM(a:env.cells.lookup x=some c):∀(l:List (Str×NameKind)) (cs:List (Str×Addr)),(x,NameKind.free)∈l->(x,c)∈jbV env l cs
 | [],_,h=>nomatch h
 | (n,k)::r,cs,h=>by
  unfold jbV;rcases M5.mp h with e | e
  ·cases e;refine jdC r _ ?_;simp only[beq_self_eq_true,if_true,a];exact L7
  ·exact jgM a r _ e
theorem V1:∀{l:List (Str×β)}{c:β},(x,c)∈l->∃ d,l.lookup x=some d
 | (n,a)::r,c,h=>by
  rw[List.lookup_cons];cases e:x==n with
  | true=>exact⟨a,rfl⟩
  | false =>
   rcases M5.mp h with z | z
   ·cases z;simp at e
   ·exact V1 z
theorem JY(h:(xf scope env).lookup x=some c):env.cells.lookup x=some c:=by
 rcases jgN scope.names [] (PySem.mem_of_lookup h) with z | z
 ·exact nomatch z
 ·exact z
theorem wa(a:env.cells.lookup x=some c)(f:(x,NameKind.free)∈scope.names):(xf scope env).lookup x=some c:=by
 obtain⟨d,e⟩:=V1 (jgM a scope.names [] f);have b:(xf scope env).lookup x=some d:=e;rw[b,<- JY b,a]
theorem kf(h:(n,k)∈(relabel scope env).names):(n,k)∈scope.names \/ (k=.cell/\(n,NameKind.free)∈scope.names):=by
 unfold relabel at h;obtain⟨⟨a,b⟩,c,e⟩:=M6.mp h;dsimp only at e;split at e
 ·rename_i d;cases e;have:b=NameKind.free:=by
   simp only[M0,beq_iff_eq] at d;exact d.1.1
  subst this;exact .inr ⟨rfl,c⟩
 ·cases e;exact .inl c
noncomputable def vc(X:Cx)(scope:Scope)(N':List Str)(C:Addr)(s₃:Shared)(H₃:Hp)(fp:List Addr):Cx :=
 { X with N:=N',s₀:=s₃,H₀:=H₃,env:=compEnvC scope (xf scope X.env) C X.env,outer:=X.stack,stack:=X.stack,ex:=fp,fn:=λ_=>false,pn:=[],xe:=λ_ _=>False }
noncomputable def yX(ix:List (Option Nat))(σ:St):St:=ix.map λo=>o.bind λj=>(σ[j]?).join
structure BlockOk(X:Cx)(scope:Scope)(N':List Str)(ix:List (Option Nat)):Prop where
 kind:scope.kind=.function
 nocell:∀ y∈scope.names,y.2≠.cell
 names:∀ y∈scope.names,y.2=.local->scope.names.lookup y.1=some .local
 uniq:∀ y∈scope.names,y.2=.free->scope.names.lookup y.1=some .free
 outer:∀ y∈scope.names,y.2=.free->X.env.kindOf y.1=some .cell \/ X.env.kindOf y.1=some .free
 nd:N'.Nodup
 len:ix.length=N'.length
 at_:∀(i j:Nat) (x:Str),ix[i]?=some (some j)->N'[i]?=some x->X.N[j]?=some x/\(x,NameKind.free)∈scope.names
 func:X.env.scope.kind=.function
noncomputable abbrev BW:=Nat->Nat->St->Hp->Prop
def jcA(tc:TT)(te:TE)(g:TG)(J:It)(p:Addr)(σ':St)(H1:Hp)(Q:Hp->Prop):Prop :=
 ∃ W:BW,(∃ m,W 0 m σ' H1)/\∀ i m σ2 H2,W i m σ2 H2->(J.stop i H2/\Q H2) \/
  (J.go i H2/\∀ x H3,J.yld i H2 x H3->g x σ2 H3 λσ4 H4=>tc σ4 H4 λb H5=>if b=true then
   te σ4 H5 λy H6=>∃ ys,H6 p=some (.lst ys)/\ys.length < sizeLine/\∃ m',m' < m/\W (i+1) m' σ4 (upd H6 p (.lst (ys++[y])))
   else ∃ m',m' < m/\W (i+1) m' σ4 H5)
noncomputable def jar(wi:TI)(g:TG)(tc:TT)(te:TE)(ix:List (Option Nat)):TE:=λσ H Q=>wi σ H λJ H1=>∀ p,H1 p=none->jcA tc te g J p (yX ix σ) (upd H1 p (.lst [])) λH2=>Q (.ref p) H2
def PIf(X:Cx)(ifs:List Expr)(tc:TT):Prop:=(ifs=[]/\tc=λ_ H Q=>Q true H) \/ ∃ c,ifs=[c]/\PT X c tc
theorem jeQ(B:BlockOk X scope N' ix)(I:Inv X pins σ H s)(A:∀ b∈fp,uA X pins H b)(D:∀ b∈fp,b < s.heap.objs.size)
  (E:h₁.Ns s.heap.objs.size (λ_=>none)) (C:∀ b o,s.heap.get? b=some o->h₁.get? b=some o) :
  Inv (vc X scope N' s.heap.objs.size s H fp) [] (yX ix σ) H { s with heap:=h₁,toks:=t }:=by
 have fresh:H s.heap.objs.size=none:=I.hok.fresh (M9 _);have f:∀ x c,(xf scope X.env).lookup x=some c->X.env.cells.lookup x=some c:=λx c e=>JY e;refine⟨⟨I.ok.mod,B.kind,I.ok.glob,I.ok.blt,M9 _,λx y c F G=>I.ok.inj x y c (f x c F) (f y c G),λx O=>?_,(λx c h=>nomatch h),I.ok.hd,I.ok.frames,.inl rfl,λb g=>⟨N7 (D b g),λx c e=>(A b g).2.2.2.2.1 x c (f x c e)⟩,
  λb o e=>I.bs b o e,N8 I.ok.bsz I.sz,λb o e g=>?_,λb g z=>?_,I.stack,I.stkFree⟩,rfl,I.bare,Un.kept C,⟨_,E,λi x v F G P=>?_⟩,λx c e=>?_,fresh,λx c e=>I.freeC x c (f x c e),(λp Q=>nomatch (show p∈([]:List (Addr×Obj)) from Q)),I.hok.kept C,?_⟩
 ·have J:(relabel scope X.env).names.lookup x=some .cell \/ (relabel scope X.env).names.lookup x=some .free:=O;have n:(x,NameKind.free)∈scope.names:=by
   rcases J with q | q
   ·rcases kf (PySem.mem_of_lookup q) with z | z
    ·exact absurd rfl (B.nocell _ z)
    ·exact z.2
   ·rcases kf (PySem.mem_of_lookup q) with z | z
    ·exact z
    ·exact absurd z.1 (by decide)
  obtain⟨c,K⟩:=I.ok.has x (B.outer _ n rfl);exact⟨c,wa K n⟩
 ·rcases(A b g).2.2.2.1 with z | z
  ·exact I.ok.noex b o e z
  ·exact absurd (U5 (N2 e) (N8 I.ok.bsz z)) (Nat.lt_irrefl _)
 ·rcases M5.mp (I.stkSub b z) with q | q
  ·exact(A b g).2.1 q
  ·exact(A b g).2.2.1 q
 ·have a:(yX ix σ)[i]?=some (some v):=G;unfold yX at a;rw[List.getElem?_map] at a;cases e:ix[i]? with
  | none=>rw[e] at a;cases a
  | some o =>
   rw[e] at a;cases o with
   | none=>cases a
   | some j =>
    have d:(σ[j]?).join=some v:=X4 a;have R:σ[j]?=some (some v):=by
     cases q:σ[j]? with
     | none=>rw[q] at d;cases d
     | some u=>rw[q] at d;rw[show u=some v from d]
    obtain⟨S,n⟩:=B.at_ i j x e F;have w:=B.outer _ n rfl;obtain⟨m,U,T⟩:=I.loc;obtain⟨u,r,l⟩:=T j x v S R (w.elim (λz=>.inr (.inl z)) λz=>.inr (.inr z));refine⟨u,r,.inr ?_⟩;rcases l with⟨k,_⟩ | ⟨_,c,K,z⟩
    ·rcases w with y | y<;>rw[k] at y<;>cases y
    ·refine⟨?_,c,wa K n,?_⟩
     ·rcases P with y | y | y
      ·have:(x,NameKind.local)∈(relabel scope X.env).names:=PySem.mem_of_lookup y;rcases kf this with L | L
       ·have N:=B.names _ L rfl;rw[B.uniq _ n rfl] at N;cases N
       ·exact absurd L.1 (by decide)
      ·exact .inl y
      ·exact .inr y
     ·obtain⟨o,M,hd⟩:=z;exact⟨o,C c o M,hd⟩
 ·obtain⟨v,o,M,hd⟩:=I.cell x c (f x c e);exact⟨v,o,C c o M,hd⟩
 ·show(yX ix σ).length=N'.length;unfold yX;rw[L0,B.len]
theorem Inv.other(I:Inv X pins σ H s)(f:uA X pins H C)(a:Heap.SameBut C s.heap h'):Inv X pins σ H { s with heap:=h' } :=
 I.turned (t':=s.toks) (λb o c e=>a.extBut b o c e) f.1 f.2.1 f.2.2.2.1 f.2.2.2.2.1 f.2.2.2.2.2
theorem uE{X:Cx}{ifs:List Expr}{N':List Str}{ix:List (Option Nat)}{pins:List (Addr×Obj)}{s:Shared}{Q:Addr->Hp->Prop}{use:Option (Value->Sem Unit)}{QQ:Value->Shared->Prop}(B:BlockOk X scope N' ix)(hc:X.calm=true)(hi:PI X tg iter wi)
  (hg:∀ C s H fp,PG (vc X scope N' C s H fp) tg g) (hif:∀ C s H fp,PIf (vc X scope N' C s H fp) ifs tc) (he:∀ C s H fp,PE (vc X scope N' C s H fp) elt te)
  (hs:∀ x,foldedSetIterable iter X.env x=pure x) (I:Inv X pins σ H s)
  (h:wi σ H λJ H1=>∀ p,H1 p=none->jcA tc te g J p (yX ix σ) (upd H1 p (.lst [])) (Q p))
  (hend:∀ p C s' H',Q p H'->Inv X pins σ H' s'->uA X pins H' C->(∃ m,s'.heap.Ns C m)->compPost (model X.prog X.w) X.A X.xe use QQ (.ref p) C (.ok .next) s') :
  wpAny (model X.prog X.w) X.A (comprehension (.ListComp elt [⟨tg,iter,ifs,0⟩] scope pos) scope X.env pos' (newList []) false (eval iter X.env) use) QQ X.xe s:=by
 have V:closureFor scope X.env=pure (xf scope X.env):=xj λn k hm hk=>I.ok.has n (B.outer _ hm hk);refine wpAny_comprehension_free rfl hs V B.kind B.names (thn (hi pins s σ H _ I h) λv s1 h1=>thn h1 λitv a h2=>?_);obtain⟨it,fp,tn,J,M,rfl,I2,T,Y,f2,h2⟩:=h2;refine wpAny_newObj_type (wpAny_newFunctionEnv B.nocell (by intro y hy;simp at hy) (λh₁ O P=>?_) B.kind);dsimp only at O P ⊢;have fr2:M a.heap.objs.size=none:=I2.fresh
 -- the new list
 have I3:Inv X pins σ (upd M a.heap.objs.size (.lst [])) { a with heap:=a.heap.push { cls:=.type "list",data:=.seq ([]:List Value).toArray } }:=I2.lnew (t':=a.toks) .nil (U6 _);generalize hs3:({ a with heap:=a.heap.push { cls:=.type "list",data:=.seq ([]:List Value).toArray } }:Shared)=s3 at I3;have e3:s3.heap=a.heap.push { cls:=.type "list",data:=.seq ([]:List Value).toArray }:=by rw[<- hs3]
 have hk3:∀ b o,a.heap.get? b=some o->s3.heap.get? b=some o:=λb o e=>by rw[e3];exact L8 _ e
 have lt3:∀ b∈fp,b < s3.heap.objs.size:=λb f=>by
  obtain⟨o,e,_⟩:=T.obj _ _ Y b f;exact N2 (hk3 b o e)
 have nep:∀ b∈fp,b≠a.heap.objs.size:=λb f z=>by
  obtain⟨o,e,_⟩:=T.obj _ _ Y b f;exact absurd (N2 e) (by rw[z];exact Nat.lt_irrefl _)
 have N:∀ b∈fp,uA X pins (upd M a.heap.objs.size (.lst [])) b:=λb f=>⟨by rw[jo (nep b f)];exact(f2 b f).1,(f2 b f).2⟩;have sz3:s3.heap.objs.size=(a.heap.push { cls:=.type "list",data:=.seq ([]:List Value).toArray }).objs.size:=by rw[e3]
 have hk4:∀ b o,s3.heap.get? b=some o->h₁.get? b=some o:=λb o e=>by
  refine P.extBut b o ?_ (L8 _ (by rw[e3] at e;exact e));intro z;exact absurd (N2 e) (by rw[z,sz3];exact Nat.lt_irrefl _)
 have hns4:h₁.Ns s3.heap.objs.size (λ_=>none):=by
  rw[sz3];exact O
 have I4:Inv (vc X scope N' s3.heap.objs.size s3 (upd M a.heap.objs.size (.lst [])) fp) [] (yX ix σ) (upd M a.heap.objs.size (.lst [])) { s3 with heap:=h₁,toks:=a.toks }:=jeQ B I3 N lt3 hns4 hk4;have st4:tn 0 h₁:=T.keep _ _ _ Y λb f o e=>hk4 b o (hk3 b o e);obtain⟨W,⟨m0,w0⟩,turn⟩:=h2 _ fr2;have hg':=hg s3.heap.objs.size s3 (upd M a.heap.objs.size (.lst [])) fp;have R:=hif s3.heap.objs.size s3 (upd M a.heap.objs.size (.lst [])) fp;have he':=he s3.heap.objs.size s3 (upd M a.heap.objs.size (.lst [])) fp;generalize j:vc X scope N' s3.heap.objs.size s3 (upd M a.heap.objs.size (.lst [])) fp=X' at I4 hg' R he';have Z:X'.prog=X.prog:=by rw[<- j];rfl
 have eW:X'.w=X.w:=by rw[<- j];rfl
 have eK:X'.K=X.K:=by rw[<- j];rfl
 have eA:X'.A=X.A:=by rw[<- j];rfl
 have eC:X'.calm=true:=by rw[<- j];exact hc
 have eE:X'.env=compEnvC scope (xf scope X.env) s3.heap.objs.size X.env:=by rw[<- j];rfl
 have eX:X'.xe=λ_ _=>False:=by rw[<- j];rfl
 have F:∀{H':Hp},(∀ b∈fp,H' b=none)->∀ b∈fp,uA X' [] H' b:=λhn b f=>by
  refine⟨hn b f,?_,?_,?_,?_,?_⟩
  ·rw[eE];exact N7 (lt3 b f)
  ·rw[<- j];intro z;rcases M5.mp (I3.stkSub b z) with q | q
   ·exact(N b f).2.1 q
   ·exact(N b f).2.2.1 q
  ·rw[<- j];exact .inl f
  ·rw[eE];exact λx c e=>(N b f).2.2.2.2.1 x c (JY e)
  ·rw[<- j];exact(λp hp=>nomatch (show p∈([]:List (Addr×Obj)) from hp))
 -- the end of the block
 have fin:∀{l:St}{H':Hp}{s':Shared},Inv X' [] l H' s'->Q a.heap.objs.size H'->compPost (model X.prog X.w) X.A X.xe use QQ (.ref a.heap.objs.size) s3.heap.objs.size (.ok .next) s':=λ{l H' s'} J q=>by
  have hL:X'.env.locals=s3.heap.objs.size:=by rw[eE];rfl
  have un:Un (frs X.stack) fp (upd M a.heap.objs.size (.lst [])) H' s3.heap s'.heap:=by
   have z:=J.base;rw[<- j] at z;exact z
  have hos:s'.os=s3.os:=by
   have z:=J.os;rw[<- j] at z;exact z
  have hok:HOk X.prog X.w H' s'.heap:=by
   have z:=J.hok;rw[Z,eW] at z;exact z
  have fc:H' s3.heap.objs.size=none:=by
   have z:=J.free;rw[hL] at z;exact z
  have I5:Inv X pins σ H' s':=by
   obtain⟨hh,gg,dd,tt,oo⟩:=s';obtain rfl:oo=s3.os:=hos;exact I3.call (h':=hh) (g':=gg) (d':=dd) (t':=tt) (ch:=fp) un hok J.bare λb f=>⟨(N b f).2.2.2.1,(N b f).2.1,(N b f).2.2.2.2.1,(N b f).2.2.2.2.2⟩
  obtain⟨m,hn,_⟩:=J.loc;rw[hL] at hn;exact hend _ _ s' H' q I5 (I3.fpOk (M9 _) fc) ⟨m,hn⟩
 have loop:∀ s',s'=({ s3 with heap:=h₁,toks:=a.toks }:Shared)->codeAny (model X.prog X.w) X.A (.compLoop (.ListComp elt [⟨tg,iter,ifs,0⟩] scope pos) 0 (.ref it) (.ref a.heap.objs.size) X'.env) (compPost (model X.prog X.w) X.A X.xe use QQ (.ref a.heap.objs.size) s3.heap.objs.size) s':=by
  rintro s' rfl;refine KN (λn s'=>∃ i l H',Inv X' [] l H' s'/\tn i s'.heap/\(∀ b∈fp,H' b=none)/\W i n l H') ?_ m0 ⟨0,_,_,I4,st4,λb f=>(N b f).1,w0⟩;rintro n s5 ⟨i,σ5,H5,I5,st5,fr5,w5⟩;have it5:=T.item X' Z eW eK eC i [] s5 σ5 H5 (λ_ _=>False) I5 (F fr5) st5;have dn5:=T.done X' Z eW eK eC i [] s5 σ5 H5 (λ_ _=>False) I5 (F fr5) st5;rw[eA] at it5 dn5;rcases turn i n σ5 H5 w5 with⟨stop,qn⟩ | ⟨go,step⟩
  ·refine thn (dn5 stop) λr s6 ⟨hr,I6⟩=>?_;subst hr;exact fin I6 qn
  ·refine thn (it5 go) λr s6 ⟨u,hr,h6⟩=>?_;subst hr;refine thn h6 λ_ s7 ⟨x,H7,I7,r7,y7,st7,fr7⟩=>?_;have I7':=I7.pinned (F fr7) (T.obj _ _ st7);have a7:=hg' _ s7 σ5 H7 x u _ I7' r7 (step x H7 y7);rw[Z,eW,eA,eX] at a7;refine thn a7 λ_ s8 ⟨G,H8,I8,q8⟩=>?_;have L:∀{t:Shared}{E:Hp},Inv X' ([]++KI fp s7.heap) G E t->(∃ D,D < n/\W (i+1) D G E)->∃ m,m < n/\∃ i l H',Inv X' [] l H' t/\tn i t.heap/\(∀ b∈fp,H' b=none)/\W i m l H':=λ{t E} S ⟨D,hm,w9⟩=>by
    refine⟨D,hm,i+1,G,E,S.unpinned,T.keep _ _ _ st7 λb f o e=>(S.pin (b,o) (U4 _ (U4 _ (qd f e)))).1,λb f=>?_,w9⟩;obtain⟨o,e,d⟩:=T.obj _ _ st7 b f;exact(S.pin (b,o) (U4 _ (U4 _ (qd f e)))).2.1
   have rest:∀(b:Bool) (t:Shared) (E:Hp),Inv X' ([]++KI fp s7.heap) G E t->(if b=true then te G E λy H6=>∃ ys,H6 a.heap.objs.size=some (.lst ys)/\ys.length < sizeLine/\∃ D,D < n/\W (i+1) D G (upd H6 a.heap.objs.size (.lst (ys++[y])))
     else ∃ D,D < n/\W (i+1) D G E) ->
     if b=true then wpAny (model X.prog X.w) X.A (eval elt X'.env) (λx s₄=>wpAny (model X.prog X.w) X.A (call (.builtin "list.append") [.ref a.heap.objs.size,x]) (λ_ s₅=>∃ m,m < n/\∃ i l H',Inv X' [] l H' s₅/\tn i s₅.heap/\(∀ b∈fp,H' b=none)/\W i m l H') (λ_ _=>False) s₄) (λ_ _=>False) t
     else ∃ m,m < n/\∃ i l H',Inv X' [] l H' t/\tn i t.heap/\(∀ b∈fp,H' b=none)/\W i m l H':=λb t E S q9=>by
    cases b with
    | false =>
     rw[if_neg M4] at q9 ⊢;exact L S q9
    | true =>
     rw[if_pos rfl] at q9 ⊢;have a9:=he' _ t G E _ S q9;rw[Z,eW,eA,eX] at a9;refine thn a9 λyv s10 ⟨y,H10,I10,r10,ys,e10,l10,q10⟩=>?_;have a10:=Vz _ s10 G H10 (.ref a.heap.objs.size) [y] (.ref a.heap.objs.size) [yv] (λ_ H'=>∃ D,D < n/\W (i+1) D G H') I10 rfl (.cons r10 .nil) ⟨_,ys,y,rfl,rfl,e10,l10,q10⟩;rw[Z,eW,eA,eX] at a10;exact thn a10 λ_ s11 ⟨_,H11,I11,_,q11⟩=>L I11 q11
   rcases R with⟨e1,e2⟩ | ⟨c,e1,e2⟩
   ·subst e1;rw[e2] at q8;exact wpAny_tests_nil (rest true s8 H8 I8 q8)
   ·subst e1;have a8:=e2 _ s8 G H8 _ I8 q8;rw[Z,eW,eA,eX] at a8;exact wpAny_tests_one (thn a8 λb t ⟨E,S,q9⟩=>rest b t E S q9)
 have U:codeAny (model X.prog X.w) X.A (.compStart (.ListComp elt [⟨tg,iter,ifs,0⟩] scope pos) 0 (.ref it) (.ref a.heap.objs.size) X'.env) (compPost (model X.prog X.w) X.A X.xe use QQ (.ref a.heap.objs.size) s3.heap.objs.size) { s3 with heap:=h₁,toks:=a.toks } :=
  codeAny_compStart_list (loop _ rfl) (T.self _ 0 _ _ _ st4 (loop _ rfl))
 rw[eE] at U;subst hs3;exact U
theorem jiR(B:BlockOk X scope N' ix)(d:X.calm=true)(hi:PI X tg iter wi)
  (e:∀ C s H fp,PG (vc X scope N' C s H fp) tg g) (a:∀ C s H fp,PIf (vc X scope N' C s H fp) ifs tc) (i:∀ C s H fp,PE (vc X scope N' C s H fp) elt te)
  (j:∀ x,foldedSetIterable iter X.env x=pure x:=by intro _;rfl):PE X (.ListComp elt [⟨tg,iter,ifs,0⟩] scope pos) (jar wi g tc te ix):=by
 intro c s σ H Q I h;rw[eval_ListComp];exact uE (use:=none) (Q:=λp b=>Q (.ref p) b) B d hi e a i j I h λp C o b q k f ⟨m,l⟩=>⟨m,l,λr n=>⟨.ref p,b,k.other f n,rfl,q⟩⟩
theorem jcb(B:BlockOk X scope N' ix)(E:X.calm=true)(hi:PI X tg iter wi)
  (F:∀ C s H fp,PG (vc X scope N' C s H fp) tg g) (d:∀ C s H fp,PIf (vc X scope N' C s H fp) ifs tc) (G:∀ C s H fp,PE (vc X scope N' C s H fp) elt te)
  (J:X.N.Nodup) (j:X.N[i]?=some x) (K:Loc X.env.scope x)
  (k:swapsWith (.ListComp elt [⟨tg,iter,ifs,0⟩] scope pos) (some (.Name x pos')) spos.line X.env=pure true)
  (L:∀ x,foldedSetIterable iter X.env x=pure x:=by intro _;rfl)
  (M:X.fn x=true \/ X.env.scope.names.lookup x=some .local:=by first | exact .inl rfl | exact .inr rfl | assumption) :
  PS X (.Assign [.Name x pos'] (.ListComp elt [⟨tg,iter,ifs,0⟩] scope pos) spos) (jgI (jar wi g tc te ix) (zK i)):=by
 intro a s σ H D I h;rw[exec_Assign_Name_used _ _ _ _ k];refine L3 (wpAny_standAt (L3 ?_));show wpAny _ X.A (do let _ <- comprehension (.ListComp elt [⟨tg,iter,ifs,0⟩] scope pos) scope X.env _ (newList []) false (eval iter X.env) (some (assign (.Name x pos') X.env))) _ _ s;refine L3 (thn (uE (use:=some (assign (.Name x pos') X.env)) (QQ:=λ_ b=>SP X a D .next b) (Q:=λp c=>D.nx (σ.set i (some (.ref p))) c) B E hi F d G L I h λp C b c q r f ⟨m,O⟩=>?_) λ_ b P=>M7 (M7 P));obtain⟨o,R,S,T,t⟩:=id O;have hd:∀ v,o.data≠.cell v:=λv z=>by
  obtain⟨l,_⟩:=t;rw[l] at z;cases z
 have U:Inv X (a++[(C,o)]) σ c b:=r.pins_of λu n=>by
  rcases N3.mp n with z | z
  ·exact r.pin u (U4 _ z)
  ·have e:u=(C,o):=by simpa using z
   subst e;exact⟨T,f.1,f.2.1,f.2.2.1,hd⟩
 refine wpAny_assign_Name (Vt U J j K (v:=.ref p) rfl (λW w=>?_) M);have y:=w.pin (C,o) (U4 _ (U4 _ (M8.mpr rfl)));refine⟨m,⟨o,R,S,y.1,t⟩,λY V=>⟨_,c,(w.unpinned).other ⟨y.2.1,f.2⟩ V,q⟩⟩
noncomputable def S(l:List Nat):Str:=⟨l.toArray⟩
theorem vR(l:List Nat):(S l).cps.toList=l:=by simp[S]
theorem Jr(l:List Nat):(S l).length=l.length:=by simp[S,Str.length]
theorem jn3(x:Str):x=S x.cps.toList:=by
 obtain⟨a⟩:=x;simp[S]
theorem jka(h:S a=S b):a=b:=by
 rw[<- vR a,<- vR b,h]
theorem jms(a b:List Nat):(S a=S b)=(a=b):=propext ⟨jka,λh=>by rw[h]⟩
theorem jjg(a b:List Nat):S a++S b=S (a++b):=by
 apply PyProof.Rows.ext_toList;rw[PySem.W.KT.app_list,vR,vR,vR]
theorem jia(c:Nat):(⟨#[c]⟩:Str)=S [c]:=rfl
noncomputable def VB{α:Type}(xs:List α)(lo hi:Option Int):List α:=(xs.drop (HT.sIx xs.length 0 lo)).take (HT.sIx xs.length xs.length hi - HT.sIx xs.length 0 lo)
theorem jdp(xs:List α)(k:Nat):VB xs (some (k:Int)) none=xs.drop k:=by
 unfold VB;rw[HT.sIx_none,HT.sIx_nat];by_cases h:k<=xs.length
 ·rw[Nat.min_eq_left h,List.take_of_length_le];rw[List.length_drop]
  lia
 ·have e:xs.drop k=[]:=List.drop_eq_nil_of_le (by lia);rw[e,Nat.min_eq_right (by lia)];simp
theorem jdG(lo hi:Option Int)(n:Nat):Builtin.Str.strSliceIndices lo hi 1 n=(List.range (HT.sIx n n hi - HT.sIx n 0 lo)).map (HT.sIx n 0 lo+·):=by
 have a:∀(o:Option Int) (d:Nat),(match o with | none=>(d:Int) | some i=>(let i:=if i < 0 then i+(n:Int) else i;if(1:Int) > 0 then max 0 (min i n) else max (-1) (min i (n - 1))))=((HT.sIx n d o:Nat):Int):=by
  intro o d;cases o with
  | none=>rfl
  | some v =>
   show(if(1:Int) > 0 then max 0 (min (if v < 0 then v+(n:Int) else v) n) else _)=(((if v < 0 then(v+(n:Int)).toNat else min v.toNat n):Nat):Int);rw[if_pos (by decide)];by_cases b:v < 0
   ·rw[if_pos b,if_pos b];lia
   ·rw[if_neg b,if_neg b];lia
 rw[<- sliceRange_one,<- a lo 0,<- a hi n];rfl
theorem jja(l:List Nat)(lo hi:Option Int):Txt.slice (S l) lo hi=S (VB l lo hi):=by
 have i:HT.sIx l.length l.length hi<=l.length:=HT.sIx_le _ _ (M9 _) _;have j:HT.sIx l.length 0 lo<=l.length:=HT.sIx_le _ _ (U6 _) _;have e:(Builtin.Str.strSliceIndices lo hi 1 (S l).length).filterMap ((S l).cps[·]?)=VB l lo hi:=by
  rw[Jr,jdG];have h:=StrLaws.picks l (HT.sIx l.length l.length hi - HT.sIx l.length 0 lo) (HT.sIx l.length 0 lo);by_cases c:HT.sIx l.length 0 lo<=HT.sIx l.length l.length hi
  ·have d:=h (by lia);unfold VB;rw[<- d];simp[S]
  ·have z:HT.sIx l.length l.length hi - HT.sIx l.length 0 lo=0:=by lia
   unfold VB;rw[z];simp
 unfold Txt.slice;split
 ·rename_i b;have f:(Builtin.Str.strSliceIndices lo hi 1 (S l).length).length=(S l).length:=by
   simp only[beq_self_eq_true,Bool.true_and] at b;exact beq_iff_eq.mp b
  rw[Jr,jdG,L0,List.length_range] at f;unfold VB;by_cases a:l.length=0
  ·have:l=[]:=List.length_eq_zero_iff.mp a;subst this;simp
  ·have g:HT.sIx l.length 0 lo=0:=by lia
   rw[g,List.drop_zero,List.take_of_length_le (by lia)]
 ·rw[e];rfl
def jnH:V->Option Int->Option Int->Hp->VK->Prop:=λx lo hi H Q=>∃ l,x=.str (S l)/\l.length<=sizeLine/\Q (.str (S (VB l lo hi))) H
theorem jgR(p:IsPart v o):∃ q:Option (Int×Tok),v=partValue q/\q.map (·.1)=o:=by
 cases p with
 | none=>exact⟨none,rfl,rfl⟩
 | int i t=>exact⟨some (i,t),rfl,rfl⟩
theorem jlH:SlR X jnH:=by
 intro c s σ H x v w y a b z Q I g i pl j h;obtain⟨l,rfl,m,q⟩:=h;obtain⟨t,rfl⟩:=g;obtain⟨d,rfl,n⟩:=jgR pl;obtain⟨e,rfl,o⟩:=jgR j;refine⟨"str",_,F.slot_str_getitem.lookup,typeIs_str _ _ _,wpAny_getItem_str_slice (l:=d) (u:=e) (st:=none) i rfl ?_⟩;have p:Txt.slice (S l) a b=S (VB l a b):=jja l a b;have key:∀ f k,EP X c σ Q (.str (Txt.slice (S l) a b) f) { s with toks:=k }:=λf k=>by
  rw[p];exact⟨.str (S (VB l a b)),H,I.tok k,⟨f,rfl⟩,q⟩
 have r:sliceMade (S l) t d e none=(if((1:Int)==1&&(Builtin.Str.strSliceIndices a b 1 (S l).length).length==(S l).length)=true then Made.val (.str (S l) t) else Made.str ⟨((Builtin.Str.strSliceIndices a b 1 (S l).length).filterMap ((S l).cps[·]?)).toArray⟩):=by
  unfold sliceMade slicePicked;rw[n,o];rfl
 rw[r];refine post_val_or_str ⟨?_,λf k=>key f k⟩;exact N8 (Txt.slice_le (S l) a b) (by rw[Jr];exact m)
noncomputable def Its(l:List Nat):It:=⟨λi _=>i < l.length,λi H x H'=>H'=H/\∃ c,l[i]?=some c/\x=.str (S [c]),λi _=>l.length<=i⟩
theorem jft{tg:Expr}{P:Program}{w:World}{K:PySem.W.Frag}(a:Addr)(l:List Nat)(t:Tok)(ty:String)(j:ty = "str_ascii_iterator" \/ ty = "str_iterator")
  (W:∀ A:Around,A.handled=none->Walks P w A a [a] [a] (S l).cps.size (SignAt (S l)) (λi h=>h.IsStrIter a ty (S l) t i)):Turn P w K tg (Its l) [a] a (λi h=>h.IsStrIter a ty (S l) t i) where
 mem:=by simp
 obj:=λi h st b f=>by
  have e:b=a:=by simpa using f
  subst e;obtain⟨o,e,c,d⟩:=st;exact⟨o,e,λv z=>by rw[d] at z;cases z⟩
 keep:=λi h m st k=>by
  obtain⟨o,e,r⟩:=st;exact⟨o,k a (by simp) o e,r⟩
 item:=by
  intro X F G J p i g s σ H E I q st L;subst F G J;obtain⟨x,y,T,B,C,D⟩:=q a (by simp);have U:=W X.A (I.ok.hd p);have M:(S l).cps.size=l.length:=by simp[S]
  refine U.item i s _ _ (by rw[M];exact L) st λv m Q V n Y=>?_;obtain⟨c,u,N,rfl⟩:=V;have Z:Inv X g σ H { s with heap:=m,toks:=Q }:=I.turned (λb o f e=>Y b o (by simpa using f) e) x y B C D;obtain⟨o,e,ct,d⟩:=id n;refine⟨_,rfl,jgc (s:={ s with heap:=m,toks:=Q }) e ct d (by rcases j with z | z<;>subst z<;>decide) ⟨.str (S [c]),H,Z,⟨u,rfl⟩,⟨rfl,c,by simpa [S] using N,rfl⟩,n,λb f=>(q b f).1⟩⟩
 done:=by
  intro X F G J p i g s σ H E I q st L;subst F G J;obtain⟨x,y,T,B,C,D⟩:=q a (by simp);have R:(S l).cps[i]?=none:=by
   have:l.length<=i:=L;simp[S,this]
  rcases j with z | z
  ·subst z;exact wpAny_pyNext_ascii_end (I.ok.hd p) st R λm O=>⟨rfl,I.turned (t':=s.toks) (λb o f e=>O b o f e) x y B C D⟩
  ·subst z;exact wpAny_pyNext_wide_end (I.ok.hd p) st R λm O=>⟨rfl,I.turned (t':=s.toks) (λb o f e=>O b o f e) x y B C D⟩
 self:=λ_ _ _ _ _ st h=>by
  rcases j with z | z
  ·subst z;exact wpAny_pyIter_striter_ascii st h
  ·subst z;exact wpAny_pyIter_striter_wide st h
theorem jjQ:OpR X (compareOp .In) (λx y H Q=>∃ c l,x=.str (S [c])/\y=.str (S l)/\Q (.bl (decide (c∈l))) H):=by
 intro a s σ H x y v u Q I b d h;obtain⟨c,l,rfl,rfl,q⟩:=h;refine jes a s σ H _ _ v u Q I b d ⟨_,_,rfl,rfl,?_⟩;rw[<- jia,StrLaws.found_one,vR];exact q
theorem jdi:OpR X (compareOp .NotIn) (λx y H Q=>∃ c l,x=.str (S [c])/\y=.str (S l)/\Q (.bl (!decide (c∈l))) H):=by
 intro a s σ H x y v u Q I b d h;obtain⟨c,l,rfl,rfl,q⟩:=h;refine w8 a s σ H _ _ v u Q I b d ⟨_,_,rfl,rfl,?_⟩;rw[<- jia,StrLaws.found_one,vR];exact q
theorem jiU:OpR X (binaryOp .Add) (λx y H Q=>∃ a b,x=.str (S a)/\y=.str (S b)/\a.length+b.length<=sizeLine/\Q (.str (S (a++b))) H):=by
 intro c s σ H x y v u Q I d e h;obtain⟨a,b,rfl,rfl,f,q⟩:=h;refine jbG c s σ H _ _ v u Q I d e ⟨_,_,rfl,rfl,by rw[Jr,Jr];exact f,?_⟩;rw[jjg];exact q
theorem jiP:OpR X (binaryOp .Mult) (rI (λi j=>Builtin.Int.intBits i<=2 ^ 20/\Builtin.Int.intBits j<=2 ^ 20) λi j=>.int (i*j)):=opI λ_ _ _ _ _ _ _ a q=>mul_int q (IntMulOk.of_bits a.1 a.2)
theorem jb3(h:i.natAbs < 2 ^ m)(a:m<=2 ^ 20):Builtin.Int.intBits i<=2 ^ 20:=N8 (PySem.intBits_le_iff.mpr h) a
theorem jan{A:Around}{bs:List Bool}{its:List Value}(r:Vals (bs.map V.bl) its):TruthOf P w A (λi v=>its.toArray[i]?=some v) (λi=>bs.getD i false):=by
 intro i v s Q E c d;have a:its[i]?=some v:=by simpa using c
 have h:i < its.length:=(L9.mp a).1;have e:=r.length;rw[L0] at e;have f:(bs.map V.bl)[i]?=some (V.bl (bs.getD i false)):=by
  rw[List.getElem?_map,List.getD_eq_getElem?_getD,X6 (by lia)];rfl
 obtain⟨u,b,g⟩:=r.get f;rw[a] at b;cases b;cases g;exact M7 d
theorem jdA:∀(bs:List Bool),(List.range bs.length).all (λi=>bs.getD i false)=bs.all (λb=>b):=by
 intro bs;rw[Bool.eq_iff_iff,List.all_eq_true,List.all_eq_true];constructor
 ·intro h b d;obtain⟨i,c,e⟩:=List.mem_iff_getElem.mp d;have:=h i (List.mem_range.mpr c);rw[List.getD_eq_getElem?_getD,X6 c,e] at this;exact this
 ·intro h i c;have a:=List.mem_range.mp c;rw[List.getD_eq_getElem?_getD,X6 a];exact h _ (List.getElem_mem a)
theorem jga(g:X.calm=true):CallR X (.builtin "all") (λxs H Q=>∃(p:Addr) (bs:List Bool),xs=[.ref p]/\SqL X.K H p (bs.map V.bl)/\Q (.bl (bs.all λb=>b)) H):=by
 intro c s σ H xs t Q I r h;obtain⟨p,bs,rfl,j,q⟩:=h;obtain⟨u,rfl,k⟩:=r.one;cases k;obtain⟨its,d,pl,v⟩:=I.list j;have a:p < s.heap.objs.size:=by
  obtain⟨o,n,e,_⟩:=pl;exact N2 e
 have f:=d.length;rw[L0] at f;refine call_all_walk (wpAny_pyIter_list pl.isList ⟨s.heap.objs.size,_,_,_,_,_,λi=>bs.getD i false,rfl,Walks.list (A:=X.A.in1) (by exact I.ok.hd g) s.heap.objs.size p (N7 a) its.toArray,⟨⟨_,X7 _ rfl,rfl,rfl⟩,?_⟩,jan d,λw x l=>?_⟩)
 ·obtain⟨o,e,r⟩:=pl.isList;exact⟨o,L8 _ e,r⟩
 ·rw[N4,<- f,jdA];refine⟨.bl (bs.all λb=>b),H,I.kept λb o e=>l b o ?_ (L8 _ e),rfl,q⟩;intro m;have:b=s.heap.objs.size:=by simpa using m
  exact absurd (N2 e) (by rw[this];exact Nat.lt_irrefl _)
def SqX(K:PySem.W.Frag)(H:Hp)(a:Addr)(xs:List V):Prop :=
 Rd H a (.lst xs) \/ ∃(its:Array Value) (n:Nat),K.lookup a=some { cls:=.type "list",data:=.seq its n }/\its.size<=sizeLine/\Vals xs its.toList
theorem SqX.sq{K:PySem.W.Frag}{H:Hp}{a:Addr}{xs:List V}(h:SqX K H a xs):SqL K H a xs:=by
 rcases h with h | ⟨its,n,b,c,r⟩
 ·exact .inl h
 ·exact .inr ⟨_,its,n,b,rfl,rfl,rfl,c,r⟩
theorem SqX.of{K:PySem.W.Frag}{H:Hp}{a:Addr}{xs:List V}(h:H a=some (.lst xs)):SqX K H a xs:=.inl (.inl h)
theorem Inv.listX(I:Inv X pins σ H s)(h:SqX X.K H a xs):∃(its:List Value) (n:Nat),Vals xs its/\s.heap.get? a=some { cls:=.type "list",data:=.seq its.toArray n }/\xs.length<=sizeLine:=by
 rcases h with h | ⟨its,n,b,c,r⟩
 ·obtain⟨z,its,n,r,e⟩:=h.ok I.hok;exact⟨its,n,r,e,z⟩
 ·refine⟨its.toList,n,r,by simpa using I.kIn a _ b,?_⟩;have e:=r.length;simp only[Array.length_toList] at e
  lia
noncomputable def jkk(K:PySem.W.Frag):R2:=λx y H Q=>∃ l b xs zs,x=.ref l/\y=.ref b/\SqX K H l xs/\SqX K H b zs/\xs.length+zs.length<=sizeLine/\∀ p,H p=none->Q (.ref p) (upd H p (.lst (xs++zs)))
theorem jhF:OpR X (binaryOp .Add) (jkk X.K):=by
 intro c s σ H x y v u Q I f g h;obtain⟨l,b,xs,p,rfl,rfl,i,j,t,q⟩:=h;cases f;cases g;obtain⟨its,n,r,e,_⟩:=I.listX i;obtain⟨a,w,d,k,_⟩:=I.listX j;have z:=r.length;have m:=d.length;refine PySem.P.add_list e k ?_ (by rw[N4,N4];lia);have o:its.toArray++a.toArray=(its++a).toArray:=by simp
 rw[o];exact⟨.ref _,_,I.lnew (t':=s.toks) (r.append d) (by rw[N5];lia),rfl,q _ I.fresh⟩
theorem jay{ns:List Int}(h:PySem.W.WData.layableAll [PySem.W.WData.list (ns.map PySem.W.WData.int)]=true):∀ x∈ns,Builtin.Int.intBits x<=2 ^ 20:=by
 intro x c;have f:(PySem.W.WData.list (ns.map PySem.W.WData.int)).layable=true:=(PySem.W.layW_cons h).1;have e:PySem.W.ofPy (.list (ns.map .int))=PySem.W.WData.list (ns.map PySem.W.WData.int):=by
  have g:∀ a:List Int,PySem.W.ofPys (a.map PyData.int)=a.map PySem.W.WData.int:=by
   intro a
   induction a with
   | nil=>rfl
   | cons m a i=>simp[PySem.W.ofPys,PySem.W.ofPy,i]
  simp[PySem.W.ofPy,g]
 have b:=PySem.W.lay0_ofPy (s:=.list .int) (d:=.list (ns.map .int)) rfl (by simp[Shape.has]) (by rw[e];exact f);have j:PyData.layable0 (.list (ns.map .int))=true:=by
  simp[PyData.layableAll0] at b;exact b
 exact PyData.bits_item_of_ints j c
theorem walk_ofB{l:PySem.W.OpenLaw}{n k:Nat}{j:List Str}{Q:(Str->Option Value)->Heap->Prop}{M:World->Heap->Prop}{d:DefRec}{K:Params->PySem.W.Frag}{CX:World->CXT}{sp:World->Sp} 
  (R:l.most=some n) (A:n<=sizeLine) (B:d.params.defaults=[]) (S:Room k callerA)
  (U:∀(w:World) (h:Heap),M w h->(K w.params).In h)
  (F:∀(w:World) (mg:Str->Option Value) (fa:Addr) (h:Heap),(K w.params).In h->h.Ns mainGlobals mg->mg d.name=some (.ref fa) ->
   ∃ fd:FuncData,(∀(s:Shared) (u:Value),BindsTo s fd ⟨[u],[]⟩ [(x,u)]) /\
    ∀ base:Heap,(K w.params).In base->base.Ns mainGlobals mg->FnOk l.prog w (K w.params) mg base (CX w) k fa fd [x] (sp w))
  (C:∀(w:World) (H:Hp) (a:Addr) (ns:List Int),ns.length<=n->(∀ x∈ns,Builtin.Int.intBits x<=2 ^ 20)->jm9 H->SqX (K w.params) H a (ns.map V.int)->sp w [.ref a] H (λv _=>v=.bl true) λ_ _ _=>False)
  (D:∀(w:World) (H:Hp) (s:Shared) (e:Value) (s':Shared),CX w [] H s (λ_ _ _=>False) e s'->False) :
  PySem.W.WalkO q j Q M l.row.toRowW d [] (λf vs=>PySem.call f vs):=by
 intro w s₀ X mg mb G Y fa o pm cd Z dV kV ho hd hcd N E hg args O as y z hrd I hlo;obtain rfl:dV=.none:=PySem.W.Dflts.none N B;obtain rfl:kV=.none:=PySem.W.Dflts.noKw N;obtain⟨a,vs,ns,rfl,rfl,c,p,i⟩:=Att.script_of R y I;have t:=jay z;have J:=U w _ Y;obtain⟨fd,hb,hF⟩:=F w mg fa _ J G.T.g E;refine PySem.W.enter_call (codeAny_mono (jfz J G.T.g G.T.b G.T.builtins G.T.nolimit hg c p (N8 i A) S hF hb (λH hO hS=>C w H a ns i t hO ?_) λH e s'=>D w H X e s') λr s' hq=>?_)
 ·rcases hS with h | ⟨o,its,m,P,_,_,L,hz,r⟩
  ·exact .inl h
  ·have e:=J a o P;rw[c] at e;cases e;cases L;exact .inr ⟨_,_,P,hz,r⟩
 ·obtain⟨rfl,h2,h3,h4⟩:=hq;exact⟨.inl ⟨.bool true,.bool true,[],rfl,λ_=>rfl,.bool true,Att.post_true l _,λ_=>⟨List.Pairwise.nil,λ_ hm=>(nomatch hm)⟩⟩,h2,h3,h4⟩
noncomputable def K5(sc:Scope)(N:List Str)(scope:Scope)(N':List Str)(ix:List (Option Nat)):Bool :=
 decide (scope.kind=.function)&&decide (sc.kind=.function)&&scope.names.all (λy=>decide (y.2≠.cell))&&scope.names.all (λy=>!decide (y.2=.local)||decide (scope.names.lookup y.1=some .local)) &&
 scope.names.all (λy=>!decide (y.2=.free)||(decide (scope.names.lookup y.1=some .free)&&(decide (sc.names.lookup y.1=some .cell)||decide (sc.names.lookup y.1=some .free))))&&decide N'.Nodup&&decide (ix.length=N'.length) &&
 (List.range ix.length).all (λi=>match ix[i]? with | some (some j)=>(match N'[i]? with | some x=>decide (N[j]?=some x)&&decide ((x,NameKind.free)∈scope.names) | none=>true) | _=>true)
theorem jc3{X:Cx}{scope:Scope}{N':List Str}{ix:List (Option Nat)}(b:Scope)(N:List Str)(h1:X.env.scope=b)(h2:X.N=N)(h:K5 b N scope N' ix=true):BlockOk X scope N' ix:=by
 subst h1;subst h2;unfold K5 at h;simp only[M0,decide_eq_true_eq,List.all_eq_true,Bool.or_eq_true,Bool.not_eq_true',decide_eq_false_iff_not] at h;obtain⟨⟨⟨⟨⟨⟨⟨d,f⟩,g⟩,k⟩,c⟩,l⟩,m⟩,n⟩:=h;refine⟨d,g,λy a e=>?_,λy a e=>?_,λy a e=>?_,l,m,λi j x h1 h2=>?_,f⟩
 ·exact(k y a).elim (λz=>absurd e z) id
 ·exact(c y a).elim (λz=>absurd e z) λz=>z.1
 ·exact(c y a).elim (λz=>absurd e z) λz=>z.2
 ·have o:i < ix.length:=(L9.mp h1).1;have z:=n i (List.mem_range.mpr o);rw[h1] at z;dsimp only at z;rw[h2] at z;dsimp only at z;simp only[M0,decide_eq_true_eq] at z;exact z
structure FnFact(K:PySem.W.Frag)(mg:Str->Option Value)(x qual:Str)(st:Stmt)(f:Addr)(fd:FuncData)(ps:List Str):Prop where
 fn:Fun K x qual st f fd
 mgf:mg x=some (.ref f)
 bd:Binds K fd ps []
section
variable {X:Cx}{k:Nat}{f:Addr}{fd:FuncData}{ps:List Str}{sp:Sp}{x qual:Str}{st:Stmt}{p pos:Pos}{e:Expr}{es:List Expr}{t:TA}
theorem jng(F:FnFact X.K X.mg x qual st f fd ps)(G:FnOk X.prog X.w X.K X.mg X.base CX0 k f fd ps sp)(c:Room k X.A)(d:PA X (e::es) t)(g:Gl X x:=by rfl)(a:(x==("__debug__" : Str))=false:=by decide)
  (h:starEach (e::es) X.env=(false,eval e X.env)::starEach es X.env:=by rfl) (b:(backTo pos (starEach es X.env)).any (·.1)=false:=by rfl):PE X (.Call (.Name x p) (e::es) [] pos) (zP sp [] E0 t) :=
 xD G c g F.mgf F.fn.kp F.bd .nil uY d a h b
theorem uJ:∀(l:List (Str×Tok)),Vals (l.map λp=>V.str p.1) (strValues l)
 | []=>.nil
 | (x,t)::r=>.cons ⟨t,rfl⟩ (uJ r)
theorem xI:MtR X "str.split" (λx vs H Q=>∃ a b,x=.str a/\vs=[.str b]/\(b.length==0)=false/\a.length+2<=sizeLine/\∀ p,H p=none->Q (.ref p) (upd H p (.lst ((Txt.split a b).map V.str)))):=by
 intro c s σ H x vs v w Q I j m h;obtain⟨a,b,rfl,rfl,g,y,q⟩:=h;obtain⟨t,rfl⟩:=j;obtain⟨u,rfl,n⟩:=m.one;obtain⟨f,rfl⟩:=n;have d:∀(l:List (Str×Tok)) (k:Nat),l.map (·.1)=Txt.split a b->l.length<=sizeLine->EP X c σ Q (.ref s.heap.objs.size) { s with toks:=k,heap:=s.heap.push { cls:=.type "list",data:=.seq (strValues l).toArray } }:=λl k e o=>by
  have r:(Txt.split a b).map V.str=l.map λp=>V.str p.1:=by
   rw[<- e,U2];rfl
  refine⟨.ref s.heap.objs.size,_,I.lnew (t':=k) (uJ l) (by rw[L0];exact o),rfl,?_⟩;rw[<- r];exact q _ I.fresh
 have i:(Builtin.Str.partsBetween a (Builtin.Str.occurrences a b 0 a.length (a.length+1)) b.length).length<=sizeLine:=by
  have z:=StrLaws.occ_length_le a b 0 a.length (a.length+1);rw[length_partsBetween];lia
 cases h1:(decide (a.length < b.length)||decide (Builtin.Str.strKind a < Builtin.Str.strKind b))
 ·cases hf:(Builtin.Str.occurrences a b 0 a.length (a.length+1)).isEmpty
  ·refine call_meets F.slot_str_split (typeIs_str _ _ _) F.entry_str_split (F.args_str_split_2 _ _) (meets_str_split_sep a b t f h1 g hf (by lia) i) ?_;show EP X c σ Q (.ref s.heap.objs.size) { s with toks:=_,heap:=s.heap.push { cls:=.type "list",data:=.seq (strsFrom s.toks (Builtin.Str.partsBetween a (Builtin.Str.occurrences a b 0 a.length (a.length+1)) b.length)).toArray } };rw[strsFrom_eq];refine d (numbered s.toks _) _ ((numbered_texts _ _).trans ((if_neg (ne_true_of_eq_false h1)).trans (if_neg (ne_true_of_eq_false hf))).symm) ?_;have e:=congrArg List.length (numbered_texts s.toks (Builtin.Str.partsBetween a (Builtin.Str.occurrences a b 0 a.length (a.length+1)) b.length));rw[L0] at e;rw[e];exact i
  ·exact call_meets F.slot_str_split (typeIs_str _ _ _) F.entry_str_split (F.args_str_split_2 _ _) (meets_str_split_not_found a b t f h1 g hf)
    (d [(a,t)] s.toks ((if_neg (ne_true_of_eq_false h1)).trans (if_pos hf)).symm (by show 1<=sizeLine;decide))
 ·exact call_meets F.slot_str_split (typeIs_str _ _ _) F.entry_str_split (F.args_str_split_2 _ _) (meets_str_split_cannot_occur a b t f h1)
   (d [(a,t)] s.toks (if_pos h1).symm (by show 1<=sizeLine;decide))
end
theorem jeB:CallR X (.type "int") (λxs H Q=>∃ w:List Nat,xs=[.str (S w)]/\NumText.AllDigits w/\w≠[]/\w.length<=600/\Q (.int (NumText.digitsVal w:Nat)) H):=by
 intro a s σ H xs d Q I r h;obtain⟨w,rfl,hd,b,f,q⟩:=h;obtain⟨u,rfl,c⟩:=r.one;obtain⟨t,rfl⟩:=c;have e:intText? (S w)=some ((NumText.digitsVal w:Nat):Int):=by
  have z:=intText_digits (x:=S w) (by rw[vR];exact hd) (by rw[vR];exact b) (by rw[Jr];lia);rw[vR] at z;exact z
 exact PySem.W.KIN.call_text e (by rw[Jr];lia) ⟨.int _,H,I.tok _,⟨_,rfl⟩,q⟩
noncomputable def Jp(m:Nat):List Nat:=(Nat.toDigits 10 m).map Char.toNat
theorem jkF(m:Nat):Str.ofString (toString ((m:Nat):Int))=S (Jp m):=by
 apply PyProof.Rows.ext_toList;rw[PySem.W.KIN.signs_num,vR];rfl
theorem jbo(m:Nat):NumText.digitsVal (Jp m)=m:=PySem.W.KIN.val_back m
theorem jbb(a:1<=k)(b:m < 10 ^ k):(Jp m).length<=k:=by
 unfold Jp;rw[L0];exact PyProof.Rows.digits10_le a b
theorem jcM(h:m < 2 ^ 200):m.log2 < 1920:=by
 by_cases a:m=0
 ·subst a;decide
 ·have:=(Nat.log2_lt a (k:=200)).mpr h
  lia
theorem jdZ:CallR X (.type "str") (λxs H Q=>∃ i:Int,xs=[.int i]/\0<=i/\i < 2 ^ 200/\Q (.str (S (Jp i.toNat))) H):=by
 intro a s σ H xs b Q I r h;obtain⟨i,rfl,c,d,q⟩:=h;obtain⟨m,rfl⟩:∃ m:Nat,i=(m:Int):=⟨i.toNat,by lia⟩;rw[N9] at q;refine uk a s σ H _ b Q I r ⟨_,rfl,jcM (by lia),?_⟩;have e:=jkF m;show Q (.str (Str.ofString (toString ((m:Nat):Int)))) H;rw[e];exact q
theorem jdS:CallR X (.type "str") (λxs H Q=>∃ x,xs=[.str x]/\Q (.str x) H):=by
 intro a s σ H xs c Q I r h;obtain⟨x,rfl,q⟩:=h;obtain⟨u,rfl,b⟩:=r.one;obtain⟨t,rfl⟩:=b;exact PySem.P.str_of_str ⟨.str x,H,I,⟨_,rfl⟩,q⟩
theorem jjf:OpR X (binaryOp .Mult) (λx y H Q=>∃(a:List Nat) (n:Int),x=.str (S a)/\y=.int n/\a.length<=1000/\0<=n/\n<=1000/\Q (.str (S (List.replicate n.toNat a).flatten)) H):=by
 intro f s σ H x y v u Q I g i h;obtain⟨a,n,rfl,rfl,j,B,l,q⟩:=h;obtain⟨k,rfl⟩:∃ k:Nat,n=(k:Int):=⟨n.toNat,by lia⟩;have m:k<=1000:=by lia
 rw[N9] at q;obtain⟨t,rfl⟩:=g;obtain⟨o,rfl⟩:=i;have p:a.length*k<=1000*1000:=Nat.mul_le_mul j m;have hok:MulOk (S a) (k:Int):=by
  refine⟨by simp;lia,λd c=>?_,λd c=>?_⟩
  ·rw[Jr];have r:(1:Int)<=k:=by lia
   have C:(1000:Int)<=(2 ^ 63 - 1) / (k:Int):=by
    rw[Int.le_ediv_iff_mul_le (by lia)];have:(1000:Int)*k<=1000*1000:=by lia
    lia
   lia
  ·rw[Jr,N9];unfold Builtin.Str.tooLong;have r:a.length*k<=sizeLine:=N8 p (by decide);exact X2 (by lia)
 have e:Txt.mul (S a) (k:Int)=S (List.replicate k a).flatten:=by
  have w:∀(n:Nat) (b:Array Nat),((List.replicate n a.toArray).foldl (·++·) b).toList=b.toList++(List.replicate n a).flatten:=by
   intro n
   induction n with
   | zero=>intro b;simp
   | succ n A=>intro b;rw[List.replicate_succ,List.foldl_cons,A];simp[List.replicate_succ]
  unfold Txt.mul;apply PyProof.Rows.ext_toList;rw[vR];by_cases d:(k:Int) < 1
  ·have:k=0:=by lia
   subst this;simp[Str.empty]
  ·rw[if_neg d];by_cases c:((k:Int)==1||(S a).length==0)=true
   ·rw[if_pos c,vR];rw[Jr] at c;simp at c;rcases c with z | z
    ·have:k=1:=by lia
     subst this;simp
    ·subst z;simp
   ·rw[if_neg c,N9];have z:=w k #[];simp only[X5] at z;exact z
 refine SB.mul hok λo D=>?_;rw[e];exact⟨.str _,H,I.tok _,⟨_,rfl⟩,q⟩
end L2
namespace QD
open PySem L2
inductive KA where
 | int (i:Int) | str (s:List Nat)
 deriving DecidableEq
inductive D where
 | non | bl (b:Bool) | int (i:Int) | str (s:List Nat)
 | tup (l:List D) | lst (o:Bool) (l:List D)
 | dK (o:Bool) (ks:List KA) (l:List D)
 | dT (o:Bool) (ks:List (List KA)) (l:List D)
 | ins (o:Bool) (c:Nat) (ns:List Str) (l:List D)
 | dead
  | exc (c:Nat) (p:Int)
def xo(C a dx:Addr):Heap->Prop:=λh=>∃ o vs,h.get? a=some o/\o.cls=.ref C/\o.dict=some dx/\o.data=.fields vs
mutual
noncomputable def fz:D->D
 | .tup l=>.tup (fzs l)
 | .lst _ l=>.lst false (fzs l)
 | .dK _ ks l=>.dK false ks (fzs l)
 | .dT _ ks l=>.dT false ks (fzs l)
 | .ins _ c ns l=>.ins false c ns (fzs l)
 | .non=>.non | .bl b=>.bl b | .int i=>.int i | .str s=>.str s | .dead=>.dead | .exc c p=>.exc c p
noncomputable def fzs:List D->List D
 | []=>[]
 | d::l=>fz d::fzs l
end
mutual
noncomputable def frz:D->Bool
 | .tup l=>frzs l
 | .lst o l=>!o&&frzs l
 | .dK o _ l=>!o&&frzs l
 | .dT o _ l=>!o&&frzs l
 | .ins o _ _ l=>!o&&frzs l
 | .non=>true | .bl _=>true | .int _=>true | .str _=>true | .dead=>true | .exc _ _=>true
noncomputable def frzs:List D->Bool
 | []=>true
 | d::l=>frz d&&frzs l
end
mutual
theorem jel:∀ d:D,frz d=true->fz d=d
 | .tup l,h=>by rw[frz] at h;rw[fz,jB l h]
 | .lst o l,h=>by rw[frz,M0] at h;rw[fz,jB l h.2];cases o<;>simp_all
 | .dK o ks l,h=>by rw[frz,M0] at h;rw[fz,jB l h.2];cases o<;>simp_all
 | .dT o ks l,h=>by rw[frz,M0] at h;rw[fz,jB l h.2];cases o<;>simp_all
 | .ins o c ns l,h=>by rw[frz,M0] at h;rw[fz,jB l h.2];cases o<;>simp_all
 | .non,_=>rfl | .bl _,_=>rfl | .int _,_=>rfl | .str _,_=>rfl | .dead,_=>rfl | .exc _ _,_=>rfl
theorem jB:∀ l:List D,frzs l=true->fzs l=l
 | [],_=>rfl
 | d::l,h=>by rw[frzs,M0] at h;rw[fzs,jel d h.1,jB l h.2]
end
mutual
theorem jkZ:∀ d:D,frz (fz d)=true
 | .tup l=>by rw[fz,frz];exact Yo l
 | .lst o l=>by rw[fz,frz,Yo l];rfl
 | .dK o ks l=>by rw[fz,frz,Yo l];rfl
 | .dT o ks l=>by rw[fz,frz,Yo l];rfl
 | .ins o c ns l=>by rw[fz,frz,Yo l];rfl
 | .non=>rfl | .bl _=>rfl | .int _=>rfl | .str _=>rfl | .dead=>rfl | .exc _ _=>rfl
theorem Yo:∀ l:List D,frzs (fzs l)=true
 | []=>rfl
 | d::l=>by rw[fzs,frzs,jkZ d,Yo l];rfl
end
theorem qV:∀ l:List D,fzs l=l.map fz
 | []=>rfl
 | d::l=>by rw[fzs,qV l];rfl
theorem K4:∀ l:List D,frzs l=l.all frz
 | []=>rfl
 | d::l=>by rw[frzs,K4 l];rfl
structure RC where
 K:PySem.W.Frag
 cls:Nat->Addr
noncomputable def kaV:KA->Key
 | .int i=>.inl i
 | .str s=>.inr (S s)
noncomputable abbrev Zn:=Addr->Prop
def FT(R:RC)(Z:Zn)(H:Hp)(a:Addr)(vs:List V):Prop :=
 (Z a/\Rd H a (.tup vs)) \/ ∃(o:Obj) (its:Array Value) (n:Nat),R.K.lookup a=some o/\o.cls=.type "tuple"/\o.data=.seq its n/\its.size<=sizeLine/\Vals vs its.toList/\o.dict=none
def FL(R:RC)(Z:Zn)(H:Hp)(a:Addr)(vs:List V):Prop :=
 (Z a/\Rd H a (.lst vs)) \/ ∃(its:Array Value) (n:Nat),R.K.lookup a=some { cls:=.type "list",data:=.seq its n }/\its.size<=sizeLine/\Vals vs its.toList
def DkA(o:Bool)(H:Hp)(a:Addr)(kvs:List (Key×V)):Prop:=bif o then H a=some (.dK kvs) else Rd H a (.dK kvs)
mutual
def Rep(R:RC)(Z:Zn)(H:Hp):D->V->List Addr->Prop
 | .non,v,O=>v=.non/\O=[]
 | .bl b,v,O=>v=.bl b/\O=[]
 | .int i,v,O=>v=.int i/\O=[]
 | .str s,v,O=>v=.str (S s)/\O=[]
 | .dead,_,O=>O=[]
 | .exc c p,v,O=>∃ a dx,v=.ref a/\Z a/\Z dx/\H a=some (.ext (xo (R.cls c) a dx))/\H dx=some (.xd [("place",.int p)])/\O=[]
 | .tup l,v,O=>∃ a vs,v=.ref a/\FT R Z H a vs/\Reps R Z H l vs O
 | .lst o l,v,O=>∃ a vs O',v=.ref a/\Reps R Z H l vs O'/\bif o then H a=some (.lst vs)/\O=a::O' else FL R Z H a vs/\O'=[]/\O=[]
 | .dK o ks l,v,O=>∃ a vs O',v=.ref a/\Reps R Z H l vs O'/\ks.length=l.length/\DkA o H a ((ks.map kaV).zip vs)/\bif o then O=a::O' else Z a/\O'=[]/\O=[]
 | .dT o ks l,v,O=>∃ a vs O',v=.ref a/\Reps R Z H l vs O'/\ks.length=l.length/\H a=some (.dT ((ks.map (List.map kaV)).zip vs))/\bif o then O=a::O' else Z a/\O'=[]/\O=[]
 | .ins o c ns l,v,O=>∃ a dx vs O',v=.ref a/\Reps R Z H l vs O'/\ns.length=l.length/\H a=some (.ins (R.cls c) dx (ns.zip vs))/\bif o then O=a::O' else Z a/\O'=[]/\O=[]
def Reps(R:RC)(Z:Zn)(H:Hp):List D->List V->List Addr->Prop
 | [],vs,O=>vs=[]/\O=[]
 | d::ds,vs,O=>∃ v vs' O1 O2,vs=v::vs'/\O=O1++O2/\Rep R Z H d v O1/\Reps R Z H ds vs' O2
end
section
variable {R:RC}{Z Z':Zn}{H H':Hp}
theorem FT.sq{a:Addr}{vs:List V}(h:FT R Z H a vs):SqT R.K H a vs:=by
 rcases h with⟨_,h⟩ | ⟨o,its,n,b,c,d,e,f,_⟩
 ·exact .inl h
 ·exact .inr ⟨o,its,n,b,c,d,e,f⟩
theorem FL.sqx{a:Addr}{vs:List V}(h:FL R Z H a vs):SqX R.K H a vs:=by
 rcases h with⟨_,h⟩ | h
 ·exact .inl h
 ·exact .inr h
theorem FL.sq{a:Addr}{vs:List V}(h:FL R Z H a vs):SqL R.K H a vs:=h.sqx.sq
theorem Rd.agree{a:Addr}{u:HO}(e:H' a=H a)(h:Rd H a u):Rd H' a u:=by
 unfold Rd at h ⊢;rw[e];exact h
theorem FT.frame{a:Addr}{vs:List V}(hz:∀ a,Z a->Z' a)(b:∀ a,Z a->H' a=H a)(h:FT R Z H a vs):FT R Z' H' a vs:=by
 rcases h with⟨z,h⟩ | h
 ·exact .inl ⟨hz a z,Rd.agree (b a z) h⟩
 ·exact .inr h
theorem FL.frame{a:Addr}{vs:List V}(hz:∀ a,Z a->Z' a)(b:∀ a,Z a->H' a=H a)(h:FL R Z H a vs):FL R Z' H' a vs:=by
 rcases h with⟨z,h⟩ | h
 ·exact .inl ⟨hz a z,Rd.agree (b a z) h⟩
 ·exact .inr h
mutual
theorem Rep.frame(hz:∀ a,Z a->Z' a)(hH:∀ a,Z a->H' a=H a):∀{d:D}{v:V}{O:List Addr},Rep R Z H d v O->(∀ a∈O,H' a=H a)->Rep R Z' H' d v O
 | .non,_,_,h,_=>by rw[Rep] at h ⊢;exact h
 | .bl _,_,_,h,_=>by rw[Rep] at h ⊢;exact h
 | .int _,_,_,h,_=>by rw[Rep] at h ⊢;exact h
 | .str _,_,_,h,_=>by rw[Rep] at h ⊢;exact h
 | .dead,_,_,h,_=>by rw[Rep] at h ⊢;exact h
 | .exc _ _,_,_,h,_=>by
  rw[Rep] at h ⊢;obtain⟨a,dx,e,z1,z2,h1,h2,h3⟩:=h;exact⟨a,dx,e,hz a z1,hz dx z2,(hH a z1).trans h1,(hH dx z2).trans h2,h3⟩
 | .tup l,_,_,h,hO=>by
  rw[Rep] at h ⊢;obtain⟨a,vs,e,t,r⟩:=h;exact⟨a,vs,e,t.frame hz hH,Reps.frame hz hH r hO⟩
 | .lst o l,_,_,h,hO=>by
  rw[Rep] at h ⊢;obtain⟨a,vs,O',e,r,h⟩:=h;cases o with
  | true =>
   obtain⟨h1,rfl⟩:=h;exact⟨a,vs,O',e,Reps.frame hz hH r λb hb=>hO b (L6 _ hb),by rw[cond_true,hO a L7];exact⟨h1,rfl⟩⟩
  | false =>
   obtain⟨h1,rfl,rfl⟩:=h;exact⟨a,vs,[],e,Reps.frame hz hH r (λb hb=>nomatch hb),h1.frame hz hH,rfl,rfl⟩
 | .dK o ks l,_,_,h,hO=>by
  rw[Rep] at h ⊢;obtain⟨a,vs,O',e,r,hl,hd,h⟩:=h;cases o with
  | true =>
   have h:=(show _=_ from h);subst h;exact⟨a,vs,O',e,Reps.frame hz hH r λb hb=>hO b (L6 _ hb),hl,by show H' a=some _;rw[hO a L7];exact hd,rfl⟩
  | false =>
   obtain⟨h1,rfl,rfl⟩:=h;exact⟨a,vs,[],e,Reps.frame hz hH r (λb hb=>nomatch hb),hl,Rd.agree (hH a h1) hd,hz a h1,rfl,rfl⟩
 | .dT o ks l,_,_,h,hO=>by
  rw[Rep] at h ⊢;obtain⟨a,vs,O',e,r,hl,hd,h⟩:=h;cases o with
  | true =>
   have h:=(show _=_ from h);subst h;exact⟨a,vs,O',e,Reps.frame hz hH r λb hb=>hO b (L6 _ hb),hl,by rw[hO a L7];exact hd,rfl⟩
  | false =>
   obtain⟨h1,rfl,rfl⟩:=h;exact⟨a,vs,[],e,Reps.frame hz hH r (λb hb=>nomatch hb),hl,by rw[hH a h1];exact hd,hz a h1,rfl,rfl⟩
 | .ins o c ns l,_,_,h,hO=>by
  rw[Rep] at h ⊢;obtain⟨a,dx,vs,O',e,r,hl,hd,h⟩:=h;cases o with
  | true =>
   have h:=(show _=_ from h);subst h;exact⟨a,dx,vs,O',e,Reps.frame hz hH r λb hb=>hO b (L6 _ hb),hl,by rw[hO a L7];exact hd,rfl⟩
  | false =>
   obtain⟨h1,rfl,rfl⟩:=h;exact⟨a,dx,vs,[],e,Reps.frame hz hH r (λb hb=>nomatch hb),hl,by rw[hH a h1];exact hd,hz a h1,rfl,rfl⟩
theorem Reps.frame(hz:∀ a,Z a->Z' a)(hH:∀ a,Z a->H' a=H a):∀{l:List D}{vs:List V}{O:List Addr},Reps R Z H l vs O->(∀ a∈O,H' a=H a)->Reps R Z' H' l vs O
 | [],_,_,h,_=>by rw[Reps] at h ⊢;exact h
 | d::l,_,_,h,hO=>by
  rw[Reps] at h ⊢;obtain⟨v,vs,O1,O2,e,rfl,r1,r2⟩:=h;exact⟨v,vs,O1,O2,e,rfl,Rep.frame hz hH r1 λa ha=>hO a (List.mem_append_left _ ha),Reps.frame hz hH r2 λa ha=>hO a (U4 _ ha)⟩
end
mutual
theorem Rep.nil:∀{d:D}{v:V}{O:List Addr},Rep R Z H d v O->frz d=true->O=[]
 | .non,_,_,h,_=>by rw[Rep] at h;exact h.2
 | .bl _,_,_,h,_=>by rw[Rep] at h;exact h.2
 | .int _,_,_,h,_=>by rw[Rep] at h;exact h.2
 | .str _,_,_,h,_=>by rw[Rep] at h;exact h.2
 | .dead,_,_,h,_=>by rw[Rep] at h;exact h
 | .exc _ _,_,_,h,_=>by rw[Rep] at h;obtain⟨_,_,_,_,_,_,_,h⟩:=h;exact h
 | .tup l,_,_,h,f=>by
  rw[Rep] at h;rw[frz] at f;obtain⟨a,vs,e,t,r⟩:=h;exact Reps.nil r f
 | .lst o l,_,_,h,f=>by
  rw[Rep] at h;rw[frz] at f;obtain⟨a,vs,O',e,r,h⟩:=h;cases o with
  | true=>exact absurd f (by simp)
  | false=>exact h.2.2
 | .dK o ks l,_,_,h,f=>by
  rw[Rep] at h;rw[frz] at f;obtain⟨a,vs,O',e,r,hl,hd,h⟩:=h;cases o with
  | true=>exact absurd f (by simp)
  | false=>exact h.2.2
 | .dT o ks l,_,_,h,f=>by
  rw[Rep] at h;rw[frz] at f;obtain⟨a,vs,O',e,r,hl,hd,h⟩:=h;cases o with
  | true=>exact absurd f (by simp)
  | false=>exact h.2.2
 | .ins o c ns l,_,_,h,f=>by
  rw[Rep] at h;rw[frz] at f;obtain⟨a,dx,vs,O',e,r,hl,hd,h⟩:=h;cases o with
  | true=>exact absurd f (by simp)
  | false=>exact h.2.2
theorem Reps.nil:∀{l:List D}{vs:List V}{O:List Addr},Reps R Z H l vs O->frzs l=true->O=[]
 | [],_,_,h,_=>by rw[Reps] at h;exact h.2
 | d::l,_,_,h,f=>by
  rw[Reps] at h;rw[frzs,M0] at f;obtain⟨v,vs,O1,O2,e,rfl,r1,r2⟩:=h;rw[Rep.nil r1 f.1,Reps.nil r2 f.2];rfl
end
mutual
theorem Rep.freeze:∀{d:D}{v:V}{O:List Addr},Rep R Z H d v O->(∀ a,Z a->Z' a)->(∀ a∈O,Z' a)->Rep R Z' H (fz d) v []
 | .non,_,_,h,_,_=>by rw[Rep] at h;rw[fz,Rep];exact⟨h.1,rfl⟩
 | .bl _,_,_,h,_,_=>by rw[Rep] at h;rw[fz,Rep];exact⟨h.1,rfl⟩
 | .int _,_,_,h,_,_=>by rw[Rep] at h;rw[fz,Rep];exact⟨h.1,rfl⟩
 | .str _,_,_,h,_,_=>by rw[Rep] at h;rw[fz,Rep];exact⟨h.1,rfl⟩
 | .dead,_,_,h,_,_=>by rw[fz,Rep]
 | .exc _ _,_,_,h,hz,_=>by
  rw[Rep] at h;rw[fz,Rep];obtain⟨a,dx,e,z1,z2,h1,h2,_⟩:=h;exact⟨a,dx,e,hz a z1,hz dx z2,h1,h2,rfl⟩
 | .tup l,_,_,h,hz,hO=>by
  rw[Rep] at h;rw[fz,Rep];obtain⟨a,vs,e,t,r⟩:=h;exact⟨a,vs,e,t.frame hz λ_ _=>rfl,Reps.freeze r hz hO⟩
 | .lst o l,_,_,h,hz,hO=>by
  rw[Rep] at h;rw[fz,Rep];obtain⟨a,vs,O',e,r,h⟩:=h;cases o with
  | true =>
   obtain⟨h1,rfl⟩:=h;exact⟨a,vs,[],e,Reps.freeze r hz λb hb=>hO b (L6 _ hb),.inl ⟨hO a L7,.inl h1⟩,rfl,rfl⟩
  | false =>
   obtain⟨h1,rfl,rfl⟩:=h;exact⟨a,vs,[],e,Reps.freeze r hz (λb hb=>nomatch hb),h1.frame hz (λ_ _=>rfl),rfl,rfl⟩
 | .dK o ks l,_,_,h,hz,hO=>by
  rw[Rep] at h;rw[fz,Rep];obtain⟨a,vs,O',e,r,hl,hd,h⟩:=h;have hl':ks.length=(fzs l).length:=by rw[qV,L0];exact hl
  cases o with
  | true =>
   have h:=(show _=_ from h);subst h;exact⟨a,vs,[],e,Reps.freeze r hz λb hb=>hO b (L6 _ hb),hl',.inl hd,hO a L7,rfl,rfl⟩
  | false =>
   obtain⟨h1,rfl,rfl⟩:=h;exact⟨a,vs,[],e,Reps.freeze r hz (λb hb=>nomatch hb),hl',hd,hz a h1,rfl,rfl⟩
 | .dT o ks l,_,_,h,hz,hO=>by
  rw[Rep] at h;rw[fz,Rep];obtain⟨a,vs,O',e,r,hl,hd,h⟩:=h;have hl':ks.length=(fzs l).length:=by rw[qV,L0];exact hl
  cases o with
  | true =>
   have h:=(show _=_ from h);subst h;exact⟨a,vs,[],e,Reps.freeze r hz λb hb=>hO b (L6 _ hb),hl',hd,hO a L7,rfl,rfl⟩
  | false =>
   obtain⟨h1,rfl,rfl⟩:=h;exact⟨a,vs,[],e,Reps.freeze r hz (λb hb=>nomatch hb),hl',hd,hz a h1,rfl,rfl⟩
 | .ins o c ns l,_,_,h,hz,hO=>by
  rw[Rep] at h;rw[fz,Rep];obtain⟨a,dx,vs,O',e,r,hl,hd,h⟩:=h;have hl':ns.length=(fzs l).length:=by rw[qV,L0];exact hl
  cases o with
  | true =>
   have h:=(show _=_ from h);subst h;exact⟨a,dx,vs,[],e,Reps.freeze r hz λb hb=>hO b (L6 _ hb),hl',hd,hO a L7,rfl,rfl⟩
  | false =>
   obtain⟨h1,rfl,rfl⟩:=h;exact⟨a,dx,vs,[],e,Reps.freeze r hz (λb hb=>nomatch hb),hl',hd,hz a h1,rfl,rfl⟩
theorem Reps.freeze:∀{l:List D}{vs:List V}{O:List Addr},Reps R Z H l vs O->(∀ a,Z a->Z' a)->(∀ a∈O,Z' a)->Reps R Z' H (fzs l) vs []
 | [],_,_,h,_,_=>by rw[Reps] at h;rw[fzs,Reps];exact⟨h.1,rfl⟩
 | d::l,_,_,h,hz,hO=>by
  rw[Reps] at h;rw[fzs,Reps];obtain⟨v,vs,O1,O2,e,rfl,r1,r2⟩:=h;exact⟨v,vs,[],[],e,rfl,Rep.freeze r1 hz λa ha=>hO a (List.mem_append_left _ ha),Reps.freeze r2 hz λa ha=>hO a (U4 _ ha)⟩
end
theorem Reps.length:∀{l:List D}{vs:List V}{O:List Addr},Reps R Z H l vs O->vs.length=l.length
 | [],_,_,h=>by rw[Reps] at h;rw[h.1];rfl
 | d::l,_,_,h=>by
  rw[Reps] at h;obtain⟨v,vs,b,c,rfl,rfl,e,a⟩:=h;rw[M3,M3,Reps.length a]
theorem Reps.append:∀{l m:List D}{vs ws:List V}{O P:List Addr},Reps R Z H l vs O->Reps R Z H m ws P->Reps R Z H (l++m) (vs++ws) (O++P)
 | [],m,_,_,_,_,h,k=>by rw[Reps] at h;obtain⟨rfl,rfl⟩:=h;exact k
 | d::l,m,_,_,_,_,h,k=>by
  rw[Reps] at h;obtain⟨v,vs,a,e,rfl,rfl,b,c⟩:=h;rw[List.cons_append,Reps];exact⟨v,_,a,_,rfl,List.append_assoc ..,b,Reps.append c k⟩
theorem Reps.one{d:D}{v:V}{O:List Addr}(h:Rep R Z H d v O):Reps R Z H [d] [v] O:=by
 rw[Reps];exact⟨v,[],O,[],rfl,(N1 O).symm,h,by rw[Reps];exact⟨rfl,rfl⟩⟩
theorem Reps.cons{d:D}{v:V}{O P:List Addr}{l:List D}{vs:List V}(h:Rep R Z H d v O)(k:Reps R Z H l vs P):Reps R Z H (d::l) (v::vs) (O++P):=by
 rw[Reps];exact⟨v,vs,O,P,rfl,rfl,h,k⟩
theorem Reps.empty:Reps R Z H [] [] []:=by rw[Reps];exact⟨rfl,rfl⟩
theorem Reps.at:∀{l:List D}{vs:List V}{O:List Addr}{i:Nat}{d:D},Reps R Z H l vs O->l[i]?=some d ->
  ∃ v A P B,vs[i]?=some v/\O=A++P++B/\Rep R Z H d v P/\∀{Z':Zn}{H':Hp}{d':D}{v':V}{P':List Addr},Rep R Z' H' d' v' P'->(∀ a,Z a->Z' a)->(∀ a,Z a->H' a=H a)->(∀ a∈A,H' a=H a)->(∀ a∈B,H' a=H a)->Reps R Z' H' (l.set i d') (vs.set i v') (A++P'++B)
 | [],_,_,_,_,_,e=>by simp at e
 | c::l,_,_,0,d,h,e=>by
  rw[Reps] at h;obtain⟨v,vs,b,j,rfl,rfl,m,n⟩:=h;have e:c=d:=by simpa using e
  subst e;refine⟨v,[],b,j,rfl,rfl,m,λr f g o p=>?_⟩;rw[List.set_cons_zero,List.set_cons_zero,Reps];exact⟨_,vs,_,j,rfl,rfl,r,Reps.frame f g n p⟩
 | c::l,_,_,i+1,d,h,e=>by
  rw[Reps] at h;obtain⟨v,vs,b,j,rfl,rfl,m,n⟩:=h;obtain⟨w,A,P,B,s,rfl,t,k⟩:=Reps.at (i:=i) (d:=d) n (by simpa using e);refine⟨w,b++A,P,B,by simpa using s,by simp,t,λ{Z' H' d' v' P'} r f g o p=>?_⟩;rw[List.set_cons_succ,List.set_cons_succ,Reps];exact⟨v,_,b,A++P'++B,rfl,by simp,Rep.frame f g m λa q=>o a (List.mem_append_left _ q),k r f g (λa q=>o a (U4 _ q)) p⟩
theorem Reps.item{l:List D}{vs:List V}{i:Nat}{d:D}(h:Reps R Z H l vs [])(e:l[i]?=some d):∃ v,vs[i]?=some v/\Rep R Z H d v []:=by
 obtain⟨v,A,P,B,a,b,r,_⟩:=h.at e;have:P=[]:=by
  have:=congrArg List.length b;simp at this;exact List.eq_nil_of_length_eq_zero (by omega)
 subst this;exact⟨v,a,r⟩
theorem Reps.take:∀{l:List D}{vs:List V}(n:Nat),Reps R Z H l vs []->Reps R Z H (l.take n) (vs.take n) []
 | _,_,0,_=>by simp;exact .empty
 | [],_,n+1,h=>by rw[Reps] at h;rw[h.1];exact .empty
 | d::l,_,n+1,h=>by
  rw[Reps] at h;obtain⟨v,vs,c,f,rfl,e,a,b⟩:=h;obtain⟨rfl,rfl⟩:=List.append_eq_nil_iff.mp e.symm;rw[List.take_succ_cons,List.take_succ_cons];exact .cons a (Reps.take n b)
theorem Reps.drop:∀{l:List D}{vs:List V}(n:Nat),Reps R Z H l vs []->Reps R Z H (l.drop n) (vs.drop n) []
 | _,_,0,h=>h
 | [],_,n+1,h=>by rw[Reps] at h;rw[h.1];exact .empty
 | d::l,_,n+1,h=>by
  rw[Reps] at h;obtain⟨v,vs,b,c,rfl,e,f,a⟩:=h;obtain⟨rfl,rfl⟩:=List.append_eq_nil_iff.mp e.symm;rw[List.drop_succ_cons,List.drop_succ_cons];exact Reps.drop n a
structure WF(Z:Zn)(H:Hp)(O:List Addr):Prop where
 nd:O.Nodup
 nz:∀ a∈O,¬ Z a
 od:∀ a∈O,H a≠none
 zd:∀ a,Z a->H a≠none
structure Go(Z:Zn)(H:Hp)(O:List Addr)(Z':Zn)(H':Hp)(O':List Addr):Prop where
 wf:WF Z' H' O'
 zz:∀ a,Z a->Z' a
 fr:∀ a,H a≠none->a∉O->H' a=H a
 zn:∀ a,Z' a->Z a \/ a∈O \/ H a=none
 sub:∀ a∈O',a∈O \/ H a=none
 dm:∀ a,H a≠none->H' a≠none
variable {O O' O'' A B:List Addr}{Z'':Zn}{H'':Hp}
theorem Go.refl(w:WF Z H O):Go Z H O Z H O:=⟨w,λ_ z=>z,λ_ _ _=>rfl,λ_ z=>.inl z,λ_ h=>.inl h,λ_ h=>h⟩
theorem Go.trans(g:Go Z H O Z' H' O')(k:Go Z' H' O' Z'' H'' O''):Go Z H O Z'' H'' O'':=by
 refine⟨k.wf,λa z=>k.zz a (g.zz a z),λa h n=>?_,λa z=>?_,λa h=>?_,λa h=>k.dm a (g.dm a h)⟩
 ·rw[k.fr a (g.dm a h) λb=>(g.sub a b).elim n λe=>h e,g.fr a h n]
 ·rcases k.zn a z with z | z | z
  ·exact g.zn a z
  ·rcases g.sub a z with q | q
   ·exact .inr (.inl q)
   ·exact .inr (.inr q)
  ·by_cases h:H a=none
   ·exact .inr (.inr h)
   ·exact absurd z (g.dm a h)
 ·rcases k.sub a h with q | q
  ·exact g.sub a q
  ·by_cases h:H a=none
   ·exact .inr h
   ·exact absurd q (g.dm a h)
theorem Go.zH(w:WF Z H O)(g:Go Z H O Z' H' O'):∀ a,Z a->H' a=H a:=λa z=>g.fr a (w.zd a z) λh=>w.nz a h z
theorem WF.sub(w:WF Z H O)(h:∀ a∈O',a∈O)(n:O'.Nodup):WF Z H O':=⟨n,λa z=>w.nz a (h a z),λa z=>w.od a (h a z),w.zd⟩
theorem WF.mid(w:WF Z H (A++O++B)):WF Z H O:=w.sub (λa h=>by simp[h]) (by have:=w.nd;simp[X0] at this;exact this.2.1.1)
theorem WF.left(w:WF Z H (A++B)):WF Z H A:=w.sub (λa h=>by simp[h]) (X0.mp w.nd).1
theorem Go.frame(w:WF Z H (A++O++B))(g:Go Z H O Z' H' O'):Go Z H (A++O++B) Z' H' (A++O'++B):=by
 have nd:=w.nd;simp only[X0,N3] at nd;have new:∀ a∈O',a∉A/\a∉B:=λa h=>by
  rcases g.sub a h with q | q
  ·exact⟨λz=>nd.1.2.2 a z a q rfl,λz=>nd.2.2 a (.inr q) a z rfl⟩
  ·exact⟨λz=>w.od a (by simp[z]) q,λz=>w.od a (by simp[z]) q⟩
 have keep:∀ a,a∈A \/ a∈B->a∉O:=λa h z=>by
  rcases h with h | h
  ·exact nd.1.2.2 a h a z rfl
  ·exact nd.2.2 a (.inr z) a h rfl
 refine⟨⟨?_,λa h z=>?_,λa h=>?_,g.wf.zd⟩,g.zz,λa h n=>?_,λa z=>?_,λa h=>?_,g.dm⟩
 ·simp only[X0,N3];exact⟨⟨nd.1.1,g.wf.nd,λa h b k e=>(new b k).1 (e▸h)⟩,nd.2.1,λa h b k e=>by
   rcases h with h | h
   ·exact nd.2.2 a (.inl h) b k e
   ·exact(new a h).2 (e▸k)⟩
 ·simp only[N3] at h;rcases h with(h | h) | h
  ·rcases g.zn a z with q | q | q
   ·exact w.nz a (by simp[h]) q
   ·exact keep a (.inl h) q
   ·exact w.od a (by simp[h]) q
  ·exact g.wf.nz a h z
  ·rcases g.zn a z with q | q | q
   ·exact w.nz a (by simp[h]) q
   ·exact keep a (.inr h) q
   ·exact w.od a (by simp[h]) q
 ·simp only[N3] at h;rcases h with(h | h) | h
  ·exact g.dm a (w.od a (by simp[h]))
  ·exact g.wf.od a h
  ·exact g.dm a (w.od a (by simp[h]))
 ·simp only[N3,not_or] at n;exact g.fr a h n.1.2
 ·rcases g.zn a z with q | q | q
  ·exact .inl q
  ·exact .inr (.inl (by simp[q]))
  ·exact .inr (.inr q)
 ·simp only[N3] at h ⊢;rcases h with(h | h) | h
  ·exact .inl (.inl (.inl h))
  ·rcases g.sub a h with q | q
   ·exact .inl (.inl (.inr q))
   ·exact .inr q
  ·exact .inl (.inr h)
theorem Go.keepA(w:WF Z H (A++O++B))(g:Go Z H O Z' H' O'):(∀ a∈A,H' a=H a)/\∀ a∈B,H' a=H a:=by
 have nd:=w.nd;simp only[X0,N3] at nd;exact⟨λa h=>g.fr a (w.od a (by simp[h])) λz=>nd.1.2.2 a h a z rfl,λa h=>g.fr a (w.od a (by simp[h])) λz=>nd.2.2 a (.inr z) a h rfl⟩
theorem Go.drop(g:Go Z H O Z' H' O')(h:∀ a∈O'',a∈O')(n:O''.Nodup):Go Z H O Z' H' O'':=⟨g.wf.sub h n,g.zz,g.fr,g.zn,λa q=>g.sub a (h a q),g.dm⟩
theorem Go.dropL(g:Go Z H O Z' H' (A++B)):Go Z H O Z' H' B:=g.drop (λa h=>by simp[h]) (X0.mp g.wf.nd).2.1
theorem Go.dropR(g:Go Z H O Z' H' (A++B)):Go Z H O Z' H' A:=g.drop (λa h=>by simp[h]) (X0.mp g.wf.nd).1
theorem Go.freeze(w:WF Z H O):Go Z H O (λa=>Z a \/ a∈O) H [] :=
 ⟨⟨List.nodup_nil,λa h=>(nomatch h),λa h=>(nomatch h),λa h=>h.elim (w.zd a) (w.od a)⟩,λa z=>.inl z,λ_ _ _=>rfl,λa z=>z.elim .inl λq=>.inr (.inl q),λa h=>(nomatch h),λ_ h=>h⟩
theorem Go.newF{p:Addr}{o:HO}(w:WF Z H O)(hp:H p=none):Go Z H O (λa=>Z a \/ a=p) (upd H p o) O:=by
 have ne:∀ a,H a≠none->a≠p:=λa h e=>h (e▸hp);refine⟨⟨w.nd,λa h z=>z.elim (w.nz a h) (ne a (w.od a h)),λa h=>?_,λa z=>?_⟩,λa z=>.inl z,λa h _=>jo (ne a h),λa z=>z.elim .inl λe=>.inr (.inr (e▸hp)),λa h=>.inl h,λa h=>?_⟩
 ·rw[jo (ne a (w.od a h))];exact w.od a h
 ·by_cases e:a=p
  ·rw[e,jU];exact λh=>nomatch h
  ·rw[jo e];exact w.zd a (z.resolve_right e)
 ·rw[jo (ne a h)];exact h
theorem Go.newO{p:Addr}{o:HO}(w:WF Z H O)(hp:H p=none):Go Z H O Z (upd H p o) (p::O):=by
 have ne:∀ a,H a≠none->a≠p:=λa h e=>h (e▸hp);refine⟨⟨List.nodup_cons.mpr ⟨λh=>w.od p h hp,w.nd⟩,λa h z=>?_,λa h=>?_,λa z=>?_⟩,λa z=>z,λa h _=>jo (ne a h),λa z=>.inl z,λa h=>?_,λa h=>?_⟩
 ·rcases M5.mp h with e | e
  ·exact w.zd a z (e▸hp)
  ·exact w.nz a e z
 ·rcases M5.mp h with e | e
  ·rw[e,jU];exact λh=>nomatch h
  ·rw[jo (ne a (w.od a e))];exact w.od a e
 ·rw[jo (ne a (w.zd a z))];exact w.zd a z
 ·rcases M5.mp h with e | e
  ·exact .inr (e▸hp)
  ·exact .inl e
 ·rw[jo (ne a h)];exact h
theorem Go.put{p:Addr}{o:HO}(w:WF Z H O)(hp:p∈O):Go Z H O Z (upd H p o) O:=by
 have b:∀ a,upd H p o a=none->a≠p/\H a=none:=λa h=>by
  by_cases e:a=p
  ·rw[e,jU] at h;cases h
  ·rw[jo e] at h;exact⟨e,h⟩
 exact⟨⟨w.nd,w.nz,λa h z=>w.od a h (b a z).2,λa z e=>w.zd a z (b a e).2⟩,λa z=>z,λa h n=>jo λe=>n (e▸hp),λa z=>.inl z,λa h=>.inl h,λa h z=>h (b a z).2⟩
end
noncomputable abbrev Rh:=List (Option D)
def Slots(R:RC)(Z:Zn)(H:Hp):Rh->St->List Addr->Prop
 | [],σ,O=>σ=[]/\O=[]
 | none::ρ,σ,O=>∃ s σ',σ=s::σ'/\Slots R Z H ρ σ' O
 | some d::ρ,σ,O=>∃ v σ' O1 O2,σ=some v::σ'/\O=O1++O2/\Rep R Z H d v O1/\Slots R Z H ρ σ' O2
theorem Slots.frame(hz:∀ a,Z a->Z' a)(c:∀ a,Z a->H' a=H a):∀{ρ:Rh}{σ:St}{O:List Addr},Slots R Z H ρ σ O->(∀ a∈O,H' a=H a)->Slots R Z' H' ρ σ O
 | [],_,_,h,_=>h
 | none::ρ,_,_,h,b=>by
  obtain⟨s,f,e,r⟩:=h;exact⟨s,f,e,Slots.frame hz c r b⟩
 | some d::ρ,_,_,h,b=>by
  obtain⟨v,f,i,j,e,rfl,k,l⟩:=h;exact⟨v,f,i,j,e,rfl,k.frame hz c λa g=>b a (List.mem_append_left _ g),Slots.frame hz c l λa g=>b a (U4 _ g)⟩
theorem Slots.put:∀{ρ:Rh}{σ:St}{O:List Addr}{i:Nat},Slots R Z H ρ σ O->i < ρ.length->∃ A P B,O=A++P++B /\
  (∀ d,ρ[i]?=some (some d)->∃ v,σ[i]?=some (some v)/\Rep R Z H d v P) /\
  (∀{Z':Zn}{H':Hp}{d':D}{v':V}{P':List Addr},Rep R Z' H' d' v' P'->(∀ a,Z a->Z' a)->(∀ a,Z a->H' a=H a)->(∀ a∈A,H' a=H a)->(∀ a∈B,H' a=H a)->Slots R Z' H' (ρ.set i (some d')) (σ.set i (some v')) (A++P'++B)) /\
  Slots R Z H (ρ.set i none) σ (A++B)
 | [],_,_,_,_,j=>absurd j (Nat.not_lt_zero _)
 | none::ρ,_,_,0,h,j=>by
  obtain⟨s,b,rfl,r⟩:=h;refine⟨[],[],_,rfl,λd e=>by simp at e,λq f g l k=>?_,?_⟩
  ·exact⟨_,b,_,_,rfl,rfl,q,Slots.frame f g r k⟩
  ·exact⟨s,b,rfl,r⟩
 | some c::ρ,_,_,0,h,j=>by
  obtain⟨v,b,m,x,rfl,rfl,n,o⟩:=h;refine⟨[],m,x,rfl,λd e=>?_,λq f g l k=>?_,?_⟩
  ·have e:c=d:=by simpa using e
   subst e;exact⟨v,rfl,n⟩
  ·exact⟨_,b,_,_,rfl,rfl,q,Slots.frame f g o k⟩
  ·exact⟨_,b,rfl,o⟩
 | none::ρ,_,_,i+1,h,j=>by
  obtain⟨s,b,rfl,r⟩:=h;obtain⟨A,P,B,rfl,p,t,u⟩:=Slots.put (i:=i) r (by simpa using j);refine⟨A,P,B,rfl,λd e=>p d (by simpa using e),λq f g l k=>?_,?_⟩
  ·exact⟨s,_,rfl,t q f g l k⟩
  ·exact⟨s,b,rfl,u⟩
 | some c::ρ,_,_,i+1,h,j=>by
  obtain⟨v,b,m,x,rfl,rfl,n,o⟩:=h;obtain⟨A,P,B,rfl,p,t,u⟩:=Slots.put (i:=i) o (by simpa using j);refine⟨m++A,P,B,by simp,λd e=>p d (by simpa using e),λ{Z' H' d' v' P'} q f g l k=>?_,?_⟩
  ·exact⟨v,_,m,A++P'++B,rfl,by simp,n.frame f g λa w=>l a (List.mem_append_left _ w),t q f g (λa w=>l a (U4 _ w)) k⟩
  ·exact⟨v,b,m,A++B,rfl,by simp,n,u⟩
theorem vF:∀{l:List α}{i:Nat}{x:α},l[i]?=some x->l.set i x=l
 | [],_,_,h=>by simp at h
 | y::l,0,x,h=>by simp at h;subst h;rfl
 | y::l,i+1,x,h=>by rw[List.set_cons_succ,vF (by simpa using h)]
noncomputable abbrev FE:=Rh->Option (D×Rh)
noncomputable abbrev FT':=Rh->Option (Bool×Rh)
noncomputable abbrev FA:=Rh->Option (List D×Rh)
def DE(R:RC)(te:TE)(f:FE):Prop:=∀{σ:St}{ρ ρ':Rh}{Z:Zn}{H:Hp}{O:List Addr}{d:D},WF Z H O->Slots R Z H ρ σ O->f ρ=some (d,ρ') ->
 ∀{Q:VK},(∀{v:V}{Z':Zn}{H':Hp}{P O':List Addr},Go Z H O Z' H' (P++O')->Rep R Z' H' d v P->Slots R Z' H' ρ' σ O'->Q v H')->te σ H Q
def DT(R:RC)(tt:TT)(f:FT'):Prop:=∀{σ:St}{ρ ρ':Rh}{Z:Zn}{H:Hp}{O:List Addr}{b:Bool},WF Z H O->Slots R Z H ρ σ O->f ρ=some (b,ρ') ->
 ∀{Q:Bool->Hp->Prop},(∀{Z':Zn}{H':Hp}{O':List Addr},Go Z H O Z' H' O'->Slots R Z' H' ρ' σ O'->Q b H')->tt σ H Q
def DA(R:RC)(ta:TA)(f:FA):Prop:=∀{σ:St}{ρ ρ':Rh}{Z:Zn}{H:Hp}{O:List Addr}{ds:List D},WF Z H O->Slots R Z H ρ σ O->f ρ=some (ds,ρ') ->
 ∀{Q:List V->Hp->Prop},(∀{vs:List V}{Z':Zn}{H':Hp}{P O':List Addr},Go Z H O Z' H' (P++O')->Reps R Z' H' ds vs P->Slots R Z' H' ρ' σ O'->Q vs H')->ta σ H Q
inductive Out where
 | nx (ρ:Rh) | rt (d:D) (ρ:Rh) | bk (ρ:Rh) | ct (ρ:Rh)
noncomputable abbrev FS:=Rh->Option Out
def Keep(pm:List Nat)(σ σ':St):Prop:=∀ i∈pm,σ'[i]?=σ[i]?
def OutOk(R:RC)(pm:List Nat)(Z:Zn)(H:Hp)(O:List Addr)(σ:St)(D':Ends):Out->Prop
 | .nx ρ'=>∀{σ':St}{Z':Zn}{H':Hp}{O':List Addr},Go Z H O Z' H' O'->Slots R Z' H' ρ' σ' O'->Keep pm σ σ'->D'.nx σ' H'
 | .bk ρ'=>∀{σ':St}{Z':Zn}{H':Hp}{O':List Addr},Go Z H O Z' H' O'->Slots R Z' H' ρ' σ' O'->Keep pm σ σ'->D'.bk σ' H'
 | .ct ρ'=>∀{σ':St}{Z':Zn}{H':Hp}{O':List Addr},Go Z H O Z' H' O'->Slots R Z' H' ρ' σ' O'->Keep pm σ σ'->D'.ct σ' H'
 | .rt d ρ'=>∀{v:V}{σ':St}{Z':Zn}{H':Hp}{P O':List Addr},Go Z H O Z' H' (P++O')->Rep R Z' H' d v P->Slots R Z' H' ρ' σ' O'->Keep pm σ σ'->D'.rt v H'
def DS(R:RC)(pm:List Nat)(ts:TS)(f:FS):Prop:=∀{σ:St}{ρ:Rh}{Z:Zn}{H:Hp}{O:List Addr}{o:Out},WF Z H O->Slots R Z H ρ σ O->f ρ=some o->∀{D':Ends},OutOk R pm Z H O σ D' o->ts D' σ H
def DG(R:RC)(pm:List Nat)(tg:TG)(f:D->Rh->Option Rh):Prop:=∀{σ:St}{ρ ρ':Rh}{Z:Zn}{H:Hp}{O P:List Addr}{d:D}{v:V},WF Z H (P++O)->Rep R Z H d v P->Slots R Z H ρ σ O->f d ρ=some ρ' ->
 ∀{Q:St->Hp->Prop},(∀{σ':St}{Z':Zn}{H':Hp}{O':List Addr},Go Z H (P++O) Z' H' O'->Slots R Z' H' ρ' σ' O'->Keep pm σ σ'->Q σ' H')->tg v σ H Q
theorem Keep.refl(pm:List Nat)(σ:St):Keep pm σ σ:=λ_ _=>rfl
theorem Keep.trans(h:Keep pm σ σ')(k:Keep pm σ' σ''):Keep pm σ σ'':=λi a=>(k i a).trans (h i a)
theorem Keep.set(h:i∉pm):Keep pm σ (σ.set i x):=λj a=>by
 have ne:i≠j:=λe=>h (by rw[e];exact a);rw[List.getElem?_set,if_neg ne]
noncomputable def dMv(i:Nat):FE:=λρ=>match ρ[i]? with
 | some (some d)=>some (d,ρ.set i none)
 | _=>none
theorem jmx:DE R (Yj i) (dMv i):=by
 intro σ ρ o Z H O d w h e Q k;unfold dMv at e;split at e
 ·rename_i c j;have l:i < ρ.length:=(L9.mp j).1;obtain⟨A,P,B,rfl,m,p,n⟩:=h.put l;obtain⟨v,ev,r⟩:=m c j;cases e;refine⟨v,ev,k (P:=P) ((Go.refl w).drop (λa q=>?_) ?_) r n⟩
  ·simp at q ⊢;rcases q with q | q | q<;>simp[q]
  ·have nd:=w.nd;simp only[X0,N3] at nd ⊢;exact⟨nd.1.2.1,⟨nd.1.1,nd.2.1,λa f b g=>nd.2.2 a (.inl f) b g⟩,λa f b g e=>g.elim (λq=>nd.1.2.2 b q a f e.symm) λq=>nd.2.2 a (.inr f) b q e⟩
 ·cases e
theorem jjN(h:n<=1000):n<=sizeLine:=Nat.le_of_lt (jdd h)
theorem Rep.tupNew(w:WF Z H O)(hp:H p=none)(r:Reps R Z H l vs O):Rep R (λa=>Z a \/ a=p) (upd H p (.tup vs)) (.tup l) (.ref p) O:=by
 have ne:∀ a,H a≠none->a≠p:=λa h e=>h (e▸hp);rw[Rep];exact⟨p,vs,rfl,.inl ⟨.inr rfl,.inl jU⟩,r.frame (λa z=>.inl z) (λa z=>jo (ne a (w.zd a z))) λa h=>jo (ne a (w.od a h))⟩
theorem Rep.lstNew(w:WF Z H O)(hp:H p=none)(r:Reps R Z H l vs O):Rep R Z (upd H p (.lst vs)) (.lst true l) (.ref p) (p::O):=by
 have ne:∀ a,H a≠none->a≠p:=λa h e=>h (e▸hp);rw[Rep];exact⟨p,vs,O,rfl,r.frame (λa z=>z) (λa z=>jo (ne a (w.zd a z))) λa h=>jo (ne a (w.od a h)),jU,rfl⟩
theorem Rep.bl_of(r:Rep R Z H (.bl b) v O):v=.bl b/\O=[]:=by rw[Rep] at r;exact r
theorem Rep.bl_mk:Rep R Z H (.bl b) (.bl b) []:=by rw[Rep];exact⟨rfl,rfl⟩
theorem OutOk.pre(g:Go Z H O Z1 H1 O1)(kp:Keep pm σ σ1)(k:OutOk R pm Z H O σ D' o):OutOk R pm Z1 H1 O1 σ1 D' o:=by
 cases o with
 | nx ρ=>exact λa b c=>k (g.trans a) b (kp.trans c)
 | bk ρ=>exact λa b c=>k (g.trans a) b (kp.trans c)
 | ct ρ=>exact λa b c=>k (g.trans a) b (kp.trans c)
 | rt d ρ=>exact λa e b c=>k (g.trans a) e b (kp.trans c)
noncomputable def jA:FS:=λρ=>some (.nx ρ)
noncomputable def jL(f g:FS):FS:=λρ=>match f ρ with
 | some (.nx ρ1)=>g ρ1
 | o=>o
theorem jhu:DS R pm ji5 jA:=by
 intro σ ρ Z H O o w h e a k;cases e;exact k (Go.refl w) h (Keep.refl _ _)
theorem jg8(i:DS R pm t f)(j:DS R pm u g):DS R pm (jjC t u) (jL f g):=by
 intro σ ρ Z H O o w h e a k;unfold jL at e;cases e1:f ρ with
 | none=>rw[e1] at e;cases e
 | some l =>
  rw[e1] at e;refine i w h e1 (D':={ a with nx:=u a }) ?_;cases l with
  | nx b=>exact λ{p q r s} c m n=>j c.wf m e (k.pre c n)
  | bk b=>cases e;exact k
  | ct b=>cases e;exact k
  | rt d b=>cases e;exact k
noncomputable def jf3:FS:=λρ=>some (.ct ρ)
theorem jju:DS R pm jiZ jf3:=by
 intro σ ρ Z H O o w h e a k;cases e;exact k (Go.refl w) h (Keep.refl _ _)
noncomputable def zv(fa:FE):FS:=λρ=>match fa ρ with
 | none=>none
 | some (_,ρ1)=>some (.nx ρ1)
theorem jd7(a:DE R ta fa):DS R pm (zF ta) (zv fa):=by
 intro σ ρ Z H O o w h e d k;unfold zv at e;cases e1:fa ρ with
 | none=>rw[e1] at e;cases e
 | some p =>
  obtain⟨x,f⟩:=p;rw[e1] at e;cases e;exact a w h e1 λb g c=>k b.dropL c (Keep.refl _ _)
noncomputable def yK(fa:FE):FS:=λρ=>match fa ρ with
 | none=>none
 | some (x,ρ1)=>some (.rt x ρ1)
theorem jkj(a:DE R ta fa):DS R pm (jhs ta) (yK fa):=by
 intro σ ρ Z H O o w h e f k;unfold yK at e;cases e1:fa ρ with
 | none=>rw[e1] at e;cases e
 | some p =>
  obtain⟨x,g⟩:=p;rw[e1] at e;cases e;exact a w h e1 λb c d=>k b c d (Keep.refl _ _)
noncomputable def sIf(ft:FT')(f g:FS):FS:=λρ=>match ft ρ with
 | none=>none
 | some (b,ρ1)=>bif b then f ρ1 else g ρ1
theorem jlm(d:DT R tt ft)(i:DS R pm t f)(j:DS R pm u g):DS R pm (jln tt t u) (sIf ft f g):=by
 intro σ ρ Z H O o w h e l k;unfold sIf at e;cases e1:ft ρ with
 | none=>rw[e1] at e;cases e
 | some p =>
  obtain⟨c,m⟩:=p;rw[e1] at e;dsimp only at e;refine d w h e1 λ{n q r} a b=>?_;cases c with
  | true=>exact jfE (i a.wf b e (k.pre a (Keep.refl _ _)))
  | false=>exact jfG (j a.wf b e (k.pre a (Keep.refl _ _)))
noncomputable def yu:FS:=λ_=>none
theorem jfF:DS R pm jdy yu:=by
 intro σ ρ Z H O o w h e a k;cases e
noncomputable def jS(pm:List Nat)(i:Nat):D->Rh->Option Rh:=λd ρ=>bif decide (i < ρ.length)&&!decide (i∈pm) then some (ρ.set i (some d)) else none
theorem jaJ:DG R pm (zK i) (jS pm i):=by
 intro σ ρ m Z H O P d v w r h e Q k;unfold jS at e;by_cases f:i < ρ.length
 ·by_cases g:i∈pm
  ·rw[X1 g] at e;simp at e
  ·rw[X1 f,X2 g] at e;cases e;obtain⟨A,n,B,rfl,o,l,p⟩:=h.put f;refine k (O':=A++P++B) ((Go.refl w).drop (λa q=>?_) ?_) (l r (λ_ z=>z) (λ_ _=>rfl) (λ_ _=>rfl) (λ_ _=>rfl)) (Keep.set g)
   ·simp at q ⊢;rcases q with q | q | q<;>simp[q]
   ·have nd:=w.nd;simp only[X0,N3] at nd ⊢;exact⟨⟨nd.2.1.1.1,nd.1,λa j b c e=>nd.2.2 b c a (.inl (.inl j)) e.symm⟩,nd.2.1.2.1,λa j b c e=>j.elim (λq=>nd.2.1.2.2 a (.inl q) b c e) λq=>nd.2.2 a q b (.inr c) e⟩
 ·rw[X2 f] at e;simp at e
noncomputable def y9(fa:FE)(g:D->Rh->Option Rh):FS:=λρ=>match fa ρ with
 | none=>none
 | some (x,ρ1)=>match g x ρ1 with
  | none=>none
  | some ρ2=>some (.nx ρ2)
theorem jby(b:DE R ta fa)(c:DG R pm tg g):DS R pm (jgI ta tg) (y9 fa g):=by
 intro σ ρ Z H O o w h e n k;unfold y9 at e;cases e1:fa ρ with
 | none=>rw[e1] at e;cases e
 | some p =>
  obtain⟨x,d⟩:=p;rw[e1] at e;dsimp only at e;cases e2:g x d with
  | none=>rw[e2] at e;cases e
  | some q =>
   rw[e2] at e;cases e;exact b w h e1 λa f i=>c a.wf f i e2 λj l m=>k (Go.trans a j) l m
def DGs(R:RC)(pm:List Nat)(tg:TGs)(f:List D->Rh->Option Rh):Prop:=∀{σ:St}{ρ ρ':Rh}{Z:Zn}{H:Hp}{O P:List Addr}{ds:List D}{vs:List V},WF Z H (P++O)->Reps R Z H ds vs P->Slots R Z H ρ σ O->f ds ρ=some ρ' ->
 ∀{Q:St->Hp->Prop},(∀{σ':St}{Z':Zn}{H':Hp}{O':List Addr},Go Z H (P++O) Z' H' O'->Slots R Z' H' ρ' σ' O'->Keep pm σ σ'->Q σ' H')->tg vs σ H Q
noncomputable def gN:List D->Rh->Option Rh:=λds ρ=>match ds with
 | []=>some ρ
 | _=>none
noncomputable def gC(g:D->Rh->Option Rh)(gs:List D->Rh->Option Rh):List D->Rh->Option Rh:=λds ρ=>match ds with
 | []=>none
 | d::r=>match g d ρ with
  | none=>none
  | some ρ1=>gs r ρ1
noncomputable def gT(n:Nat)(gs:List D->Rh->Option Rh):D->Rh->Option Rh:=λd ρ=>match d with
 | .tup l=>bif decide (l.length=n) then gs l ρ else none
 | _=>none
noncomputable abbrev PF:=Rh->Option D
noncomputable abbrev PTf:=Rh->Option Bool
noncomputable abbrev PAf:=Rh->Option (List D)
section
variable {R:RC}{Z Z':Zn}{H H':Hp}
mutual
theorem Rep.dom:∀{d:D}{v:V}{O:List Addr},Rep R Z H d v O->∀ a∈O,H a≠none
 | .non,_,_,h,a,ha=>by rw[Rep] at h;rw[h.2] at ha;cases ha
 | .bl _,_,_,h,a,ha=>by rw[Rep] at h;rw[h.2] at ha;cases ha
 | .int _,_,_,h,a,ha=>by rw[Rep] at h;rw[h.2] at ha;cases ha
 | .str _,_,_,h,a,ha=>by rw[Rep] at h;rw[h.2] at ha;cases ha
 | .dead,_,_,h,a,ha=>by rw[Rep] at h;rw[h] at ha;cases ha
 | .exc _ _,_,_,h,a,ha=>by rw[Rep] at h;obtain⟨_,_,_,_,_,_,_,h⟩:=h;rw[h] at ha;cases ha
 | .tup l,_,_,h,a,ha=>by
  rw[Rep] at h;obtain⟨b,vs,e,t,r⟩:=h;exact Reps.dom r a ha
 | .lst o l,_,_,h,a,ha=>by
  rw[Rep] at h;obtain⟨b,vs,O',e,r,h⟩:=h;cases o with
  | true =>
   obtain⟨h1,rfl⟩:=h;rcases M5.mp ha with e | e
   ·rw[e,h1];exact λz=>(nomatch z)
   ·exact Reps.dom r a e
  | false=>rw[h.2.2] at ha;cases ha
 | .dK o ks l,_,_,h,a,ha=>by
  rw[Rep] at h;obtain⟨b,vs,O',e,r,hl,hd,h⟩:=h;cases o with
  | true =>
   have h:=(show _=_ from h);subst h;rcases M5.mp ha with e | e
   ·rw[e,hd];exact λz=>(nomatch z)
   ·exact Reps.dom r a e
  | false=>rw[h.2.2] at ha;cases ha
 | .dT o ks l,_,_,h,a,ha=>by
  rw[Rep] at h;obtain⟨b,vs,O',e,r,hl,hd,h⟩:=h;cases o with
  | true =>
   have h:=(show _=_ from h);subst h;rcases M5.mp ha with e | e
   ·rw[e,hd];exact λz=>(nomatch z)
   ·exact Reps.dom r a e
  | false=>rw[h.2.2] at ha;cases ha
 | .ins o c ns l,_,_,h,a,ha=>by
  rw[Rep] at h;obtain⟨b,dx,vs,O',e,r,hl,hd,h⟩:=h;cases o with
  | true =>
   have h:=(show _=_ from h);subst h;rcases M5.mp ha with e | e
   ·rw[e,hd];exact λz=>(nomatch z)
   ·exact Reps.dom r a e
  | false=>rw[h.2.2] at ha;cases ha
theorem Reps.dom:∀{l:List D}{vs:List V}{O:List Addr},Reps R Z H l vs O->∀ a∈O,H a≠none
 | [],_,_,h,a,ha=>by rw[Reps] at h;rw[h.2] at ha;cases ha
 | d::l,_,_,h,a,ha=>by
  rw[Reps] at h;obtain⟨v,vs,O1,O2,e,rfl,r1,r2⟩:=h;rcases N3.mp ha with q | q
  ·exact Rep.dom r1 a q
  ·exact Reps.dom r2 a q
end
theorem Slots.dom:∀{ρ:Rh}{σ:St}{O:List Addr},Slots R Z H ρ σ O->∀ a∈O,H a≠none
 | [],_,_,h,a,b=>by rw[h.2] at b;cases b
 | none::ρ,_,_,h,a,b=>by obtain⟨s,c,rfl,r⟩:=h;exact Slots.dom r a b
 | some d::ρ,_,_,h,a,b=>by
  obtain⟨v,c,g,i,rfl,rfl,e,f⟩:=h;rcases N3.mp b with q | q
  ·exact e.dom a q
  ·exact Slots.dom f a q
abbrev Zd(Z:Zn)(H:Hp):Prop:=∀ a,Z a->H a≠none
theorem wf0(z:Zd Z H):WF Z H []:=⟨List.nodup_nil,λa h=>(nomatch h),λa h=>(nomatch h),z⟩
theorem Go.id(z:Zd Z H):Go Z H [] Z H []:=Go.refl (wf0 z)
theorem Go.same{P:List Addr}(g:Go Z H [] Z' H' P):∀ a,H a≠none->H' a=H a:=λa h=>g.fr a h (λz=>(nomatch z))
theorem Go.rep{P O:List Addr}{d:D}{v:V}(z:Zd Z H)(g:Go Z H [] Z' H' P)(r:Rep R Z H d v O):Rep R Z' H' d v O:=r.frame g.zz (λa h=>g.same a (z a h)) λa h=>g.same a (r.dom a h)
theorem Go.reps{P O:List Addr}{l:List D}{vs:List V}(z:Zd Z H)(g:Go Z H [] Z' H' P)(r:Reps R Z H l vs O):Reps R Z' H' l vs O:=r.frame g.zz (λa h=>g.same a (z a h)) λa h=>g.same a (r.dom a h)
theorem Go.slots{P O:List Addr}{ρ:Rh}{σ:St}(z:Zd Z H)(g:Go Z H [] Z' H' P)(r:Slots R Z H ρ σ O):Slots R Z' H' ρ σ O:=r.frame g.zz (λa h=>g.same a (z a h)) λa h=>g.same a (r.dom a h)
theorem Go.pair{P a:List Addr}{Z'':Zn}{H'':Hp}(g:Go Z H [] Z' H' P)(k:Go Z' H' [] Z'' H'' a):Go Z H [] Z'' H'' (P++a):=by
 have w:WF Z' H' (P++[]++[]):=by simpa using g.wf
 have f:=k.frame w;exact g.trans (by simpa using f)
theorem Go.to0{O P:List Addr}(g:Go Z H O Z' H' P):Go Z H O Z' H' []:=g.drop (λa h=>(nomatch h)) List.nodup_nil
theorem Go.widen{P O:List Addr}(w:WF Z H O)(g:Go Z H [] Z' H' P):Go Z H O Z' H' (P++O):=by
 have f:=g.frame (A:=[]) (B:=O) (by simpa using w);simpa using f
def PP(R:RC)(te:TE)(p:PF):Prop:=∀{σ:St}{ρ:Rh}{Z:Zn}{H:Hp}{O:List Addr}{d:D},Zd Z H->Slots R Z H ρ σ O->p ρ=some d ->
 ∀{Q:VK},(∀{v:V}{Z':Zn}{H':Hp}{P:List Addr},Go Z H [] Z' H' P->Rep R Z' H' d v P->Q v H')->te σ H Q
def PB(R:RC)(te:TE)(p:PF):Prop:=∀{σ:St}{ρ:Rh}{Z:Zn}{H:Hp}{O:List Addr}{d:D},Zd Z H->Slots R Z H ρ σ O->p ρ=some d ->
 ∀{Q:VK},(∀{v:V}{Z':Zn}{H':Hp}{P:List Addr},Go Z H [] Z' H' []->Rep R Z' H' d v P->Q v H')->te σ H Q
def PPs(R:RC)(ta:TA)(p:PAf):Prop:=∀{σ:St}{ρ:Rh}{Z:Zn}{H:Hp}{O:List Addr}{ds:List D},Zd Z H->Slots R Z H ρ σ O->p ρ=some ds ->
 ∀{Q:List V->Hp->Prop},(∀{vs:List V}{Z':Zn}{H':Hp}{P:List Addr},Go Z H [] Z' H' P->Reps R Z' H' ds vs P->Q vs H')->ta σ H Q
def PBs(R:RC)(ta:TA)(p:PAf):Prop:=∀{σ:St}{ρ:Rh}{Z:Zn}{H:Hp}{O:List Addr}{ds:List D},Zd Z H->Slots R Z H ρ σ O->p ρ=some ds ->
 ∀{Q:List V->Hp->Prop},(∀{vs:List V}{Z':Zn}{H':Hp}{P:List Addr},Go Z H [] Z' H' []->Reps R Z' H' ds vs P->Q vs H')->ta σ H Q
def PTt(R:RC)(tt:TT)(p:PTf):Prop:=∀{σ:St}{ρ:Rh}{Z:Zn}{H:Hp}{O:List Addr}{b:Bool},Zd Z H->Slots R Z H ρ σ O->p ρ=some b ->
 ∀{Q:Bool->Hp->Prop},(∀{Z':Zn}{H':Hp},Go Z H [] Z' H' []->Q b H')->tt σ H Q
theorem PP.b{te:TE}{p:PF}(h:PP R te p):PB R te p:=λz s e _ k=>h z s e λg r=>k g.to0 r
theorem PPs.b{te:TA}{p:PAf}(h:PPs R te p):PBs R te p:=λz s e _ k=>h z s e λg r=>k g.to0 r
noncomputable def pF(p:PF):PF:=λρ=>match p ρ with
 | some d=>bif frz d then some d else none
 | none=>none
theorem PB.f{te:TE}{p:PF}(h:PB R te p):PP R te (pF p):=by
 intro σ ρ Z H O d z s e Q k;unfold pF at e;cases e1:p ρ with
 | none=>rw[e1] at e;cases e
 | some c =>
  rw[e1] at e;dsimp only at e;cases hf:frz c with
  | false=>rw[hf] at e;cases e
  | true =>
   rw[hf] at e;cases e;exact h z s e1 λg r=>by
    cases r.nil hf;exact k g r
noncomputable def dP(p:PF):FE:=λρ=>match p ρ with
 | some d=>some (d,ρ)
 | none=>none
noncomputable def dPT(p:PTf):FT':=λρ=>match p ρ with
 | some d=>some (d,ρ)
 | none=>none
theorem PP.d{te:TE}{p:PF}(h:PP R te p):DE R te (dP p):=by
 intro σ ρ a Z H O d w s e Q k;unfold dP at e;cases e1:p ρ with
 | none=>rw[e1] at e;cases e
 | some c =>
  rw[e1] at e;cases e;exact h w.zd s e1 λg r=>k (g.widen w) r (g.slots w.zd s)
theorem PTt.d{te:TT}{p:PTf}(h:PTt R te p):DT R te (dPT p):=by
 intro σ ρ a Z H O d w s e Q k;unfold dPT at e;cases e1:p ρ with
 | none=>rw[e1] at e;cases e
 | some c =>
  rw[e1] at e;cases e;exact h w.zd s e1 λg=>k (by simpa using g.widen w) (g.slots w.zd s)
noncomputable def pV(i:Nat):PF:=λρ=>match ρ[i]? with
 | some (some d)=>some d
 | _=>none
noncomputable def pC(d:D):PF:=λ_=>some d
theorem jjE{i:Nat}:PB R (Yj i) (pV i):=by
 intro σ ρ Z H O d z s e Q k;unfold pV at e;split at e
 ·rename_i c a;cases e;obtain⟨A,P,B,rfl,b,_⟩:=s.put (L9.mp a).1;obtain⟨v,ev,r⟩:=b d a;exact⟨v,ev,k (Go.id z) r⟩
 ·cases e
theorem jhc{d:D}{v:V}(a:∀(Z:Zn) (H:Hp),Rep R Z H d v []):PP R (tC v) (pC d):=by
 intro σ ρ Z H O b z s e Q k;cases e;exact k (Go.id z) (a Z H)
theorem Rep.int_mk{i:Int}:Rep R Z H (.int i) (.int i) []:=by rw[Rep];exact⟨rfl,rfl⟩
theorem Rep.str_mk{s:List Nat}:Rep R Z H (.str s) (.str (S s)) []:=by rw[Rep];exact⟨rfl,rfl⟩
theorem Rep.non_mk:Rep R Z H .non .non []:=by rw[Rep];exact⟨rfl,rfl⟩
theorem Rep.int_of{i:Int}{v:V}{O:List Addr}(r:Rep R Z H (.int i) v O):v=.int i/\O=[]:=by rw[Rep] at r;exact r
theorem Rep.str_of{s:List Nat}{v:V}{O:List Addr}(r:Rep R Z H (.str s) v O):v=.str (S s)/\O=[]:=by rw[Rep] at r;exact r
theorem Rep.non_of{v:V}{O:List Addr}(r:Rep R Z H .non v O):v=.non/\O=[]:=by rw[Rep] at r;exact r
def BO(R:RC)(r:R2)(g:D->D->Option D):Prop:=∀{Z:Zn}{H:Hp}{x y d:D}{v u:V}{O1 O2:List Addr},Zd Z H->Rep R Z H x v O1->Rep R Z H y u O2->g x y=some d ->
 ∀{Q:VK},(∀{w:V}{Z':Zn}{H':Hp}{P:List Addr},Go Z H [] Z' H' P->Rep R Z' H' d w P->Q w H')->r v u H Q
def BO'(R:RC)(r:R2)(g:D->D->Option D):Prop:=∀{Z:Zn}{H:Hp}{x y d:D}{v u:V}{O1 O2:List Addr},Zd Z H->Rep R Z H x v O1->Rep R Z H y u O2->g x y=some d ->
 ∀{Q:VK},(∀{w:V}{P:List Addr},Rep R Z H d w P->Q w H)->r v u H Q
def BU(R:RC)(r:V->Hp->VK->Prop)(g:D->Option D):Prop:=∀{Z:Zn}{H:Hp}{x d:D}{v:V}{O:List Addr},Zd Z H->Rep R Z H x v O->g x=some d ->
 ∀{Q:VK},(∀{w:V}{Z':Zn}{H':Hp}{P:List Addr},Go Z H [] Z' H' P->Rep R Z' H' d w P->Q w H')->r v H Q
def BC(R:RC)(r:List V->Hp->VK->Prop)(g:List D->Option D):Prop:=∀{Z:Zn}{H:Hp}{xs:List D}{d:D}{vs:List V}{O:List Addr},Zd Z H->Reps R Z H xs vs O->g xs=some d ->
 ∀{Q:VK},(∀{w:V}{Z':Zn}{H':Hp}{P:List Addr},Go Z H [] Z' H' P->Rep R Z' H' d w P->Q w H')->r vs H Q
noncomputable def p2(g:D->D->Option D)(pa pb:PF):PF:=λρ=>match pa ρ with
 | none=>none
 | some x=>match pb ρ with
  | none=>none
  | some y=>g x y
noncomputable def p1(g:D->Option D)(pa:PF):PF:=λρ=>match pa ρ with
 | none=>none
 | some x=>g x
theorem wt{r:R2}{g:D->D->Option D}{ta tb:TE}{pa pb:PF}(c:BO R r g)(f:PB R ta pa)(h:PB R tb pb):PP R (tOp r ta tb) (p2 g pa pb):=by
 intro σ ρ Z H O d z s e Q k;unfold p2 at e;cases e1:pa ρ with
 | none=>rw[e1] at e;cases e
 | some x =>
  rw[e1] at e;dsimp only at e;cases e2:pb ρ with
  | none=>rw[e2] at e;cases e
  | some y =>
   rw[e2] at e;refine f z s e1 λ{v n o p} a i=>?_;refine h a.wf.zd (a.slots z s) e2 λ{u q t w} b j=>?_;exact c b.wf.zd (b.rep a.wf.zd i) j e λl m=>k ((a.pair b).pair l) m
theorem jmq{r:R2}{g:D->D->Option D}{ta tb:TE}{pa pb:PF}(c:BO' R r g)(f:PB R ta pa)(h:PB R tb pb):PB R (tOp r ta tb) (p2 g pa pb):=by
 intro σ ρ Z H O d z s e Q k;unfold p2 at e;cases e1:pa ρ with
 | none=>rw[e1] at e;cases e
 | some x =>
  rw[e1] at e;dsimp only at e;cases e2:pb ρ with
  | none=>rw[e2] at e;cases e
  | some y =>
   rw[e2] at e;refine f z s e1 λ{v m n o} a i=>?_;refine h a.wf.zd (a.slots z s) e2 λ{u p q t} b j=>?_;exact c b.wf.zd (b.rep a.wf.zd i) j e λl=>k (a.pair b) l
theorem jmK{r:V->Hp->VK->Prop}{g:D->Option D}{ta:TE}{pa:PF}(b:BU R r g)(c:PB R ta pa):PP R (tUn r ta) (p1 g pa):=by
 intro σ ρ Z H O d z s e Q k;unfold p1 at e;cases e1:pa ρ with
 | none=>rw[e1] at e;cases e
 | some x =>
  rw[e1] at e;exact c z s e1 λ{v j l m} a f=>b a.wf.zd f e λh i=>k (by simpa using a.pair h) i
noncomputable def pN:PAf:=λ_=>some []
noncomputable def jb(pa:PF)(pr:PAf):PAf:=λρ=>match pa ρ with
 | none=>none
 | some x=>match pr ρ with
  | none=>none
  | some xs=>some (x::xs)
theorem pps_nil:PPs R K3 pN:=by
 intro σ ρ Z H O d z s e Q k;cases e;exact k (Go.id z) Reps.empty
theorem jfq{ta:TE}{pa:PF}{tr:TA}{pr:PAf}(c:PP R ta pa)(f:PPs R tr pr):PPs R (kq ta tr) (jb pa pr):=by
 intro σ ρ Z H O d z s e Q k;unfold jb at e;cases e1:pa ρ with
 | none=>rw[e1] at e;cases e
 | some x =>
  rw[e1] at e;dsimp only at e;cases e2:pr ρ with
  | none=>rw[e2] at e;cases e
  | some xs =>
   rw[e2] at e;cases e;refine c z s e1 λ{v i j l} a g=>?_;refine f a.wf.zd (a.slots z s) e2 λ{u m n o} b h=>?_;exact k (a.pair b) (.cons (b.rep a.wf.zd g) h)
theorem jdY:PBs R K3 pN:=pps_nil.b
theorem jfK{ta:TE}{pa:PF}{tr:TA}{pr:PAf}(c:PB R ta pa)(f:PBs R tr pr):PBs R (kq ta tr) (jb pa pr):=by
 intro σ ρ Z H O d z s e Q k;unfold jb at e;cases e1:pa ρ with
 | none=>rw[e1] at e;cases e
 | some x =>
  rw[e1] at e;dsimp only at e;cases e2:pr ρ with
  | none=>rw[e2] at e;cases e
  | some xs =>
   rw[e2] at e;cases e;refine c z s e1 λ{v i j l} a g=>?_;refine f a.wf.zd (a.slots z s) e2 λ{u m n o} b h=>?_;exact k (a.pair b) (.cons (b.rep a.wf.zd g) h)
noncomputable def pCB(g:List D->Option D)(pa:PAf):PF:=λρ=>match pa ρ with
 | none=>none
 | some xs=>g xs
theorem jjK{r:List V->Hp->VK->Prop}{g:List D->Option D}{ta:TA}{pa:PAf}(b:BC R r g)(c:PBs R ta pa):PP R (tCB r ta) (pCB g pa):=by
 intro σ ρ Z H O d z s e Q k;unfold pCB at e;cases e1:pa ρ with
 | none=>rw[e1] at e;cases e
 | some x =>
  rw[e1] at e;exact c z s e1 λ{v j l m} a f=>b a.wf.zd f e λh i=>k (by simpa using a.pair h) i
noncomputable def lim(n:Nat):Bool:=decide (n<=100000)
theorem VC{n:Nat}(h:lim n=true):n<=sizeLine:=N8 (X3 h) (by decide)
theorem jdx{n:Nat}(h:lim n=true):n < sizeLine:=Nat.lt_of_le_of_lt (X3 h) (by decide)
noncomputable def jbX(pa:PAf):PF:=pCB (λxs=>bif lim xs.length then some (.tup xs) else none) pa
noncomputable def va(pa:PAf):PF:=pCB (λxs=>bif lim xs.length then some (.lst true xs) else none) pa
theorem jjL{ta:TA}{pa:PAf}(f:PPs R ta pa):PP R (jlg ta) (jbX pa):=by
 intro σ ρ Z H O d z s e Q k;unfold jbX pCB at e;cases e1:pa ρ with
 | none=>rw[e1] at e;cases e
 | some xs =>
  rw[e1] at e;dsimp only at e;cases hl:lim xs.length with
  | false=>rw[hl] at e;cases e
  | true =>
   rw[hl] at e;cases e;exact f z s e1 λ{v g h i} a b=>⟨by rw[b.length];exact VC hl,λp c=>k (a.trans (Go.newF a.wf c)) (Rep.tupNew a.wf c b)⟩
theorem jlV{ta:TA}{pa:PAf}(f:PPs R ta pa):PP R (jmV ta) (va pa):=by
 intro σ ρ Z H O d z s e Q k;unfold va pCB at e;cases e1:pa ρ with
 | none=>rw[e1] at e;cases e
 | some xs =>
  rw[e1] at e;dsimp only at e;cases hl:lim xs.length with
  | false=>rw[hl] at e;cases e
  | true =>
   rw[hl] at e;cases e;exact f z s e1 λ{v g h i} a b=>⟨by rw[b.length];exact VC hl,λp c=>k (a.trans (Go.newO a.wf c)) (Rep.lstNew a.wf c b)⟩
noncomputable def jj(pa:PF):PTf:=λρ=>match pa ρ with
 | some (.bl b)=>some b
 | _=>none
noncomputable def VX(pa pb:PTf):PTf:=λρ=>match pa ρ with
 | none=>none
 | some b=>bif b then pb ρ else some false
noncomputable def qOr(pa pb:PTf):PTf:=λρ=>match pa ρ with
 | none=>none
 | some b=>bif b then some true else pb ρ
noncomputable def wo(pa:PTf):PTf:=λρ=>match pa ρ with
 | none=>none
 | some b=>some (!b)
theorem jaZ{ta:TE}{pa:PF}(a:PB R ta pa):PTt R (jer ta) (jj pa):=by
 intro σ ρ Z H O b z s e Q k;unfold jj at e;split at e
 ·rename_i c d;cases e;refine a z s d λ{v h i j} f g=>?_;obtain⟨rfl,rfl⟩:=g.bl_of;exact⟨b,rfl,k f⟩
 ·cases e
theorem jll{ta tb:TT}{pa pb:PTf}(d:PTt R ta pa)(f:PTt R tb pb):PTt R (jnD ta tb) (VX pa pb):=by
 intro σ ρ Z H O b z s e Q k;unfold VX at e;cases e1:pa ρ with
 | none=>rw[e1] at e;cases e
 | some c =>
  rw[e1] at e;dsimp only at e;refine d z s e1 λ{h i} a=>?_;cases c with
  | true=>exact jfE (f a.wf.zd (a.slots z s) e λg=>k (a.pair g))
  | false=>cases e;exact jfG (k a)
theorem jno{ta tb:TT}{pa pb:PTf}(d:PTt R ta pa)(f:PTt R tb pb):PTt R (tOr ta tb) (qOr pa pb):=by
 intro σ ρ Z H O b z s e Q k;unfold qOr at e;cases e1:pa ρ with
 | none=>rw[e1] at e;cases e
 | some c =>
  rw[e1] at e;dsimp only at e;refine d z s e1 λ{h i} a=>?_;cases c with
  | true=>cases e;exact jfE (k a)
  | false=>exact jfG (f a.wf.zd (a.slots z s) e λg=>k (a.pair g))
theorem jiG{ta:TT}{pa:PTf}(a:PTt R ta pa):PTt R (jmD ta) (wo pa):=by
 intro σ ρ Z H O b z s e Q k;unfold wo at e;cases e1:pa ρ with
 | none=>rw[e1] at e;cases e
 | some c =>
  rw[e1] at e;cases e;exact a z s e1 λ{f g} d=>k d
noncomputable def zD(pa pb:PF):PF:=λρ=>match pa ρ with
 | some (.bl b)=>bif b then pb ρ else some (.bl false)
 | _=>none
noncomputable def pOr(pa pb:PF):PF:=λρ=>match pa ρ with
 | some (.bl b)=>bif b then some (.bl true) else pb ρ
 | _=>none
noncomputable def jjx(pa:PF):PF:=λρ=>match pa ρ with
 | some (.bl b)=>some (.bl (!b))
 | _=>none
theorem jkl{ta tb:TE}{pa pb:PF}(b:PB R ta pa)(f:PP R tb pb):PP R (jh2 ta tb) (zD pa pb):=by
 intro σ ρ Z H O d z s e Q k;unfold zD at e;split at e
 ·rename_i c g;refine b z s g λ{v l m n} a h=>?_;obtain⟨rfl,rfl⟩:=h.bl_of;refine⟨c,rfl,?_⟩;cases c with
  | true=>exact jfE (f a.wf.zd (a.slots z s) e λi j=>k (by simpa using a.pair i) j)
  | false=>cases e;exact jfG (k a .bl_mk)
 ·cases e
theorem jnf{ta tb:TE}{pa pb:PF}(b:PB R ta pa)(f:PP R tb pb):PP R (jmw ta tb) (pOr pa pb):=by
 intro σ ρ Z H O d z s e Q k;unfold pOr at e;split at e
 ·rename_i c g;refine b z s g λ{v l m n} a h=>?_;obtain⟨rfl,rfl⟩:=h.bl_of;refine⟨c,rfl,?_⟩;cases c with
  | true=>cases e;exact jfE (k a .bl_mk)
  | false=>exact jfG (f a.wf.zd (a.slots z s) e λi j=>k (by simpa using a.pair i) j)
 ·cases e
theorem jlr{ta:TE}{pa:PF}(a:PB R ta pa):PP R (jik ta) (jjx pa):=by
 intro σ ρ Z H O d z s e Q k;unfold jjx at e;split at e
 ·rename_i c b;cases e;refine a z s b λ{v h i j} f g=>?_;obtain⟨rfl,rfl⟩:=g.bl_of;exact⟨c,rfl,k f .bl_mk⟩
 ·cases e
noncomputable def pIf(pt:PTf)(pa pb:PF):PF:=λρ=>match pt ρ with
 | none=>none
 | some b=>bif b then pa ρ else pb ρ
theorem jnd{g:TT}{ta tb:TE}{pt:PTf}{pa pb:PF}(h:PTt R g pt)(i:PP R ta pa)(j:PP R tb pb):PP R (tIf g ta tb) (pIf pt pa pb):=by
 intro σ ρ Z H O d z s e Q k;unfold pIf at e;cases e1:pt ρ with
 | none=>rw[e1] at e;cases e
 | some c =>
  rw[e1] at e;dsimp only at e;refine h z s e1 λ{l m} a=>?_;cases c with
  | true=>exact jfE (i a.wf.zd (a.slots z s) e λb f=>k (by simpa using a.pair b) f)
  | false=>exact jfG (j a.wf.zd (a.slots z s) e λb f=>k (by simpa using a.pair b) f)
noncomputable def KK(g g':D->D->Option D)(pa pb pc:PF):PF:=λρ=>match pa ρ with
 | none=>none
 | some x=>match pb ρ with
  | none=>none
  | some y=>match g x y with
   | some (.bl b)=>bif b then(match pc ρ with
    | none=>none
    | some w=>g' y w) else some (.bl false)
   | _=>none
theorem jf6{r m:R2}{g g':D->D->Option D}{ta tb tc:TE}{pa pb pc:PF}(o:BO R r g)(i:BO R m g')(p:PB R ta pa)(q:PB R tb pb)(t:PB R tc pc):PP R (jd0 r m ta tb tc) (KK g g' pa pb pc):=by
 intro σ ρ Z H O d z s e Q k;unfold KK at e;cases e1:pa ρ with
 | none=>rw[e1] at e;cases e
 | some x =>
  rw[e1] at e;dsimp only at e;cases e2:pb ρ with
  | none=>rw[e2] at e;cases e
  | some y =>
   rw[e2] at e;dsimp only at e;refine p z s e1 λ{v G I J} c w=>?_;refine q c.wf.zd (c.slots z s) e2 λ{u K L M} f n=>?_;have j:=c.pair f;split at e
   ·rename_i b A;refine o f.wf.zd (f.rep c.wf.zd w) n A λ{N Z3 P S} h B=>?_;obtain⟨rfl,rfl⟩:=B.bl_of;have a:=j.pair h;refine⟨b,rfl,?_⟩;cases b with
    | false=>cases e;exact jfG (k (by simpa using a) .bl_mk)
    | true =>
     refine jfE ?_;cases e4:pc ρ with
     | none=>rw[cond_true,e4] at e;cases e
     | some T =>
      rw[cond_true,e4] at e;refine t h.wf.zd (a.slots z s) e4 λ{U V W X} l C=>?_;exact i l.wf.zd (l.rep h.wf.zd (h.rep f.wf.zd n)) C e λE F=>k (by simpa using(a.pair l).pair E) F
   ·cases e
end
section
variable {R:RC}{Z Z':Zn}{H H':Hp}{pm:List Nat}
def jmk(R:RC)(J:It)(Z:Zn)(H:Hp)(xs:List D):Prop:=∀{Z1:Zn}{H1:Hp},(∀ a,Z a->Z1 a)->(∀ a,Z a->H1 a=H a)->Zd Z1 H1->∀ i:Nat,
 (xs.length<=i->J.stop i H1)/\∀ x,xs[i]?=some x->J.go i H1/\∀ u H2,J.yld i H1 u H2->∃ Z2,Go Z1 H1 [] Z2 H2 []/\Rep R Z2 H2 x u []
def PIt(R:RC)(wi:TI)(p:PAf):Prop:=∀{σ:St}{ρ:Rh}{Z:Zn}{H:Hp}{O:List Addr}{xs:List D},Zd Z H->Slots R Z H ρ σ O->p ρ=some xs ->
 ∀{Q:It->Hp->Prop},(∀{J:It}{Z':Zn}{H':Hp},Go Z H [] Z' H' []->jmk R J Z' H' xs->Q J H')->wi σ H Q
noncomputable def jl7(K:PySem.W.Frag)(tl:TE):TI:=λσ H Q=>tl σ H λx H1 =>
 (∃ a,x=.ref a/\(∃ xs,SqL K H1 a xs)/\Q (Itl K a) H1) \/ (∃ a,x=.ref a/\(∃ xs,SqT K H1 a xs)/\Q (Itt K a) H1) \/ ∃ l,x=.str (S l)/\Q (Its l) H1
theorem jjG{X:Cx}{tg l:Expr}{tl:TE}(z:PE X l tl):PI X tg l (jl7 X.K tl):=by
 intro d s σ H Q I h;have m:∀ v c,EP X d σ (λx g=>(∃ a,x=.ref a/\(∃ xs,SqL X.K g a xs)/\Q (Itl X.K a) g) \/ (∃ a,x=.ref a/\(∃ xs,SqT X.K g a xs)/\Q (Itt X.K a) g) \/ ∃ l,x=.str (S l)/\Q (Its l) g) v c->wpAny (model X.prog X.w) X.A (pyIter v) (PIE X d σ tg Q) X.xe c:=by
  rintro v c ⟨x,g,f,n,B⟩
  -- each by the layer's own rule,at a name that holds the value
  rcases B with⟨a,rfl,⟨xs,r⟩,q⟩ | ⟨a,rfl,⟨xs,r⟩,q⟩ | ⟨l,rfl,q⟩
  ·cases n;obtain⟨its,C,p,D⟩:=f.list r;refine wpAny_pyIter_list p.isList ?_;refine⟨c.heap.objs.size,[c.heap.objs.size],_,_,g,rfl,f.kept (t':=c.toks) λb o e=>L8 _ e,jcU a _,⟨_,X7 _ rfl,rfl,rfl⟩,λb j=>?_,q⟩;have e:b=c.heap.objs.size:=by simpa using j
   subst e;exact f.fpOk (M9 _) (f.hok.fresh (M9 _))
  ·cases n;obtain⟨its,C,p,D⟩:=f.tuple r;refine wpAny_pyIter_tuple (show c.heap.IsTuple a its.toArray from p) ?_;refine⟨c.heap.objs.size,[c.heap.objs.size],_,_,g,rfl,f.kept (t':=c.toks) λb o e=>L8 _ e,jco a _,⟨_,X7 _ rfl,rfl,rfl⟩,λb j=>?_,q⟩;have e:b=c.heap.objs.size:=by simpa using j
   subst e;exact f.fpOk (M9 _) (f.hok.fresh (M9 _))
  ·obtain⟨t,rfl⟩:=n;have k:∀(ty:String),(ty = "str_ascii_iterator" \/ ty = "str_iterator")->(∀ A:Around,A.handled=none->Walks X.prog X.w A c.heap.objs.size [c.heap.objs.size] [c.heap.objs.size] (S l).cps.size (SignAt (S l)) (λi h=>h.IsStrIter c.heap.objs.size ty (S l) t i)) ->
     PIE X d σ tg Q (.ref c.heap.objs.size) { c with heap:=c.heap.push { cls:=.type ty,data:=.fields #[.str (S l) t,.int 0 0] } }:=λty u W=>by
    refine⟨c.heap.objs.size,[c.heap.objs.size],_,_,g,rfl,f.kept (t':=c.toks) λb o e=>L8 _ e,jft _ l t ty u W,⟨_,X7 _ rfl,rfl,rfl⟩,λb j=>?_,q⟩;have e:b=c.heap.objs.size:=by simpa using j
    subst e;exact f.fpOk (M9 _) (f.hok.fresh (M9 _))
   cases ha:(S l).cps.all (· < 128)
   ·exact wpAny_pyIter_wide ha (k _ (.inr rfl) λE y=>Walks.strWide y _ (S l) t)
   ·exact wpAny_pyIter_ascii ha (k _ (.inl rfl) λE y=>Walks.strAscii y _ (S l) t)
 exact thn (z d s σ H _ I h) m
theorem jlk{s:List Nat}:jmk R (Its s) Z H (s.map λc=>.str [c]):=by
 intro d h j k zd i;refine⟨λf=>by show s.length<=i;simpa using f,λx a=>?_⟩;rw[List.getElem?_map] at a;cases e:s[i]? with
 | none=>rw[e] at a;cases a
 | some c =>
  rw[e] at a;cases a;refine⟨(L9.mp e).1,λu l g=>?_⟩;obtain⟨rfl,m,b,rfl⟩:=g;rw[e] at b;cases b;exact⟨d,Go.id zd,.str_mk⟩
theorem Go.fz{P:List Addr}(g:Go Z H [] Z' H' P):Go Z H [] (λa=>Z' a \/ a∈P) H' []:=g.trans (Go.freeze g.wf)
noncomputable def Kw(lo:Int)(n:Nat):List D:=(List.range n).map λ(i:Nat)=>D.int (lo+(i:Int))
theorem jkL{lo:Int}{n:Nat}:jmk R (Itr lo n) Z H (Kw lo n):=by
 intro c e f g zd i;refine⟨λb=>by show n<=i;simpa [Kw] using b,λx a=>?_⟩;unfold Kw at a;rw[List.getElem?_map] at a;by_cases b:i < n
 ·rw[List.getElem?_range b] at a;cases a;refine⟨b,λu h d=>?_⟩;obtain⟨rfl,rfl⟩:=d;exact⟨c,Go.id zd,.int_mk⟩
 ·rw[List.getElem?_eq_none (by simpa using b)] at a;cases a
noncomputable def VE(i:Int):Bool:=Nat.ble i.natAbs 4611686018427387903
theorem zi{i:Int}(h:VE i=true):-(2 ^ 62)<=i/\i < 2 ^ 62:=by
 have h:=Nat.le_of_ble_eq_true h;constructor<;>omega
noncomputable def K1(p:PAf):PAf:=λρ=>match p ρ with
 | some [.int j]=>bif VE j then some (Kw 0 j.toNat) else none
 | _=>none
theorem Reps.one_of{d:D}{vs:List V}{O:List Addr}(r:Reps R Z H [d] vs O):∃ v,vs=[v]/\Rep R Z H d v O:=by
 rw[Reps] at r;obtain⟨v,b,e,f,rfl,rfl,c,a⟩:=r;rw[Reps] at a;obtain⟨rfl,rfl⟩:=a;exact⟨v,rfl,by simpa using c⟩
theorem Reps.two_of{d e:D}{vs:List V}{O:List Addr}(r:Reps R Z H [d,e] vs O):∃ v u O1 O2,vs=[v,u]/\O=O1++O2/\Rep R Z H d v O1/\Rep R Z H e u O2:=by
 rw[Reps] at r;obtain⟨v,a,O1,O2,rfl,rfl,b,c⟩:=r;obtain⟨u,rfl,f⟩:=c.one_of;exact⟨v,u,O1,O2,rfl,rfl,b,f⟩
theorem jje{ta:TA}{p:PAf}(h:PBs R ta p):PIt R (jiT ta) (K1 p):=by
 intro σ ρ Z H O xs z s e Q k;unfold K1 at e;split at e
 ·rename_i j a;cases hs:VE j with
  | false=>rw[hs] at e;cases e
  | true =>
   rw[hs] at e;cases e;refine h z s a λ{v f g i} b c=>?_;obtain⟨u,rfl,d⟩:=c.one_of;obtain⟨rfl,_⟩:=d.int_of;exact⟨j,rfl,(zi hs).1,(zi hs).2,k b jkL⟩
 ·cases e
def PGt(R:RC)(pm:List Nat)(tg:TG)(f:D->Rh->Option Rh):Prop:=∀{σ:St}{ρ ρ':Rh}{Z:Zn}{H:Hp}{O:List Addr}{d:D}{v:V},Rep R Z H d v []->Slots R Z H ρ σ O->f d ρ=some ρ' ->
 ∀{Q:St->Hp->Prop},(∀{σ':St}{O':List Addr},(∀ a∈O',a∈O)->(O.Nodup->O'.Nodup)->Slots R Z H ρ' σ' O'->Keep pm σ σ'->Q σ' H)->tg v σ H Q
def jlT(R:RC)(pm:List Nat)(tg:TGs)(f:List D->Rh->Option Rh):Prop:=∀{σ:St}{ρ ρ':Rh}{Z:Zn}{H:Hp}{O:List Addr}{ds:List D}{vs:List V},Reps R Z H ds vs []->Slots R Z H ρ σ O->f ds ρ=some ρ' ->
 ∀{Q:St->Hp->Prop},(∀{σ':St}{O':List Addr},(∀ a∈O',a∈O)->(O.Nodup->O'.Nodup)->Slots R Z H ρ' σ' O'->Keep pm σ σ'->Q σ' H)->tg vs σ H Q
theorem jfh{i:Nat}:PGt R pm (zK i) (jS pm i):=by
 intro σ ρ m Z H O d v r h e Q k;unfold jS at e;by_cases c:i < ρ.length
 ·by_cases f:i∈pm
  ·rw[X1 f] at e;simp at e
  ·rw[X1 c,X2 f] at e;cases e;obtain⟨A,n,B,rfl,o,g,p⟩:=h.put c;refine k (O':=A++[]++B) (λa q=>?_) (λnd=>?_) (g r (λ_ z=>z) (λ_ _=>rfl) (λ_ _=>rfl) (λ_ _=>rfl)) (Keep.set f)
   ·simp at q ⊢;rcases q with q | q<;>simp[q]
   ·simp only[X0,N3] at nd;simp only[N1,X0];exact⟨nd.1.1,nd.2.1,λa j b l e=>nd.2.2 a (.inl j) b l e⟩
 ·rw[X2 c] at e;simp at e
theorem jfQ:jlT R pm jm2 gN:=by
 intro σ ρ c Z H O b d r h e Q k;unfold gN at e;cases b with
 | cons _ _=>cases e
 | nil =>
  cases e;rw[Reps] at r;obtain⟨rfl,_⟩:=r;exact⟨rfl,k (λa h=>h) (λh=>h) h (Keep.refl _ _)⟩
theorem jef{t:TG}{u:TGs}{g:D->Rh->Option Rh}{c:List D->Rh->Option Rh}(i:PGt R pm t g)(j:jlT R pm u c):jlT R pm (jjq t u) (gC g c):=by
 intro σ ρ B Z H O f C r h e Q k;unfold gC at e;cases f with
 | nil=>cases e
 | cons d f =>
  dsimp only at e;cases e1:g d ρ with
  | none=>rw[e1] at e;cases e
  | some E =>
   rw[e1] at e;dsimp only at e;rw[Reps] at r;obtain⟨v,b,F,G,rfl,l,m,n⟩:=r;obtain⟨rfl,rfl⟩:=List.append_eq_nil_iff.mp l.symm;exact⟨v,b,rfl,i m h e1 λo p s w=>j n s e λx y z A=>k (λa q=>o a (x a q)) (λq=>y (p q)) z (w.trans A)⟩
theorem jhg{n:Nat}{u:TGs}{c:List D->Rh->Option Rh}(g:jlT R pm u c):PGt R pm (jm1 R.K n u) (gT n c):=by
 intro σ ρ m Z H O d v r h e Q k;cases d with
 | tup l =>
  unfold gT at e;dsimp only at e;by_cases b:l.length=n
  ·rw[X1 b,cond_true] at e;rw[Rep] at r;obtain⟨a,i,rfl,j,f⟩:=r;exact⟨a,i,rfl,j.sq,by rw[f.length];exact b,g f h e k⟩
  ·rw[X2 b,cond_false] at e;cases e
 | _=>cases e
noncomputable def kE(g:D->Rh->Option Rh)(f:FS):List D->FS
 | [],ρ=>some (.nx ρ)
 | x::xs,ρ=>match g x ρ with
  | none=>none
  | some ρ1=>match f ρ1 with
   | none=>none
   | some (.nx ρ2)=>kE g f xs ρ2
   | some (.ct ρ2)=>kE g f xs ρ2
   | some (.bk ρ2)=>some (.nx ρ2)
   | some (.rt d ρ2)=>some (.rt d ρ2)
noncomputable def wn(p:PAf)(g:D->Rh->Option Rh)(f:FS):FS:=λρ=>match p ρ with
 | none=>none
 | some xs=>kE g f xs ρ
theorem VU{α:Type}{l:List α}{i:Nat}{x:α}(h:l[i]?=some x):l.drop i=x::l.drop (i+1):=by
 obtain⟨a,rfl⟩:=L9.mp h;exact List.drop_eq_getElem_cons a
theorem jgZ{wi:TI}{tg:TG}{tb:TS}{p:PAf}{g:D->Rh->Option Rh}{f:FS}(hi:PIt R wi p)(hg:PGt R pm tg g)(hf:DS R pm tb f):DS R pm (jkm wi tg tb) (wn p g f):=by
 intro σ ρ Z H O o w s e D' k;unfold wn at e;cases e1:p ρ with
 | none=>rw[e1] at e;cases e
 | some xs =>
  rw[e1] at e;dsimp only at e;refine hi w.zd s e1 λ{J v K} V it=>?_;have c:Go Z H O v K O:=by simpa using V.widen w
  refine⟨λi m P x=>m=xs.length - i/\i<=xs.length/\∃ L y A,Go v K O y x A/\Slots R y x L P A/\Keep pm σ P/\kE g f (xs.drop i) L=some o,
   ⟨xs.length,rfl,U6 _,ρ,v,O,Go.refl c.wf,V.slots w.zd s,Keep.refl _ _,e⟩,?_⟩
  rintro i m P x ⟨rfl,hi',L,y,A,j,W,kp,b⟩;have B:=it (Z1:=y) (H1:=x) j.zz (λa z=>j.zH c.wf a z) j.wf.zd i;by_cases C:i < xs.length
  ·right
   have X:xs[i]?=some xs[i]:=by simp[C]
   obtain⟨go,yl⟩:=B.2 _ X;rw[VU X] at b;unfold kE at b;cases e3:g xs[i] L with
   | none=>rw[e3] at b;cases b
   | some ρ1 =>
    rw[e3] at b;dsimp only at b;cases e4:f ρ1 with
    | none=>rw[e4] at b;cases b
    | some o1 =>
     rw[e4] at b;refine⟨go,λQ l=>∃ h n M,Go v K O n l M/\Slots R n l h Q M/\Keep pm σ Q/\kE g f (xs.drop (i+1)) h=some o,λQ l ⟨h,n,M,a1,a2,a3,a4⟩=>⟨xs.length - (i+1),by omega,rfl,C,h,n,M,a1,a2,a3,a4⟩,λu l hy=>?_⟩;obtain⟨n,Y,r2⟩:=yl u l hy;have E:Go y x A n l A:=by simpa using Y.widen j.wf
     refine hg r2 (Y.slots j.wf.zd W) e3 λ{σ3 O3} sub nd s3 N=>?_;have F:Go v K O n l O3:=(j.trans E).drop sub (nd E.wf.nd);refine hf F.wf s3 e4 ?_;cases o1 with
     | nx h=>exact λ{S G T I} q r t=>⟨h,G,I,F.trans q,r,kp.trans (N.trans t),b⟩
     | ct h=>exact λ{S G T I} q r t=>⟨h,G,I,F.trans q,r,kp.trans (N.trans t),b⟩
     | bk h=>cases b;exact λ{S G T I} q r t=>k (c.trans (F.trans q)) r (kp.trans (N.trans t))
     | rt d h=>cases b;exact λ{v4 S G T P4 I} q r4 r t=>k (c.trans (F.trans q)) r4 r (kp.trans (N.trans t))
  ·left
   have U:i=xs.length:=by omega
   refine⟨B.1 (by omega),?_⟩;rw[U,List.drop_length] at b;cases b;exact k (c.trans j) W kp
noncomputable def vN(ix:List (Option Nat))(ρ:Rh):Rh:=ix.map λo=>o.bind λj=>(ρ[j]?).join
theorem QZ{ρ:Rh}{σ:St}{O:List Addr}(s:Slots R Z H ρ σ O):∀ ix:List (Option Nat),∃ O',Slots R Z H (vN ix ρ) (yX ix σ) O'
 | []=>⟨[],rfl,rfl⟩
 | o::ix=>by
  obtain⟨O',b⟩:=QZ s ix;show ∃ O',Slots R Z H ((o.bind λj=>(ρ[j]?).join)::vN ix ρ) ((o.bind λj=>(σ[j]?).join)::yX ix σ) O';cases e:o.bind λj=>(ρ[j]?).join with
  | none=>exact⟨O',_,_,rfl,b⟩
  | some d =>
   cases o with
   | none=>cases e
   | some j =>
    have a:(ρ[j]?).join=some d:=e;have c:ρ[j]?=some (some d):=by
     cases q:ρ[j]? with
     | none=>rw[q] at a;cases a
     | some u=>rw[q] at a;rw[show u=some d from a]
    obtain⟨A,P,B,_,f,_⟩:=s.put (L9.mp c).1;obtain⟨v,ev,r⟩:=f d c;refine⟨P++O',v,_,P,O',?_,rfl,r,b⟩;show((σ[j]?).join::yX ix σ)=some v::yX ix σ;rw[ev];rfl
noncomputable def qT:PTf:=λ_=>some true
theorem jhi:PTt R (λ_ H Q=>Q true H) qT:=by
 intro σ ρ Z H O b z s e Q k;cases e;exact k (Go.id z)
noncomputable def kG(g:D->Rh->Option Rh)(q:PTf)(p:PF):List D->Rh->Option (List D)
 | [],_=>some []
 | x::xs,ρ=>match g x ρ with
  | none=>none
  | some ρ1=>match q ρ1 with
   | none=>none
   | some b=>bif b then(match p ρ1 with
    | none=>none
    | some y=>match kG g q p xs ρ1 with
     | none=>none
     | some ys=>some (y::ys)) else kG g q p xs ρ1
noncomputable def J1(pi:PAf)(g:D->Rh->Option Rh)(q:PTf)(p:PF)(ix:List (Option Nat)):PF:=λρ=>match pi ρ with
 | none=>none
 | some xs=>bif lim xs.length then(match kG g q p xs (vN ix ρ) with
  | none=>none
  | some ys=>some (.lst true ys)) else none
noncomputable def spP(R:RC)(m:List D->Option D)(n:Nat):Sp:=λvs H Q _=>∃ Z ds d,Zd Z H/\ds.length=n/\Reps R Z H ds vs []/\m ds=some d/\∀{v:V}{Z':Zn}{H':Hp}{P:List Addr},Go Z H [] Z' H' P->Rep R Z' H' d v P->Q v H'
noncomputable def fnP(n:Nat)(f:FS):List D->Option D:=λds=>match f (ds.map some++List.replicate (n - ds.length) none) with
 | some (.rt d _)=>some d
 | some (.nx _)=>some .non
 | _=>none
theorem qY:∀ n:Nat,Slots R Z H (List.replicate n none) (List.replicate n none) []
 | 0=>⟨rfl,rfl⟩
 | n+1=>⟨none,_,rfl,qY n⟩
theorem qW:∀{ds:List D}{vs:List V}{O:List Addr}{ρ:Rh}{σ:St}{P:List Addr},Reps R Z H ds vs O->Slots R Z H ρ σ P->Slots R Z H (ds.map some++ρ) (vs.map some++σ) (O++P)
 | [],_,_,_,_,_,r,s=>by rw[Reps] at r;obtain⟨rfl,rfl⟩:=r;exact s
 | d::ds,_,_,_,_,_,r,s=>by
  rw[Reps] at r;obtain⟨v,a,b,f,rfl,rfl,c,e⟩:=r;exact⟨v,_,b,_,rfl,List.append_assoc ..,c,qW e s⟩
theorem jho{N:List Str}{ts:TS}{f:FS}{vs:List V}{Q:VK}{E:XK}{n:Nat}(c:DS R [] ts f)(h:spP R (fnP N.length f) n vs H Q E):ts { nx:=λ_ H'=>Q .non H',rt:=Q } (L2.start N vs) H:=by
 obtain⟨Z,a,d,z,l,r,e,k⟩:=h;unfold fnP at e;have s:Slots R Z H (a.map some++List.replicate (N.length - a.length) none) (L2.start N vs) []:=by
  have q:=qW r (qY (R:=R) (Z:=Z) (H:=H) (N.length - a.length));unfold L2.start;rw[r.length];exact q
 split at e
 ·rename_i m i b;cases e;exact c (wf0 z) s b λg j _ _=>k g.dropR j
 ·rename_i i b;cases e;exact c (wf0 z) s b λg _ _=>k (P:=[]) g.to0 .non_mk
 ·cases e
theorem jjo{m:List D->Option D}{n:Nat}{vs:List V}{Q:VK}{E:XK}(h:spP R m n vs H Q E):vs.length=n:=by
 obtain⟨Z,b,d,z,a,r,_⟩:=h;rw[r.length,a]
mutual
noncomputable def vT:D->Bool
 | .tup l=>yY l
 | .lst o l=>o&&yY l
 | .dK o _ l=>o&&yY l
 | .dT o _ l=>o&&yY l
 | .ins o _ _ l=>o&&yY l
 | .non=>true | .bl _=>true | .int _=>true | .str _=>true | .dead=>true | .exc _ _=>false
noncomputable def yY:List D->Bool
 | []=>true
 | d::l=>vT d&&yY l
end
mutual
theorem Rep.thaw(ht:∀ a vs,Z a->Rd H a (.tup vs)->Z' a):∀{d:D}{v:V}{O:List Addr},Rep R Z H d v O->vT d=true->Rep R Z' H d v O
 | .non,_,_,h,_=>by rw[Rep] at h ⊢;exact h
 | .bl _,_,_,h,_=>by rw[Rep] at h ⊢;exact h
 | .int _,_,_,h,_=>by rw[Rep] at h ⊢;exact h
 | .str _,_,_,h,_=>by rw[Rep] at h ⊢;exact h
 | .dead,_,_,h,_=>by rw[Rep] at h ⊢;exact h
 | .exc _ _,_,_,_,f=>by rw[vT] at f;cases f
 | .tup l,_,_,h,f=>by
  rw[Rep] at h ⊢;rw[vT] at f;obtain⟨a,vs,e,t,r⟩:=h;refine⟨a,vs,e,?_,Reps.thaw ht r f⟩;rcases t with⟨z,q⟩ | q
  ·exact .inl ⟨ht a vs z q,q⟩
  ·exact .inr q
 | .lst o l,_,_,h,f=>by
  rw[Rep] at h ⊢;rw[vT,M0] at f;obtain⟨a,vs,O',e,r,h⟩:=h;cases f.1;exact⟨a,vs,O',e,Reps.thaw ht r f.2,h⟩
 | .dK o ks l,_,_,h,f=>by
  rw[Rep] at h ⊢;rw[vT,M0] at f;obtain⟨a,vs,O',e,r,h⟩:=h;cases f.1;exact⟨a,vs,O',e,Reps.thaw ht r f.2,h⟩
 | .dT o ks l,_,_,h,f=>by
  rw[Rep] at h ⊢;rw[vT,M0] at f;obtain⟨a,vs,O',e,r,h⟩:=h;cases f.1;exact⟨a,vs,O',e,Reps.thaw ht r f.2,h⟩
 | .ins o c ns l,_,_,h,f=>by
  rw[Rep] at h ⊢;rw[vT,M0] at f;obtain⟨a,dx,vs,O',e,r,h⟩:=h;cases f.1;exact⟨a,dx,vs,O',e,Reps.thaw ht r f.2,h⟩
theorem Reps.thaw(ht:∀ a vs,Z a->Rd H a (.tup vs)->Z' a):∀{l:List D}{vs:List V}{O:List Addr},Reps R Z H l vs O->yY l=true->Reps R Z' H l vs O
 | [],_,_,h,_=>by rw[Reps] at h ⊢;exact h
 | d::l,_,_,h,f=>by
  rw[Reps] at h ⊢;rw[yY,M0] at f;obtain⟨v,vs,O1,O2,e,rfl,r1,r2⟩:=h;exact⟨v,vs,O1,O2,e,rfl,Rep.thaw ht r1 f.1,Reps.thaw ht r2 f.2⟩
end
mutual
theorem Rep.notTup:∀{d:D}{v:V}{O:List Addr},Rep R Z H d v O->∀ a∈O,∀ vs,¬ Rd H a (.tup vs)
 | .non,_,_,h,a,ha=>by rw[Rep] at h;rw[h.2] at ha;cases ha
 | .bl _,_,_,h,a,ha=>by rw[Rep] at h;rw[h.2] at ha;cases ha
 | .int _,_,_,h,a,ha=>by rw[Rep] at h;rw[h.2] at ha;cases ha
 | .str _,_,_,h,a,ha=>by rw[Rep] at h;rw[h.2] at ha;cases ha
 | .dead,_,_,h,a,ha=>by rw[Rep] at h;rw[h] at ha;cases ha
 | .exc _ _,_,_,h,a,ha=>by rw[Rep] at h;obtain⟨_,_,_,_,_,_,_,h⟩:=h;rw[h] at ha;cases ha
 | .tup l,_,_,h,a,ha=>by
  rw[Rep] at h;obtain⟨b,vs,e,t,r⟩:=h;exact Reps.notTup r a ha
 | .lst o l,_,_,h,a,ha=>by
  rw[Rep] at h;obtain⟨b,vs,O',e,r,h⟩:=h;cases o with
  | true =>
   obtain⟨h1,rfl⟩:=h;rcases M5.mp ha with e | e
   ·subst e;rintro ws (q | ⟨_,q⟩)<;>rw[h1] at q<;>cases q
   ·exact Reps.notTup r a e
  | false=>rw[h.2.2] at ha;cases ha
 | .dK o ks l,_,_,h,a,ha=>by
  rw[Rep] at h;obtain⟨b,vs,O',e,r,hl,hd,h⟩:=h;cases o with
  | true =>
   have h:=(show _=_ from h);subst h;rcases M5.mp ha with e | e
   ·subst e;rintro ws (q | ⟨_,q⟩)<;>rw[hd] at q<;>cases q
   ·exact Reps.notTup r a e
  | false=>rw[h.2.2] at ha;cases ha
 | .dT o ks l,_,_,h,a,ha=>by
  rw[Rep] at h;obtain⟨b,vs,O',e,r,hl,hd,h⟩:=h;cases o with
  | true =>
   have h:=(show _=_ from h);subst h;rcases M5.mp ha with e | e
   ·subst e;rintro ws (q | ⟨_,q⟩)<;>rw[hd] at q<;>cases q
   ·exact Reps.notTup r a e
  | false=>rw[h.2.2] at ha;cases ha
 | .ins o c ns l,_,_,h,a,ha=>by
  rw[Rep] at h;obtain⟨b,dx,vs,O',e,r,hl,hd,h⟩:=h;cases o with
  | true =>
   have h:=(show _=_ from h);subst h;rcases M5.mp ha with e | e
   ·subst e;rintro ws (q | ⟨_,q⟩)<;>rw[hd] at q<;>cases q
   ·exact Reps.notTup r a e
  | false=>rw[h.2.2] at ha;cases ha
theorem Reps.notTup:∀{l:List D}{vs:List V}{O:List Addr},Reps R Z H l vs O->∀ a∈O,∀ vs,¬ Rd H a (.tup vs)
 | [],_,_,h,a,ha=>by rw[Reps] at h;rw[h.2] at ha;cases ha
 | d::l,_,_,h,a,ha=>by
  rw[Reps] at h;obtain⟨v,vs,O1,O2,e,rfl,r1,r2⟩:=h;rcases N3.mp ha with q | q
  ·exact Rep.notTup r1 a q
  ·exact Reps.notTup r2 a q
end
noncomputable def j7(m:List D->Option D)(p:PAf):PF:=λρ=>match p ρ with
 | none=>none
 | some ds=>match m (fzs ds) with
  | none=>none
  | some d=>bif frzs ds||vT d then some d else none
theorem wk(l:List D):(fzs l).length=l.length:=by rw[qV,L0]
theorem jiE{m:List D->Option D}{ta:TA}{p:PAf}{n:Nat}(y:PBs R ta p)(A:∀ ρ ds,p ρ=some ds->ds.length=n):PP R (zP (spP R m n) [] E0 ta) (j7 m p):=by
 intro σ ρ Z H O d z s e Q k;unfold j7 at e;cases e1:p ρ with
 | none=>rw[e1] at e;cases e
 | some ds =>
  rw[e1] at e;dsimp only at e;cases e2:m (fzs ds) with
  | none=>rw[e2] at e;cases e
  | some c =>
   rw[e2] at e;dsimp only at e;cases f:frzs ds||vT c with
   | false=>rw[f] at e;cases e
   | true =>
    rw[f] at e;cases e;refine y z s e1 λ{I i o j} r l=>?_;have B:=r.wf.zd;have C:Zd (λa=>i a \/ a∈j) o:=λa h=>h.elim (B a) (l.dom a);refine⟨λa=>i a \/ a∈j,fzs ds,d,C,by rw[wk];exact A ρ ds e1,by rw[N1];exact l.freeze (λa z=>.inl z) λa z=>.inr z,e2,λ{v t u P} b x=>?_⟩;rw[Bool.or_eq_true] at f;rcases f with f | f
    ·cases l.nil f;have g:Go i o [] t u P:=⟨b.wf,λa z=>b.zz a (.inl z),b.fr,λa z=>(b.zn a z).imp (λq=>q.resolve_right (λq=>(nomatch q))) id,b.sub,b.dm⟩;exact k (by simpa using r.pair g) x
    ·have g:Go i o [] (λa=>t a/\(a∉j \/ i a)) u P:=by
      refine⟨⟨b.wf.nd,λa h q=>b.wf.nz a h q.1,b.wf.od,λa q=>b.wf.zd a q.1⟩,λa z=>⟨b.zz a (.inl z),.inr z⟩,b.fr,λa z=>?_,b.sub,b.dm⟩;rcases b.zn a z.1 with(q | q) | q
      ·exact .inl q
      ·exact .inl (z.2.resolve_left λn=>n q)
      ·exact .inr q
     have E:Rep R (λa=>t a/\(a∉j \/ i a)) u d v P:=by
      refine x.thaw (λa F G ta=>⟨G,?_⟩) f;by_cases w:a∈j
      ·exact absurd (Rd.agree (b.same a (l.dom a w)).symm ta) (l.notTup a w F)
      ·exact .inl w
     exact k (by simpa using r.pair g) E
noncomputable def sFz(i:Nat)(f:FS):FS:=λρ=>match ρ[i]? with
 | some (some d)=>f (ρ.set i (some (fz d)))
 | _=>f ρ
theorem jkD{i:Nat}{t:TS}{f:FS}(h:DS R pm t f):DS R pm t (sFz i f):=by
 intro σ ρ Z H O o w s e l k;unfold sFz at e;split at e
 ·rename_i d hd;obtain⟨A,P,B,rfl,c,j,_⟩:=s.put (L9.mp hd).1;obtain⟨v,ev,r⟩:=c d hd;have g:Go Z H (A++P++B) (λa=>Z a \/ a∈P) H (A++[]++B):=(Go.freeze w.mid).frame w;have b:=j (r.freeze (Z':=λa=>Z a \/ a∈P) (λa z=>.inl z) λa z=>.inr z) (λa z=>.inl z) (λ_ _=>rfl) (λ_ _=>rfl) (λ_ _=>rfl);rw[vF ev] at b;exact h g.wf b e (k.pre g (Keep.refl _ _))
 ·exact h w s e k
noncomputable def jbt(i:Nat)(p:PF):FS:=λρ=>match p ρ with
 | none=>none
 | some d=>match ρ[i]? with
  | some (some (.lst true l))=>bif lim l.length then some (.nx (ρ.set i (some (.lst true (l++[d]))))) else none
  | _=>none
theorem jj8{i:Nat}{te:TE}{p:PF}(h:PP R te p):DS R pm (zF (tBM R.K "list" Qy (Yj i) (kq te K3))) (jbt i p):=by
 intro σ ρ Z H O o w s e D' k;unfold jbt at e;cases e1:p ρ with
 | none=>rw[e1] at e;cases e
 | some d =>
  rw[e1] at e;dsimp only at e;split at e
  ·rename_i l V;cases hlim:lim l.length with
   | false=>rw[hlim] at e;cases e
   | true =>
    rw[hlim] at e;cases e;obtain⟨A,P,B,rfl,k1,k2,_⟩:=s.put (L9.mp V).1;obtain⟨v,ev,r⟩:=k1 _ V;rw[Rep] at r;obtain⟨a,j,t,rfl,W,L,rfl⟩:=r;refine⟨.ref a,ev,.inl ⟨rfl,j,SqL.of L⟩,?_⟩;refine h w.zd s e1 λ{u C m D} n r1=>?_;have M:m a=some (.lst j):=by rw[n.same a (by rw[L];exact λz=>(nomatch z))];exact L
    refine⟨a,j,u,rfl,rfl,M,by rw[W.length];exact jdx hlim,?_⟩;have G:Go Z H (A++(a::t)++B) C m (A++(a::(t++D))++B):=by
     have q:=n.widen w;refine q.drop (λb c=>by simp at c ⊢;rcases c with c | c | c | c | c<;>simp[c]) ?_;have nd:=q.wf.nd;simp only[X0,N3,List.nodup_cons,M5,not_or] at nd ⊢;obtain⟨X,⟨⟨N,⟨Q,Y⟩,I⟩,n6,E⟩,J⟩:=nd;refine⟨⟨N,⟨⟨Q,λq=>J a q a (.inl (.inr (.inl rfl))) rfl⟩,Y,X,λx f y g e=>J y g x (.inl (.inr (.inr f))) e.symm⟩,λx f y g e=>?_⟩,n6,λx f y g e=>?_⟩
     ·rcases g with g | g | g
      ·exact I x f y (.inl g) e
      ·exact I x f y (.inr g) e
      ·exact J y g x (.inl (.inl f)) e.symm
     ·rcases f with f | f | f | f
      ·exact E x (.inl f) y g e
      ·exact E x (.inr (.inl f)) y g e
      ·exact E x (.inr (.inr f)) y g e
      ·exact J x f y (.inr g) e
    have gB:Go C m (A++(a::(t++D))++B) C (upd m a (.lst (j++[u]))) (A++(a::(t++D))++B):=Go.put G.wf (by simp);have nd:=G.wf.nd;simp only[X0,N3,List.nodup_cons,M5,not_or] at nd;obtain⟨⟨X,⟨⟨N,Q⟩,Y⟩,I⟩,n6,E⟩:=nd;have F:∀ b,C b->upd m a (.lst (j++[u])) b=m b:=λb c=>jo λz=>G.wf.nz a (by simp) (z▸c);have hr:Rep R C (upd m a (.lst (j++[u]))) (.lst true (l++[d])) (.ref a) (a::(t++D)):=by
     rw[Rep];refine⟨a,j++[u],t++D,rfl,?_,jU,rfl⟩;refine((n.reps w.zd W).append (.one r1)).frame (λb z=>z) F λb c=>jo λz=>?_;subst z;rcases N3.mp c with q | q
     ·exact N q
     ·exact Q q
    have S:∀ b,Z b->upd m a (.lst (j++[u])) b=H b:=λb c=>by rw[F b (n.zz b c)];exact n.same b (w.zd b c)
    have T:∀ b∈A,upd m a (.lst (j++[u])) b=H b:=λb c=>by
     rw[jo λz=>I b c b (.inl z) rfl];exact n.same b (w.od b (by simp[c]))
    have U:∀ b∈B,upd m a (.lst (j++[u])) b=H b:=λb c=>by
     rw[jo λz=>E b (.inr (.inl z)) b c rfl];exact n.same b (w.od b (by simp[c]))
    have sl:=k2 hr (λb z=>n.zz b z) S T U;rw[vF ev] at sl;exact k (G.trans gB) sl (Keep.refl _ _)
  ·cases e
end
end QD
namespace L2
open PySem PySem.Spec PyProof.Rows
section
variable {X:Cx}{pins:List (Addr×Obj)}{σ:St}{H:Hp}{s:Shared}{h':Heap}
theorem Inv.turnedNew{t':Nat}{wr:List Addr}{T:Addr}{xs:List V}{its:Array Value}(I:Inv X pins σ H s)(k:∀ b o,b∉wr->s.heap.get? b=some o->h'.get? b=some o)(g:∀ b∈wr,uA X pins H b)
  (h:s.heap.objs.size<=T) (j:IsTupN h' T its) (l:Vals xs its.toList) (hz:xs.length<=sizeLine):Inv X pins σ (upd H T (.tup xs)) { s with heap:=h',toks:=t' }:=by
 have p:=I.hok.fresh h;have i:∀ b u,H b=some u->b∉wr:=λb u e z=>by rw[(g b z).1] at e;cases e
 have d:∀ b u,H b=some u->b≠T:=λb u e z=>by rw[z,p] at e;cases e
 refine I.step (g':=s.gens) (d':=s.drawn) (ch:=wr) (λb f=>?_) (λb o _ _ a e _=>k b o a e) (λb o _ _ a e _=>⟨o.slots,k b o a e⟩) (λb o _ e n=>?_)
  (λb o a e=>⟨o,k b o a e⟩) (λb t e=>by rw[jo (d b _ e)];exact e) (λb o u e=>by rw[jo (d b _ e)];exact e) (λb F e=>⟨#[],by rw[jo (d b _ e),e];simp⟩) (λm w=>?_) (λb u e=>?_) I.bare
 ·obtain⟨_,x,_,y,A,B⟩:=g b f;exact⟨y,x,A,B⟩
 ·rw[jo (λz=>absurd (N2 e) (by rw[z];exact Nat.not_lt.mpr h))];exact n
 ·obtain⟨o,C,D,E,r⟩:=w;refine⟨o,C,D,k _ o (λz=>(g _ z).2.1 rfl) E,r⟩
 ·by_cases f:b=T
  ·subst f;rw[jU] at e;cases e;exact⟨hz,its.toList,l,by simpa using j⟩
  ·rw[jo f] at e;refine(I.hok b u e).stay (λc v a q=>k c v ?_ q) (λc q=>by rw[jo (d c _ q)];exact q) λc t q=>by rw[jo (d c _ q)];exact q
   rcases a with z | z
   ·rw[z];exact i b u e
   ·exact i c _ z
theorem Inv.turnedL{t':Nat}{wr:List Addr}(I:Inv X pins σ H s)(k:∀ b o,b∉wr->s.heap.get? b=some o->h'.get? b=some o)(d:∀ b∈wr,uA X pins H b):Inv X pins σ H { s with heap:=h',toks:=t' }:=by
 have f:∀ b u,H b=some u->b∉wr:=λb u e z=>by rw[(d b z).1] at e;cases e
 refine I.step (g':=s.gens) (d':=s.drawn) (ch:=wr) (λb g=>?_) (λb o _ _ a e _=>k b o a e) (λb o _ _ a e _=>⟨o.slots,k b o a e⟩) (λb o _ e n=>n)
  (λb o a e=>⟨o,k b o a e⟩) (λb y e=>e) (λb o u e=>e) (λb A e=>⟨#[],by rw[e];simp⟩) (λm h=>?_) (λb u e=>?_) I.bare
 ·obtain⟨_,i,_,j,l,p⟩:=d b g;exact⟨j,i,l,p⟩
 ·obtain⟨o,t,w,x,r⟩:=h;refine⟨o,t,w,k _ o (λz=>(d _ z).2.1 rfl) x,r⟩
 ·refine(I.hok b u e).stay (λc v a q=>k c v ?_ q) (λ_ q=>q) λ_ _ q=>q;rcases a with z | z
  ·rw[z];exact f b u e
  ·exact f c _ z
end
noncomputable def Ite(K:PySem.W.Frag)(l:Addr):It :=
 ⟨λi H=>∃ xs x,SqL K H l xs/\xs[i]?=some x,λi H x H'=>∃ p v,(∀ xs,SqL K H l xs->xs[i]?=some v)/\x=.ref p/\H p=none/\H'=upd H p (.tup [.int i,v]),λi H=>∃ xs,SqL K H l xs/\xs.length<=i⟩
theorem jcT{P:Program}{w:World}{K:PySem.W.Frag}{r:List Expr}{n:Nat}{pos:Pos}(e a l:Addr)(t:e≠a)(Y:l≠e)(Z:l≠a) :
  Turn P w K (.Tuple r n pos) (Ite K l) [e,a] e (λi h=>(∃ old,IsEnum h e a i old)/\h.IsListIter a l i) where
 mem:=by simp
 obj:=λi h st b f=>by
  obtain⟨⟨old,g⟩,o,G,J,hd⟩:=st;rcases(by simpa using f:b=e \/ b=a) with z | z
  ·subst z;exact⟨_,g,λv q=>by cases q⟩
  ·subst z;exact⟨o,G,λv q=>by rw[hd] at q;cases q⟩
 keep:=λi h h' st k=>by
  obtain⟨⟨old,g⟩,c⟩:=st;exact⟨⟨old,k e (by simp) _ g⟩,c.at λo q=>k a (by simp) o q⟩
 item:=by
  intro X L M N J i y s σ H E I C st O;subst L M N;obtain⟨xs,x,D,Q⟩:=O;obtain⟨its,R,p,hz⟩:=I.list D;obtain⟨u,hu,ru⟩:=R.get Q;obtain⟨⟨old,g⟩,c⟩:=st;refine wpAny_pyNext_enum_item g c p.isList (x:=u) (by simpa using hu) t λS G A hT hsz hk=>?_;refine⟨_,rfl,wpAny_letOwnedTupleGo_enum (s:={ s with heap:=S,toks:=s.toks+1 }) G λF U d=>?_⟩;replace d:Heap.SameBut e S F:=d;have j:e < s.heap.objs.size:=N2 g;have B:F.get? s.heap.objs.size=_:=(d.2 _ (Nat.ne_of_gt j)).trans hT;have kk:∀ b o,b∉[e,a]->s.heap.get? b=some o->F.get? b=some o:=λb o f q=>by
   have m:b≠e/\b≠a:=by simpa using f
   exact(d.2 b m.1).trans (hk b o m.1 m.2 q)
  have I1:=I.turnedNew (h':=F) (t':=s.toks+1) (wr:=[e,a]) (T:=s.heap.objs.size) (xs:=[.int i,x]) (its:=#[.int i s.toks,u]) kk C (M9 _) ⟨⟨_,B,rfl,_,rfl⟩,_,B,rfl⟩ (.cons ⟨_,rfl⟩ (.cons ru .nil)) (by show 2<=sizeLine;decide);refine⟨.ref s.heap.objs.size,_,I1,rfl,⟨_,x,(λys hy=>by rw[I.list_inj hy D];exact Q),rfl,I.hok.fresh (M9 _),rfl⟩,⟨⟨_,by simpa using U⟩,A.at λo q=>(d.2 a t.symm).trans q⟩,λb f=>?_⟩;rw[jo]
  ·exact(C b f).1
  ·intro z;have:b < s.heap.objs.size:=by
    obtain⟨oi,V,_⟩:=id c;rcases(by simpa using f:b=e \/ b=a) with q | q
    ·rw[q];exact j
    ·rw[q];exact N2 V
   exact absurd this (by rw[z];exact Nat.lt_irrefl _)
 done:=by
  intro X L M N J i y s σ H E I C st O;subst L M N;obtain⟨xs,D,Q⟩:=O;obtain⟨its,R,p,hz⟩:=I.list D;obtain⟨⟨old,g⟩,c⟩:=st;have hl:=R.length;exact wpAny_pyNext_enum_end (I.ok.hd J) g c p.isList (by simp;lia) λS eb=>⟨rfl,I.turnedL (t':=s.toks) (wr:=[e,a]) (λb o f q=>eb b o (by simp at f;exact f.2) q) C⟩
 self:=λ_ _ _ _ _ st h=>wpAny_pyIter_enum st.1.choose_spec h
noncomputable def jiu(K:PySem.W.Frag)(tl:TA):TI:=λσ H R=>tl σ H λvs H1=>∃ a xs,vs=[.ref a]/\SqL K H1 a xs/\R (Ite K a) H1
section
variable {X:Cx}
theorem jid{f:List Expr}{n:Nat}{tpos p pos:Pos}{a:Expr}{ta:TA}(v:Gl X "enumerate")(w:X.mg "enumerate" = none)(x:PA X [a] ta)(y:starEach [a] X.env=[(false,eval a X.env)]:=by rfl) :
  PI X (.Tuple f n tpos) (.Call (.Name "enumerate" p) [a] [] pos) (jiu X.K ta):=by
 intro d s σ H R I h;refine Call_ (KM I v w (show bootBuiltins "enumerate" = some (.type "enumerate") by decide +kernel) (PyProof.Rows.callWith_type1 (thn (x pos d s σ H _ I h) λL c ⟨M,m,j,A,B⟩=>?_) y rfl));obtain⟨l,xs,rfl,C,q⟩:=B;obtain⟨u,rfl,D⟩:=A.one;cases D;obtain⟨its,N,pl,O⟩:=j.list C;have g:l < c.heap.objs.size:=by
  obtain⟨o,_,e,_⟩:=pl;exact N2 e
 refine call_enumerate_list pl.isList λr t k E F=>?_;have G:Inv X d σ m { c with heap:=r }:=j.kept (t':=c.toks) F;refine PySem.wpAny_pyIter_enum (s:={ c with heap:=r }) t ?_;refine⟨c.heap.objs.size+1,[c.heap.objs.size+1,c.heap.objs.size],_,_,m,rfl,G,jcT _ _ l (Nat.succ_ne_self _) (N7 (Nat.lt_succ_of_lt g)) (N7 g),⟨⟨_,t⟩,k⟩,λb J=>?_,q⟩;have i:c.heap.objs.size<=b:=by
  rcases(by simpa using J:b=c.heap.objs.size+1 \/ b=c.heap.objs.size) with z | z
  ·rw[z];exact Nat.le_succ _
  ·rw[z];exact M9 _
 exact j.fpOk i (j.hok.fresh i)
end
theorem jfA(n a b:Nat)(h1:a < n)(h2:b < n):ZipApart (n+4) (n+2) (n+3) n (n+1) a b:=by
 constructor<;>(show @Ne Nat _ _)<;>lia
section
variable {X:Cx}
inductive TyQ (K:PySem.W.Frag) (H:Hp):V->String->Prop where
 | non:TyQ K H .non "NoneType"
 | bl (x:Bool):TyQ K H (.bl x) "bool"
 | int (i:Int):TyQ K H (.int i) "int"
 | str (x:Str):TyQ K H (.str x) "str"
 | lst {a:Addr}{xs:List V}(e:SqL K H a xs):TyQ K H (.ref a) "list"
 | tup {a:Addr}{xs:List V}(e:SqT K H a xs):TyQ K H (.ref a) "tuple"
 | dK {a:Addr}{kvs:List (Key×V)}(e:H a=some (.dK kvs)):TyQ K H (.ref a) "dict"
theorem wL:CallR X (.builtin "isinstance") (λxs H Q=>∃ x T t b,xs=[x,.ty T]/\TyQ X.K H x t/\PySem.W.kitOne X.K (.type t) (.type T)=some b/\Q (.bl b) H):=by
 intro f s σ H xs B Q I r h;obtain⟨x,T,t,b,rfl,ty,e,q⟩:=h;obtain⟨u,v,rfl,d,A⟩:=r.two;cases A;have c:∀ l,EP X f σ Q (.bool b) { s with toks:=l }:=λl=>⟨.bl b,H,I.tok l,rfl,q⟩;cases ty with
 | non=>cases(show u=Value.none from d);exact PySem.W.kia_one PySem.W.kitx_none I.kIn True.intro e (λz=>nomatch z) c
 | bl y=>cases(show u=Value.bool y from d);exact PySem.W.kia_one PySem.W.kitx_bool I.kIn True.intro e (λz=>nomatch z) c
 | int i=>obtain⟨t,q⟩:=(show ∃ t,u=Value.int i t from d);cases q;exact PySem.W.kia_one PySem.W.kitx_int I.kIn True.intro e (λz=>nomatch z) c
 | str y=>obtain⟨t,q⟩:=(show ∃ t,u=Value.str y t from d);cases q;exact PySem.W.kia_one PySem.W.kitx_str I.kIn True.intro e (λz=>nomatch z) c
 | @lst a xs g =>
  cases(show u=Value.ref a from d);obtain⟨its,_,⟨o,n,j,k,_,_⟩,_⟩:=I.list g;exact PySem.W.kia_one PySem.W.kitx_list I.kIn ⟨o,j,k⟩ e (λz=>nomatch z) c
 | @tup a xs g =>
  cases(show u=Value.ref a from d);obtain⟨its,_,⟨o,j,k,_⟩,_⟩:=I.tuple g;exact PySem.W.kia_one PySem.W.kitx_tuple I.kIn ⟨o,j,k⟩ e (λz=>nomatch z) c
 | @dK a m g =>
  cases(show u=Value.ref a from d);obtain⟨_,_,C,_,p⟩:=(show ObjOk X.prog X.w H s.heap a (.dK m) from I.hok a _ g);obtain⟨o,D,E,j,k,_⟩:=p;exact PySem.W.kia_one PySem.W.kitx_dict I.kIn ⟨o,j,k.1⟩ e (λz=>nomatch z) c
end
end L2
namespace QD
open PySem L2
section
variable {X:Cx}{R:RC}{Z Z':Zn}{H H':Hp}
theorem KO{f:Value->Value->Sem Value}{r b:R2}(h:OpR X f r)(h':OpR X f b):OpR X f (λx y H Q=>r x y H Q \/ b x y H Q):=by
 intro a s σ H x y v u Q I c d q;rcases q with q | q
 ·exact h a s σ H x y v u Q I c d q
 ·exact h' a s σ H x y v u Q I c d q
theorem Rep.lst_of{o:Bool}{l:List D}{v:V}{O:List Addr}(r:Rep R Z H (.lst o l) v O):∃ a vs O',v=.ref a/\SqX R.K H a vs/\Reps R Z H l vs O':=by
 rw[Rep] at r;obtain⟨a,vs,O',rfl,b,h⟩:=r;cases o with
 | true=>exact⟨a,vs,O',rfl,SqX.of h.1,b⟩
 | false=>exact⟨a,vs,O',rfl,FL.sqx h.1,b⟩
theorem Rep.tup_of{l:List D}{v:V}{O:List Addr}(r:Rep R Z H (.tup l) v O):∃ a vs,v=.ref a/\SqT R.K H a vs/\Reps R Z H l vs O:=by
 rw[Rep] at r;obtain⟨a,vs,rfl,h,b⟩:=r;exact⟨a,vs,rfl,h.sq,b⟩
theorem Reps.frozen{l:List D}{vs:List V}{O:List Addr}(r:Reps R Z H l vs O)(f:frzs l=true):Reps R Z H l vs []:=by
 cases r.nil f;exact r
noncomputable def jio(i:Int):Bool:=decide (Builtin.Int.intBits i<=2 ^ 20)
theorem jeg{i:Int}(h:i.natAbs < 2 ^ 1000):jio i=true:=X1 (jb3 h (by decide))
noncomputable def yN(x y:D):Option D:=match x with
 | .int i=>(match y with
  | .int j=>some (.int (i+j))
  | _=>none)
 | .str a=>(match y with
  | .str b=>bif lim (a.length+b.length) then some (.str (a++b)) else none
  | _=>none)
 | .lst _ a=>(match y with
  | .lst _ b=>bif lim (a.length+b.length)&&(frzs a&&frzs b) then some (.lst true (a++b)) else none
  | _=>none)
 | .tup a=>(match y with
  | .tup b=>bif lim (a.length+b.length)&&(frzs a&&frzs b)&&!a.isEmpty then some (.tup (a++b)) else none
  | _=>none)
 | _=>none
noncomputable def jnk:R2:=λx y H Q=>∃ a b,x=.str (S a)/\y=.str (S b)/\a.length+b.length<=sizeLine/\Q (.str (S (a++b))) H
noncomputable def jfa(K:PySem.W.Frag):R2:=λx y H Q=>rI0 (λi j=>.int (i+j)) x y H Q \/ jnk x y H Q \/ jkk K x y H Q \/ jkS K x y H Q
theorem jg9:OpR X (binaryOp .Add) (jfa X.K):=KO jkN (KO jiU (KO jhF jhV))
theorem jl2:BO R (jfa R.K) yN:=by
 intro Z H x y d v u E F z f h e Q k;cases x with
 | int i =>
  cases y with
  | int j =>
   cases e;obtain⟨rfl,_⟩:=f.int_of;obtain⟨rfl,_⟩:=h.int_of;exact .inl ⟨i,j,rfl,rfl,k (Go.id z) .int_mk⟩
  | _=>cases e
 | str a =>
  cases y with
  | str b =>
   simp only[yN] at e;cases hl:lim (a.length+b.length) with
   | false=>rw[hl] at e;cases e
   | true =>
    rw[hl] at e;cases e;obtain⟨rfl,_⟩:=f.str_of;obtain⟨rfl,_⟩:=h.str_of;exact .inr (.inl ⟨a,b,rfl,rfl,VC hl,k (Go.id z) .str_mk⟩)
  | _=>cases e
 | lst o a =>
  cases y with
  | lst G b =>
   simp only[yN] at e;cases hl:lim (a.length+b.length)&&(frzs a&&frzs b) with
   | false=>rw[hl] at e;cases e
   | true =>
    rw[hl] at e;cases e;simp only[M0] at hl;obtain⟨p,l,I,rfl,m,c⟩:=f.lst_of;obtain⟨q,n,A,rfl,r,rt⟩:=h.lst_of;have s:=(c.frozen hl.2.1).append (rt.frozen hl.2.2);exact .inr (.inr (.inl ⟨p,q,l,n,rfl,rfl,m,r,by rw[c.length,rt.length];exact VC hl.1,λb g=>k (Go.newO (wf0 z) g) (Rep.lstNew (wf0 z) g s)⟩))
  | _=>cases e
 | tup a =>
  cases y with
  | tup b =>
   simp only[yN] at e;cases hl:lim (a.length+b.length)&&(frzs a&&frzs b)&&!a.isEmpty with
   | false=>rw[hl] at e;cases e
   | true =>
    rw[hl] at e;cases e;simp only[M0] at hl;obtain⟨p,l,rfl,m,c⟩:=f.tup_of;obtain⟨q,n,rfl,r,rt⟩:=h.tup_of;have s:=(c.frozen hl.1.2.1).append (rt.frozen hl.1.2.2);have t:l≠[]:=by
     intro B;have:=c.length;rw[B] at this;have w:a=[]:=List.eq_nil_of_length_eq_zero this.symm;rw[w] at hl;simp at hl
    refine .inr (.inr (.inr ⟨p,q,l,n,rfl,rfl,m,r,t,by rw[c.length,rt.length];exact VC hl.1.1,(λw=>?_),λ_ b g=>k (Go.newF (wf0 z) g) (Rep.tupNew (wf0 z) g s)⟩));have C:b=[]:=List.eq_nil_of_length_eq_zero (by rw[<- rt.length,w];rfl);subst C;rw[N1] at k;have D:=c.nil hl.1.2.1;subst D;exact k (Go.id z) f
  | _=>cases e
 | _=>cases e
noncomputable def two(f:Int->Int->Option D):D->D->Option D
 | .int i,.int j=>f i j
 | _,_=>none
theorem two_of{f:Int->Int->Option D}{x y d:D}(e:two f x y=some d):∃ i j,x=.int i/\y=.int j/\f i j=some d:=by
 cases x with
 | int i =>
  cases y with
  | int j=>exact⟨i,j,rfl,rfl,e⟩
  | _=>cases e
 | _=>cases y<;>cases e
noncomputable def zA:D->D->Option D:=two λi j=>some (.int (i - j))
theorem jkp:BO R (rI0 λi j=>.int (i - j)) zA:=by
 intro Z H x y d v u c f z a b e Q k;replace e:=two_of e;obtain⟨i,j,rfl,rfl,e⟩:=e;cases e;obtain⟨rfl,_⟩:=a.int_of;obtain⟨rfl,_⟩:=b.int_of;exact⟨i,j,rfl,rfl,k (Go.id z) .int_mk⟩
noncomputable def YE(x y:D):Option D:=match y with
 | .int n=>(match x with
  | .int i=>bif jio i&&jio n then some (.int (i*n)) else none
  | .str a=>bif decide (a.length<=1000)&&(decide (0<=n)&&decide (n<=1000)) then some (.str (List.replicate n.toNat a).flatten) else none
  | _=>none)
 | _=>none
noncomputable def jhB:R2:=λx y H Q=>rI (λi j=>Builtin.Int.intBits i<=2 ^ 20/\Builtin.Int.intBits j<=2 ^ 20) (λi j=>.int (i*j)) x y H Q \/
 ∃(a:List Nat) (n:Int),x=.str (S a)/\y=.int n/\a.length<=1000/\0<=n/\n<=1000/\Q (.str (S (List.replicate n.toNat a).flatten)) H
theorem jhd:OpR X (binaryOp .Mult) jhB:=KO jiP jjf
theorem jly:BO R jhB YE:=by
 intro Z H x y d v u f g z b c e Q k;cases y with
 | int n =>
  cases x with
  | int i =>
   simp only[YE] at e;cases hl:jio i&&jio n with
   | false=>rw[hl] at e;cases e
   | true =>
    rw[hl] at e;cases e;rw[M0] at hl;obtain⟨rfl,_⟩:=b.int_of;obtain⟨rfl,_⟩:=c.int_of;exact .inl ⟨i,n,rfl,rfl,⟨X3 hl.1,X3 hl.2⟩,k (Go.id z) .int_mk⟩
  | str a =>
   simp only[YE] at e;cases hl:decide (a.length<=1000)&&(decide (0<=n)&&decide (n<=1000)) with
   | false=>rw[hl] at e;cases e
   | true =>
    rw[hl] at e;cases e;simp only[M0,decide_eq_true_eq] at hl;obtain⟨rfl,_⟩:=b.str_of;obtain⟨rfl,_⟩:=c.int_of;exact .inr ⟨a,n,rfl,rfl,hl.1,hl.2.1,hl.2.2,k (Go.id z) .str_mk⟩
  | _=>cases e
 | _=>cases e
noncomputable def u5(j:Int):Bool:=decide (0 < j)&&decide (j < 2 ^ 300)
theorem jc9{j:Int}(h:u5 j=true):0 < j/\j.natAbs.log2 < 9000:=by
 unfold u5 at h;simp only[M0,decide_eq_true_eq] at h;refine⟨h.1,?_⟩;have a:j.natAbs < 2 ^ 300:=by omega
 have b:j.natAbs≠0:=by omega
 have:=(Nat.log2_lt b (k:=300)).mpr a;omega
theorem jeX:OpR X (binaryOp .FloorDiv) (rI (λ_ j=>u5 j=true) λi j=>.int (i / j)):=opI λi j t u s Q E a q=>by
 obtain⟨b,c⟩:=jc9 a;have e:i / j=i.fdiv j:=(Int.fdiv_eq_ediv_of_nonneg i (Int.le_of_lt b)).symm;rw[e] at q;exact PyProof.Rows.floordiv_int (by omega) q (.inl (PyProof.noPylong_of_log2 c))
noncomputable def v7:D->D->Option D:=two λi j=>bif u5 j then some (.int (i / j)) else none
noncomputable def yG:D->D->Option D:=two λi j=>bif decide (0 < j) then some (.int (i % j)) else none
noncomputable def jfv:D->D->Option D:=two λi j=>bif decide (0<=j)&&decide (j<=100)&&decide (i.natAbs < 2 ^ 64) then some (.int (i ^ j.toNat)) else none
theorem jlt:BO R (rI (λ_ j=>u5 j=true) λi j=>.int (i / j)) v7:=by
 intro Z H x y d v u c f z a b e Q k;replace e:=two_of e;obtain⟨i,j,rfl,rfl,e⟩:=e;cases hl:u5 j with
 | false=>rw[hl] at e;cases e
 | true =>
  rw[hl] at e;cases e;obtain⟨rfl,_⟩:=a.int_of;obtain⟨rfl,_⟩:=b.int_of;exact⟨i,j,rfl,rfl,hl,k (Go.id z) .int_mk⟩
theorem jli:BO R (rI (λ_ j=>0 < j) λi j=>.int (i % j)) yG:=by
 intro Z H x y d v u f g z b c e Q k;replace e:=two_of e;obtain⟨i,j,rfl,rfl,e⟩:=e;by_cases a:0 < j
 ·rw[X1 a] at e;cases e;obtain⟨rfl,_⟩:=b.int_of;obtain⟨rfl,_⟩:=c.int_of;exact⟨i,j,rfl,rfl,a,k (Go.id z) .int_mk⟩
 ·rw[X2 a] at e;cases e
theorem jkM:BO R (rI jm5 λi j=>.int (i ^ j.toNat)) jfv:=by
 intro Z H x y d v u c f z a b e Q k;replace e:=two_of e;obtain⟨i,j,rfl,rfl,e⟩:=e;cases hl:decide (0<=j)&&decide (j<=100)&&decide (i.natAbs < 2 ^ 64) with
 | false=>rw[hl] at e;cases e
 | true =>
  rw[hl] at e;cases e;simp only[M0,decide_eq_true_eq] at hl;obtain⟨rfl,_⟩:=a.int_of;obtain⟨rfl,_⟩:=b.int_of;exact⟨i,j,rfl,rfl,⟨hl.1.1,by omega,hl.2⟩,k (Go.id z) .int_mk⟩
noncomputable def kZ:D->Option D
 | .int i=>some (.int (-i))
 | _=>none
theorem jlZ:BU R (rU λi=>.int (-i)) kZ:=by
 intro Z H x d v O z a e Q k;cases x with
 | int i =>
  cases e;obtain⟨rfl,_⟩:=a.int_of;exact⟨i,rfl,k (Go.id z) .int_mk⟩
 | _=>cases e
noncomputable def opB(g:Int->Int->Bool):D->D->Option D:=two λi j=>some (.bl (g i j))
theorem jma{g:Int->Int->Bool}:BO R (rI0 λi j=>.bl (g i j)) (opB g):=by
 intro Z H x y d v u c f z a b e Q k;replace e:=two_of e;obtain⟨i,j,rfl,rfl,e⟩:=e;cases e;obtain⟨rfl,_⟩:=a.int_of;obtain⟨rfl,_⟩:=b.int_of;exact⟨i,j,rfl,rfl,k (Go.id z) .bl_mk⟩
noncomputable abbrev jfV:D->D->Option D:=opB λi j=>decide (i < j)
noncomputable abbrev jff:D->D->Option D:=opB λi j=>decide (i<=j)
noncomputable abbrev jjy:D->D->Option D:=opB λi j=>decide (j < i)
noncomputable abbrev jmg:D->D->Option D:=opB λi j=>decide (j<=i)
noncomputable def uj:D->Bool
 | .non=>true
 | _=>false
noncomputable def jba:D->Bool
 | .dead=>true
 | _=>false
noncomputable def YV(x y:D):Option D:=bif uj y&&!jba x then some (.bl (uj x)) else none
noncomputable def kj(x y:D):Option D:=bif uj y&&!jba x then some (.bl (!uj x)) else none
theorem jbs{y:D}(h:uj y=true):y=.non:=by
 cases y with
 | non=>rfl
 | _=>cases h
theorem uN{x:D}{v:V}{O:List Addr}(r:Rep R Z H x v O)(hd:∀(h:x=.dead),False):decide (v=V.non)=uj x:=by
 cases x with
 | non=>obtain⟨rfl,_⟩:=r.non_of;rfl
 | bl b=>obtain⟨rfl,_⟩:=r.bl_of;rfl
 | int i=>obtain⟨rfl,_⟩:=r.int_of;rfl
 | str s=>obtain⟨rfl,_⟩:=r.str_of;rfl
 | tup l=>rw[Rep] at r;obtain⟨a,d,rfl,_⟩:=r;rfl
 | lst o l=>rw[Rep] at r;obtain⟨a,d,e,rfl,_⟩:=r;rfl
 | dK o ks l=>rw[Rep] at r;obtain⟨a,d,e,rfl,_⟩:=r;rfl
 | dT o ks l=>rw[Rep] at r;obtain⟨a,d,e,rfl,_⟩:=r;rfl
 | ins o c ns l=>rw[Rep] at r;obtain⟨a,dx,d,e,rfl,_⟩:=r;rfl
 | exc c p=>rw[Rep] at r;obtain⟨a,dx,rfl,_⟩:=r;rfl
 | dead=>exact(hd rfl).elim
theorem jmN:BO R (λx y H Q=>y=.non/\Q (.bl (decide (x=.non))) H) YV:=by
 intro Z H x y d v u c f z a b e Q k;unfold YV at e;cases hl:uj y&&!jba x with
 | false=>rw[hl] at e;cases e
 | true =>
  rw[hl] at e;cases e;rw[M0] at hl;have hd:∀(h:x=.dead),False:=λh=>by rw[h] at hl;exact absurd hl.2 (by decide)
  cases jbs hl.1;obtain⟨rfl,_⟩:=b.non_of;refine⟨rfl,?_⟩;rw[uN a hd];exact k (Go.id z) .bl_mk
theorem jgn:BO R (λx y H Q=>y=.non/\Q (.bl (!decide (x=.non))) H) kj:=by
 intro Z H x y d v u c f z a b e Q k;unfold kj at e;cases hl:uj y&&!jba x with
 | false=>rw[hl] at e;cases e
 | true =>
  rw[hl] at e;cases e;rw[M0] at hl;have hd:∀(h:x=.dead),False:=λh=>by rw[h] at hl;exact absurd hl.2 (by decide)
  cases jbs hl.1;obtain⟨rfl,_⟩:=b.non_of;refine⟨rfl,?_⟩;rw[uN a hd];exact k (Go.id z) .bl_mk
noncomputable def Vo:D->Bool
 | .non=>true | .bl _=>true | .int _=>true | .str _=>true
 | _=>false
noncomputable def eqF:D->D->Bool
 | .non,.non=>true
 | .bl a,.bl b=>a==b
 | .int a,.int b=>a==b
 | .str a,.str b=>a==b
 | _,_=>false
noncomputable def xS:D->D->Bool
 | .bl _,.int _=>false
 | .int _,.bl _=>false
 | _,_=>true
theorem jeH{x y:D}{v u:V}{e f:List Addr}(d:Rep R Z H x v e)(c:Rep R Z H y u f)(h:(Vo x&&Vo y&&xS x y)=true):jnp v u=true/\decide (v=u)=eqF x y:=by
 cases x with
 | non =>
  obtain⟨rfl,_⟩:=d.non_of;cases y with
  | non=>obtain⟨rfl,_⟩:=c.non_of;exact⟨rfl,rfl⟩
  | bl b=>obtain⟨rfl,_⟩:=c.bl_of;exact⟨rfl,rfl⟩
  | int b=>obtain⟨rfl,_⟩:=c.int_of;exact⟨rfl,rfl⟩
  | str b=>obtain⟨rfl,_⟩:=c.str_of;exact⟨rfl,rfl⟩
  | _=>cases h
 | bl a =>
  obtain⟨rfl,_⟩:=d.bl_of;cases y with
  | non=>obtain⟨rfl,_⟩:=c.non_of;exact⟨rfl,rfl⟩
  | bl b=>obtain⟨rfl,_⟩:=c.bl_of;exact⟨rfl,by rw[jdW];rfl⟩
  | str b=>obtain⟨rfl,_⟩:=c.str_of;exact⟨rfl,rfl⟩
  | _=>cases h
 | int a =>
  obtain⟨rfl,_⟩:=d.int_of;cases y with
  | non=>obtain⟨rfl,_⟩:=c.non_of;exact⟨rfl,rfl⟩
  | int b=>obtain⟨rfl,_⟩:=c.int_of;exact⟨rfl,by rw[jac];rfl⟩
  | str b=>obtain⟨rfl,_⟩:=c.str_of;exact⟨rfl,rfl⟩
  | _=>cases h
 | str a =>
  obtain⟨rfl,_⟩:=d.str_of;cases y with
  | non=>obtain⟨rfl,_⟩:=c.non_of;exact⟨rfl,rfl⟩
  | bl b=>obtain⟨rfl,_⟩:=c.bl_of;exact⟨rfl,rfl⟩
  | int b=>obtain⟨rfl,_⟩:=c.int_of;exact⟨rfl,rfl⟩
  | str b =>
   obtain⟨rfl,_⟩:=c.str_of;refine⟨rfl,?_⟩;rw[Bool.eq_iff_iff];simp[eqF,jms]
  | _=>cases h
 | _=>cases h
noncomputable def inL(x:D)(l:List D):Bool:=l.any λy=>eqF y x
noncomputable def jb2(x:D)(l:List D):Bool:=Vo x&&l.all λy=>Vo y&&xS y x
noncomputable def zG(neg:Bool)(x y:D):Option D:=match y with
 | .str s=>(match x with
  | .str [c]=>some (.bl (neg != decide (c∈s)))
  | _=>none)
 | .lst _ l=>bif jb2 x l then some (.bl (neg != inL x l)) else none
 | .tup l=>bif jb2 x l then some (.bl (neg != inL x l)) else none
 | _=>none
theorem Reps.flat{x:D}{v:V}{P:List Addr}(c:Rep R Z H x v P)(d:Vo x=true):∀{l:List D}{vs:List V}{O:List Addr},Reps R Z H l vs O->(l.all λy=>Vo y&&xS y x)=true->Q6 v=true/\vs.all Q6=true/\inV v vs=inL x l
 | [],_,_,h,_=>by
  rw[Reps] at h;obtain⟨rfl,_⟩:=h;refine⟨?_,rfl,rfl⟩;cases x with
  | non=>obtain⟨rfl,_⟩:=c.non_of;rfl
  | bl b=>obtain⟨rfl,_⟩:=c.bl_of;rfl
  | int b=>obtain⟨rfl,_⟩:=c.int_of;rfl
  | str b=>obtain⟨rfl,_⟩:=c.str_of;rfl
  | _=>cases d
 | y::l,_,_,h,f=>by
  rw[Reps] at h;obtain⟨u,vs,m,n,rfl,rfl,e,g⟩:=h;rw[List.all_cons,M0] at f;obtain⟨i,j,k⟩:=Reps.flat c d g f.2;have key:Q6 u=true/\eqV u v=eqF y x:=by
   cases y with
   | non =>
    obtain⟨rfl,_⟩:=e.non_of;cases x with
    | non=>obtain⟨rfl,_⟩:=c.non_of;exact⟨rfl,rfl⟩
    | bl b=>obtain⟨rfl,_⟩:=c.bl_of;exact⟨rfl,rfl⟩
    | int b=>obtain⟨rfl,_⟩:=c.int_of;exact⟨rfl,rfl⟩
    | str b=>obtain⟨rfl,_⟩:=c.str_of;exact⟨rfl,rfl⟩
    | _=>cases d
   | bl a =>
    obtain⟨rfl,_⟩:=e.bl_of;cases x with
    | non=>obtain⟨rfl,_⟩:=c.non_of;exact⟨rfl,rfl⟩
    | bl b=>obtain⟨rfl,_⟩:=c.bl_of;exact⟨rfl,rfl⟩
    | str b=>obtain⟨rfl,_⟩:=c.str_of;exact⟨rfl,rfl⟩
    | int b=>exact absurd f.1 (by simp[xS])
    | _=>cases d
   | int a =>
    obtain⟨rfl,_⟩:=e.int_of;cases x with
    | non=>obtain⟨rfl,_⟩:=c.non_of;exact⟨rfl,rfl⟩
    | int b=>obtain⟨rfl,_⟩:=c.int_of;exact⟨rfl,rfl⟩
    | str b=>obtain⟨rfl,_⟩:=c.str_of;exact⟨rfl,rfl⟩
    | bl b=>exact absurd f.1 (by simp[xS])
    | _=>cases d
   | str a =>
    obtain⟨rfl,_⟩:=e.str_of;cases x with
    | non=>obtain⟨rfl,_⟩:=c.non_of;exact⟨rfl,rfl⟩
    | bl b=>obtain⟨rfl,_⟩:=c.bl_of;exact⟨rfl,rfl⟩
    | int b=>obtain⟨rfl,_⟩:=c.int_of;exact⟨rfl,rfl⟩
    | str b =>
     obtain⟨rfl,_⟩:=c.str_of;refine⟨rfl,?_⟩;rw[Bool.eq_iff_iff];simp[eqF,eqV,jms]
    | _=>cases d
   | _=>exact absurd f.1 (by simp[Vo])
  refine⟨i,by rw[List.all_cons,key.1,j];rfl,?_⟩;show(eqV u v||inV v vs)=(eqF y x||inL x l);rw[key.2,k]
noncomputable def jnZ(neg:Bool):R2:=λx y H Q=>∃ c l,x=.str (S [c])/\y=.str (S l)/\Q (.bl (if neg then !decide (c∈l) else decide (c∈l))) H
noncomputable def jjA(K:PySem.W.Frag)(neg:Bool):R2:=λx y H Q=>jnZ neg x y H Q \/ rIn K neg x y H Q
theorem jkV:OpR X (compareOp .In) (jjA X.K false):=KO jjQ jeG
theorem jdz:OpR X (compareOp .NotIn) (jjA X.K true):=KO jdi uz
theorem jaD(a b:Bool):(if a=true then !b else b)=(a != b):=by cases a<;>cases b<;>rfl
theorem jl0{a:Bool}:BO R (jjA R.K a) (zG a):=by
 intro Z H x y d v u r w z f g e Q k;cases y with
 | str s =>
  cases x with
  | str t =>
   match t,e,f with
   | [c],e,f =>
    cases e;obtain⟨rfl,_⟩:=f.str_of;obtain⟨rfl,_⟩:=g.str_of;refine .inl ⟨c,s,rfl,rfl,?_⟩;rw[jaD];exact k (Go.id z) .bl_mk
   | [],e,f=>cases e
   | _::_::_,e,f=>cases e
  | _=>cases e
 | lst o l =>
  have b:(bif jb2 x l then some (D.bl (a != inL x l)) else none)=some d:=e;cases hl:jb2 x l with
  | false=>rw[hl] at b;cases b
  | true =>
   rw[hl] at b;cases b;unfold jb2 at hl;rw[M0] at hl;obtain⟨p,h,A,rfl,i,j⟩:=g.lst_of;obtain⟨m,n,q⟩:=j.flat f hl.1 hl.2;refine .inr ⟨p,h,rfl,.inl i.sq,m,n,?_⟩;rw[q,jaD];exact k (Go.id z) .bl_mk
 | tup l =>
  have b:(bif jb2 x l then some (D.bl (a != inL x l)) else none)=some d:=e;cases hl:jb2 x l with
  | false=>rw[hl] at b;cases b
  | true =>
   rw[hl] at b;cases b;unfold jb2 at hl;rw[M0] at hl;obtain⟨p,h,rfl,i,j⟩:=g.tup_of;obtain⟨m,n,q⟩:=j.flat f hl.1 hl.2;refine .inr ⟨p,h,rfl,.inr i,m,n,?_⟩;rw[q,jaD];exact k (Go.id z) .bl_mk
 | _=>cases e
noncomputable def jF(x y:D):Option D:=match y with
 | .int i=>(match x with
  | .lst _ l=>atI l i
  | .tup l=>atI l i
  | .str s=>bif lim s.length then(match atI s i with
   | some c=>some (.str [c])
   | none=>none) else none
  | _=>none)
 | _=>none
theorem Reps.atI{l:List D}{vs:List V}{O:List Addr}{i:Int}{d:D}(r:Reps R Z H l vs O)(e:L2.atI l i=some d):∃ v P,L2.atI vs i=some v/\Rep R Z H d v P:=by
 unfold L2.atI at e ⊢;rw[r.length];cases h:ixN l.length i with
 | none=>rw[h] at e;cases e
 | some j =>
  rw[h] at e;obtain⟨v,A,P,B,a,_,b,_⟩:=r.at (show l[j]?=some d from e);exact⟨v,P,a,b⟩
theorem jmX:BO' R (rIx R.K) jF:=by
 intro Z H x y d v u q r z a n e Q k;cases y with
 | int i =>
  obtain⟨rfl,_⟩:=n.int_of;cases x with
  | lst o l =>
   obtain⟨p,b,t,rfl,f,g⟩:=a.lst_of;obtain⟨w,P,j,m⟩:=g.atI e;exact .inl ⟨p,b,i,w,rfl,rfl,f.sq,j,k m⟩
  | tup l =>
   obtain⟨p,b,rfl,f,g⟩:=a.tup_of;obtain⟨w,P,j,m⟩:=g.atI e;exact .inr (.inl ⟨p,b,i,w,rfl,rfl,f,j,k m⟩)
  | str s =>
   obtain⟨rfl,_⟩:=a.str_of;simp only[jF] at e;cases hl:lim s.length with
   | false=>rw[hl] at e;cases e
   | true =>
    rw[hl,cond_true] at e;cases h:L2.atI s i with
    | none=>rw[h] at e;cases e
    | some c =>
     rw[h] at e;cases e;refine .inr (.inr ⟨S s,i,c,rfl,rfl,by rw[Jr];exact VC hl,by rw[vR];exact h,?_⟩);rw[jia];exact k .str_mk
  | _=>cases e
 | _=>cases e
noncomputable abbrev OF:=Rh->Option (Option Int)
def PO'(R:RC)(t:TO)(p:OF):Prop:=∀{σ:St}{ρ:Rh}{Z:Zn}{H:Hp}{O:List Addr}{i:Option Int},Zd Z H->Slots R Z H ρ σ O->p ρ=some i ->
 ∀{Q:Option Int->Hp->Prop},(∀{Z':Zn}{H':Hp},Go Z H [] Z' H' []->Q i H')->t σ H Q
noncomputable def oN:OF:=λ_=>some none
noncomputable def oS(p:PF):OF:=λρ=>match p ρ with
 | some (.int i)=>some (some i)
 | _=>none
theorem jnW:PO' R jaf oN:=by
 intro σ ρ Z H O i z s e Q k;cases e;exact k (Go.id z)
theorem joe{te:TE}{p:PF}(h:PB R te p):PO' R (jjh te) (oS p):=by
 intro σ ρ Z H O i z s e Q k;unfold oS at e;split at e
 ·rename_i j a;cases e;refine h z s a λ{v d f g} b c=>?_;obtain⟨rfl,_⟩:=c.int_of;exact⟨j,rfl,k b⟩
 ·cases e
noncomputable def jep(lo hi:Option Int):D->Option D
 | .str s=>bif lim s.length then some (.str (VB s lo hi)) else none
 | .lst _ l=>bif frzs l then some (.lst true (VB l lo hi)) else none
 | .tup l=>bif frzs l&&decide ((VB l lo hi).length < l.length) then some (.tup (VB l lo hi)) else none
 | _=>none
def jmG(K:PySem.W.Frag):V->Option Int->Option Int->Hp->VK->Prop:=λx lo hi H Q=>jnH x lo hi H Q \/ jnU K x lo hi H Q \/ jnN K x lo hi H Q
theorem joj:SlR X (jmG X.K):=SlR.or jlH (SlR.or jiM jkO)
noncomputable def pSl(pa:PF)(pl ph:OF):PF:=λρ=>match pa ρ with
 | none=>none
 | some x=>match pl ρ with
  | none=>none
  | some lo=>match ph ρ with
   | none=>none
   | some hi=>jep lo hi x
theorem Reps.cut{l:List D}{vs:List V}(r:Reps R Z H l vs [])(lo hi:Option Int):Reps R Z H (VB l lo hi) (jgP vs lo hi) []:=by
 unfold VB jgP;rw[r.length];exact(r.drop _).take _
theorem jmt{te:TE}{tl th:TO}{pa:PF}{pl m:OF}(D:PB R te pa)(E:PO' R tl pl)(F:PO' R th m):PP R (tSl (jmG R.K) te tl th) (pSl pa pl m):=by
 intro σ ρ Z H O d z s e Q k;unfold pSl at e;cases e1:pa ρ with
 | none=>rw[e1] at e;cases e
 | some x =>
  rw[e1] at e;dsimp only at e;cases e2:pl ρ with
  | none=>rw[e2] at e;cases e
  | some n =>
   rw[e2] at e;dsimp only at e;cases e3:m ρ with
   | none=>rw[e3] at e;cases e
   | some q =>
    rw[e3] at e;dsimp only at e;refine D z s e1 λ{v J L M} h G=>?_;refine E h.wf.zd (h.slots z s) e2 λ{N P} r=>?_;have c:=h.pair r;refine F r.wf.zd (c.slots z s) e3 λ{Z3 I} i=>?_;have a:Go Z H [] Z3 I []:=c.pair i;have u:=(r.pair i).rep h.wf.zd G;cases x with
    | str t =>
     simp only[jep] at e;cases hm:lim t.length with
     | false=>rw[hm] at e;cases e
     | true =>
      rw[hm] at e;cases e;obtain⟨rfl,_⟩:=u.str_of;exact .inl ⟨t,rfl,VC hm,k a .str_mk⟩
    | lst o l =>
     simp only[jep] at e;cases hm:frzs l with
     | false=>rw[hm] at e;cases e
     | true =>
      rw[hm] at e;cases e;obtain⟨p,w,S,rfl,y,j⟩:=u.lst_of;have f:=i.wf.zd;exact .inr (.inl ⟨p,w,rfl,y.sq,λb g=>k (by simpa using a.pair (Go.newO (wf0 f) g)) (Rep.lstNew (wf0 f) g ((j.frozen hm).cut n q))⟩)
    | tup l =>
     simp only[jep] at e;cases hm:frzs l&&decide ((VB l n q).length < l.length) with
     | false=>rw[hm] at e;cases e
     | true =>
      rw[hm] at e;cases e;simp only[M0,decide_eq_true_eq] at hm;obtain⟨p,w,rfl,y,j⟩:=u.tup_of;have f:=i.wf.zd;refine .inr (.inr ⟨p,w,rfl,y,?_,λb g=>k (by simpa using a.pair (Go.newF (wf0 f) g)) (Rep.tupNew (wf0 f) g ((j.frozen hm.1).cut n q))⟩);rintro⟨B,C⟩;have A:=hm.2;unfold VB at A;rw[j.length] at B C;rw[B,C,List.drop_zero,Nat.sub_zero,List.take_length] at A;exact absurd A (Nat.lt_irrefl _)
    | _=>cases e
noncomputable def Jq:List D->Option D
 | [.lst _ l]=>some (.int l.length)
 | [.tup l]=>some (.int l.length)
 | [.str s]=>bif lim s.length then some (.int s.length) else none
 | _=>none
theorem jlF:BC R (λxs H Q=>∃ x n,xs=[x]/\jmr R.K x H n/\Q (.int n) H) Jq:=by
 intro Z H xs d g O z r e Q k
 match xs,e,r with
 | [.lst o l],e,r =>
  cases e;obtain⟨v,rfl,a⟩:=r.one_of;obtain⟨p,b,h,rfl,c,f⟩:=a.lst_of;exact⟨_,_,rfl,.inl ⟨b,c.sq,rfl⟩,by rw[f.length];exact k (Go.id z) .int_mk⟩
 | [.tup l],e,r =>
  cases e;obtain⟨v,rfl,a⟩:=r.one_of;obtain⟨p,b,rfl,c,f⟩:=a.tup_of;exact⟨_,_,rfl,.inr ⟨b,c,rfl⟩,by rw[f.length];exact k (Go.id z) .int_mk⟩
 | [.str s],e,r =>
  simp only[Jq] at e;cases hm:lim s.length with
  | false=>rw[hm] at e;cases e
  | true =>
   rw[hm] at e;cases e;obtain⟨v,rfl,a⟩:=r.one_of;obtain⟨rfl,_⟩:=a.str_of;exact⟨_,_,rfl,⟨by rw[Jr];exact VC hm,rfl⟩,by rw[Jr];exact k (Go.id z) .int_mk⟩
noncomputable def jhv:List D->Option (List Int)
 | []=>some []
 | d::l=>match d with
  | .int i=>(match jhv l with
   | some r=>some (i::r)
   | none=>none)
  | _=>none
noncomputable def JX:List D->Option (List Bool)
 | []=>some []
 | d::l=>match d with
  | .bl i=>(match JX l with
   | some r=>some (i::r)
   | none=>none)
  | _=>none
theorem Reps.bools:∀{l:List D}{vs:List V}{O:List Addr}{ns:List Bool},Reps R Z H l vs O->JX l=some ns->vs=ns.map V.bl:=by
 intro l
 induction l with
 | nil=>intro vs O ns h e;rw[Reps] at h;cases e;exact h.1
 | cons d l a =>
  intro vs O ns h e;rw[Reps] at h;obtain⟨v,vs,f,g,rfl,rfl,b,c⟩:=h;cases d with
  | bl i =>
   have e:(match JX l with | some r=>some (i::r) | none=>none)=some ns:=e;cases e1:JX l with
   | none=>rw[e1] at e;cases e
   | some r =>
    rw[e1] at e;cases e;rw[a c e1,b.bl_of.1];rfl
  | _=>cases e
noncomputable def jl3:List D->Option D
 | [.lst _ l]=>match JX l with
  | some ns=>some (.bl (ns.all λb=>b))
  | none=>none
 | _=>none
theorem jkR:BC R (λxs H Q=>∃(p:Addr) (bs:List Bool),xs=[.ref p]/\SqL R.K H p (bs.map V.bl)/\Q (.bl (bs.all λb=>b)) H) jl3:=by
 intro Z H xs d g O z r e Q k
 match xs,e,r with
 | [.lst o l],e,r =>
  simp only[jl3] at e;cases e1:JX l with
  | none=>rw[e1] at e;cases e
  | some ns =>
   rw[e1] at e;cases e;obtain⟨v,rfl,a⟩:=r.one_of;obtain⟨p,h,i,rfl,c,f⟩:=a.lst_of;have:=f.bools e1;subst this;exact⟨p,ns,rfl,c.sq,k (Go.id z) .bl_mk⟩
noncomputable def f2I(g:Int->Int->Int):List D->Option D
 | [.int i,.int j]=>some (.int (g i j))
 | _=>none
theorem jhJ{g:Int->Int->Int}:BC R (λxs H Q=>∃ i j,xs=[.int i,.int j]/\Q (.int (g i j)) H) (f2I g):=by
 intro Z H xs d c O z r e Q k
 match xs,e,r with
 | [.int i,.int j],e,r =>
  cases e;obtain⟨v,u,f,h,rfl,_,a,b⟩:=r.two_of;obtain⟨rfl,_⟩:=a.int_of;obtain⟨rfl,_⟩:=b.int_of;exact⟨i,j,rfl,k (Go.id z) .int_mk⟩
noncomputable abbrev jnT:List D->Option D:=f2I λi j=>if j > i then j else i
noncomputable abbrev joh:List D->Option D:=f2I λi j=>if j < i then j else i
noncomputable def jbZ(w:List Nat):Bool:=!w.isEmpty&&(decide (w.length<=600)&&w.all λc=>decide (48<=c)&&decide (c<=57))
noncomputable def jl4:List D->Option D
 | [.str w]=>bif jbZ w then some (.int (NumText.digitsVal w:Nat)) else none
 | _=>none
noncomputable def je6:List D->Option D
 | [.int i]=>bif decide (0<=i)&&decide (i < 2 ^ 200) then some (.str (Jp i.toNat)) else none
 | [.str s]=>some (.str s)
 | _=>none
theorem jjR:BC R (λxs H Q=>∃ w:List Nat,xs=[.str (S w)]/\NumText.AllDigits w/\w≠[]/\w.length<=600/\Q (.int (NumText.digitsVal w:Nat)) H) jl4:=by
 intro Z H xs d f O z r e Q k
 match xs,e,r with
 | [.str w],e,r =>
  simp only[jl4] at e;cases hm:jbZ w with
  | false=>rw[hm] at e;cases e
  | true =>
   rw[hm] at e;cases e;unfold jbZ at hm;simp only[M0,decide_eq_true_eq,List.all_eq_true,Bool.not_eq_true',List.isEmpty_eq_false_iff] at hm;obtain⟨v,rfl,a⟩:=r.one_of;obtain⟨rfl,_⟩:=a.str_of;exact⟨w,rfl,λc b=>hm.2.2 c b,hm.1,hm.2.1,k (Go.id z) .int_mk⟩
theorem jfm{f:Value}{r a:List V->Hp->VK->Prop}(h:CallR X f r)(h':CallR X f a):CallR X f (λxs H Q=>r xs H Q \/ a xs H Q):=CallR.or h h'
theorem jj7:BC R (λxs H Q=>(∃ i:Int,xs=[.int i]/\0<=i/\i < 2 ^ 200/\Q (.str (S (Jp i.toNat))) H) \/ ∃ x,xs=[.str x]/\Q (.str x) H) je6:=by
 intro Z H xs d b O z r e Q k
 match xs,e,r with
 | [.int i],e,r =>
  simp only[je6] at e;cases hm:decide (0<=i)&&decide (i < 2 ^ 200) with
  | false=>rw[hm] at e;cases e
  | true =>
   rw[hm] at e;cases e;simp only[M0,decide_eq_true_eq] at hm;obtain⟨v,rfl,a⟩:=r.one_of;obtain⟨rfl,_⟩:=a.int_of;exact .inl ⟨i,rfl,hm.1,hm.2,k (Go.id z) .str_mk⟩
 | [.str s],e,r =>
  cases e;obtain⟨v,rfl,a⟩:=r.one_of;obtain⟨rfl,_⟩:=a.str_of;exact .inr ⟨_,rfl,k (Go.id z) .str_mk⟩
noncomputable def xy:List D->Option D
 | [.lst _ l]=>bif frzs l then some (.tup l) else none
 | _=>none
theorem ja1:BC R (λxs H Q=>∃ p ys,xs=[.ref p]/\((SqL R.K H p ys/\∀ l,H l=none->Q (.ref l) (upd H l (.tup ys))) \/ (SqT R.K H p ys/\Q (.ref p) H))) xy:=by
 intro Z H xs d i O z r e Q k
 match xs,e,r with
 | [.lst o l],e,r =>
  simp only[xy] at e;cases hm:frzs l with
  | false=>rw[hm] at e;cases e
  | true =>
   rw[hm] at e;cases e;obtain⟨v,rfl,c⟩:=r.one_of;obtain⟨p,f,j,rfl,g,h⟩:=c.lst_of;exact⟨p,f,rfl,.inl ⟨g.sq,λb a=>k (Go.newF (wf0 z) a) (Rep.tupNew (wf0 z) a (h.frozen hm))⟩⟩
noncomputable def tyD:D->Option String
 | .non=>some "NoneType" | .bl _=>some "bool" | .int _=>some "int" | .str _=>some "str" | .tup _=>some "tuple" | .lst _ _=>some "list"
 | .dK true _ _=>some "dict"
 | _=>none
noncomputable def uC(t T:String):Bool:=t==T||(t=="bool"&&T=="int")
noncomputable def uO(T:String)(p:PF):PF:=λρ=>match p ρ with
 | none=>none
 | some d=>match tyD d with
  | none=>none
  | some t=>some (.bl (uC t T))
theorem jhl(K:PySem.W.Frag){t T:String}(a:t∈["NoneType","bool","int","str","tuple","list","dict"])(b:T∈["bool","int","str","tuple","list","dict"]):PySem.W.kitOne K (.type t) (.type T)=some (uC t T):=by
 simp only[M5,List.not_mem_nil,or_false] at a b;rcases a with rfl | rfl | rfl | rfl | rfl | rfl | rfl<;>rcases b with rfl | rfl | rfl | rfl | rfl | rfl<;>rfl
theorem Rep.ty{x:D}{v:V}{O:List Addr}{t:String}(r:Rep R Z H x v O)(e:tyD x=some t):TyQ R.K H v t/\t∈["NoneType","bool","int","str","tuple","list","dict"]:=by
 cases x with
 | non=>cases e;obtain⟨rfl,_⟩:=r.non_of;exact⟨.non,by simp⟩
 | bl b=>cases e;obtain⟨rfl,_⟩:=r.bl_of;exact⟨.bl _,by simp⟩
 | int i=>cases e;obtain⟨rfl,_⟩:=r.int_of;exact⟨.int _,by simp⟩
 | str s=>cases e;obtain⟨rfl,_⟩:=r.str_of;exact⟨.str _,by simp⟩
 | tup l=>cases e;obtain⟨p,d,rfl,c,f⟩:=r.tup_of;exact⟨.tup c,by simp⟩
 | lst o l=>cases e;obtain⟨p,d,g,rfl,c,f⟩:=r.lst_of;exact⟨.lst c.sq,by simp⟩
 | dK o ks l=>cases o with
  | false=>cases e
  | true=>cases e;rw[Rep] at r;obtain⟨a,h,g,rfl,_,_,hd,_⟩:=r;exact⟨.dK hd,by simp⟩
 | _=>cases e
theorem jlK{T:String}(a:T∈["bool","int","str","tuple","list","dict"]){te:TE}{p:PF}(h:PB R te p) :
  PP R (tCB (λxs H Q=>∃ x T t b,xs=[x,.ty T]/\TyQ R.K H x t/\PySem.W.kitOne R.K (.type t) (.type T)=some b/\Q (.bl b) H) (kq te (kq (tC (.ty T)) K3))) (uO T p):=by
 intro σ ρ Z H O d z s e Q k;unfold uO at e;cases e1:p ρ with
 | none=>rw[e1] at e;cases e
 | some x =>
  rw[e1] at e;dsimp only at e;cases e2:tyD x with
  | none=>rw[e2] at e;cases e
  | some t =>
   rw[e2] at e;cases e;refine h z s e1 λ{v j l m} c f=>?_;obtain⟨g,i⟩:=f.ty e2;exact⟨v,T,t,uC t T,rfl,g,jhl _ i a,k c .bl_mk⟩
end
noncomputable def qo:Nat->List D->List D
 | _,[]=>[]
 | k,x::l=>.tup [.int k,x]::qo (k+1) l
theorem ul:∀(k:Nat) (l:List D),(qo k l).length=l.length
 | _,[]=>rfl
 | k,x::l=>by rw[qo,M3,M3,ul]
theorem uM:∀(k:Nat) (l:List D) (i:Nat) (y:D),(qo k l)[i]?=some y->∃ x,l[i]?=some x/\y=.tup [.int ((k+i:Nat):Int),x]
 | _,[],_,_,e=>by simp[qo] at e
 | k,x::l,0,y,e=>by simp[qo] at e;exact⟨x,rfl,e.symm⟩
 | k,x::l,i+1,y,e=>by
  obtain⟨z,a,b⟩:=uM (k+1) l i y (by simpa [qo] using e);exact⟨z,by simpa using a,by rw[b];congr 3;lia⟩
noncomputable def Kx:List D->List D->List D
 | x::l,y::m=>.tup [x,y]::Kx l m
 | _,_=>[]
theorem jbD:∀(l m:List D),(Kx l m).length=min l.length m.length
 | [],_=>by simp[Kx]
 | _::_,[]=>by simp[Kx]
 | x::l,y::m=>by rw[Kx,M3,jbD];simp
theorem jbl:∀(l m:List D) (i:Nat) (y:D),(Kx l m)[i]?=some y->∃ a b,l[i]?=some a/\m[i]?=some b/\y=.tup [a,b]
 | [],_,_,_,e=>by simp[Kx] at e
 | _::_,[],_,_,e=>by simp[Kx] at e
 | x::l,z::m,0,y,e=>by simp[Kx] at e;exact⟨x,z,rfl,rfl,e.symm⟩
 | x::l,z::m,i+1,y,e=>by
  obtain⟨a,b,c,d,f⟩:=jbl l m i y (by simpa [Kx] using e);exact⟨a,b,by simpa using c,by simpa using d,f⟩
noncomputable def wA(p:PAf):PAf:=λρ=>match p ρ with
 | some [.lst _ l]=>some (qo 0 (fzs l))
 | _=>none
theorem jbd(z:Zd Z H)(hp:H p=none)(b:Rep R Z H x u [])(c:Rep R Z H y v []):Rep R (λa=>Z a \/ a=p) (upd H p (.tup [u,v])) (.tup [x,y]) (.ref p) [] :=
 Rep.tupNew (wf0 z) hp (.cons b (.cons c .empty))
theorem jfg(h:PPs R ta p):PIt R (jiu R.K ta) (wA p):=by
 intro σ ρ Z H O xs z s e Q k;unfold wA at e;split at e
 ·rename_i o l C;cases e;refine h z s C λ{U D V E} F G=>?_;obtain⟨v,rfl,I⟩:=G.one_of;have g:=I.freeze (Z':=λa=>D a \/ a∈E) (λa z=>.inl z) λa z=>.inr z;rw[fz,Rep] at g;obtain⟨a,b,W,rfl,J,j,rfl,_⟩:=g;refine⟨a,b,rfl,FL.sq j,k F.fz ?_⟩;intro L M m n zd i;have c:=(j.frame m n).sq;have r:Reps R L M (fzs l) b []:=J.frame m n λa N=>(nomatch N);refine⟨λt=>⟨b,c,by rw[r.length];rw[ul] at t;exact t⟩,λx P=>?_⟩;obtain⟨y,S,rfl⟩:=uM 0 _ i x P;obtain⟨u,A,T⟩:=r.item S;refine⟨⟨b,u,c,A⟩,λw X d=>?_⟩;obtain⟨q,Y,f,rfl,B,rfl⟩:=d;have:=f b c;rw[A] at this;cases this;refine⟨_,Go.newF (wf0 zd) B,?_⟩;have:=jbd (R:=R) (x:=.int i) (u:=.int i) zd B .int_mk T;simpa using this
 ·cases e
theorem jk7(h:ixN n i=some j):j < n:=(jaw h).2.1
theorem Slots.setItem(w:WF Z H (P++O))(s:Slots R Z H ρ σ O)(q:ρ[i]?=some (some (.lst true l)))(E:j < l.length)(F:Rep R Z H d u P) :
  ∃ a vs,σ[i]?=some (some (.ref a))/\H a=some (.lst vs)/\vs.length=l.length/\(∃ O',Go Z H (P++O) Z (upd H a (.lst (vs.set j u))) O'/\Slots R Z (upd H a (.lst (vs.set j u))) (ρ.set i (some (.lst true (l.set j d)))) σ O'):=by
 obtain⟨A,Q,B,rfl,G,I,_⟩:=s.put (L9.mp q).1;obtain⟨v,ev,r⟩:=G _ q;rw[Rep] at r;obtain⟨a,vs,O',rfl,t,J,rfl⟩:=r;refine⟨a,vs,ev,J,t.length,?_⟩;obtain⟨x,K⟩:∃ x,l[j]?=some x:=⟨l[j],by simp[E]⟩;obtain⟨M,g,o,h,N,rfl,S,put⟩:=t.at K;have m:Go Z H (P++(A++(a::(g++o++h))++B)) Z (upd H a (.lst (vs.set j u))) (P++(A++(a::(g++o++h))++B)):=Go.put w (by simp);have nd:=w.nd;have n:∀ b,b∈P \/ b∈A \/ b∈g \/ b∈o \/ b∈h \/ b∈B->b≠a:=by
  intro b f e;subst e;simp only[X0,List.nodup_cons,N3,M5] at nd
  grind
 have k:∀ b,Z b->upd H a (.lst (vs.set j u)) b=H b:=λb f=>jo λz=>w.nz a (by simp) (z▸f);have p:=put (Z':=Z) (H':=upd H a (.lst (vs.set j u))) (F.frame (λ_ z=>z) k λb f=>jo (n b (.inl f))) (λ_ z=>z) k (λb f=>jo (n b (.inr (.inr (.inl f))))) (λb f=>jo (n b (.inr (.inr (.inr (.inr (.inl f)))))));have L:Rep R Z (upd H a (.lst (vs.set j u))) (.lst true (l.set j d)) (.ref a) (a::(g++P++h)):=by
  rw[Rep];exact⟨a,vs.set j u,_,rfl,p,jU,rfl⟩
 have y:=I L (λ_ z=>z) k (λb f=>jo (n b (.inr (.inl f)))) (λb f=>jo (n b (.inr (.inr (.inr (.inr (.inr f)))))));rw[vF ev] at y;have C:(P++(A++(a::(g++[]++h))++B)).Perm (A++(a::(g++P++h))++B):=List.perm_iff_count.mpr λc=>by
  simp[U9,List.count_cons];lia
 have D:(P++(A++(a::(g++[]++h))++B)).Sublist (P++(A++(a::(g++o++h))++B)) :=
  (List.Sublist.refl _).append (((List.Sublist.refl _).append (List.Sublist.cons_cons a (((List.Sublist.refl _).append (List.nil_sublist _)).append (List.Sublist.refl _)))).append (List.Sublist.refl _))
 exact⟨_,m.drop (λb f=>D.subset (C.symm.subset f)) (C.nodup_iff.mp (nd.sublist D)),y⟩
noncomputable def gIx(pm:List Nat)(i:Nat)(pi:PF):D->Rh->Option Rh:=λd ρ=>match pi ρ with
 | some (.int k)=>(match ρ[i]? with
  | some (some (.lst true l))=>(match ixN l.length k with
   | some j=>some (ρ.set i (some (.lst true (l.set j d))))
   | none=>none)
  | _=>none)
 | _=>none
theorem jmU(h:PB R te pi):DG R pm (jnA (Yj i) te jh1) (gIx pm i pi):=by
 intro σ ρ G Z H O P d v w r s e Q k;unfold gIx at e;split at e
 ·rename_i n p;split at e
  ·rename_i l c;cases e2:ixN l.length n with
   | none=>rw[e2] at e;cases e
   | some j =>
    rw[e2] at e;cases e;obtain⟨A,m,B,rfl,q,_,_⟩:=s.put (L9.mp c).1;obtain⟨t,ev,I⟩:=q _ c;refine⟨t,ev,?_⟩;refine h w.zd s p λ{u x y J} f z=>?_;obtain⟨rfl,_⟩:=z.int_of;have b:Go Z H (P++(A++m++B)) x y (P++(A++m++B)):=by simpa using f.widen w
    obtain⟨a,C,o,D,g,K,E,F⟩:=Slots.setItem b.wf (f.slots w.zd s) c (jk7 e2) (f.rep w.zd r);rw[ev] at o;cases o;exact⟨a,C,n,j,rfl,rfl,D,by rw[g];exact e2,k (b.trans E) F (Keep.refl _ _)⟩
  ·cases e
 ·cases e
end QD
namespace QD
open PySem L2 PySem.Spec PyProof.Rows
section
variable (c:Nat->Addr)(pm:List Nat)(X:Cx)
structure QP(e:Expr)(te:TE)(p:PF):Prop where
 sem:PE X e te
 den:PP ⟨X.K,c⟩ te p
structure QB(e:Expr)(te:TE)(p:PF):Prop where
 sem:PE X e te
 den:PB ⟨X.K,c⟩ te p
structure QPs(es:List Expr)(ta:TA)(p:PAf):Prop where
 sem:PA X es ta
 den:PPs ⟨X.K,c⟩ ta p
structure QBs(es:List Expr)(ta:TA)(p:PAf):Prop where
 sem:PA X es ta
 den:PBs ⟨X.K,c⟩ ta p
 n:∀ ρ ds,p ρ=some ds->ds.length=es.length
structure QT(e:Expr)(tt:TT)(q:PTf):Prop where
 sem:PT X e tt
 den:PTt ⟨X.K,c⟩ tt q
structure QW(e:Expr)(tt:TT)(q:PTf):Prop where
 sem:PW X e tt
 den:PTt ⟨X.K,c⟩ tt q
structure QI(tg e:Expr)(wi:TI)(p:PAf):Prop where
 sem:PI X tg e wi
 den:PIt ⟨X.K,c⟩ wi p
structure QG(tg:Expr)(t:TG)(g:D->Rh->Option Rh):Prop where
 sem:PG X tg t
 den:PGt ⟨X.K,c⟩ pm t g
structure QGs(tg:List Expr)(t:TGs)(g:List D->Rh->Option Rh):Prop where
 sem:PGs X tg t
 den:jlT ⟨X.K,c⟩ pm t g
structure QE(e:Expr)(te:TE)(f:FE):Prop where
 sem:PE X e te
 den:DE ⟨X.K,c⟩ te f
structure QS(st:Stmt)(ts:TS)(f:FS):Prop where
 sem:PS X st ts
 den:DS ⟨X.K,c⟩ pm ts f
structure QSs(st:List Stmt)(ts:TS)(f:FS):Prop where
 sem:PSs X st ts
 den:DS ⟨X.K,c⟩ pm ts f
structure QO(e:Option Expr)(t:TO)(p:OF):Prop where
 sem:PO X e t
 den:PO' ⟨X.K,c⟩ t p
structure QIf(ifs:List Expr)(tc:TT)(q:PTf):Prop where
 sem:PIf X ifs tc
 den:PTt ⟨X.K,c⟩ tc q
end
theorem QP.bb(h:QP cl X e te pe):QB cl X e te pe:=⟨h.sem,PP.b h.den⟩
theorem QB.f(h:QB cl X e te pe):QP cl X e te (pF pe):=⟨h.sem,PB.f h.den⟩
theorem QP.d(h:QP cl X e te pe):QE cl X e te (dP pe):=⟨h.sem,PP.d h.den⟩
theorem ja(i:Nat)  (b:X.N[i]?=some x:=by rfl) (c:Vis X.env.scope x:=by first | exact Or.inl rfl | exact Or.inr (Or.inl rfl) | exact Or.inr (Or.inr rfl)) (hd:(x==("__debug__" : Str))=false:=by decide)
  (a:(x==("__classdict__" : Str))=false:=by decide):QB cl X (.Name x pos) (Yj i) (pV i):=⟨ui b c hd a,jjE⟩
theorem jkg(i:Nat)  (b:X.N[i]?=some x:=by rfl) (c:Vis X.env.scope x:=by first | exact Or.inl rfl | exact Or.inr (Or.inl rfl) | exact Or.inr (Or.inr rfl)) (hd:(x==("__debug__" : Str))=false:=by decide)
  (a:(x==("__classdict__" : Str))=false:=by decide):QE cl X (.Name x pos) (Yj i) (dMv i):=⟨ui b c hd a,jmx⟩
theorem Vx{j}:QP cl X (.Constant (.int i) j pos) (tC (.int i)) (pC (.int i)):=⟨jee,jhc λ_ _=>.int_mk⟩
theorem jcv{j}:QP cl X (.Constant (.bool i) j pos) (tC (.bl i)) (pC (.bl i)):=⟨jnr,jhc λ_ _=>.bl_mk⟩
theorem JG{j}:QP cl X (.Constant .none j pos) (tC .non) (pC .non):=⟨jlu,jhc λ_ _=>.non_mk⟩
theorem jmL{j}(l:List Nat)(h:x=S l):QP cl X (.Constant (.str x) j pos) (tC (.str x)) (pC (.str l)):=⟨jlY,by subst h;exact jhc λ_ _=>.str_mk⟩
theorem jlx(a:X.mg x=some (.int i t))(b:Gl X x:=by rfl)(hd:(x==("__debug__" : Str))=false:=by decide):QP cl X (.Name x pos) (tC (.int i)) (pC (.int i)):=⟨xZ b a ⟨t,rfl⟩ hd,jhc λ_ _=>.int_mk⟩
theorem jnK(l:List Nat)(a:X.mg x=some (.str y t))(h:y=S l)(b:Gl X x:=by rfl)(hd:(x==("__debug__" : Str))=false:=by decide):QP cl X (.Name x pos) (tC (.str y)) (pC (.str l)):=⟨xZ b a ⟨t,rfl⟩ hd,by subst h;exact jhc λ_ _=>.str_mk⟩
theorem jmc(d:D)(a:X.mg x=some (.ref p))(b:∀(Z:Zn) (H:Hp),Rep ⟨X.K,cl⟩ Z H d (.ref p) [])(c:Gl X x:=by rfl)(hd:(x==("__debug__" : Str))=false:=by decide):QP cl X (.Name x pos) (tC (.ref p)) (pC d) :=
 ⟨xZ c a rfl hd,jhc b⟩
theorem v8(c:QB cl X a ta pa)(d:QB cl X b tb pb):QP cl X (.BinOp a .Add b pos) (tOp (jfa X.K) ta tb) (p2 yN pa pb):=⟨jbU jg9 c.sem d.sem,wt jl2 c.den d.den⟩
theorem jfy(c:QB cl X a ta pa)(d:QB cl X b tb pb):QP cl X (.BinOp a .Sub b pos) (tOp (rI0 λi j=>.int (i - j)) ta tb) (p2 zA pa pb):=⟨jbU jkn c.sem d.sem,wt jkp c.den d.den⟩
theorem xW(c:QB cl X a ta pa)(d:QB cl X b tb pb):QP cl X (.BinOp a .Mult b pos) (tOp jhB ta tb) (p2 YE pa pb):=⟨jbU jhd c.sem d.sem,wt jly c.den d.den⟩
theorem qw(c:QB cl X a ta pa)(d:QB cl X b tb pb):QP cl X (.BinOp a .FloorDiv b pos) (tOp (rI (λ_ j=>u5 j=true) λi j=>.int (i / j)) ta tb) (p2 v7 pa pb):=⟨jbU jeX c.sem d.sem,wt jlt c.den d.den⟩
theorem yR(c:QB cl X a ta pa)(d:QB cl X b tb pb):QP cl X (.BinOp a .Mod b pos) (tOp (rI (λ_ j=>0 < j) λi j=>.int (i % j)) ta tb) (p2 yG pa pb):=⟨jbU jjF c.sem d.sem,wt jli c.den d.den⟩
theorem jnm(c:QB cl X a ta pa)(d:QB cl X b tb pb):QP cl X (.BinOp a .Pow b pos) (tOp (rI jm5 λi j=>.int (i ^ j.toNat)) ta tb) (p2 jfv pa pb):=⟨jbU jlM c.sem d.sem,wt jkM c.den d.den⟩
theorem uG(b:QB cl X a ta pa):QP cl X (.UnaryOp .USub a pos) (tUn (rU λi=>.int (-i)) ta) (p1 kZ pa):=⟨jk4 jgw b.sem,jmK jlZ b.den⟩
theorem jmE(b:QB cl X a ta pa):QP cl X (.UnaryOp .Not a pos) (jik ta) (jjx pa):=⟨jkJ b.sem,jlr b.den⟩
structure CmpR(cl:Nat->Addr)(X:Cx)(op:CmpOp)(b:Expr)(r:R2)(g:D->D->Option D):Prop where
 o:OpR X (compareOp op) r
 g:BO ⟨X.K,cl⟩ r g
 m:behindInMarks op b=false
theorem jgX:CmpR cl X .Lt b (rI0 λi j=>.bl (decide (i < j))) jfV:=⟨jni,jma,KQ _⟩
theorem jgF:CmpR cl X .LtE b (rI0 λi j=>.bl (decide (i<=j))) jff:=⟨jmY,jma,KQ _⟩
theorem jke:CmpR cl X .Gt b (rI0 λi j=>.bl (decide (j < i))) jjy:=⟨jnj,jma,KQ _⟩
theorem jmM:CmpR cl X .GtE b (rI0 λi j=>.bl (decide (j<=i))) jmg:=⟨jmS,jma,KQ _⟩
theorem jg1:CmpR cl X .Is b (λx y H Q=>y=.non/\Q (.bl (decide (x=.non))) H) YV:=⟨jkx,jmN,KQ _⟩
theorem uZ:CmpR cl X .IsNot b (λx y H Q=>y=.non/\Q (.bl (!decide (x=.non))) H) kj:=⟨jjp,jgn,KQ _⟩
theorem c_in(a:behindInMarks .In b=false):CmpR cl X .In b (jjA X.K false) (zG false):=⟨jkV,jl0,a⟩
theorem jcX(a:behindInMarks .NotIn b=false):CmpR cl X .NotIn b (jjA X.K true) (zG true):=⟨jdz,jl0,a⟩
theorem kU(h:CmpR cl X op b r g)(c:QB cl X a ta pa)(d:QB cl X b tb pb):QP cl X (.Compare a [op] [b] pos) (tOp r ta tb) (p2 g pa pb):=⟨jib h.o c.sem d.sem h.m,wt h.g c.den d.den⟩
theorem jr(h:CmpR cl X op b r g)(c:QB cl X a ta pa)(d:QB cl X b tb pb):QT cl X (.Compare a [op] [b] pos) (jer (tOp r ta tb)) (jj (p2 g pa pb)):=⟨jhm h.o c.sem d.sem h.m,jaZ (PP.b (wt h.g c.den d.den))⟩
theorem xY(h:CmpR cl X op b r g)(h':CmpR cl X op' c r' g')(d:QB cl X a ta pa)(e:QB cl X b tb pb)(f:QB cl X c tc pc)(i:lastMarks [op,op'] [b,c]=false:=by with_unfolding_all rfl) :
  QT cl X (.Compare a [op,op'] [b,c] pos) (jer (jd0 r r' ta tb tc)) (jj (KK g g' pa pb pc)):=⟨je7 h.o h'.o d.sem e.sem f.sem i,jaZ (PP.b (jf6 h.g h'.g d.den e.den f.den))⟩
theorem yP(b:QB cl X a ta pa)(c:∀ whole,isTrue a X.env whole=(do let v <- whole;standAt a.pos;holding [v] (truthy v)):=by intro _;rfl):QT cl X a (L2.tB ta) (jj pa):=⟨jkb b.sem c,jaZ b.den⟩
theorem J3(b:QT cl X a tA qa):QT cl X (.UnaryOp .Not a pos) (jmD tA) (wo qa):=⟨jlN b.sem,jiG b.den⟩
theorem vB(b:QT cl X a tA qa):QW cl X (.BoolOp .And [a] pos) tA qa:=⟨jiB b.sem,b.den⟩
theorem Qx(b:QT cl X a tA qa):QW cl X (.BoolOp .Or [a] pos) tA qa:=⟨jjP b.sem,b.den⟩
theorem kP{cl:Nat->Addr}{X:Cx}{a b:Expr}{es:List Expr}{tA tB:TT}{c d:PTf}{pos:Pos}(e:QT cl X a tA c)(f:QW cl X (.BoolOp .And (b::es) pos) tB d):QW cl X (.BoolOp .And (a::b::es) pos) (jnD tA tB) (VX c d):=⟨jj9 e.sem f.sem,jll e.den f.den⟩
theorem wF{cl:Nat->Addr}{X:Cx}{a b:Expr}{es:List Expr}{tA tB:TT}{c d:PTf}{pos:Pos}(e:QT cl X a tA c)(f:QW cl X (.BoolOp .Or (b::es) pos) tB d):QW cl X (.BoolOp .Or (a::b::es) pos) (tOr tA tB) (qOr c d):=⟨jnC e.sem f.sem,jno e.den f.den⟩
theorem QW.t(h:QW cl X a tA qa):QT cl X a tA qa:=⟨PW.pt h.sem,h.den⟩
theorem Qt{op}(h:QP cl X a ta pa):QP cl X (.BoolOp op [a] pos) ta pa:=⟨jlP h.sem,h.den⟩
theorem zh(c:QB cl X a ta pa)(d:QP cl X (.BoolOp .And (b::es) pos) tb pb):QP cl X (.BoolOp .And (a::b::es) pos) (jh2 ta tb) (zD pa pb):=⟨jlq c.sem d.sem,jkl c.den d.den⟩
theorem job(c:QB cl X a ta pa)(d:QP cl X (.BoolOp .Or (b::es) pos) tb pb):QP cl X (.BoolOp .Or (a::b::es) pos) (jmw ta tb) (pOr pa pb):=⟨jmQ c.sem d.sem,jnf c.den d.den⟩
theorem jmd(d:QT cl X c tA qa)(e:QP cl X a ta pa)(f:QP cl X b tb pb):QP cl X (.IfExp c a b pos) (tIf tA ta tb) (pIf qa pa pb):=⟨jfJ d.sem e.sem f.sem,jnd d.den e.den f.den⟩
theorem js:QPs cl X [] K3 pN:=⟨YO,pps_nil⟩
theorem je(a:QP cl X e te pe)(b:QPs cl X es tr pr)(c:starEach (e::es) X.env=(false,eval e X.env)::starEach es X.env:=by rfl):QPs cl X (e::es) (kq te tr) (jb pe pr):=⟨vJ a.sem b.sem c,jfq a.den b.den⟩
theorem jk:QBs cl X [] K3 pN:=⟨YO,jdY,λρ a e=>by cases e;rfl⟩
theorem jd(b:QB cl X e te pe)(a:QBs cl X es tr pr)(c:starEach (e::es) X.env=(false,eval e X.env)::starEach es X.env:=by rfl):QBs cl X (e::es) (kq te tr) (jb pe pr) :=
 ⟨vJ b.sem a.sem c,jfK b.den a.den,λρ d h=>by
  unfold jb at h;cases e1:pe ρ with
  | none=>rw[e1] at h;cases h
  | some x =>
   rw[e1] at h;dsimp only at h;cases e2:pr ρ with
   | none=>rw[e2] at h;cases h
   | some xs =>
    rw[e2] at h;cases h;rw[M3,M3,a.n ρ xs e2]⟩
theorem wO{x1}(h:QPs cl X es tr pr):QP cl X (.Tuple es x1 pos) (jlg tr) (jbX pr):=⟨jgs h.sem,jjL h.den⟩
theorem yt(h:QPs cl X es tr pr):QP cl X (.List es pos) (jmV tr) (va pr):=⟨jk9 h.sem,jlV h.den⟩
theorem yM(c:QB cl X a ta pa)(d:QB cl X b tb pb)(e:Q9 b:=by exact λ_ _=>rfl):QB cl X (.Subscript a b pos) (tOp (rIx X.K) ta tb) (p2 jF pa pb):=⟨jiL jdL c.sem d.sem e,jmq jmX c.den d.den⟩
theorem jdR:QO cl X none jaf oN:=⟨jhn,jnW⟩
theorem xK(h:QB cl X e te pe):QO cl X (some e) (jjh te) (oS pe):=⟨jh6 h.sem,joe h.den⟩
theorem jnx{cl:Nat->Addr}{X:Cx}{lo hi:Option Expr}(b:QB cl X a ta pa)(c:QO cl X lo tl pl)(d:QO cl X hi th ph):QP cl X (.Subscript a (.Slice lo hi none p2') pos) (tSl (jmG X.K) ta tl th) (pSl pa pl ph) :=
 ⟨jfB joj b.sem c.sem d.sem,jmt b.den c.den d.den⟩
theorem yd{cl:Nat->Addr}{X:Cx}{e:Expr}{es:List Expr}{tr:TA}{pr:PAf}{pos:Pos}{k n:Nat}{f:Addr}{fd:FuncData}{ps:List Str}{m:List D->Option D}{x qual:Str}{st:Stmt}{p:Pos}(F:FnFact X.K X.mg x qual st f fd ps)(G:FnOk X.prog X.w X.K X.mg X.base CX0 k f fd ps (spP ⟨X.K,cl⟩ m n))(d:Room k X.A)
  (a:QBs cl X (e::es) tr pr) (g:(e::es).length=n:=by rfl) (i:Gl X x:=by rfl) (b:(x==("__debug__" : Str))=false:=by decide)
  (j:starEach (e::es) X.env=(false,eval e X.env)::starEach es X.env:=by rfl) (c:(backTo pos (starEach es X.env)).any (·.1)=false:=by rfl):QP cl X (.Call (.Name x p) (e::es) [] pos) (zP (spP ⟨X.K,cl⟩ m n) [] E0 tr) (j7 m pr) :=
 ⟨jng F G d a.sem i b j c,jiE a.den λρ l h=>(a.n ρ l h).trans g⟩
theorem QA{cl:Nat->Addr}{X:Cx}{e:Expr}{es:List Expr}{tr:TA}{pr:PAf}{pos:Pos}{x:Str}{p:Pos}{id:String}{r:List V->Hp->VK->Prop}{g:List D->Option D}(d:CallR X (.builtin id) r)(f:BC ⟨X.K,cl⟩ r g)(h:X.mg x=none)(i:bootBuiltins x=some (.builtin id))(c:QBs cl X (e::es) tr pr)(j:Gl X x:=by rfl)
  (k:x≠"__name__":=by decide) (a:(x==("__debug__" : Str))=false:=by decide) (l:starEach (e::es) X.env=(false,eval e X.env)::starEach es X.env:=by rfl) (b:(backTo pos (starEach es X.env)).any (·.1)=false:=by rfl) :
  QP cl X (.Call (.Name x p) (e::es) [] pos) (tCB r tr) (pCB g pr):=⟨K6 d j h i c.sem k a l b,jjK f c.den⟩
theorem xL(d:CallR X (.type T) r)(f:BC ⟨X.K,cl⟩ r g)(h:X.mg x=none)(i:bootBuiltins x=some (.type T))(c:QBs cl X (e::es) tr pr)(j:Gl X x:=by rfl)
  (k:x≠"__name__":=by decide) (a:(x==("__debug__" : Str))=false:=by decide) (l:starEach (e::es) X.env=(false,eval e X.env)::starEach es X.env:=by rfl) (b:(backTo pos (starEach es X.env)).any (·.1)=false:=by rfl) :
  QP cl X (.Call (.Name x p) (e::es) [] pos) (tCB r tr) (pCB g pr):=⟨jdq d j h i c.sem k a l b,jjK f c.den⟩
theorem km(b:X.mg "len" = none)  (c:QBs cl X [e] tr pr) (d:Gl X "len":=by rfl) (f:starEach [e] X.env=(false,eval e X.env)::starEach [] X.env:=by rfl) (a:(backTo pos (starEach [] X.env)).any (·.1)=false:=by rfl) :
  QP cl X (.Call (.Name "len" p) [e] [] pos) (tCB (λxs H Q=>∃ x n,xs=[x]/\jmr X.K x H n/\Q (.int n) H) tr) (pCB Jq pr):=QA jfi jlF b PySem.boot_len c d (by decide) (by decide) f a
theorem jcR:bootBuiltins "all" = some (.builtin "all"):=by decide +kernel
theorem wR:bootBuiltins "max" = some (.builtin "max"):=by decide +kernel
theorem jc2:bootBuiltins "min" = some (.builtin "min"):=by decide +kernel
theorem K0:bootBuiltins "isinstance" = some (.builtin "isinstance"):=by decide +kernel
theorem QM:bootBuiltins "int" = some (.type "int"):=by decide +kernel
theorem Q5:bootBuiltins "str" = some (.type "str"):=by decide +kernel
theorem zY:bootBuiltins "list" = some (.type "list"):=by decide +kernel
theorem JI:bootBuiltins "tuple" = some (.type "tuple"):=by decide +kernel
theorem Kl:bootBuiltins "bool" = some (.type "bool"):=by decide +kernel
theorem zu{cl:Nat->Addr}{X:Cx}{a:Expr}{ta:TE}{pa:PF}{pos:Pos}{T:String}{x:Str}{p p1:Pos}(j:T∈["bool","int","str","tuple","list","dict"])(k:X.mg "isinstance" = none)(c:X.mg x=none)(d:bootBuiltins x=some (.type T))(h:QB cl X a ta pa)(l:Gl X "isinstance":=by rfl)(e:Gl X x:=by rfl)
  (m:x≠"__name__":=by decide) (f:(x==("__debug__" : Str))=false:=by decide) (i:starEach [a,.Name x p1] X.env=(false,eval a X.env)::starEach [.Name x p1] X.env:=by rfl) (g:(backTo pos (starEach [.Name x p1] X.env)).any (·.1)=false:=by rfl)
  (h1:starEach [.Name x p1] X.env=(false,eval (.Name x p1) X.env)::starEach [] X.env:=by rfl) :
  QP cl X (.Call (.Name "isinstance" p) [a,.Name x p1] [] pos) (tCB (λxs H Q=>∃ x T t b,xs=[x,.ty T]/\TyQ X.K H x t/\PySem.W.kitOne X.K (.type t) (.type T)=some b/\Q (.bl b) H) (kq ta (kq (tC (.ty T)) K3))) (uO T pa) :=
 ⟨K6 wL l k K0 (vJ h.sem (vJ (jdK e c d rfl m f) YO h1) i) (by decide) (by decide) i g,jlK j h.den⟩
theorem Vk(b:X.mg "range" = none)(h:QBs cl X [a] tr pr)(c:Gl X "range":=by rfl)(d:starEach [a] X.env=[(false,eval a X.env)]:=by rfl):QI cl X tg (.Call (.Name "range" p) [a] [] pos) (jiT tr) (K1 pr):=⟨jez c b h.sem d,jje h.den⟩
theorem jdQ(b:X.mg "enumerate" = none)(h:QPs cl X [a] tr pr)(c:Gl X "enumerate":=by rfl)(d:starEach [a] X.env=[(false,eval a X.env)]:=by rfl):QI cl X (.Tuple elts n tpos) (.Call (.Name "enumerate" p) [a] [] pos) (jiu X.K tr) (wA pr):=⟨jid c b h.sem d,jfg h.den⟩
theorem y3(a:X.N.Nodup)(hi:X.N[i]?=some x:=by rfl)(b:Loc X.env.scope x:=by first | exact Or.inl rfl | exact Or.inr rfl)(c:X.fn x=true \/ X.env.scope.names.lookup x=some .local:=by first | exact .inl rfl | exact .inr rfl) :
  QG cl pm X (.Name x pos) (zK i) (jS pm i):=⟨jhf a hi b c,jfh⟩
theorem KG:QGs cl pm X [] jm2 gN:=⟨jhS,jfQ⟩
theorem vH(h1:QG cl pm X e t g)(h2:QGs cl pm X es ts gs)(a:(assignEach (e::es) X.env).map (·.2)=assign e X.env::(assignEach es X.env).map (·.2):=by rfl):QGs cl pm X (e::es) (jjq t ts) (gC g gs):=⟨jfr h1.sem h2.sem a,jef h1.den h2.den⟩
theorem xw(b:X.calm=true)(h:QGs cl pm X es ts gs)(c:(assignEach es X.env).length=n:=by rfl)(a:(assignEach es X.env).findIdx? (·.1)=none:=by rfl):QG cl pm X (.Tuple es k pos) (jm1 X.K n ts) (gT n gs):=⟨jkY b h.sem c a,jhg h.den⟩
theorem wm:QIf cl X [] (λ_ H Q=>Q true H) qT:=⟨.inl ⟨rfl,rfl⟩,jhi⟩
theorem jf5(h:QT cl X c tA qa):QIf cl X [c] tA qa:=⟨.inr ⟨c,rfl,h.sem⟩,h.den⟩
theorem ji:QSs cl pm X [] ji5 jA:=⟨jiS,jhu⟩
theorem jf{cl:Nat->Addr}{pm:List Nat}{X:Cx}{st:Stmt}{ts:TS}{f:FS}(h:QS cl pm X st ts f):QSs cl pm X [st] ts f:=⟨Qf h.sem,h.den⟩
theorem jc{cl:Nat->Addr}{pm:List Nat}{X:Cx}{st:Stmt}{rest:List Stmt}{ts tu:TS}{f fe:FS}(h:QS cl pm X st ts f)(k:QSs cl pm X rest tu fe):QSs cl pm X (st::rest) (jjC ts tu) (jL f fe):=⟨xC h.sem k.sem,jg8 h.den k.den⟩
theorem jai:QS cl pm X (.Continue pos) jiZ jf3:=⟨jax,jju⟩
theorem u3(h:QE cl X e te fE)(a:swapsWith e none pos.line X.env=pure false:=by rfl):QS cl pm X (.Expr e pos) (zF te) (zv fE):=⟨zm h.sem a,jd7 h.den⟩
theorem jq(h:QE cl X e te fE):QS cl pm X (.Return (some e) pos) (jhs te) (yK fE):=⟨jc5 h.sem,jkj h.den⟩
theorem jR(a:QT cl X c tA qa)(b:QSs cl pm X x ts f)(e:QSs cl pm X y tu fe):QS cl pm X (.If c x y pos) (jln tA ts tu) (sIf (dPT qa) f fe):=⟨jj4 a.sem b.sem e.sem,jlm (PTt.d a.den) b.den e.den⟩
theorem qM{cl:Nat->Addr}{pm:List Nat}{X:Cx}{st:Stmt}:QS cl pm X st jdy yu:=⟨jf8,jfF⟩
theorem jJ(a:X.N.Nodup)(h:QE cl X e te fE)(hi:X.N[i]?=some x:=by rfl)(b:Loc X.env.scope x:=by first | exact Or.inl rfl | exact Or.inr rfl)(c:swapsWith e (some (.Name x pos')) pos.line X.env=pure false:=by rfl)
  (d:X.fn x=true \/ X.env.scope.names.lookup x=some .local:=by first | exact .inl rfl | exact .inr rfl):QS cl pm X (.Assign [.Name x pos'] e pos) (jgI te (zK i)) (y9 fE (jS pm i)):=⟨jdg a hi b h.sem c d,jby h.den jaJ⟩
theorem jbg(a:QB cl X (.Name x xpos) (Yj i) (pV i))(hi:QB cl X b tb pb)(h:QE cl X e te fE)
  (c:∀ v,assign (.Subscript (.Name x xpos) b ipos) X.env v=(do
   let ov <- holding [v] (eval (.Name x xpos) X.env)
   let iv <- holding [v,ov] (eval b X.env)
   standAt ipos
   holding [v,ov,iv] (setItem ov iv v)
   release [v,ov,iv] []):=by intro _;rfl)
  (d:swapsWithSole [.Subscript (.Name x xpos) b ipos] e pos.line X.env=pure false:=by rfl) (f:swappedStores [.Subscript (.Name x xpos) b ipos] e X.env=pure none:=by rfl)
  (h1:(assignEach [.Subscript (.Name x xpos) b ipos] X.env).map (·.2)=[assign (.Subscript (.Name x xpos) b ipos) X.env]:=by rfl) :
  QS cl pm X (.Assign [.Subscript (.Name x xpos) b ipos] e pos) (jgI te (jnA (Yj i) tb jh1)) (y9 fE (gIx pm i pb)):=⟨jko h.sem (jjO a.sem hi.sem jfL c) d f h1,jby h.den (jmU hi.den)⟩
theorem Vp(j:QB cl X (.Name x xpos) (Yj i) (pV i))(h:QP cl X e te pe)(b:attributeBase (.Name x xpos) "append" X.env (eval (.Name x xpos) X.env)=eval (.Name x xpos) X.env:=by rfl)
  (d:((backTo cpos (starEach [e] X.env)).all (λx=>!x.1)&&(backToKw cpos (keywordEach [] X.env)).all (λx=>x.1.isSome)
   && decide ([e].length+([]:List Keyword).length+(if([]:List Keyword).isEmpty then 0 else 1) < 30))=true:=by rfl)
  (c:(apos.endLine==cpos.line)=true:=by rfl) (g:starEach [e] X.env=(false,eval e X.env)::starEach [] X.env:=by rfl) (a:(backTo cpos (starEach [] X.env)).any (·.1)=false:=by rfl)
  (f:swapsWith (.Call (.Attribute (.Name x xpos) "append" apos) [e] [] cpos) none pos.line X.env=pure false:=by rfl) :
  QS cl pm X (.Expr (.Call (.Attribute (.Name x xpos) "append" apos) [e] [] cpos) pos) (zF (tBM X.K "list" Qy (Yj i) (kq te K3))) (jbt i pe) :=
 ⟨zm (jeA PySem.F.plainAttrs_list PySem.F.slot_list_append PySem.F.type_list_append Vz j.sem (vJ h.sem YO g) b d c g a) f,jj8 h.den⟩
theorem QN(hp:PassesOwn (model X.prog X.w) X.A X.env X.xe)(c:X.calm=true)(hi:QI cl X tg iter wi pi)(a:QG cl pm X tg t g)(b:QSs cl pm X body ts f)(d:∀ x,foldedSetIterable iter X.env x=pure x:=by intro _;rfl):QS cl pm X (.For tg iter body [] pos) (jkm wi t ts) (wn pi g f) :=
 ⟨jg6 hp c hi.sem a.sem b.sem d,jgZ hi.den a.den b.den⟩
theorem QS.fz{cl:Nat->Addr}{pm:List Nat}{X:Cx}{st:Stmt}{ts:TS}{f:FS}(i:Nat)(h:QS cl pm X st ts f):QS cl pm X st ts (sFz i f):=⟨h.sem,jkD h.den⟩
theorem vY{cl:Nat->Addr}{P:Program}{w:World}{K:PySem.W.Frag}{mg:Str->Option Value}{base:Heap}{x qual:Str}{fst:Stmt}{fa:Addr}{fd:FuncData}{N ps:List Str}{k n:Nat}{fs:FS}(F:Fun K x qual fst fa fd)(b:FnScope N ps (jh fst))(c:ps.length=n)
  (a:∀(cdv:Value) (A:Around) (outer:List Env) (s:Shared) (H:Hp) (E:XK),Room k (A.deeper (envOfC qual (jh fst) s.heap.objs.size fa cdv)) ->
   ∃ ts,QSs cl [] (uP CX0 P w K mg base N qual (jh fst) fa cdv A outer s H E).nox (vC fst) ts fs):FnOk P w K mg base CX0 (k+1) fa fd ps (spP ⟨K,cl⟩ (fnP N.length fs) n):=by
 refine F.ok b (λd H Q E h=>by rw[jjo h,c]) λcdv A outer s H d Q E e h=>?_;obtain⟨ts,q⟩:=a cdv A outer s H E e;exact⟨ts,q.sem,jho q.den h⟩
mutual
noncomputable def jcL:D->PyData
 | .non=>.none | .bl b=>.bool b | .int i=>.int i | .str s=>.str (S s)
 | .tup l=>.tuple (J0 l)
 | .lst _ l=>.list (J0 l)
 | .dK _ _ _=>.none | .dT _ _ _=>.none | .ins _ _ _ _=>.none | .dead=>.none | .exc _ _=>.none
noncomputable def J0:List D->List PyData
 | []=>[]
 | d::l=>jcL d::J0 l
end
mutual
noncomputable def okE:Nat->D->Bool
 | _,.non=>true | _,.bl _=>true | _,.int _=>true
 | _,.str s=>s.all λc=>decide (c < 1114112)
 | n+1,.tup l=>vP n l
 | n+1,.lst _ l=>vP n l
 | _,_=>false
noncomputable def vP:Nat->List D->Bool
 | _,[]=>true
 | n,d::l=>okE n d&&vP n l
end
mutual
noncomputable def eqD:D->D->Bool
 | .non,.non=>true
 | .bl a,.bl b=>a==b
 | .bl a,.int j=>(if a then 1 else 0)==j
 | .int i,.bl b=>i==(if b then 1 else 0)
 | .int i,.int j=>i==j
 | .str a,.str b=>a==b
 | .tup l,.tup m=>uq l m
 | .lst _ l,.lst _ m=>uq l m
 | _,_=>false
noncomputable def uq:List D->List D->Bool
 | [],[]=>true
 | x::l,y::m=>eqD x y&&uq l m
 | _,_=>false
end
theorem xX:∀(n:Nat) (l:List D),vP n l=l.all (okE n)
 | _,[]=>rfl
 | n,d::l=>by rw[vP,xX n l];rfl
mutual
theorem jec:∀(n:Nat) (x y:D),okE n x=true->okE n y=true->PyData.eqv (jcL x) (jcL y)=eqD x y
 | n,.non,y,hx,hy=>by cases y<;>first | rfl | (cases n<;>simp_all [okE])
 | n,.bl a,y,hx,hy=>by cases y<;>first | rfl | (cases n<;>simp_all [okE])
 | n,.int a,y,hx,hy=>by cases y<;>first | rfl | (cases n<;>simp_all [okE])
 | n,.str a,y,hx,hy=>by
  cases y with
  | str b =>
   show(S a==S b)=(a==b);rw[Bool.eq_iff_iff];simp[jms]
  | _=>first | rfl | (cases n<;>simp_all [okE])
 | 0,.tup l,y,hx,hy=>by simp[okE] at hx
 | n+1,.tup l,y,hx,hy=>by
  cases y with
  | tup m=>show PyData.eqvAll (J0 l) (J0 m)=uq l m;exact jaj n l m (by simpa [okE] using hx) (by simpa [okE] using hy)
  | _=>first | rfl | (simp_all [okE])
 | 0,.lst o l,y,hx,hy=>by simp[okE] at hx
 | n+1,.lst o l,y,hx,hy=>by
  cases y with
  | lst o' m=>show PyData.eqvAll (J0 l) (J0 m)=uq l m;exact jaj n l m (by simpa [okE] using hx) (by simpa [okE] using hy)
  | _=>first | rfl | (simp_all [okE])
 | n,.dK _ _ _,y,hx,hy=>by cases n<;>simp[okE] at hx
 | n,.dT _ _ _,y,hx,hy=>by cases n<;>simp[okE] at hx
 | n,.ins _ _ _ _,y,hx,hy=>by cases n<;>simp[okE] at hx
 | n,.dead,y,hx,hy=>by cases n<;>simp[okE] at hx
 | n,.exc _ _,y,hx,hy=>by cases n<;>simp[okE] at hx
theorem jaj:∀(n:Nat) (l m:List D),vP n l=true->vP n m=true->PyData.eqvAll (J0 l) (J0 m)=uq l m
 | n,[],[],_,_=>rfl
 | n,[],_::_,_,_=>rfl
 | n,_::_,[],_,_=>rfl
 | n,x::l,y::m,hx,hy=>by
  rw[vP,M0] at hx hy;show(PyData.eqv (jcL x) (jcL y)&&PyData.eqvAll (J0 l) (J0 m))=(eqD x y&&uq l m);rw[jec n x y hx.1 hy.1,jaj n l m hx.2 hy.2]
end
mutual
theorem jbu:∀(n:Nat) (x:D),okE n x=true->(jcL x).canLay0=true/\(jcL x).depth<=n
 | n,.non,_=>⟨rfl,U6 _⟩
 | n,.bl _,_=>⟨rfl,U6 _⟩
 | n,.int _,_=>⟨rfl,U6 _⟩
 | n,.str s,h=>by
  refine⟨?_,U6 _⟩;have h:(s.all λc=>decide (c < 1114112))=true:=by cases n<;>simpa [okE] using h
  show PyData.strOk (S s)=true;unfold PyData.strOk S;rw[Array.all_eq_true'];intro c hc;rw[List.all_eq_true] at h;exact h c (by simpa using hc)
 | 0,.tup l,h=>by simp[okE] at h
 | n+1,.tup l,h=>by
  obtain⟨h1,h2⟩:=Qh n l (by simpa [okE] using h);exact⟨h1,Nat.succ_le_succ h2⟩
 | 0,.lst o l,h=>by simp[okE] at h
 | n+1,.lst o l,h=>by
  obtain⟨h1,h2⟩:=Qh n l (by simpa [okE] using h);exact⟨h1,Nat.succ_le_succ h2⟩
 | n,.dK _ _ _,hx=>by cases n<;>simp[okE] at hx
 | n,.dT _ _ _,hx=>by cases n<;>simp[okE] at hx
 | n,.ins _ _ _ _,hx=>by cases n<;>simp[okE] at hx
 | n,.dead,hx=>by cases n<;>simp[okE] at hx
 | n,.exc _ _,hx=>by cases n<;>simp[okE] at hx
theorem Qh:∀(n:Nat) (l:List D),vP n l=true->PyData.canLayAll0 (J0 l)=true/\PyData.depthAll (J0 l)<=n
 | n,[],_=>⟨rfl,U6 _⟩
 | n,x::l,h=>by
  rw[vP,M0] at h;obtain⟨h1,h2⟩:=jbu n x h.1;obtain⟨h3,h4⟩:=Qh n l h.2;rw[J0];refine⟨?_,?_⟩
  ·show((jcL x).canLay0&&PyData.canLayAll0 (J0 l))=true;rw[h1,h3];rfl
  ·show max (jcL x).depth (PyData.depthAll (J0 l))<=n;exact Nat.max_le.mpr ⟨h2,h4⟩
end
section
variable {X:Cx}{cl:Nat->Addr}{Z Z':Zn}{H H':Hp}{pins:List (Addr×Obj)}{σ:L2.St}{s:Shared}
mutual
theorem Rep.reads(I:Inv X pins σ H s):∀(n:Nat) {x:D}{v:V}{u:Value}{O:List Addr},Rep ⟨X.K,cl⟩ Z H x v O->RelV v u->okE n x=true->∃ as,Reads s.heap u (jcL x) as
 | n,.non,_,_,_,r,q,_=>by obtain⟨rfl,_⟩:=r.non_of;cases q;exact⟨_,.none⟩
 | n,.bl b,_,_,_,r,q,_=>by obtain⟨rfl,_⟩:=r.bl_of;cases q;exact⟨_,.bool b⟩
 | n,.int i,_,_,_,r,q,_=>by obtain⟨rfl,_⟩:=r.int_of;obtain⟨t,rfl⟩:=q;exact⟨_,.int i t⟩
 | n,.str w,_,_,_,r,q,_=>by obtain⟨rfl,_⟩:=r.str_of;obtain⟨t,rfl⟩:=q;exact⟨_,.str _ t⟩
 | 0,.tup l,_,_,_,r,q,h=>by simp[okE] at h
 | n+1,.tup l,_,_,_,r,q,h=>by
  obtain⟨a,vs,rfl,hx,rs⟩:=r.tup_of;cases q;obtain⟨its,rv,⟨o,h1,h2,k,h3⟩,_⟩:=I.tuple hx;obtain⟨as,hr⟩:=Reps.reads I n rs rv (by simpa [okE] using h);exact⟨_,reads_tuple_at h1 h2 h3 (by simpa using hr)⟩
 | 0,.lst o l,_,_,_,r,q,h=>by simp[okE] at h
 | n+1,.lst o l,_,_,_,r,q,h=>by
  obtain⟨a,vs,O',rfl,hx,rs⟩:=r.lst_of;cases q;obtain⟨its,rv,⟨o,k,h1,h2,_,h3⟩,_⟩:=I.list hx.sq;obtain⟨as,hr⟩:=Reps.reads I n rs rv (by simpa [okE] using h);exact⟨_,reads_list_at h1 h2 h3 (by simpa using hr)⟩
 | n,.dK _ _ _,_,_,_,_,_,hx=>by cases n<;>simp[okE] at hx
 | n,.dT _ _ _,_,_,_,_,_,hx=>by cases n<;>simp[okE] at hx
 | n,.ins _ _ _ _,_,_,_,_,_,hx=>by cases n<;>simp[okE] at hx
 | n,.dead,_,_,_,_,_,hx=>by cases n<;>simp[okE] at hx
 | n,.exc _ _,_,_,_,_,_,hx=>by cases n<;>simp[okE] at hx
theorem Reps.reads(I:Inv X pins σ H s):∀(n:Nat) {l:List D}{vs:List V}{us:List Value}{O:List Addr},Reps ⟨X.K,cl⟩ Z H l vs O->Vals vs us->vP n l=true->∃ as,ReadsAll s.heap us (J0 l) as
 | n,[],_,_,_,r,q,_=>by rw[Reps] at r;obtain⟨rfl,_⟩:=r;cases q;exact⟨_,.nil⟩
 | n,x::l,_,_,_,r,q,h=>by
  rw[Reps] at r;obtain⟨v,vs,O1,O2,rfl,rfl,r1,r2⟩:=r;rw[vP,M0] at h;cases q with
  | cons q1 q2 =>
   obtain⟨as,h1⟩:=Rep.reads I n r1 q1 h.1;obtain⟨bs,h2⟩:=Reps.reads I n r2 q2 h.2;exact⟨_,.cons h1 h2⟩
end
noncomputable def jjt(R:RC)(neg:Bool):R2:=λx y H Q=>∃ Z d e O P,Rep R Z H d x O/\Rep R Z H e y P/\okE 20 d=true/\okE 20 e=true/\Q (.bl (neg != eqD d e)) H
theorem jme{x:D}(h:okE 20 x=true):SeqAt.shaped (jcL x)=true:=by
 obtain⟨a,b⟩:=jbu 20 x h;unfold SeqAt.shaped;rw[a,Bool.true_and];exact X1 (N8 b (by decide))
theorem jkt(f:X.A.units+64 < cLine):OpR X (compareOp .Eq) (jjt ⟨X.K,cl⟩ false):=by
 intro c s σ H x y v u Q I g i h;obtain⟨Z,d,e,O,P,j,k,a,b,q⟩:=h;obtain⟨n,l⟩:=j.reads I 20 g a;obtain⟨bs,m⟩:=k.reads I 20 i b;refine eq_dataH l m (jme a) (jme b) f ?_;rw[jec 20 d e a b];exact⟨.bl _,H,I,rfl,by simpa using q⟩
theorem jjV(f:X.A.units+64 < cLine):OpR X (compareOp .NotEq) (jjt ⟨X.K,cl⟩ true):=by
 intro c s σ H x y v u Q I g i h;obtain⟨Z,d,e,O,P,j,k,a,b,q⟩:=h;obtain⟨n,l⟩:=j.reads I 20 g a;obtain⟨bs,m⟩:=k.reads I 20 i b;refine ne_dataH l m (jme a) (jme b) f ?_;rw[jec 20 d e a b];exact⟨.bl _,H,I,rfl,by simpa using q⟩
noncomputable def vA(x y:D):Option D:=bif Vo x&&Vo y&&xS x y then some (.bl (eqF x y)) else bif okE 20 x&&okE 20 y then some (.bl (eqD x y)) else none
noncomputable def vX(x y:D):Option D:=bif Vo x&&Vo y&&xS x y then some (.bl (!eqF x y)) else bif okE 20 x&&okE 20 y then some (.bl (!eqD x y)) else none
theorem jns{R:RC}:BO R (λx y H Q=>rEq x y H Q \/ jjt R false x y H Q) vA:=by
 intro Z H x y d v u c f z a b e Q k;unfold vA at e;cases hl:Vo x&&Vo y&&xS x y with
 | true =>
  rw[hl] at e;cases e;obtain⟨g,h⟩:=jeH a b hl;exact .inl ⟨g,by rw[h];exact k (Go.id z) .bl_mk⟩
 | false =>
  rw[hl,cond_false] at e;cases hm:okE 20 x&&okE 20 y with
  | false=>rw[hm] at e;cases e
  | true =>
   rw[hm] at e;cases e;rw[M0] at hm;exact .inr ⟨Z,x,y,c,f,a,b,hm.1,hm.2,by simpa using k (Go.id z) .bl_mk⟩
theorem jm4{R:RC}:BO R (λx y H Q=>rNe x y H Q \/ jjt R true x y H Q) vX:=by
 intro Z H x y d v u c f z a b e Q k;unfold vX at e;cases hl:Vo x&&Vo y&&xS x y with
 | true =>
  rw[hl] at e;cases e;obtain⟨g,h⟩:=jeH a b hl;exact .inl ⟨g,by rw[h];exact k (Go.id z) .bl_mk⟩
 | false =>
  rw[hl,cond_false] at e;cases hm:okE 20 x&&okE 20 y with
  | false=>rw[hm] at e;cases e
  | true =>
   rw[hm] at e;cases e;rw[M0] at hm;exact .inr ⟨Z,x,y,c,f,a,b,hm.1,hm.2,by simpa using k (Go.id z) .bl_mk⟩
theorem qC{b:Expr}{k:Nat}(a:Room k X.A):CmpR cl X .Eq b (λx y H Q=>rEq x y H Q \/ jjt ⟨X.K,cl⟩ false x y H Q) vA:=⟨KO jmW (jkt a.units),jns,KQ _⟩
theorem c_ne{b:Expr}{k:Nat}(a:Room k X.A):CmpR cl X .NotEq b (λx y H Q=>rNe x y H Q \/ jjt ⟨X.K,cl⟩ true x y H Q) vX:=⟨KO jm3 (jjV a.units),jm4,KQ _⟩
def BM(R:RC)(T:String)(r:V->List V->Hp->VK->Prop)(g:D->List D->Option D):Prop:=∀{Z:Zn}{H:Hp}{x d:D}{xs:List D}{v:V}{vs:List V}{O1 O2:List Addr},Zd Z H->Rep R Z H x v O1->Reps R Z H xs vs O2->g x xs=some d ->
 ∀{Q:VK},(∀{w:V}{Z':Zn}{H':Hp}{P:List Addr},Go Z H [] Z' H' P->Rep R Z' H' d w P->Q w H')->r v vs H Q
noncomputable def isT:String->D->Bool
 | "str",.str _=>true
 | _,_=>false
noncomputable def pBM(T:String)(g:D->List D->Option D)(pa:PF)(pr:PAf):PF:=λρ=>match pa ρ with
 | none=>none
 | some x=>bif isT T x then(match pr ρ with
  | none=>none
  | some xs=>g x xs) else none
theorem jj1{R:RC}{T:String}{x:D}{v:V}{O:List Addr}(r:Rep R Z H x v O)(h:isT T x=true):tyV R.K T v H:=by
 unfold isT at h;split at h
 ·obtain⟨rfl,_⟩:=r.str_of;rfl
 ·cases h
theorem jmv{R:RC}{T:String}{r:V->List V->Hp->VK->Prop}{g:D->List D->Option D}{to:TE}{ta:TA}{pa:PF}{pr:PAf}(f:BM R T r g)(h:PB R to pa)(i:PBs R ta pr):PP R (tBM R.K T r to ta) (pBM T g pa pr):=by
 intro σ ρ Z H O d z s e Q k;unfold pBM at e;cases e1:pa ρ with
 | none=>rw[e1] at e;cases e
 | some x =>
  rw[e1] at e;dsimp only at e;cases ht:isT T x with
  | false=>rw[ht] at e;cases e
  | true =>
   rw[ht,cond_true] at e;cases e2:pr ρ with
   | none=>rw[e2] at e;cases e
   | some xs =>
    rw[e2] at e;refine h z s e1 λ{v n o p} a c=>⟨jj1 c ht,?_⟩;refine i a.wf.zd (a.slots z s) e2 λ{q t u w} b j=>?_;exact f b.wf.zd (b.rep a.wf.zd c) j e λl m=>k ((a.pair b).pair l) m
end
end QD
namespace QD
open PySem L2
def ItB(R:RC)(J:It)(Z:Zn)(H:Hp)(xs:List D):Prop:=∀{Z1:Zn}{H1:Hp},(∀ a,Z a->Z1 a)->(∀ a,H a≠none->H1 a=H a)->Zd Z1 H1->∀ i:Nat,
 (xs.length<=i->J.stop i H1)/\∀ x,xs[i]?=some x->J.go i H1/\∀ u H2,J.yld i H1 u H2->∃ Z2,Go Z1 H1 [] Z2 H2 []/\Rep R Z2 H2 x u []
def jmf(R:RC)(wi:TI)(p:PAf):Prop:=∀{σ:St}{ρ:Rh}{Z:Zn}{H:Hp}{O:List Addr}{xs:List D},Zd Z H->Slots R Z H ρ σ O->p ρ=some xs ->
 ∀{Q:It->Hp->Prop},(∀{J:It}{Z':Zn}{H':Hp},Go Z H [] Z' H' []->ItB R J Z' H' xs->Q J H')->wi σ H Q
theorem PIt.b(h:PIt R wi p):jmf R wi p:=by
 intro σ ρ Z H O xs z s e Q k;refine h z s e λg c=>k g ?_;intro j l d f zd i;exact c d (λa z=>f a (g.wf.zd a z)) zd i
noncomputable def jcy(p:PF):PAf:=λρ=>match p ρ with
 | some (.lst _ l)=>bif frzs l then some l else none
 | some (.tup l)=>bif frzs l then some l else none
 | some (.str s)=>some (s.map λc=>.str [c])
 | _=>none
theorem jgo(b:∀ a,H a≠none->H' a=H a)(h:SqX K H a vs):SqX K H' a vs:=by
 rcases h with h | h
 ·refine .inl (Rd.agree (b a ?_) h);rcases h with h | ⟨o,h⟩<;>rw[h]<;>exact λz=>(nomatch z)
 ·exact .inr h
theorem jfs(b:∀ a,H a≠none->H' a=H a)(h:SqT K H a vs):SqT K H' a vs:=by
 rcases h with h | h
 ·refine .inl (Rd.agree (b a ?_) h);rcases h with h | ⟨o,h⟩<;>rw[h]<;>exact λz=>(nomatch z)
 ·exact .inr h
theorem jjT(h:PB R te p):jmf R (jl7 R.K te) (jcy p):=by
 intro σ ρ Z H O xs z s e Q k;unfold jcy at e;split at e
 ·rename_i o l y;cases hf:frzs l with
  | false=>rw[hf] at e;cases e
  | true =>
   rw[hf] at e;cases e;refine h z s y λ{v I J P} f A=>?_;obtain⟨a,d,T,rfl,B,C⟩:=A.lst_of;have g:=C.frozen hf;refine .inl ⟨a,rfl,⟨d,B.sq⟩,k f ?_⟩;intro r G D j zd i;have c:=SqX.sq (jgo j B);have m:Reps R r G xs d []:=g.frame D (λb z=>j b (f.wf.zd b z)) λb L=>(nomatch L);refine⟨λM=>⟨d,c,by rw[C.length];exact M⟩,λx n=>?_⟩;obtain⟨u,E,N⟩:=m.item n;refine⟨⟨d,u,c,E⟩,λw S q=>?_⟩;obtain⟨rfl,q⟩:=q;have F:=q d c;rw[E] at F;cases F;exact⟨r,Go.id zd,N⟩
 ·rename_i l y;cases hf:frzs l with
  | false=>rw[hf] at e;cases e
  | true =>
   rw[hf] at e;cases e;refine h z s y λ{v I J P} f A=>?_;obtain⟨a,d,rfl,B,C⟩:=A.tup_of;have g:=C.frozen hf;refine .inr (.inl ⟨a,rfl,⟨d,B⟩,k f ?_⟩);intro r G D j zd i;have c:=jfs j B;have m:Reps R r G xs d []:=g.frame D (λb z=>j b (f.wf.zd b z)) λb L=>(nomatch L);refine⟨λM=>⟨d,c,by rw[C.length];exact M⟩,λx n=>?_⟩;obtain⟨u,E,N⟩:=m.item n;refine⟨⟨d,u,c,E⟩,λw S q=>?_⟩;obtain⟨rfl,q⟩:=q;have F:=q d c;rw[E] at F;cases F;exact⟨r,Go.id zd,N⟩
 ·rename_i t y;cases e;refine h z s y λ{v I J P} f A=>?_;obtain⟨rfl,_⟩:=A.str_of;refine .inr (.inr ⟨t,rfl,k f ?_⟩);intro r G D j zd i;exact jlk (Z:=I) (H:=J) D (λb z=>j b (f.wf.zd b z)) zd i
 ·cases e
theorem xU(hi:jmf R wi pi)(hg:PGt R [] tg g)(hq:PTt R tc q)(he:PP R te p) :
  PP R (jar wi tg tc te ix) (J1 pi g q p ix):=by
 intro σ ρ Z H O d z s e Q k;unfold J1 at e;cases e1:pi ρ with
 | none=>rw[e1] at e;cases e
 | some xs =>
  rw[e1] at e;dsimp only at e;cases hl:lim xs.length with
  | false=>rw[hl] at e;cases e
  | true =>
   rw[hl,cond_true] at e;cases e2:kG g q p xs (vN ix ρ) with
   | none=>rw[e2] at e;cases e
   | some all =>
    rw[e2] at e;cases e;refine hi z s e1 λ{J E L} g0 it=>?_;intro a ha;have M:=g0.wf.zd;obtain⟨Oi,si⟩:=QZ (g0.slots z s) ix;have gp:Go E L [] E (upd L a (.lst [])) [a]:=Go.newO (wf0 M) ha;refine⟨λi m σ2 v=>m=xs.length - i/\i<=xs.length/\∃ W F O2 w j h rest,Go E L [] F v (a::h)/\v a=some (.lst j)/\Reps R F v w j h/\(∀ b∈O2,b≠a)/\Slots R F v W σ2 O2/\kG g q p (xs.drop i) W=some rest/\all=w++rest/\w.length<=i,
     ⟨xs.length,rfl,U6 _,_,E,Oi,[],[],[],all,gp,jU,Reps.empty,λb l e=>si.dom b l (e▸ha),gp.slots M si,e2,rfl,M9 _⟩,?_⟩
    rintro i m σ2 v ⟨rfl,hi',W,F,O2,w,j,h,rest,o,N,X,na,s2,c,Y,x⟩;have S:=it (Z1:=F) (H1:=v) o.zz (λb z=>o.same b z) o.wf.zd i;by_cases C:i < xs.length
    ·right
     have hx:xs[i]?=some xs[i]:=by simp[C]
     obtain⟨go,yl⟩:=S.2 _ hx;refine⟨go,λu H3 hy=>?_⟩;obtain⟨Z3,G,r3⟩:=yl u H3 hy;rw[VU hx] at c;unfold kG at c;cases e5:g xs[i] W with
     | none=>rw[e5] at c;cases c
     | some T =>
      rw[e5] at c;dsimp only at c;refine hg r3 (G.slots o.wf.zd s2) e5 λ{σ4 O4} sub nd s4 _=>?_;cases e6:q T with
      | none=>rw[e6] at c;cases c
      | some b =>
       rw[e6] at c;dsimp only at c;refine hq G.wf.zd s4 e6 λ{Z5 H5} U=>?_;have r:=G.pair U;cases b with
       | true =>
        refine jfE ?_;rw[cond_true] at c;cases e7:p T with
        | none=>rw[e7] at c;cases c
        | some y =>
         rw[e7] at c;dsimp only at c;cases e8:kG g q p (xs.drop (i+1)) T with
         | none=>rw[e8] at c;cases c
         | some ys2 =>
          rw[e8] at c;cases c;refine he U.wf.zd (U.slots G.wf.zd s4) e7 λ{v6 I t K} g6 r6=>?_;have D:Go F v [] I t K:=by simpa using r.pair g6
          have ea6:t a=some (.lst j):=by rw[D.same a (by rw[N];exact λz=>(nomatch z))];exact N
          have hvl:j.length < sizeLine:=by
           rw[X.length];exact jdx (n:=w.length) (X1 (N8 x (N8 hi' (X3 hl))))
          have gA:Go E L [] I t (a::h++K):=by
           have f:=D.frame (A:=a::h) (B:=[]) (by simpa using o.wf);exact o.trans (by simpa using f)
          have w6:=gA.wf;have gB:Go I t (a::h++K) I (upd t a (.lst (j++[v6]))) (a::h++K):=Go.put w6 L7;have nd6:=List.nodup_cons.mp w6.nd;have ne:∀ b,b∈h++K->upd t a (.lst (j++[v6])) b=t b:=λb l=>jo λz=>nd6.1 (z▸l);have V:∀ b,I b->upd t a (.lst (j++[v6])) b=t b:=λb l=>jo λz=>w6.nz a L7 (z▸l);refine⟨j,ea6,hvl,xs.length - (i+1),by lia,rfl,C,T,I,O4,w++[y],j++[v6],h++K,ys2,gA.trans gB,jU,?_,λb l=>na b (sub b l),?_,e8,by rw[Y];simp,by rw[N5];exact Nat.add_le_add_right x 1⟩
          ·refine((D.reps o.wf.zd X).append (.one r6)).frame (λb z=>z) V ne
          ·exact((U.pair g6).slots G.wf.zd s4).frame (λb z=>z) V λb l=>jo (na b (sub b l))
       | false =>
        refine jfG ?_;rw[cond_false] at c;have gA:Go E L [] Z5 H5 (a::h):=by
         have f:=r.frame (A:=a::h) (B:=[]) (by simpa using o.wf);exact o.trans (by simpa using f)
        exact⟨xs.length - (i+1),by lia,rfl,C,T,Z5,O4,w,j,h,rest,gA,by rw[r.same a (by rw[N];exact λz=>(nomatch z))];exact N,r.reps o.wf.zd X,λb l=>na b (sub b l),U.slots G.wf.zd s4,c,Y,Nat.le_succ_of_le x⟩
    ·left
     have hi2:i=xs.length:=by lia
     refine⟨S.1 (by lia),?_⟩;rw[hi2,List.drop_length] at c;cases c;rw[N1] at Y;subst Y;refine k (P:=a::h) (by simpa using g0.pair o) ?_;rw[Rep];exact⟨a,j,h,rfl,X,N,rfl⟩
structure QIb(cl:Nat->Addr)(X:Cx)(tg e:Expr)(wi:TI)(p:PAf):Prop where
 sem:PI X tg e wi
 den:jmf ⟨X.K,cl⟩ wi p
theorem QI.b'(h:QI cl X tg e wi pi):QIb cl X tg e wi pi:=⟨h.sem,PIt.b h.den⟩
theorem Qs(h:QB cl X e te pe):QIb cl X tg e (jl7 X.K te) (jcy pe):=⟨jjG h.sem,jjT h.den⟩
theorem Vl(B:BlockOk X scope N' ix)(d:X.calm=true)(hi:QIb cl X tg iter wi pi)
  (b:∀ C s H fp,QG cl [] (vc X scope N' C s H fp) tg t g) (a:∀ C s H fp,QIf cl (vc X scope N' C s H fp) ifs tcc qq) (c:∀ C s H fp,QP cl (vc X scope N' C s H fp) elt te pe)
  (e:∀ x,foldedSetIterable iter X.env x=pure x:=by intro _;rfl):QP cl X (.ListComp elt [⟨tg,iter,ifs,0⟩] scope pos) (jar wi t tcc te ix) (J1 pi g qq pe ix) :=
 ⟨jiR B d hi.sem (λC s H fp=>(b C s H fp).sem) (λC s H fp=>(a C s H fp).sem) (λC s H fp=>(c C s H fp).sem) e,
  xU hi.den (b 0 X.s₀ X.H₀ []).den (a 0 X.s₀ X.H₀ []).den (c 0 X.s₀ X.H₀ []).den⟩
theorem jaM(B:BlockOk X scope N' ix)(h:X.calm=true)(hi:QIb cl X tg iter wi pi)
  (e:∀ C s H fp,QG cl [] (vc X scope N' C s H fp) tg t g) (a:∀ C s H fp,QIf cl (vc X scope N' C s H fp) ifs tcc qq) (f:∀ C s H fp,QP cl (vc X scope N' C s H fp) elt te pe)
  (j:X.N.Nodup) (b:X.N[i]?=some x:=by rfl) (k:Loc X.env.scope x:=by first | exact Or.inl rfl | exact Or.inr rfl)
  (c:swapsWith (.ListComp elt [⟨tg,iter,ifs,0⟩] scope pos) (some (.Name x pos')) spos.line X.env=pure true:=by with_unfolding_all rfl)
  (l:∀ x,foldedSetIterable iter X.env x=pure x:=by intro _;rfl)
  (m:X.fn x=true \/ X.env.scope.names.lookup x=some .local:=by first | exact .inl rfl | exact .inr rfl) :
  QS cl pm X (.Assign [.Name x pos'] (.ListComp elt [⟨tg,iter,ifs,0⟩] scope pos) spos) (jgI (jar wi t tcc te ix) (zK i)) (y9 (dP (J1 pi g qq pe ix)) (jS pm i)) :=
 ⟨jcb B h hi.sem (λC s H fp=>(e C s H fp).sem) (λC s H fp=>(a C s H fp).sem) (λC s H fp=>(f C s H fp).sem) j b k c l m,
  jby (PP.d (xU hi.den (e 0 X.s₀ X.H₀ []).den (a 0 X.s₀ X.H₀ []).den (f 0 X.s₀ X.H₀ []).den)) jaJ⟩
noncomputable def Out.thn:Out->FS->Option Out
 | .nx ρ,g=>g ρ
 | .rt d ρ,_=>some (.rt d ρ)
 | .bk ρ,_=>some (.bk ρ)
 | .ct ρ,_=>some (.ct ρ)
@[simp] theorem thn_nx(ρ:Rh)(g:FS):(Out.nx ρ).thn g=g ρ:=rfl
@[simp] theorem thn_rt(d:D)(ρ:Rh)(g:FS):(Out.rt d ρ).thn g=some (.rt d ρ):=rfl
@[simp] theorem thn_bk(ρ:Rh)(g:FS):(Out.bk ρ).thn g=some (.bk ρ):=rfl
@[simp] theorem thn_ct(ρ:Rh)(g:FS):(Out.ct ρ).thn g=some (.ct ρ):=rfl
@[simp] theorem sSeq_e:jL f g ρ=(f ρ).bind λo=>o.thn g:=by
 unfold jL;cases h:f ρ with
 | none=>rfl
 | some o=>cases o<;>rfl
@[simp] theorem sNext_e:jA ρ=some (.nx ρ):=rfl
@[simp] theorem sCont_e:jf3 ρ=some (.ct ρ):=rfl
@[simp] theorem sNever_e:yu ρ=none:=rfl
@[simp] theorem sRet_e:yK fe ρ=(fe ρ).bind λx=>some (.rt x.1 x.2):=by unfold yK;cases fe ρ<;>rfl
@[simp] theorem sDrop_e:zv fe ρ=(fe ρ).bind λx=>some (.nx x.2):=by unfold zv;cases fe ρ<;>rfl
@[simp] theorem sAsg_e:y9 fe G ρ=(fe ρ).bind λx=>(G x.1 x.2).bind λr=>some (.nx r):=by
 unfold y9;cases fe ρ with
 | none=>rfl
 | some x=>obtain⟨d,r⟩:=x;dsimp only[Option.bind];cases G d r<;>rfl
@[simp] theorem sIf_e:sIf ft f g ρ=(ft ρ).bind λx=>bif x.1 then f x.2 else g x.2:=by unfold sIf;cases ft ρ<;>rfl
@[simp] theorem dP_e:dP pa ρ=(pa ρ).bind λd=>some (d,ρ):=by unfold dP;cases pa ρ<;>rfl
@[simp] theorem dPT_e:dPT q ρ=(q ρ).bind λd=>some (d,ρ):=by unfold dPT;cases q ρ<;>rfl
@[simp] theorem dMv_e:dMv i ρ=(pV i ρ).bind λd=>some (d,ρ.set i none):=by
 unfold dMv pV;cases ρ[i]? with
 | none=>rfl
 | some o=>cases o<;>rfl
@[simp] theorem jn8:pC d ρ=some d:=rfl
@[simp] theorem pN_e:pN ρ=some []:=rfl
@[simp] theorem qT_e:qT ρ=some true:=rfl
@[simp] theorem oN_e:oN ρ=some none:=rfl
@[simp] theorem pV0:pV 0 (o::ρ)=o:=by unfold pV;cases o<;>rfl
@[simp] theorem pVs:pV (i+1) (o::ρ)=pV i ρ:=rfl
@[simp] theorem jn7:p2 G pa pb ρ=(pa ρ).bind λx=>(pb ρ).bind λy=>G x y:=by
 unfold p2;cases pa ρ with
 | none=>rfl
 | some x=>dsimp only[Option.bind];cases pb ρ<;>rfl
@[simp] theorem p1_e:p1 G pa ρ=(pa ρ).bind G:=by unfold p1;cases pa ρ<;>rfl
@[simp] theorem pF_e:pF pa ρ=(pa ρ).bind λd=>bif frz d then some d else none:=by unfold pF;cases pa ρ<;>rfl
@[simp] theorem jhL:jb pa p ρ=(pa ρ).bind λx=>(p ρ).bind λxs=>some (x::xs):=by
 unfold jb;cases pa ρ with
 | none=>rfl
 | some x=>dsimp only[Option.bind];cases p ρ<;>rfl
@[simp] theorem jlO:pCB G p ρ=(p ρ).bind G:=by unfold pCB;cases p ρ<;>rfl
@[simp] theorem pTup_e:jbX p ρ=(p ρ).bind λxs=>bif lim xs.length then some (.tup xs) else none:=by unfold jbX;rw[jlO]
@[simp] theorem pLst_e:va p ρ=(p ρ).bind λxs=>bif lim xs.length then some (.lst true xs) else none:=by unfold va;rw[jlO]
@[simp] theorem pCall_e:j7 m p ρ=(p ρ).bind λds=>(m (fzs ds)).bind λd=>bif frzs ds||vT d then some d else none:=by
 unfold j7;cases p ρ with
 | none=>rfl
 | some x=>dsimp only[Option.bind];cases m (fzs x)<;>rfl
noncomputable def jhk:D->Option Bool
 | .bl b=>some b
 | _=>none
@[simp] theorem jhy(b:Bool):jhk (.bl b)=some b:=rfl
@[simp] theorem jcB:jj pa ρ=(pa ρ).bind jhk:=by
 unfold jj;cases pa ρ with
 | none=>rfl
 | some d=>cases d<;>rfl
@[simp] theorem qNot_e:wo q ρ=(q ρ).bind λb=>some (!b):=by unfold wo;cases q ρ<;>rfl
@[simp] theorem qAnd_e:VX q q' ρ=(q ρ).bind λb=>bif b then q' ρ else some false:=by unfold VX;cases q ρ<;>rfl
@[simp] theorem qOr_e:qOr q q' ρ=(q ρ).bind λb=>bif b then some true else q' ρ:=by unfold qOr;cases q ρ<;>rfl
@[simp] theorem pNot_e:jjx pa ρ=(pa ρ).bind λd=>(jhk d).bind λb=>some (.bl (!b)):=by
 unfold jjx;cases pa ρ with
 | none=>rfl
 | some d=>cases d<;>rfl
@[simp] theorem pAnd_e:zD pa pb ρ=(pa ρ).bind λd=>(jhk d).bind λb=>bif b then pb ρ else some (.bl false):=by
 unfold zD;cases pa ρ with
 | none=>rfl
 | some d=>cases d<;>rfl
@[simp] theorem pOr_e:pOr pa pb ρ=(pa ρ).bind λd=>(jhk d).bind λb=>bif b then some (.bl true) else pb ρ:=by
 unfold pOr;cases pa ρ with
 | none=>rfl
 | some d=>cases d<;>rfl
@[simp] theorem pIf_e:pIf q pa pb ρ=(q ρ).bind λb=>bif b then pa ρ else pb ρ:=by unfold pIf;cases q ρ<;>rfl
@[simp] theorem pChain_e:KK G G' pa pb pc ρ=(pa ρ).bind λx=>(pb ρ).bind λy=>(G x y).bind λd=>(jhk d).bind λb=>bif b then((pc ρ).bind λw=>G' y w) else some (.bl false):=by
 unfold KK;cases pa ρ with
 | none=>rfl
 | some x =>
  dsimp only[Option.bind];cases pb ρ with
  | none=>rfl
  | some y =>
   dsimp only;cases G x y with
   | none=>rfl
   | some d=>cases d with
    | bl b=>cases b with
     | true=>dsimp only[jhk,cond];cases pc ρ<;>rfl
     | false=>rfl
    | _=>rfl
@[simp] theorem oS_e:oS pa ρ=(pa ρ).bind λd=>match d with | .int i=>some (some i) | _=>none:=by
 unfold oS;cases pa ρ with
 | none=>rfl
 | some d=>cases d<;>rfl
@[simp] theorem pSl_e:pSl pa pl ph ρ=(pa ρ).bind λx=>(pl ρ).bind λlo=>(ph ρ).bind λhi=>jep lo hi x:=by
 unfold pSl;cases pa ρ with
 | none=>rfl
 | some x =>
  dsimp only[Option.bind];cases pl ρ with
  | none=>rfl
  | some lo=>dsimp only;cases ph ρ<;>rfl
@[simp] theorem gSet_e:jS pm i d ρ=bif decide (i < ρ.length)&&!decide (i∈pm) then some (ρ.set i (some d)) else none:=rfl
@[simp] theorem gN_e:gN [] ρ=some ρ:=rfl
@[simp] theorem gC_e:gC G Gs (d::r) ρ=(G d ρ).bind λρ1=>Gs r ρ1:=by
 show(match G d ρ with | none=>none | some ρ1=>Gs r ρ1)=_;cases G d ρ<;>rfl
@[simp] theorem gT_e:gT n Gs (.tup l) ρ=bif decide (l.length=n) then Gs l ρ else none:=rfl
@[simp] theorem sFz_e:sFz i f ρ=match pV i ρ with | some d=>f (ρ.set i (some (fz d))) | none=>f ρ:=by
 unfold sFz pV;cases ρ[i]? with
 | none=>rfl
 | some o=>cases o<;>rfl
noncomputable def ze:D->Option (List D)
 | .lst true l=>some l
 | _=>none
@[simp] theorem lstOf_lst(l:List D):ze (.lst true l)=some l:=rfl
noncomputable def jjc:D->Option Int
 | .int i=>some i
 | _=>none
@[simp] theorem intOf_int(i:Int):jjc (.int i)=some i:=rfl
@[simp] theorem sApp_e:jbt i pa ρ=(pa ρ).bind λd=>(pV i ρ).bind λx=>(ze x).bind λl=>bif lim l.length then some (.nx (ρ.set i (some (.lst true (l++[d]))))) else none:=by
 unfold jbt pV;cases pa ρ with
 | none=>rfl
 | some d =>
  dsimp only[Option.bind];cases ρ[i]? with
  | none=>rfl
  | some o=>cases o with
   | none=>rfl
   | some x=>cases x with
    | lst o l=>cases o<;>rfl
    | _=>rfl
@[simp] theorem sFor_e:wn p G f ρ=(p ρ).bind λxs=>kE G f xs ρ:=by unfold wn;cases p ρ<;>rfl
@[simp] theorem pItB_lst:jcy pa ρ=(pa ρ).bind λd=>match d with | .lst _ l=>bif frzs l then some l else none | .tup l=>bif frzs l then some l else none | .str s=>some (s.map λc=>D.str [c]) | _=>none:=by
 unfold jcy;cases pa ρ with
 | none=>rfl
 | some d=>cases d<;>rfl
noncomputable def jbr:List D->Option (List D)
 | [.lst _ l]=>some (qo 0 (fzs l))
 | _=>none
noncomputable def wy:List D->Option (List D)
 | [.int j]=>bif VE j then some (Kw 0 j.toNat) else none
 | _=>none
@[simp] theorem enumOf_e(o:Bool)(l:List D):jbr [.lst o l]=some (qo 0 (fzs l)):=rfl
theorem jd5(h:-(2 ^ 62) < j)(k:j < 2 ^ 62):VE j=true:=Nat.ble_eq_true_of_le (by lia)
theorem Jx(h:-(2 ^ 62) < j)(k:j < 2 ^ 62):wy [.int j]=some (Kw 0 j.toNat):=by
 show(bif VE j then some (Kw 0 j.toNat) else none)=_;rw[jd5 h k];rfl
@[simp] theorem pEnum_e:wA p ρ=(p ρ).bind jbr:=by
 unfold wA;cases p ρ with
 | none=>rfl
 | some d =>
  match d with
  | []=>rfl
  | [x]=>cases x<;>rfl
  | x::y::r=>cases x<;>rfl
@[simp] theorem pRng1_e:K1 p ρ=(p ρ).bind wy:=by
 unfold K1;cases p ρ with
 | none=>rfl
 | some d =>
  match d with
  | []=>rfl
  | [x]=>cases x<;>rfl
  | x::y::r=>cases x<;>rfl
@[simp] theorem pComp_e:J1 pi G q pa ix ρ=(pi ρ).bind λxs=>bif lim xs.length then((kG G q pa xs (vN ix ρ)).bind λys=>some (.lst true ys)) else none:=by
 unfold J1;cases pi ρ with
 | none=>rfl
 | some xs =>
  dsimp only[Option.bind];cases lim xs.length with
  | false=>rfl
  | true=>dsimp only[cond];cases kG G q pa xs (vN ix ρ)<;>rfl
@[simp] theorem gIx_e:gIx pm i pi d ρ=(pi ρ).bind λk=>(jjc k).bind λk=>(pV i ρ).bind λx=>(ze x).bind λl=>(ixN l.length k).bind λj=>some (ρ.set i (some (.lst true (l.set j d)))):=by
 unfold gIx pV;cases pi ρ with
 | none=>rfl
 | some k=>cases k with
  | int k =>
   dsimp only[Option.bind,jjc];cases ρ[i]? with
   | none=>rfl
   | some o=>cases o with
    | none=>rfl
    | some x=>cases x with
     | lst o l=>cases o with
      | false=>rfl
      | true=>dsimp only[ze];cases ixN l.length k<;>rfl
     | _=>rfl
  | _=>rfl
@[simp] theorem pIsI_e:uO T pa ρ=(pa ρ).bind λd=>(tyD d).bind λt=>some (.bl (uC t T)):=by
 unfold uO;cases pa ρ with
 | none=>rfl
 | some d=>dsimp only[Option.bind];cases tyD d<;>rfl
noncomputable def Out.val:Out->Option D
 | .rt d _=>some d
 | .nx _=>some .non
 | _=>none
@[simp] theorem val_rt(d:D)(ρ:Rh):(Out.rt d ρ).val=some d:=rfl
@[simp] theorem val_nx(ρ:Rh):(Out.nx ρ).val=some .non:=rfl
theorem jx(n:Nat)(f:FS)(ds:List D):fnP n f ds=(f (ds.map some++List.replicate (n - ds.length) none)).bind Out.val:=by
 unfold fnP;cases f (ds.map some++List.replicate (n - ds.length) none) with
 | none=>rfl
 | some o=>cases o<;>rfl
@[simp] theorem sLoop_nil:kE G f [] ρ=some (.nx ρ):=rfl
noncomputable def Out.loop:Out->FS->Option Out
 | .nx ρ,g=>g ρ
 | .ct ρ,g=>g ρ
 | .bk ρ,_=>some (.nx ρ)
 | .rt d ρ,_=>some (.rt d ρ)
@[simp] theorem Qm(ρ:Rh)(g:FS):(Out.nx ρ).loop g=g ρ:=rfl
@[simp] theorem jji(ρ:Rh)(g:FS):(Out.ct ρ).loop g=g ρ:=rfl
@[simp] theorem loop_bk(ρ:Rh)(g:FS):(Out.bk ρ).loop g=some (.nx ρ):=rfl
@[simp] theorem jif(d:D)(ρ:Rh)(g:FS):(Out.rt d ρ).loop g=some (.rt d ρ):=rfl
theorem kl:kE G f (x::xs) ρ=(G x ρ).bind λr=>(f r).bind λo=>o.loop (kE G f xs):=by
 rw[kE];cases G x ρ with
 | none=>rfl
 | some r =>
  dsimp only[Option.bind];cases f r with
  | none=>rfl
  | some o=>cases o<;>rfl
@[simp] theorem cLoop_nil:kG G q p [] ρ=some []:=rfl
theorem Ko:kG G q p (x::xs) ρ=(G x ρ).bind λr=>(q r).bind λb=>bif b then((p r).bind λy=>(kG G q p xs r).bind λys=>some (y::ys)) else kG G q p xs r:=by
 rw[kG];cases G x ρ with
 | none=>rfl
 | some r =>
  dsimp only[Option.bind];cases q r with
  | none=>rfl
  | some b=>cases b with
   | false=>rfl
   | true =>
    dsimp only[cond];cases p r with
    | none=>rfl
    | some y=>dsimp only;cases kG G q p xs r<;>rfl
theorem uL(P:Nat->Rh->Prop)(step:∀ i x ρ,xs[i]?=some x->P i ρ->∃ ρ1 ρ2,G x ρ=some ρ1/\(f ρ1=some (.nx ρ2) \/ f ρ1=some (.ct ρ2))/\P (i+1) ρ2)  (d:P 0 ρ) :
  ∃ ρ',kE G f xs ρ=some (.nx ρ')/\P xs.length ρ':=by
 have key:∀(n i:Nat) (ρ:Rh),xs.length - i=n->i<=xs.length->P i ρ->∃ ρ',kE G f (xs.drop i) ρ=some (.nx ρ')/\P xs.length ρ':=by
  intro n
  induction n with
  | zero =>
   intro i ρ e g p;have:i=xs.length:=by lia
   subst this;exact⟨ρ,by rw[List.drop_length];rfl,p⟩
  | succ n h =>
   intro i ρ e g p;have a:i < xs.length:=by lia
   have c:xs[i]?=some xs[i]:=by simp[a]
   obtain⟨ρ1,ρ2,j,b,p2⟩:=step i _ ρ c p;obtain⟨ρ',k,p3⟩:=h (i+1) ρ2 (by lia) a p2;refine⟨ρ',?_,p3⟩;rw[VU c,kl,j];rcases b with b | b<;>simp[b,k]
 exact key _ 0 ρ rfl (U6 _) d
theorem qm{G:D->Rh->Option Rh}{xs:List D}{l:List α}{en:α->D}{out:α->D}(a:xs=l.map en)(P:Rh->Prop)(step:∀ x∈l,∀ ρ,P ρ->∃ ρ1,G (en x) ρ=some ρ1/\p ρ1=some (out x)/\P ρ1){ρ:Rh}(b:P ρ):kG G qT p xs ρ=some (l.map out):=by
 subst a
 induction l generalizing ρ with
 | nil=>rfl
 | cons x l c =>
  obtain⟨ρ1,d,e,p1⟩:=step x L7 ρ b;rw[L5,Ko,d];simp[e,c (λy f=>step y (L6 _ f)) p1]
@[simp] theorem cond_dec(p:Prop) [Decidable p] (x y:α):(bif decide p then x else y)=if p then x else y:=by by_cases h:p<;>simp[h]
@[simp] theorem cond_beq_int(i j:Int)(x y:α):(bif i==j then x else y)=if i=j then x else y:=by
 by_cases h:i=j
 ·subst h;simp
 ·rw[if_neg h,U3.mpr h];rfl
@[simp] theorem ite_bind(p:Prop) [Decidable p] (x y:Option α) (f:α->Option β):(if p then x else y).bind f=if p then x.bind f else y.bind f:=by by_cases h:p<;>simp[h]
@[simp] theorem add_ii(i j:Int):yN (.int i) (.int j)=some (.int (i+j)):=rfl
@[simp] theorem sub_ii(i j:Int):zA (.int i) (.int j)=some (.int (i - j)):=rfl
theorem jd2(h:i.natAbs < 2 ^ 1000)(k:j.natAbs < 2 ^ 1000):YE (.int i) (.int j)=some (.int (i*j)):=by
 show(bif jio i&&jio j then some (D.int (i*j)) else none)=_;rw[jeg h,jeg k];rfl
theorem vO(h:0 < j)(k:j < 2 ^ 300):v7 (.int i) (.int j)=some (.int (i / j)):=by
 show(bif decide (0 < j)&&decide (j < 2 ^ 300) then some (D.int (i / j)) else none)=_;rw[X1 h,X1 k];rfl
theorem vf(h:0 < j):yG (.int i) (.int j)=some (.int (i % j)):=by
 show(bif decide (0 < j) then some (D.int (i % j)) else none)=_;rw[X1 h];rfl
@[simp] theorem opB_ii(g:Int->Int->Bool)(i j:Int):opB g (.int i) (.int j)=some (.bl (g i j)):=rfl
@[simp] theorem eq_ii(i j:Int):vA (.int i) (.int j)=some (.bl (i==j)):=rfl
@[simp] theorem ne_ii(i j:Int):vX (.int i) (.int j)=some (.bl (!(i==j))):=rfl
@[simp] theorem f2I_ii(g:Int->Int->Int)(i j:Int):f2I g [.int i,.int j]=some (.int (g i j)):=rfl
@[simp] theorem frz_int(i:Int):frz (.int i)=true:=rfl
@[simp] theorem frz_bl(i:Bool):frz (.bl i)=true:=rfl
@[simp] theorem frz_str(i:List Nat):frz (.str i)=true:=rfl
@[simp] theorem frz_non:frz .non=true:=rfl
@[simp] theorem fz_int(i:Int):fz (.int i)=.int i:=rfl
@[simp] theorem fz_bl(i:Bool):fz (.bl i)=.bl i:=rfl
@[simp] theorem fz_str(i:List Nat):fz (.str i)=.str i:=rfl
@[simp] theorem fz_non:fz .non=.non:=rfl
@[simp] theorem fz_lst(o:Bool)(l:List D):fz (.lst o l)=.lst false (fzs l):=rfl
@[simp] theorem fz_tup(l:List D):fz (.tup l)=.tup (fzs l):=rfl
@[simp] theorem frz_lst(o:Bool)(l:List D):frz (.lst o l)=(!o&&frzs l):=rfl
@[simp] theorem frz_tup(l:List D):frz (.tup l)=frzs l:=rfl
@[simp] theorem fzs_nil:fzs []=[]:=rfl
@[simp] theorem jfH(d:D)(l:List D):fzs (d::l)=fz d::fzs l:=rfl
@[simp] theorem frzs_nil:frzs []=true:=rfl
@[simp] theorem wK(d:D)(l:List D):frzs (d::l)=(frz d&&frzs l):=rfl
@[simp] theorem clean_int(i:Int):vT (.int i)=true:=rfl
@[simp] theorem clean_bl(i:Bool):vT (.bl i)=true:=rfl
@[simp] theorem clean_str(i:List Nat):vT (.str i)=true:=rfl
@[simp] theorem clean_non:vT .non=true:=rfl
@[simp] theorem clean_lst(o:Bool)(l:List D):vT (.lst o l)=(o&&yY l):=rfl
@[simp] theorem clean_tup(l:List D):vT (.tup l)=yY l:=rfl
@[simp] theorem cleans_nil:yY []=true:=rfl
@[simp] theorem cleans_cons(d:D)(l:List D):yY (d::l)=(vT d&&yY l):=rfl
@[simp] theorem fzs_ints(l:List Int):fzs (l.map D.int)=l.map D.int:=by
 rw[qV,U2];rfl
@[simp] theorem frzs_ints(l:List Int):frzs (l.map D.int)=true:=by
 rw[K4,List.all_map,List.all_eq_true];intro x _;rfl
theorem yZ:∀ l:List D,yY l=l.all vT
 | []=>rfl
 | d::l=>by rw[yY,yZ l];rfl
@[simp] theorem cleans_ints(l:List Int):yY (l.map D.int)=true:=by
 rw[yZ,List.all_map,List.all_eq_true];intro x _;rfl
@[simp] theorem intsD_ints(l:List Int):jhv (l.map D.int)=some l:=by
 induction l with
 | nil=>rfl
 | cons x l a=>show(match jhv (l.map D.int) with | some r=>some (x::r) | none=>none)=_;rw[a]
@[simp] theorem boolsD_bools(l:List Bool):JX (l.map D.bl)=some l:=by
 induction l with
 | nil=>rfl
 | cons x l a=>show(match JX (l.map D.bl) with | some r=>some (x::r) | none=>none)=_;rw[a]
@[simp] theorem fLen_lst(o:Bool)(l:List D):Jq [.lst o l]=some (.int l.length):=rfl
@[simp] theorem fLen_tup(l:List D):Jq [.tup l]=some (.int l.length):=rfl
@[simp] theorem tyD_int(i:Int):tyD (.int i)=some "int":=rfl
@[simp] theorem tyD_bl(i:Bool):tyD (.bl i)=some "bool":=rfl
@[simp] theorem tyD_str(i:List Nat):tyD (.str i)=some "str":=rfl
@[simp] theorem tyD_non:tyD .non=some "NoneType":=rfl
@[simp] theorem tyD_lst(o:Bool)(l:List D):tyD (.lst o l)=some "list":=rfl
@[simp] theorem tyD_tup(l:List D):tyD (.tup l)=some "tuple":=rfl
theorem jlh{c:Nat->Addr}{m:List D->Option D}{ns:List Int}(h:m [.lst false (ns.map D.int)]=some (.bl true))(d:SqX K H a (ns.map V.int)):spP ⟨K,c⟩ m 1 [.ref a] H (λv _=>v=.bl true) E:=by
 refine⟨λb=>b=a/\H a≠none,[.lst false (ns.map D.int)],.bl true,λb e=>by rw[e.1];exact e.2,rfl,.one ?_,h,λg r=>r.bl_of.1⟩;rw[Rep];have f:∀(l:List Int),Reps ⟨K,c⟩ (λb=>b=a/\H a≠none) H (l.map D.int) (l.map V.int) []:=by
  intro l
  induction l with
  | nil=>exact .empty
  | cons x l i=>exact .cons (O:=[]) (P:=[]) .int_mk i
 refine⟨a,ns.map V.int,[],rfl,f ns,?_⟩;show FL _ _ _ _ _/\_;refine⟨?_,rfl,rfl⟩;rcases d with d | d
 ·refine .inl ⟨⟨rfl,?_⟩,d⟩;rcases d with d | ⟨o,d⟩<;>rw[d]<;>exact λz=>(nomatch z)
 ·exact .inr d
end QD
namespace L2
open PySem PySem.Spec PyProof.Rows
theorem Qo:∀{ws:List Str}{us:List Value},Vals (ws.map V.str) us->∃ l:List (Str×Tok),us=strValues l/\l.map (·.1)=ws
 | [],us,h=>by
  cases h;exact⟨[],rfl,rfl⟩
 | w::ws,us,h=>by
  cases h with
  | cons a b =>
   obtain⟨t,rfl⟩:=a;obtain⟨l,rfl,e⟩:=Qo b;exact⟨(w,t)::l,rfl,by rw[L5,e]⟩
theorem jae{X:Cx}:MtR X "str.join" (λx vs H Q=>∃(a:Str) (p:Addr) (ws:List Str),x=.str a/\vs=[.ref p]/\SqL X.K H p (ws.map V.str)/\JoinOk a ws=true/\Q (.str (Txt.join a ws)) H):=by
 intro c s σ H x vs v i Q I d b h;obtain⟨a,p,ws,rfl,rfl,f,hok,q⟩:=h;obtain⟨t,rfl⟩:=d;obtain⟨u,rfl,g⟩:=b.one;cases g;obtain⟨its,b,pl,j⟩:=I.list f;obtain⟨l,rfl,e⟩:=Qo b;exact SC.join pl.isList e hok λm k=>⟨.str _,H,I.tok _,⟨_,rfl⟩,q⟩
end L2
namespace QD
open PySem L2 PySem.Spec PyProof.Rows
noncomputable def yk(sep:List Nat):List (List Nat)->List Nat
 | []=>[]
 | [x]=>x
 | x::y::r=>x++sep++yk sep (y::r)
theorem x5(a:List Nat):∀ ws:List (List Nat),Str.join (S a) (ws.map S)=S (yk a ws)
 | []=>rfl
 | [x]=>rfl
 | x::y::r=>by
  show S x++S a++Str.join (S a) ((y::r).map S)=_;rw[x5 a (y::r),jjg,jjg];rfl
noncomputable def zw:List D->Option (List (List Nat))
 | []=>some []
 | .str w::l=>match zw l with
  | some ws=>some (w::ws)
  | none=>none
 | _::_=>none
@[simp] theorem jbN(l:List (List Nat)):zw (l.map D.str)=some l:=by
 induction l with
 | nil=>rfl
 | cons x l a=>simp[zw,a]
section
variable {R:RC}{Z:Zn}{H:Hp}
theorem jbm:∀{l:List D}{ws:List (List Nat)}{vs:List V}{O:List Addr},zw l=some ws->Reps R Z H l vs O->vs=(ws.map S).map V.str
 | [],ws,vs,O,e,r=>by
  cases e;have:=r.length;exact List.length_eq_zero_iff.mp this
 | x::l,ws,vs,O,e,r=>by
  cases x with
  | str w =>
   simp only[zw] at e;cases e1:zw l with
   | none=>rw[e1] at e;cases e
   | some a =>
    rw[e1] at e;cases e;obtain⟨v,b,P,f,rfl,-,c,d⟩:=r;obtain⟨rfl,_⟩:=c.str_of;rw[jbm e1 d];rfl
  | _=>cases e
noncomputable def J5(sep:List Nat)(ws:List (List Nat)):Bool:=decide ((ws.map List.length).sum+ws.length*sep.length<=1000000)
theorem jd9{a:List Nat}{ws:List (List Nat)}(h:J5 a ws=true):JoinOk (S a) (ws.map S)=true:=by
 unfold J5 at h;have h:=X3 h;unfold JoinOk;rw[StrLaws.joinTotal];have e:((ws.map S).map (·.length))=ws.map List.length:=by
  rw[U2];exact List.map_congr_left λw _=>Jr w
 rw[e,L0,Jr];unfold Builtin.Str.tooLong;have:sizeLine=16777216:=by decide
 simp
 lia
noncomputable def xV:D->List D->Option D
 | .str sep,[.lst _ l]=>match zw l with
  | some ws=>bif J5 sep ws then some (.str (yk sep ws)) else none
  | none=>none
 | _,_=>none
theorem jaR:BM R "str" (λx vs H Q=>∃(a:Str) (p:Addr) (ws:List Str),x=.str a/\vs=[.ref p]/\SqL R.K H p (ws.map V.str)/\JoinOk a ws=true/\Q (.str (Txt.join a ws)) H) xV:=by
 intro Z H x d xs v vs i j z r c e Q k;unfold xV at e;split at e
 ·rename_i b o l;cases e1:zw l with
  | none=>rw[e1] at e;cases e
  | some ws =>
   rw[e1] at e;dsimp only at e;cases hm:J5 b ws with
   | false=>rw[hm] at e;cases e
   | true =>
    rw[hm] at e;cases e;obtain⟨rfl,_⟩:=r.str_of;obtain⟨v,rfl,f⟩:=c.one_of;obtain⟨p,m,n,rfl,g,c⟩:=f.lst_of;have:=jbm e1 c;subst this;refine⟨S b,p,ws.map S,rfl,rfl,g.sq,jd9 hm,?_⟩;have h:Txt.join (S b) (ws.map S)=S (yk b ws):=(StrLaws.glued_eq_join _ _).trans (x5 b ws);rw[h];exact k (Go.id z) .str_mk
 ·cases e
noncomputable def vj(a b:List Nat):List (List Nat):=(Txt.split (S a) (S b)).map λw=>w.cps.toList
noncomputable def KR:D->List D->Option D
 | .str a,[.str b]=>bif !b.isEmpty&&decide (a.length<=1000000) then some (.lst true ((vj a b).map D.str)) else none
 | _,_=>none
theorem jeL(ws:List Str):Reps R Z H ((ws.map λw=>w.cps.toList).map D.str) (ws.map V.str) []:=by
 induction ws with
 | nil=>exact .empty
 | cons w ws a =>
  refine .cons (O:=[]) (P:=[]) ?_ a;have:=jn3 w;show Rep R Z H (.str w.cps.toList) (.str w) [];rw[this,vR];exact .str_mk
theorem wc:BM R "str" (λx vs H Q=>∃ a b,x=.str a/\vs=[.str b]/\(b.length==0)=false/\a.length+2<=sizeLine/\∀ p,H p=none->Q (.ref p) (upd H p (.lst ((Txt.split a b).map V.str)))) KR:=by
 intro Z H x d xs v vs h i z r f e Q k;unfold KR at e;split at e
 ·rename_i a b;cases hm:(!b.isEmpty&&decide (a.length<=1000000)) with
  | false=>rw[hm] at e;cases e
  | true =>
   rw[hm] at e;cases e;simp only[M0,decide_eq_true_eq,Bool.not_eq_true',List.isEmpty_eq_false_iff] at hm;obtain⟨rfl,_⟩:=r.str_of;obtain⟨v,rfl,g⟩:=f.one_of;obtain⟨rfl,_⟩:=g.str_of;have j:sizeLine=16777216:=by decide
   refine⟨_,_,rfl,rfl,?_,?_,λp c=>k (Go.newO (wf0 z) c) (Rep.lstNew (wf0 z) c (jeL _))⟩
   ·rw[Jr];have:=List.length_pos_iff.mpr hm.1;exact U3.mpr (by lia)
   ·rw[Jr];lia
 ·cases e
end
section
variable {cl:Nat->Addr}{X:Cx}{o e:Expr}{es:List Expr}{to:TE}{po:PF}{tr:TA}{pr:PAf}{name:Str}{apos cpos:Pos}{T id:String}{r:V->List V->Hp->VK->Prop}{g:D->List D->Option D}
theorem jjz(pa:PlainAttrs T)(slot:Slot T name id)(f:typeOf (.builtin id)=pure (.type "method_descriptor"))(j:MtR X id r)(k:BM ⟨X.K,cl⟩ T r g)(h:QB cl X o to po)(i:QBs cl X (e::es) tr pr)
  (b:attributeBase o name X.env (eval o X.env)=eval o X.env:=by rfl)
  (d:((backTo cpos (starEach (e::es) X.env)).all (λx=>!x.1)&&(backToKw cpos (keywordEach [] X.env)).all (λx=>x.1.isSome)
   && decide ((e::es).length+([]:List Keyword).length+(if([]:List Keyword).isEmpty then 0 else 1) < 30))=true:=by rfl)
  (c:(apos.endLine==cpos.line)=true:=by rfl) (l:starEach (e::es) X.env=(false,eval e X.env)::starEach es X.env:=by rfl) (a:(backTo cpos (starEach es X.env)).any (·.1)=false:=by rfl) :
  QP cl X (.Call (.Attribute o name apos) (e::es) [] cpos) (tBM X.K T r to tr) (pBM T g po pr) :=
 ⟨jeA pa slot f j h.sem i.sem b d c l a,jmv k h.den i.den⟩
end
@[simp] theorem pBM_e{g:D->List D->Option D}{pa:PF}{pr:PAf}{ρ:Rh}:pBM "str" g pa pr ρ=(pa ρ).bind λx=>bif isT "str" x then(pr ρ).bind λxs=>g x xs else none:=by
 unfold pBM;cases pa ρ with
 | none=>rfl
 | some x=>dsimp only[Option.bind];cases isT "str" x<;>cases pr ρ<;>rfl
@[simp] theorem isT_str(w:List Nat):isT "str" (.str w)=true:=rfl
@[simp] theorem xR(a:List Nat)(o:Bool)(l:List D):xV (.str a) [.lst o l]=(zw l).bind λws=>bif J5 a ws then some (.str (yk a ws)) else none:=by
 unfold xV;cases h:zw l<;>simp[h]
end QD
namespace QK
open PySem L2 QD PySem.Spec PyProof.Rows
section
variable {cl:Nat->Addr}{pm:List Nat}{X:Cx}{a b c e o:Expr}{es:List Expr}{ta tb tc te to:TE}{pa pb pc pe po:PF}{tr:TA}{pr:PAf}{pos:Pos}{K:PySem.W.Frag}
variable {tg iter elt:Expr}{ifs:List Expr}{wi:TI}{pi:PAf}{t:TG}{g:D->Rh->Option Rh}
theorem add(c:X.K=K)(d:QB cl X a ta pa)(e:QB cl X b tb pb):QP cl X (.BinOp a .Add b pos) (tOp (jfa K) ta tb) (p2 yN pa pb):=by subst c;exact v8 d e
theorem ix(c:X.K=K)(d:QB cl X a ta pa)(e:QB cl X b tb pb)(f:Q9 b:=by exact λ_ _=>rfl):QB cl X (.Subscript a b pos) (tOp (rIx K) ta tb) (p2 jF pa pb):=by subst c;exact yM d e f
theorem c_in(a:X.K=K)(c:behindInMarks .In b=false):CmpR cl X .In b (jjA K false) (zG false):=by subst a;exact QD.c_in c
theorem c_ne{k:Nat}(a:X.K=K)(c:Room k X.A):CmpR cl X .NotEq b (λx y H Q=>rNe x y H Q \/ jjt ⟨K,cl⟩ true x y H Q) vX:=by subst a;exact QD.c_ne c
theorem join(b:X.K=K):MtR X "str.join" (λx vs H Q=>∃(a:Str) (p:Addr) (ws:List Str),x=.str a/\vs=[.ref p]/\SqL K H p (ws.map V.str)/\JoinOk a ws=true/\Q (.str (Txt.join a ws)) H):=by subst b;exact jae
theorem bm{name:Str}{apos cpos:Pos}{T id:String}{r:V->List V->Hp->VK->Prop}{g:D->List D->Option D}(h:X.K=K)(pa:PlainAttrs T)(slot:Slot T name id)(f:typeOf (.builtin id)=pure (.type "method_descriptor"))(i:MtR X id r)(j:BM ⟨X.K,cl⟩ T r g)(k:QB cl X o to po)(l:QBs cl X (e::es) tr pr)
  (b:attributeBase o name X.env (eval o X.env)=eval o X.env:=by rfl)
  (d:((backTo cpos (starEach (e::es) X.env)).all (λx=>!x.1)&&(backToKw cpos (keywordEach [] X.env)).all (λx=>x.1.isSome)
   && decide ((e::es).length+([]:List Keyword).length+(if([]:List Keyword).isEmpty then 0 else 1) < 30))=true:=by rfl)
  (c:(apos.endLine==cpos.line)=true:=by rfl) (m:starEach (e::es) X.env=(false,eval e X.env)::starEach es X.env:=by rfl) (a:(backTo cpos (starEach es X.env)).any (·.1)=false:=by rfl) :
  QP cl X (.Call (.Attribute o name apos) (e::es) [] cpos) (tBM K T r to tr) (pBM T g po pr):=by
 subst h;exact jjz pa slot f i j k l b d c m a
theorem ib_any(a:X.K=K)(h:QB cl X e te pe):QIb cl X tg e (jl7 K te) (jcy pe):=by subst a;exact Qs h
end
end QK
namespace QD
open PySem L2 PySem.Spec PyProof.Rows
structure QGo(cl:Nat->Addr)(pm:List Nat)(X:Cx)(tg:Expr)(t:TG)(g:D->Rh->Option Rh):Prop where
 sem:PG X tg t
 den:DG ⟨X.K,cl⟩ pm t g
structure QGos(cl:Nat->Addr)(pm:List Nat)(X:Cx)(tg:List Expr)(t:TGs)(g:List D->Rh->Option Rh):Prop where
 sem:PGs X tg t
 den:DGs ⟨X.K,cl⟩ pm t g
end QD
namespace L2
open PySem PySem.Spec PyProof.Rows
section
variable {κ:Type} [DecidableEq κ]
noncomputable def jcz(kvs:List (κ×V))(k:κ):Option V:=(kvs.find? λkv=>decide (kv.1=k)).map (·.2)
theorem jbk{p:κ×V}{r:List (κ×V)}{k:κ}(e:p.1=k):jcz (p::r) k=some p.2:=by simp[jcz,List.find?_cons,e]
theorem jbv{p:κ×V}{r:List (κ×V)}{k:κ}(e:¬ p.1=k):jcz (p::r) k=jcz r k:=by simp[jcz,List.find?_cons,e]
theorem RelO.getD{o:Option V}{u:Option Value}{d:V}{d':Value}(r:RelO o u)(a:RelV d d'):RelV (o.getD d) (u.getD d'):=by
 cases o with
 | none=>cases u with
  | none=>exact a
  | some _=>exact(show False from r).elim
 | some _=>cases u with
  | none=>exact(show False from r).elim
  | some _=>exact r
theorem KV.val{a:List (κ×V)}{vs:List (κ×Value)}(r:KV a vs)(k:κ):RelO (jcz a k) (valueAt vs k):=by
 unfold KV at r
 induction r with
 | nil=>exact True.intro
 | @cons p q j c h t g =>
  obtain⟨f,i⟩:=h;by_cases e:p.1=k
  ·have d:q.1=k:=f.symm.trans e;have b:valueAt (q::c) k=some q.2:=by simp[valueAt,List.find?_cons,d]
   rw[jbk e,b];exact i
  ·have d:¬ q.1=k:=λz=>e (f.trans z);have b:valueAt (q::c) k=valueAt c k:=by simp[valueAt,List.find?_cons,d]
   rw[jbv e,b];exact g
end
theorem jks{P:Program}{w:World}{k:Key}{u:Value}(r:RelV (kV k) u):(qk P w).is k u=true:=by
 cases k with
 | inl i=>obtain⟨t,e⟩:=(show ∃ t,u=Value.int i t from r);subst e;exact jas P w i t
 | inr x=>obtain⟨t,e⟩:=(show ∃ t,u=Value.str x t from r);subst e;exact YZ P w x t
abbrev KT(H:Hp):List (List Key×V)->List (List Key×Addr×Value)->Prop:=Paired λp q=>p.1=q.1/\H q.2.1=some (.tup (p.1.map kV))/\RelV p.2 q.2.2
def jnF(i:Expr):Prop:=∀ ov iv,subscripted i false ov iv=operate [ov,iv] (getItem ov iv)
theorem jix{prog:Program}{w:World}{A:Around}{E:Value->Shared->Prop}{s:Shared}{env:Env}{value slice:Expr}{pos:Pos}{T id:String}{Q:Value->Shared->Prop}
  (e:typeLookup (.type T) "__getitem__" = pure (some (.builtin id))) (f:jnF slice)
  (h:wpAny (model prog w) A (eval value env) (λo s₁=>wpAny (model prog w) A (eval slice env) (λi s₂=>s₂.TypeIs o T/\wpAny (model prog w) A (getItem o i) Q E s₂) E s₁) E s) :
  wpAny (model prog w) A (eval (.Subscript value slice pos) env) Q E s:=by
 refine Subscript_ (wpAny_mono h (λo s₁ g=>wpAny_mono g (λi s₂ b=>?_) λ_ _ x=>x) λ_ _ x=>x);obtain⟨c,b⟩:=b;unfold subscriptTail;refine L3 ?_;rw[getitemInPython_of_ne c.not_modules];refine L3 (wpAny_specialOf c e ?_);have a:wpAny (model prog w) A (subscripted slice false o i) (λr d=>wpAny (model prog w) A (letTemporaryGo value o r >>= λ_=>pure r) Q E d) E s₂:=by
  rw[f o i];exact wpAny_operating (wpAny_mono b (λr d j=>L3 (wpAny_letTemporaryGo (M7 j))) λ_ _ x=>x)
 first
  | exact M7 (L3 a)
  | exact L3 (M7 (L3 a))
  | exact L3 a
def jgy:List (TE×TE)->St->Hp->(List (V×V)->Hp->Prop)->Prop
 | [],_,H,Q=>Q [] H
 | (tk,tv)::r,σ,H,Q=>tk σ H λx H1=>tv σ H1 λy H2=>jgy r σ H2 λps H3=>Q ((x,y)::ps) H3
structure M1(X:Cx)(o:Expr)(m:Str)(apos:Pos)(e:Expr)(cpos:Pos):Prop where
 base:attributeBase o m X.env (eval o X.env)=eval o X.env
 few:((backTo cpos (starEach [e] X.env)).all (λx=>!x.1)&&(backToKw cpos (keywordEach [] X.env)).all (λx=>x.1.isSome)
  && decide (([e]:List Expr).length+([]:List Keyword).length+(if([]:List Keyword).isEmpty then 0 else 1) < 30))=true
 line:(apos.endLine==cpos.line)=true
 trees:backTo cpos (starEach [e] X.env)=[(false,eval e X.env)]
structure M2(X:Cx)(o:Expr)(m:Str)(apos:Pos)(e f:Expr)(cpos:Pos):Prop where
 base:attributeBase o m X.env (eval o X.env)=eval o X.env
 few:((backTo cpos (starEach [e,f] X.env)).all (λx=>!x.1)&&(backToKw cpos (keywordEach [] X.env)).all (λx=>x.1.isSome)
  && decide (([e,f]:List Expr).length+([]:List Keyword).length+(if([]:List Keyword).isEmpty then 0 else 1) < 30))=true
 line:(apos.endLine==cpos.line)=true
 trees:backTo cpos (starEach [e,f] X.env)=[(false,eval e X.env),(false,eval f X.env)]
end L2
namespace QD
open PySem L2 PySem.Spec PyProof.Rows
section
variable {R:RC}{Z Z':Zn}{H H':Hp}{pm:List Nat}
noncomputable def xH:D->Option KA
 | .int i=>some (.int i)
 | .str s=>some (.str s)
 | _=>none
theorem wC(e:xH d=some k)(r:Rep R Z H d v O):v=kV (kaV k)/\O=[]:=by
 cases d with
 | int i=>cases e;rw[Rep] at r;exact r
 | str s=>cases e;rw[Rep] at r;exact r
 | _=>cases e
theorem jhQ(h:kaV a=kaV b):a=b:=by
 cases a<;>cases b<;>simp only[kaV] at h
 ·cases h;rfl
 ·cases h
 ·cases h
 ·have:=jka (Sum.inr.inj h);rw[this]
noncomputable def zQ:List KA->List D->KA->Option D
 | k::ks,d::l,a=>if k=a then some d else zQ ks l a
 | _,_,_=>none
theorem xM:∀{ks:List KA}{l:List D}{vs:List V}{O:List Addr}{a:KA},Reps R Z H l vs O->ks.length=l.length ->
  (∀ d,zQ ks l a=some d->∃ v P,jcz ((ks.map kaV).zip vs) (kaV a)=some v/\Rep R Z H d v P)/\(zQ ks l a=none->jcz ((ks.map kaV).zip vs) (kaV a)=none)
 | [],l,vs,O,a,r,c=>⟨λd e=>(by cases l<;>cases e),λ_=>rfl⟩
 | k::ks,[],vs,O,a,r,c=>by simp at c
 | k::ks,x::l,vs,O,a,r,c=>by
  rw[Reps] at r;obtain⟨v,b,f,n,rfl,rfl,g,i⟩:=r;have j:=xM (a:=a) i (by simpa using c);by_cases e:k=a
  ·subst e;refine⟨λd h=>?_,λh=>?_⟩
   ·simp only[zQ,if_true] at h;cases h;exact⟨v,f,jbk rfl,g⟩
   ·simp[zQ] at h
  ·have m:¬ (kaV k=kaV a):=λz=>e (jhQ z);have q:jcz (((k::ks).map kaV).zip (v::b)) (kaV a)=jcz ((ks.map kaV).zip b) (kaV a):=jbv m;rw[q];simp only[zQ,if_neg e];exact j
noncomputable def p3(g:D->D->D->Option D)(pa pb pc:PF):PF:=λρ=>match pa ρ with
 | none=>none
 | some x=>match pb ρ with
  | none=>none
  | some y=>match pc ρ with
   | none=>none
   | some z=>g x y z
end
@[simp] theorem p3_e:p3 g pa pb pc ρ=(pa ρ).bind λx=>(pb ρ).bind λy=>(pc ρ).bind λz=>g x y z:=by
 unfold p3;cases pa ρ with
 | none=>rfl
 | some x =>
  dsimp only[Option.bind];cases pb ρ with
  | none=>rfl
  | some y=>dsimp only;cases pc ρ<;>rfl
@[simp] theorem keyOf_int(i:Int):xH (.int i)=some (.int i):=rfl
@[simp] theorem keyOf_str(s:List Nat):xH (.str s)=some (.str s):=rfl
theorem jhP{P:Program}{w:World}{K:PySem.W.Frag}{cl:Nat->Addr}{mg:Str->Option Value}{base:Heap}{k n:Nat}{f:Addr}{fd:FuncData}{ps:List Str}:FnOk P w K mg base CX0 k f fd ps (spP ⟨K,cl⟩ (λ_=>none) n) :=
 ⟨λa H Q E ⟨_,_,_,_,_,_,h,_⟩=>(nomatch h),λA outer s H args b a Q E _ _ _ _ ⟨_,_,_,_,_,_,h,_⟩=>(nomatch h)⟩
end QD
namespace PySem
open Sem (wp)
namespace F
end F
end PySem
namespace L2
open PySem PySem.Spec PyProof.Rows
end L2
namespace QD
open PySem L2 PySem.Spec PyProof.Rows
end QD
namespace QK
open PySem L2 QD PySem.Spec PyProof.Rows
end QK
namespace QD
open PySem L2 PySem.Spec PyProof.Rows
end QD
namespace L2
open PySem PySem.Spec PyProof.Rows
end L2
namespace QD
open PySem L2 PySem.Spec PyProof.Rows
theorem jcJ(h:ixN l.length j=some i)(k:l[i]?=some x):L2.atI l j=some x:=by
 unfold L2.atI;rw[h];exact k
structure QDs(cl:Nat->Addr)(X:Cx)(es:List Expr)(ta:TA)(f:FA):Prop where
 sem:PA X es ta
 den:DA ⟨X.K,cl⟩ ta f
end QD
namespace L2
open PySem PySem.Spec PyProof.Rows
end L2
namespace QD
open PySem L2 PySem.Spec PyProof.Rows
end QD
namespace L2
open PySem PySem.Spec PyProof.Rows
noncomputable def qQ(scope:Scope)(env:Env)(C:Addr):List (Str×Addr):=cellsFrom (C+1) scope.names (xf scope env)
theorem jdc:∀{names:List (Str×NameKind)}{n:Nat}{acc:List (Str×Addr)},(∀ x y c,acc.lookup x=some c->acc.lookup y=some c->x=y)->(∀ x c,acc.lookup x=some c->c < n)->∀ x y c,(cellsFrom n names acc).lookup x=some c->(cellsFrom n names acc).lookup y=some c->x=y
 | [],n,acc,h,_=>h
 | (a,k)::r,n,acc,h,e=>by
  unfold cellsFrom;split
  ·refine jdc (λx y c b d=>?_) (λx c b=>?_)
   ·rw[List.lookup_cons] at b d;cases e1:x==a with
    | true =>
     rw[e1] at b;cases b;cases e2:y==a with
     | true=>rw[eq_of_beq e1,eq_of_beq e2]
     | false=>rw[e2] at d;exact absurd (e y _ d) (Nat.lt_irrefl _)
    | false =>
     rw[e1] at b;cases e2:y==a with
     | true=>rw[e2] at d;cases d;exact absurd (e x _ b) (Nat.lt_irrefl _)
     | false=>rw[e2] at d;exact h x y c b d
   ·rw[List.lookup_cons] at b;cases e1:x==a with
    | true=>rw[e1] at b;cases b;exact Nat.lt_succ_self _
    | false=>rw[e1] at b;exact Nat.lt_succ_of_lt (e x c b)
  ·exact jdc h e
theorem jlE(h:∀ x y c,(xf scope env).lookup x=some c->(xf scope env).lookup y=some c->x=y)(a:∀ x c,(xf scope env).lookup x=some c->c < C+1)(x y:Str)(c:Addr)(h1:(qQ scope env C).lookup x=some c)(h2:(qQ scope env C).lookup y=some c):x=y:=jdc h a x y c h1 h2
theorem jav:∀{names:List (Str×NameKind)}{n:Nat}{acc:List (Str×Addr)},(∃ c,acc.lookup x=some c)->∃ c,(cellsFrom n names acc).lookup x=some c
 | [],_,_,h=>h
 | (a,k)::r,n,acc,h=>by
  unfold cellsFrom;split
  ·refine jav ?_;rw[List.lookup_cons];cases x==a with
   | true=>exact⟨n,rfl⟩
   | false=>exact h
  ·exact jav h
theorem jcZ:∀{names:List (Str×NameKind)}{n:Nat}{acc:List (Str×Addr)},(x,NameKind.cell)∈names->∃ c,(cellsFrom n names acc).lookup x=some c
 | [],_,_,h=>nomatch h
 | (a,k)::r,n,acc,h=>by
  unfold cellsFrom;rcases M5.mp h with e | e
  ·cases e;rw[if_pos (show(NameKind.cell==NameKind.cell)=true from rfl)];refine jav ⟨n,?_⟩;rw[List.lookup_cons,beq_self_eq_true]
  ·split
   ·exact jcZ e
   ·exact jcZ e
theorem jkq(h:(x,NameKind.cell)∈scope.names):∃ c,(qQ scope env C).lookup x=some c:=jcZ h
theorem uU:∀{names:List (Str×NameKind)}{n:Nat}{acc:List (Str×Addr)},(x,NameKind.cell)∉names->(cellsFrom n names acc).lookup x=acc.lookup x
 | [],_,_,_=>rfl
 | (a,k)::r,n,acc,h=>by
  unfold cellsFrom;split
  ·rename_i b;have b:=eq_of_beq b;subst b;rw[uU λz=>h (L6 _ z),List.lookup_cons];have:(x==a)=false:=U3.mpr λz=>h (by rw[z];exact L7);rw[this]
  ·exact uU λz=>h (L6 _ z)
theorem jaC:∀(names:List (Str×NameKind)) (h:Heap) (acc:List (Str×Addr)) (x:Str) (c:Addr),(cellsFrom h.objs.size names acc).lookup x=some c->(h.objs.size<=c/\(pushCells h names).IsCell c none) \/ acc.lookup x=some c
 | [],_,_,_,_,e=>.inr e
 | (a,k)::r,h,acc,x,c,e=>by
  unfold cellsFrom at e;unfold pushCells;split at e
  ·rename_i b;rw[if_pos b];rcases jaC r (h.push { cls:=.type "cell",data:=.cell none }) ((a,h.objs.size)::acc) x c (by rw[Heap.size_push];exact e) with q | q
   ·rw[Heap.size_push] at q;exact .inl ⟨Nat.le_of_succ_le q.1,q.2⟩
   ·rw[List.lookup_cons] at q;cases e1:x==a with
    | true =>
     rw[e1] at q;cases q;exact .inl ⟨M9 _,⟨_,pushCells_keeps r _ _ _ (X7 _ rfl),rfl⟩⟩
    | false=>rw[e1] at q;exact .inr q
  ·rename_i b;rw[if_neg b];exact jaC r h acc x c e
theorem zX:∀(l:List (Str×NameKind)) (cs:List (Str×Addr)),(x,c)∈jbV env l cs->(x,c)∈cs \/ (x,NameKind.free)∈l
 | [],_,h=>.inl h
 | (n,k)::r,cs,h=>by
  unfold jbV at h;rcases zX r _ h with z | z
  ·split at z
   ·rename_i a;split at z
    ·rcases M5.mp z with e | e
     ·cases e;have a:=eq_of_beq a;subst a;exact .inr L7
     ·exact .inl e
    ·exact .inl z
   ·exact .inl z
  ·exact .inr (L6 _ z)
theorem jd6(h:(xf scope env).lookup x=some c):(x,NameKind.free)∈scope.names:=by
 rcases zX scope.names [] (PySem.mem_of_lookup h) with z | z
 ·exact nomatch z
 ·exact z
theorem wl 
  (h:Q (newEnv scope s.heap.objs.size globals (cellsFrom (s.heap.objs.size+1) scope.names cl) qual none .none (some env) builtinsNs) { s with heap:=pushCells (s.heap.push { cls:=.type "dict",data:=.dict #[] }) scope.names }) :
  wpAny M A (newFunctionEnv scope globals cl [] qual none .none (some env)) Q E s:=by
 simp only[newFunctionEnv,if_true,Option.isSome_some];refine L3 (wpAny_alloc ?_);refine L3 (wpAny_layCells _ (λnm a b=>by cases hq:a==NameKind.cell<;>simp[hq]) _ _ _ _ ?_);rw[show({ s with heap:=s.heap.push { cls:=.type "dict",data:=.dict #[] } }:Shared).heap.objs.size=s.heap.objs.size+1 from Heap.size_push ..];rw[List.forIn_nil];exact L3 (M7 (M7 h))
noncomputable def ki(X:Cx)(scope:Scope)(N':List Str)(C:Addr)(s₃:Shared)(H₃:Hp)(fp:List Addr):Cx :=
 { X with N:=N',s₀:=s₃,H₀:=H₃,env:=compEnvC scope (qQ scope X.env C) C X.env,outer:=X.stack,stack:=X.stack,ex:=fp,fn:=λx=>scope.names.lookup x==some NameKind.cell,pn:=[],xe:=λ_ _=>False }
structure BlockOkC(X:Cx)(scope:Scope)(N':List Str)(ix:List (Option Nat)):Prop where
 kind:scope.kind=.function
 names:∀ y∈scope.names,y.2=.local->scope.names.lookup y.1=some .local
 cells:∀ y∈scope.names,y.2=.cell->scope.names.lookup y.1=some .cell
 uniq:∀ y∈scope.names,y.2=.free->scope.names.lookup y.1=some .free
 outer:∀ y∈scope.names,y.2=.free->X.env.kindOf y.1=some .cell \/ X.env.kindOf y.1=some .free
 nd:N'.Nodup
 len:ix.length=N'.length
 at_:∀(i j:Nat) (x:Str),ix[i]?=some (some j)->N'[i]?=some x->X.N[j]?=some x/\(x,NameKind.free)∈scope.names
 func:X.env.scope.kind=.function
theorem BlockOkC.free(B:BlockOkC X scope N' ix)  (h:(x,NameKind.free)∈scope.names):(qQ scope X.env C).lookup x=(xf scope X.env).lookup x :=
 uU λz=>by
  have a:=B.cells _ z rfl;rw[B.uniq _ h rfl] at a;cases a
noncomputable def ux(sc:Scope)(N:List Str)(scope:Scope)(N':List Str)(ix:List (Option Nat)):Bool :=
 decide (scope.kind=.function)&&decide (sc.kind=.function)&&scope.names.all (λy=>!decide (y.2=.cell)||decide (scope.names.lookup y.1=some .cell))&&scope.names.all (λy=>!decide (y.2=.local)||decide (scope.names.lookup y.1=some .local)) &&
 scope.names.all (λy=>!decide (y.2=.free)||(decide (scope.names.lookup y.1=some .free)&&(decide (sc.names.lookup y.1=some .cell)||decide (sc.names.lookup y.1=some .free))))&&decide N'.Nodup&&decide (ix.length=N'.length) &&
 (List.range ix.length).all (λi=>match ix[i]? with | some (some j)=>(match N'[i]? with | some x=>decide (N[j]?=some x)&&decide ((x,NameKind.free)∈scope.names) | none=>true) | _=>true)
theorem jf0(b:Scope)(N:List Str)(h1:X.env.scope=b)(h2:X.N=N)(h:ux b N scope N' ix=true):BlockOkC X scope N' ix:=by
 subst h1;subst h2;unfold ux at h;simp only[M0,decide_eq_true_eq,List.all_eq_true,Bool.or_eq_true,Bool.not_eq_true',decide_eq_false_iff_not] at h;obtain⟨⟨⟨⟨⟨⟨⟨d,f⟩,g⟩,k⟩,c⟩,l⟩,m⟩,n⟩:=h;refine⟨d,λy a e=>?_,λy a e=>?_,λy a e=>?_,λy a e=>?_,l,m,λi j x h1 h2=>?_,f⟩
 ·exact(k y a).elim (λz=>absurd e z) id
 ·exact(g y a).elim (λz=>absurd e z) id
 ·exact(c y a).elim (λz=>absurd e z) λz=>z.1
 ·exact(c y a).elim (λz=>absurd e z) λz=>z.2
 ·have o:i < ix.length:=(L9.mp h1).1;have z:=n i (List.mem_range.mpr o);rw[h1] at z;dsimp only at z;rw[h2] at z;dsimp only at z;simp only[M0,decide_eq_true_eq] at z;exact z
theorem jbH(B:BlockOkC X scope N' ix)(I:Inv X pins σ H s)(w:∀ b∈fp,uA X pins H b)(A:∀ b∈fp,b < s.heap.objs.size)
  (L:h₁.Ns s.heap.objs.size (λ_=>none)) (K:∀ b o,s.heap.get? b=some o->h₁.get? b=some o)
  (h:∀ x c,(qQ scope X.env s.heap.objs.size).lookup x=some c->(s.heap.objs.size+1<=c/\h₁.IsCell c none) \/ (xf scope X.env).lookup x=some c) :
  Inv (ki X scope N' s.heap.objs.size s H fp) [] (yX ix σ) H { s with heap:=h₁,toks:=t }:=by
 have fresh:H s.heap.objs.size=none:=I.hok.fresh (M9 _);have f:∀ x c,(xf scope X.env).lookup x=some c->X.env.cells.lookup x=some c:=λx c e=>JY e;have M:∀ x c,X.env.cells.lookup x=some c->c < s.heap.objs.size:=λx c e=>by
  obtain⟨v,o,C,_⟩:=I.cell x c e;exact N2 C
 refine⟨⟨I.ok.mod,B.kind,I.ok.glob,I.ok.blt,M9 _,jlE (λx y c D E=>I.ok.inj x y c (f x c D) (f y c E)) (λx c e=>Nat.lt_succ_of_lt (M x c (f x c e))),λx F=>?_,(λx c D E=>?_),I.ok.hd,I.ok.frames,.inl rfl,λb n=>⟨N7 (A b n),λx c e=>?_⟩,
  λb o e=>I.bs b o e,N8 I.ok.bsz I.sz,λb o e n=>?_,λb n z=>?_,I.stack,I.stkFree⟩,rfl,I.bare,Un.kept K,⟨_,L,λi x v D E Q=>?_⟩,λx c e=>?_,fresh,λx c e=>?_,(λp R=>nomatch (show p∈([]:List (Addr×Obj)) from R)),I.hok.kept K,?_⟩
 ·have N:(relabel scope X.env).names.lookup x=some .cell \/ (relabel scope X.env).names.lookup x=some .free:=F;have g:(x,NameKind.free)∈scope.names \/ (x,NameKind.cell)∈scope.names:=by
   rcases N with q | q
   ·rcases kf (PySem.mem_of_lookup q) with z | z
    ·exact .inr z
    ·exact .inl z.2
   ·rcases kf (PySem.mem_of_lookup q) with z | z
    ·exact .inl z
    ·exact absurd z.1 (by decide)
  rcases g with g | g
  ·obtain⟨c,O⟩:=I.ok.has x (B.outer _ g rfl);exact⟨c,by show(qQ scope X.env s.heap.objs.size).lookup x=some c;rw[B.free g];exact wa O g⟩
  ·exact jkq g
 ·-- the block's own cells are new
  have F:(scope.names.lookup x==some NameKind.cell)=true:=D;have F:=eq_of_beq F;rcases h x c E with⟨q,_⟩ | q
  ·exact Nat.le_of_succ_le q
  ·exfalso;have w:=jd6 q;have G:=B.uniq _ w rfl;rw[F] at G;cases G
 ·rcases h x c e with⟨q,_⟩ | q
  ·exact Nat.ne_of_gt (U5 (A b n) (Nat.le_of_succ_le q))
  ·exact(w b n).2.2.2.2.1 x c (f x c q)
 ·rcases(w b n).2.2.2.1 with z | z
  ·exact I.ok.noex b o e z
  ·exact absurd (U5 (N2 e) (N8 I.ok.bsz z)) (Nat.lt_irrefl _)
 ·rcases M5.mp (I.stkSub b z) with q | q
  ·exact(w b n).2.1 q
  ·exact(w b n).2.2.1 q
 ·have a:(yX ix σ)[i]?=some (some v):=E;unfold yX at a;rw[List.getElem?_map] at a;cases e:ix[i]? with
  | none=>rw[e] at a;cases a
  | some o =>
   rw[e] at a;cases o with
   | none=>cases a
   | some j =>
    have d:(σ[j]?).join=some v:=X4 a;have S:σ[j]?=some (some v):=by
     cases q:σ[j]? with
     | none=>rw[q] at d;cases d
     | some u=>rw[q] at d;rw[show u=some v from d]
    obtain⟨T,g⟩:=B.at_ i j x e D;have J:=B.outer _ g rfl;obtain⟨m,V,U⟩:=I.loc;obtain⟨u,r,l⟩:=U j x v T S (J.elim (λz=>.inr (.inl z)) λz=>.inr (.inr z));refine⟨u,r,.inr ?_⟩;rcases l with⟨k,_⟩ | ⟨_,c,O,z⟩
    ·rcases J with y | y<;>rw[k] at y<;>cases y
    ·refine⟨?_,c,by show(qQ scope X.env s.heap.objs.size).lookup x=some c;rw[B.free g];exact wa O g,?_⟩
     ·rcases Q with y | y | y
      ·have:(x,NameKind.local)∈(relabel scope X.env).names:=PySem.mem_of_lookup y;rcases kf this with P | P
       ·have G:=B.names _ P rfl;rw[B.uniq _ g rfl] at G;cases G
       ·exact absurd P.1 (by decide)
      ·exact .inl y
      ·exact .inr y
     ·obtain⟨o,C,hd⟩:=z;exact⟨o,K c o C,hd⟩
 ·rcases h x c e with⟨_,q⟩ | q
  ·exact⟨none,q⟩
  ·obtain⟨v,o,C,hd⟩:=I.cell x c (f x c q);exact⟨v,o,K c o C,hd⟩
 ·rcases h x c e with⟨q,_⟩ | q
  ·exact I.hok.fresh (Nat.le_of_succ_le q)
  ·exact I.freeC x c (f x c q)
 ·show(yX ix σ).length=N'.length;unfold yX;rw[L0,B.len]
theorem jbY{X:Cx}{ifs:List Expr}{N':List Str}{ix:List (Option Nat)}{pins:List (Addr×Obj)}{s:Shared}{Q:Addr->Hp->Prop}{use:Option (Value->Sem Unit)}{QQ:Value->Shared->Prop}(B:BlockOkC X scope N' ix)(hc:X.calm=true)(hi:PI X tg iter wi)
  (hg:∀ C s H fp,PG (ki X scope N' C s H fp) tg g) (hif:∀ C s H fp,PIf (ki X scope N' C s H fp) ifs tc) (he:∀ C s H fp,PE (ki X scope N' C s H fp) elt te)
  (hs:∀ x,foldedSetIterable iter X.env x=pure x) (I:Inv X pins σ H s)
  (h:wi σ H λJ H1=>∀ p,H1 p=none->jcA tc te g J p (yX ix σ) (upd H1 p (.lst [])) (Q p))
  (hend:∀ p C s' H',Q p H'->Inv X pins σ H' s'->uA X pins H' C->(∃ m,s'.heap.Ns C m)->compPost (model X.prog X.w) X.A X.xe use QQ (.ref p) C (.ok .next) s') :
  wpAny (model X.prog X.w) X.A (comprehension (.ListComp elt [⟨tg,iter,ifs,0⟩] scope pos) scope X.env pos' (newList []) false (eval iter X.env) use) QQ X.xe s:=by
 have Y:closureFor scope X.env=pure (xf scope X.env):=xj λn k hm hk=>I.ok.has n (B.outer _ hm hk);refine wpAny_comprehension_free rfl hs Y B.kind B.names (thn (hi pins s σ H _ I h) λv s1 h1=>thn h1 λitv a h2=>?_);obtain⟨it,fp,tn,J,M,rfl,I2,T,Z,f2,h2⟩:=h2;refine wpAny_newObj_type (wl ?_);dsimp only;have fr2:M a.heap.objs.size=none:=I2.fresh
 -- the new list
 have I3:Inv X pins σ (upd M a.heap.objs.size (.lst [])) { a with heap:=a.heap.push { cls:=.type "list",data:=.seq ([]:List Value).toArray } }:=I2.lnew (t':=a.toks) .nil (U6 _);generalize hs3:({ a with heap:=a.heap.push { cls:=.type "list",data:=.seq ([]:List Value).toArray } }:Shared)=s3 at I3;have e3:s3.heap=a.heap.push { cls:=.type "list",data:=.seq ([]:List Value).toArray }:=by rw[<- hs3]
 have hk3:∀ b o,a.heap.get? b=some o->s3.heap.get? b=some o:=λb o e=>by rw[e3];exact L8 _ e
 have lt3:∀ b∈fp,b < s3.heap.objs.size:=λb f=>by
  obtain⟨o,e,_⟩:=T.obj _ _ Z b f;exact N2 (hk3 b o e)
 have nep:∀ b∈fp,b≠a.heap.objs.size:=λb f z=>by
  obtain⟨o,e,_⟩:=T.obj _ _ Z b f;exact absurd (N2 e) (by rw[z];exact Nat.lt_irrefl _)
 have N:∀ b∈fp,uA X pins (upd M a.heap.objs.size (.lst [])) b:=λb f=>⟨by rw[jo (nep b f)];exact(f2 b f).1,(f2 b f).2⟩;have sz3:s3.heap.objs.size=(a.heap.push { cls:=.type "list",data:=.seq ([]:List Value).toArray }).objs.size:=by rw[e3]
 have hh₁:∃ O,O=pushCells (s3.heap.push { cls:=.type "dict",data:=.dict #[] }) scope.names:=⟨_,rfl⟩;obtain⟨O,P⟩:=hh₁;rw[<- e3,<- P];have hk4:∀ b o,s3.heap.get? b=some o->O.get? b=some o:=λb o e=>by
  rw[P];exact pushCells_keeps _ _ b o (L8 _ e)
 have hns4:O.Ns s3.heap.objs.size (λ_=>none):=by
  rw[P];exact(Heap.Ns.new s3.heap (.type "dict")).keeps (pushCells_keeps _ _)
 have R:∀ x c,(qQ scope X.env s3.heap.objs.size).lookup x=some c->(s3.heap.objs.size+1<=c/\O.IsCell c none) \/ (xf scope X.env).lookup x=some c:=λx c e=>by
  have q:=jaC scope.names (s3.heap.push { cls:=.type "dict",data:=.dict #[] }) (xf scope X.env) x c (by rw[Heap.size_push];exact e);rw[Heap.size_push,<- P] at q;exact q
 have I4:Inv (ki X scope N' s3.heap.objs.size s3 (upd M a.heap.objs.size (.lst [])) fp) [] (yX ix σ) (upd M a.heap.objs.size (.lst [])) { s3 with heap:=O,toks:=a.toks }:=jbH B I3 N lt3 hns4 hk4 R;have st4:tn 0 O:=T.keep _ _ _ Z λb f o e=>hk4 b o (hk3 b o e);obtain⟨W,⟨m0,w0⟩,turn⟩:=h2 _ fr2;have hg':=hg s3.heap.objs.size s3 (upd M a.heap.objs.size (.lst [])) fp;have S:=hif s3.heap.objs.size s3 (upd M a.heap.objs.size (.lst [])) fp;have he':=he s3.heap.objs.size s3 (upd M a.heap.objs.size (.lst [])) fp;generalize j:ki X scope N' s3.heap.objs.size s3 (upd M a.heap.objs.size (.lst [])) fp=X' at I4 hg' S he';have eP:X'.prog=X.prog:=by rw[<- j];rfl
 have eW:X'.w=X.w:=by rw[<- j];rfl
 have eK:X'.K=X.K:=by rw[<- j];rfl
 have eA:X'.A=X.A:=by rw[<- j];rfl
 have eC:X'.calm=true:=by rw[<- j];exact hc
 have eE:X'.env=compEnvC scope (qQ scope X.env s3.heap.objs.size) s3.heap.objs.size X.env:=by rw[<- j];rfl
 have eX:X'.xe=λ_ _=>False:=by rw[<- j];rfl
 have F:∀{H':Hp},(∀ b∈fp,H' b=none)->∀ b∈fp,uA X' [] H' b:=λhn b f=>by
  refine⟨hn b f,?_,?_,?_,?_,?_⟩
  ·rw[eE];exact N7 (lt3 b f)
  ·rw[<- j];intro z;rcases M5.mp (I3.stkSub b z) with q | q
   ·exact(N b f).2.1 q
   ·exact(N b f).2.2.1 q
  ·rw[<- j];exact .inl f
  ·rw[eE];intro x c e;rcases R x c e with⟨q,_⟩ | q
   ·exact Nat.ne_of_gt (U5 (lt3 b f) (Nat.le_of_succ_le q))
   ·exact(N b f).2.2.2.2.1 x c (JY q)
  ·rw[<- j];exact(λp hp=>nomatch (show p∈([]:List (Addr×Obj)) from hp))
 -- the end of the block
 have fin:∀{l:St}{H':Hp}{s':Shared},Inv X' [] l H' s'->Q a.heap.objs.size H'->compPost (model X.prog X.w) X.A X.xe use QQ (.ref a.heap.objs.size) s3.heap.objs.size (.ok .next) s':=λ{l H' s'} J q=>by
  have hL:X'.env.locals=s3.heap.objs.size:=by rw[eE];rfl
  have un:Un (frs X.stack) fp (upd M a.heap.objs.size (.lst [])) H' s3.heap s'.heap:=by
   have z:=J.base;rw[<- j] at z;exact z
  have hos:s'.os=s3.os:=by
   have z:=J.os;rw[<- j] at z;exact z
  have hok:HOk X.prog X.w H' s'.heap:=by
   have z:=J.hok;rw[eP,eW] at z;exact z
  have fc:H' s3.heap.objs.size=none:=by
   have z:=J.free;rw[hL] at z;exact z
  have I5:Inv X pins σ H' s':=by
   obtain⟨hh,gg,dd,tt,oo⟩:=s';obtain rfl:oo=s3.os:=hos;exact I3.call (h':=hh) (g':=gg) (d':=dd) (t':=tt) (ch:=fp) un hok J.bare λb f=>⟨(N b f).2.2.2.1,(N b f).2.1,(N b f).2.2.2.2.1,(N b f).2.2.2.2.2⟩
  obtain⟨m,hn,_⟩:=J.loc;rw[hL] at hn;exact hend _ _ s' H' q I5 (I3.fpOk (M9 _) fc) ⟨m,hn⟩
 have loop:∀ s',s'=({ s3 with heap:=O,toks:=a.toks }:Shared)->codeAny (model X.prog X.w) X.A (.compLoop (.ListComp elt [⟨tg,iter,ifs,0⟩] scope pos) 0 (.ref it) (.ref a.heap.objs.size) X'.env) (compPost (model X.prog X.w) X.A X.xe use QQ (.ref a.heap.objs.size) s3.heap.objs.size) s':=by
  rintro s' rfl;refine KN (λn s'=>∃ i l H',Inv X' [] l H' s'/\tn i s'.heap/\(∀ b∈fp,H' b=none)/\W i n l H') ?_ m0 ⟨0,_,_,I4,st4,λb f=>(N b f).1,w0⟩;rintro n s5 ⟨i,σ5,H5,I5,st5,fr5,w5⟩;have it5:=T.item X' eP eW eK eC i [] s5 σ5 H5 (λ_ _=>False) I5 (F fr5) st5;have dn5:=T.done X' eP eW eK eC i [] s5 σ5 H5 (λ_ _=>False) I5 (F fr5) st5;rw[eA] at it5 dn5;rcases turn i n σ5 H5 w5 with⟨stop,qn⟩ | ⟨go,step⟩
  ·refine thn (dn5 stop) λr s6 ⟨hr,I6⟩=>?_;subst hr;exact fin I6 qn
  ·refine thn (it5 go) λr s6 ⟨u,hr,h6⟩=>?_;subst hr;refine thn h6 λ_ s7 ⟨x,H7,I7,r7,y7,st7,fr7⟩=>?_;have I7':=I7.pinned (F fr7) (T.obj _ _ st7);have a7:=hg' _ s7 σ5 H7 x u _ I7' r7 (step x H7 y7);rw[eP,eW,eA,eX] at a7;refine thn a7 λ_ s8 ⟨G,H8,I8,q8⟩=>?_;have L:∀{t:Shared}{E:Hp},Inv X' ([]++KI fp s7.heap) G E t->(∃ D,D < n/\W (i+1) D G E)->∃ m,m < n/\∃ i l H',Inv X' [] l H' t/\tn i t.heap/\(∀ b∈fp,H' b=none)/\W i m l H':=λ{t E} U ⟨D,hm,w9⟩=>by
    refine⟨D,hm,i+1,G,E,U.unpinned,T.keep _ _ _ st7 λb f o e=>(U.pin (b,o) (U4 _ (U4 _ (qd f e)))).1,λb f=>?_,w9⟩;obtain⟨o,e,d⟩:=T.obj _ _ st7 b f;exact(U.pin (b,o) (U4 _ (U4 _ (qd f e)))).2.1
   have rest:∀(b:Bool) (t:Shared) (E:Hp),Inv X' ([]++KI fp s7.heap) G E t->(if b=true then te G E λy H6=>∃ ys,H6 a.heap.objs.size=some (.lst ys)/\ys.length < sizeLine/\∃ D,D < n/\W (i+1) D G (upd H6 a.heap.objs.size (.lst (ys++[y])))
     else ∃ D,D < n/\W (i+1) D G E) ->
     if b=true then wpAny (model X.prog X.w) X.A (eval elt X'.env) (λx s₄=>wpAny (model X.prog X.w) X.A (call (.builtin "list.append") [.ref a.heap.objs.size,x]) (λ_ s₅=>∃ m,m < n/\∃ i l H',Inv X' [] l H' s₅/\tn i s₅.heap/\(∀ b∈fp,H' b=none)/\W i m l H') (λ_ _=>False) s₄) (λ_ _=>False) t
     else ∃ m,m < n/\∃ i l H',Inv X' [] l H' t/\tn i t.heap/\(∀ b∈fp,H' b=none)/\W i m l H':=λb t E U q9=>by
    cases b with
    | false =>
     rw[if_neg M4] at q9 ⊢;exact L U q9
    | true =>
     rw[if_pos rfl] at q9 ⊢;have a9:=he' _ t G E _ U q9;rw[eP,eW,eA,eX] at a9;refine thn a9 λyv s10 ⟨y,H10,I10,r10,ys,e10,l10,q10⟩=>?_;have a10:=Vz _ s10 G H10 (.ref a.heap.objs.size) [y] (.ref a.heap.objs.size) [yv] (λ_ H'=>∃ D,D < n/\W (i+1) D G H') I10 rfl (.cons r10 .nil) ⟨_,ys,y,rfl,rfl,e10,l10,q10⟩;rw[eP,eW,eA,eX] at a10;exact thn a10 λ_ s11 ⟨_,H11,I11,_,q11⟩=>L I11 q11
   rcases S with⟨e1,e2⟩ | ⟨c,e1,e2⟩
   ·subst e1;rw[e2] at q8;exact wpAny_tests_nil (rest true s8 H8 I8 q8)
   ·subst e1;have a8:=e2 _ s8 G H8 _ I8 q8;rw[eP,eW,eA,eX] at a8;exact wpAny_tests_one (thn a8 λb t ⟨E,U,q9⟩=>rest b t E U q9)
 have V:codeAny (model X.prog X.w) X.A (.compStart (.ListComp elt [⟨tg,iter,ifs,0⟩] scope pos) 0 (.ref it) (.ref a.heap.objs.size) X'.env) (compPost (model X.prog X.w) X.A X.xe use QQ (.ref a.heap.objs.size) s3.heap.objs.size) { s3 with heap:=O,toks:=a.toks } :=
  codeAny_compStart_list (loop _ rfl) (T.self _ 0 _ _ _ st4 (loop _ rfl))
 rw[eE] at V;subst hs3;exact V
theorem jgh(B:BlockOkC X scope N' ix)(d:X.calm=true)(hi:PI X tg iter wi)
  (e:∀ C s H fp,PG (ki X scope N' C s H fp) tg g) (a:∀ C s H fp,PIf (ki X scope N' C s H fp) ifs tc) (i:∀ C s H fp,PE (ki X scope N' C s H fp) elt te)
  (j:∀ x,foldedSetIterable iter X.env x=pure x:=by intro _;rfl):PE X (.ListComp elt [⟨tg,iter,ifs,0⟩] scope pos) (jar wi g tc te ix):=by
 intro c s σ H Q I h;rw[eval_ListComp];exact jbY (use:=none) (Q:=λp b=>Q (.ref p) b) B d hi e a i j I h λp C o b q k f ⟨m,l⟩=>⟨m,l,λr n=>⟨.ref p,b,k.other f n,rfl,q⟩⟩
end L2
namespace QD
open PySem L2 PySem.Spec PyProof.Rows
theorem jh3(B:BlockOkC X scope N' ix)(d:X.calm=true)(hi:QIb cl X tg iter wi pi)
  (b:∀ C s H fp,QG cl [] (ki X scope N' C s H fp) tg t g) (a:∀ C s H fp,QIf cl (ki X scope N' C s H fp) ifs tcc qq) (c:∀ C s H fp,QP cl (ki X scope N' C s H fp) elt te pe)
  (e:∀ x,foldedSetIterable iter X.env x=pure x:=by intro _;rfl):QP cl X (.ListComp elt [⟨tg,iter,ifs,0⟩] scope pos) (jar wi t tcc te ix) (J1 pi g qq pe ix) :=
 ⟨jgh B d hi.sem (λC s H fp=>(b C s H fp).sem) (λC s H fp=>(a C s H fp).sem) (λC s H fp=>(c C s H fp).sem) e,
  xU hi.den (b 0 X.s₀ X.H₀ []).den (a 0 X.s₀ X.H₀ []).den (c 0 X.s₀ X.H₀ []).den⟩
noncomputable def ja6(scope sc:Scope):Scope:={ scope with names:=scope.names.map λ(n,k)=>if(k==NameKind.free&&sc.kind==.function&&sc.names.lookup n==some .cell) then(n,NameKind.cell) else(n,k) }
theorem jfd(a:Scope)(h1:X.env.scope=a)(h:K5 (ja6 scope0 a) N0 scope N' ix=true):BlockOk (ki X scope0 N0 C s₃ H₃ fp) scope N' ix :=
 jc3 (ja6 scope0 a) N0 (by subst h1;rfl) rfl h
end QD
namespace L2
open PySem PySem.Spec PyProof.Rows
structure KD(P:Program)(w:World)(K:PySem.W.Frag)(a:Addr)(kvs:List (Key×V)):Prop where
 nm:(a==sysModules)=false
 dd:∀ h:Heap,K.In h->∃ vs,KV kvs vs/\h.DictOf (qk P w) a vs
noncomputable def jiX(kvs:List (Key×V))(ty:TE):TE:=λσ H Q=>ty σ H λy H1=>∃ k v,y=kV k/\jcz kvs k=some v/\Q v H1
noncomputable def jcY(kvs:List (Key×V))(ty:TE):TE:=λσ H Q=>ty σ H λy H1=>∃ k,y=kV k/\Q ((jcz kvs k).getD .non) H1
theorem jip{X:Cx}{h:Heap}{vs:List (Key×Value)}(dd:h.DictOf (qk X.prog X.w) a vs):∃ o,h.get? a=some o/\o.cls=.type "dict"/\o.dict=none:=by
 obtain⟨c,_,_,d,b,_⟩:=dd;exact⟨c,d,b.1,b.2.1⟩
theorem jhU(D:KD X.prog X.w X.K a kvs)(e:Gl X x)(f:X.mg x=some (.ref a))(hi:PE X i ty)(g:jnF i)(hd:(x==("__debug__" : Str))=false:=by decide):PE X (.Subscript (.Name x p) i pos) (jiX kvs ty):=by
 intro b s σ H Q I h;refine jix PySem.F.slot_dict_getitem.lookup g (JZ I e f (thn (hi b s σ H _ I h) λt u ⟨y,j,d,l,k,v,m,ev,n⟩=>?_) hd);subst m;obtain⟨q,rel,dd⟩:=D.dd _ d.kIn;obtain⟨z,r,c⟩:=RelO.some_of (v:=v) (o:=valueAt q k) (by rw[<- ev];exact rel.val k);exact⟨dd.typeIs,wpAny_getItem_of (jks l) dd.mapOf r ⟨v,j,d.tok _,c,n⟩⟩
theorem jfu{X:Cx}{c:List (Key×V)}(D:KD X.prog X.w X.K a c)(j:Gl X x)(l:X.mg x=some (.ref a))(n:PE X e ty)(m:M1 X (.Name x p) "get" apos e cpos)(hd:(x==("__debug__" : Str))=false:=by decide):PE X (.Call (.Attribute (.Name x p) "get" apos) [e] [] cpos) (jcY c ty):=by
 intro d s σ H Q I h;obtain⟨C,rel,dd⟩:=D.dd _ I.kIn;refine wpAny_Call_method m.base m.few m.line PySem.F.plainAttrs_dict PySem.F.slot_dict_get PySem.F.type_dict_get (JZ I j l ?_ hd);refine⟨dd.typeIs,λb q=>?_,?_⟩
 ·cases q;obtain⟨o,r,_,t⟩:=jip dd;exact⟨o,r,t⟩
 rw[m.trees];refine Calls.callWith_builtin rfl (Calls.evalArgs_plain (Calls.spliced_cons (thn (n d s σ H _ I h) λE G ⟨y,u,i,v,k,z,A⟩=>Calls.spliced_nil ?_)));subst z;obtain⟨B,f,g⟩:=D.dd _ i.kIn;refine call_meetsIn PySem.F.slot_dict_get g.typeIs PySem.F.entry_dict_get (PySem.F.args_dict_get_2 _ _) (meets_dict_get (qk X.prog X.w) a (jks v) D.nm) ⟨_,g.mapOf,_,u,i.tok _,?_,A⟩;exact(f.val k).getD rfl
noncomputable def jgC(w:World):List Str->List Tok->List Value->List DictEntry
 | x::xs,t::ts,v::vs=>⟨PyData.keyHash w.params x,.str x t,v⟩::jgC w xs ts vs
 | _,_,_=>[]
theorem xq:∀{xs:List Str}{ts:List Tok}{us:List Value},xs.length=ts.length->xs.length=us.length->Pairs (qk P w) (jgC w xs ts us) ((xs.map λx=>(Sum.inr x:Key)).zip us)
 | [],[],[],_,_=>.nil
 | x::xs,t::ts,u::us,a,b=>.cons (YZ P w x t) rfl (xq (by simpa using a) (by simpa using b))
 | [],_::_,_,h,_=>by simp at h
 | [],[],_::_,_,h=>by simp at h
 | _::_,[],_,h,_=>by simp at h
 | _::_,_::_,[],_,h=>by simp at h
theorem um:∀{xs:List Str}{ts:List Tok}{us:List Value},∀ q∈jgC w xs ts us,∃ k,(qk P w).is k q.key=true/\q.hash=(qk P w).hash k
 | x::xs,t::ts,u::us,q,h=>by
  rw[jgC] at h;rcases M5.mp h with rfl | h
  ·exact⟨.inr x,YZ P w x t,rfl⟩
  ·exact um q h
 | [],_,_,q,h=>by simp[jgC] at h
 | _::_,[],_,q,h=>by simp[jgC] at h
 | _::_,_::_,[],q,h=>by simp[jgC] at h
theorem jg3:∀{ks:List Key}{vs:List V}{us:List Value},Vals vs us->KV (ks.zip vs) (ks.zip us)
 | [],_,_,_=>by simp[KV];exact .nil
 | k::ks,[],_,.nil=>by simp[KV];exact .nil
 | k::ks,v::vs,u::us,.cons a b=>by
  rw[U8,U8];exact .cons ⟨rfl,a⟩ (jg3 b)
theorem jlS{K:PySem.W.Frag}{ks:List Key}{xs:List Str}{ts:List Tok}{us:List Value}{vs:List V}{c:Nat}(d:ks=xs.map λx=>(Sum.inr x:Key))(h:K.lookup a=some { cls:=.type "dict",data:=.dict (jgC w xs ts us).toArray c })
  (f:(a==sysModules)=false) (h1:xs.length=ts.length) (h2:xs.length=us.length) (g:Vals vs us) (i:xs.Nodup):KD P w K a (ks.zip vs):=by
 subst d;refine⟨f,λl j=>⟨(xs.map λx=>(Sum.inr x:Key)).zip us,jg3 g,?_⟩⟩;refine⟨_,_,c,j a _ h,⟨rfl,rfl,rfl⟩,rfl,λq k=>um q (by simpa using k),by simpa using xq h1 h2,?_⟩;have e:((xs.map λx=>(Sum.inr x:Key)).zip us).map (·.1)=xs.map λx=>(Sum.inr x:Key):=by
  rw[List.map_fst_zip];rw[L0];lia
 rw[e];exact List.Pairwise.map _ (λa b h z=>h (by cases z;rfl)) i
section
variable {prog:Program}{w:World}{A:Around}{E:Value->Shared->Prop}{s:Shared}
theorem jfI{j t:Addr}{n:Nat}{a:Array Value}{y:Value}{C:Value->Shared->Prop}(d:s.heap.IsTupleIter j t n)(e:s.heap.IsTuple t a)(f:a[n]?=some y)
  (go:∀ k,k.IsTupleIter j t (n+1)->Heap.SameBut j s.heap k->C y { s with heap:=k }):wpAny (model prog w) A (Builtin.SmallTypes.nextOf (.ref j)) C E s:=by
 obtain⟨l,c,g,b⟩:=id d;obtain⟨m,h,_,mt,i⟩:=e;delta Builtin.SmallTypes.nextOf;refine L3 (wpAny_callSpecial?_slot (name:=Str.ofString "__next__") d.typeIs F.slot_tuple_iterator_next (wpAny_call_entry F.slot_tuple_iterator_next d.typeIs F.entry_tuple_iterator_next ?_ (F.args_tuple_iterator_next_1 _)));show wpAny _ _ (field (.ref j) 0 >>= _) _ _ s;refine L3 (U7 c b (x:=.ref t) rfl ?_);show wpAny (model prog w) _ (if(Value.ref t==Value.none)=true then _ else _) _ _ s;rw[if_neg (by exact M4)];show wpAny _ _ (field (.ref j) 1 >>= _) _ _ s;refine L3 (U7 c b (x:=.int n 0) rfl ?_);show wpAny (model prog w) _ (seqItems? (.ref t) >>= _) _ _ s;refine L3 (wpAny_seqItems h i ?_);simp only[N9,f];refine L3 (wpAny_setField c b (by simp) (M7 ⟨y,rfl,M7 (go _ ⟨_,Heap.get?_update_self _ c (Obj.isFreed_of_fields (Obj.data_mapFields b _)),(Obj.cls_mapFields ..).trans g,?_⟩ (Heap.SameBut.update ..))⟩));rw[Obj.data_mapFields b];simp[rawInt]
variable {z TI TO j1 j2 l t:Addr}{m:Nat}{us vs:Array Value}{u v a b:Value}
theorem jfU{C:Value->Shared->Prop}(D:ZipApart z TI TO j1 j2 l t)(j:IsZip s.heap z TI TO .none)(qI:IsPair s.heap TI (.ref j1) (.ref j2))(W:IsPair s.heap TO a b)
  (X:s.heap.IsListIter j1 l m) (Y:s.heap.IsTupleIter j2 t m) (Z:s.heap.IsList l us) (w2:s.heap.IsTuple t vs) (eu:us[m]?=some u) (ev:vs[m]?=some v)
  (go:∀ k,IsZip k z TI TO (rawInt s.heap.objs.size)->IsPair k TO u v->k.IsListIter j1 l (m+1)->k.IsTupleIter j2 t (m+1)->IsPair k s.heap.objs.size u v->k.objs.size=s.heap.objs.size+1 ->
   (∀ c o,c≠z->c≠TO->c≠j1->c≠j2->s.heap.get? c=some o->k.get? c=some o)->C (.ref s.heap.objs.size) { s with heap:=k }) :
  wpAny (model prog w) A (Builtin.«zip.__next__» ⟨[.ref z],[]⟩) (λfin s'=>∃ v,fin=.done (.ret v)/\C v s') E s:=by
 show wpAny (model prog w) A (field (.ref z) 2 >>= _) _ _ _;refine L3 (U7 j rfl (x:=.bool false) rfl ?_);show wpAny (model prog w) A (field (.ref z) 3 >>= _) _ _ _;refine L3 (U7 j rfl (x:=.ref TI) rfl (L3 (wpAny_seqItems qI rfl ?_)));show wpAny (model prog w) A (Builtin.SmallTypes.ownedTupleIsFree (.ref z) >>= _) _ _ _;refine L3 ?_;delta Builtin.SmallTypes.ownedTupleIsFree;refine L3 (U7 j rfl (x:=.none) rfl (M7 ?_));simp only[if_true];refine L3 (wpAny_rule (L3 (U7 j rfl (x:=.ref TO) rfl (L3 (wpAny_setField_rec j (by simp) λk1 G f=>?_)))));replace G:IsZip k1 z TI TO .ellipsis:=G;refine L3 ?_;simp only[List.forIn_cons,List.forIn_nil,List.zipIdx_cons,List.zipIdx_nil];refine L3<|L3<|wpAny_onRaise ?_
 show wpAny _ _ (Builtin.SmallTypes.nextOf (.ref j1) >>= _) _ _ _;refine L3 (wpAny_nextOf_list_item (X.extBut f.extBut D.i1z) (Z.extBut f.extBut D.l1z) eu λk2 p1 h=>M7 ?_);have P:IsPair k2 TO a b:=h.extBut _ _ D.TOi1 (f.extBut _ _ D.TOz W);refine L3 (wpAny_seqItems P rfl (L3 (wpAny_updateSeq_pair P λk3 H i=>?_)));replace H:IsPair k3 TO u b:=H;refine L3 (wpAny_letGo (M7 (L3 (L3 (wpAny_onRaise ?_)))));show wpAny _ _ (Builtin.SmallTypes.nextOf (.ref j2) >>= _) _ _ _;refine L3 (jfI (((Y.extBut f.extBut D.i2z).extBut h.extBut D.i12.symm).extBut i.extBut D.TOi2.symm) (((w2.extBut f.extBut D.l2z).extBut h.extBut D.l2i1).extBut i.extBut D.l2TO) ev λk4 p2 n=>M7 ?_);have Q:IsPair k4 TO u b:=n.extBut _ _ D.TOi2 H;refine L3 (wpAny_seqItems Q rfl (L3 (wpAny_updateSeq_pair Q λd r p=>?_)));replace r:IsPair d TO u v:=r;refine L3 (wpAny_letGo (M7 (M7 (L3 (wpAny_seqItems r rfl (L3 (wpAny_newTuple ?_)))))));have R:d.objs.size=s.heap.objs.size:=by rw[p.1,n.1,i.1,h.1,f.1]
 have S:IsZip d z TI TO .ellipsis:=p.extBut _ _ D.TOz.symm (n.extBut _ _ D.i2z.symm (i.extBut _ _ D.TOz.symm (h.extBut _ _ D.i1z.symm G)));have kp:∀ c o,c≠z->c≠TO->c≠j1->c≠j2->s.heap.get? c=some o->d.get? c=some o:=λc o g y I J e=>p.extBut _ _ y (n.extBut _ _ J (i.extBut _ _ y (h.extBut _ _ I (f.extBut _ _ g e))));have K:d.IsListIter j1 l (m+1):=((p1.extBut i.extBut D.TOi1.symm).extBut n.extBut D.i12).extBut p.extBut D.TOi1.symm;have L:d.IsTupleIter j2 t (m+1):=p2.extBut p.extBut D.TOi2.symm;have T:z < d.objs.size:=N2 S;show wpAny (model prog w) A (Builtin.SmallTypes.ownedTupleHandOut (.ref z) (.ref d.objs.size) >>= _) _ _ _;refine L3 ?_;delta Builtin.SmallTypes.ownedTupleHandOut;have z6:IsZip (d.push { cls:=.type "tuple",data:=.seq #[u,v] }) z TI TO .ellipsis:=L8 _ S;refine L3 (wpAny_setField_rec z6 (by simp) λk7 M N=>?_);replace M:IsZip k7 z TI TO (rawInt d.objs.size):=M;refine wpAny_setField_rec M (by simp) λq B O=>?_;replace B:IsZip q z TI TO (rawInt d.objs.size):=B;have F:∀ c o,c≠z->d.get? c=some o->q.get? c=some o:=λc o g e=>O.extBut _ _ g (N.extBut _ _ g (L8 _ e));have U:IsPair q d.objs.size u v:=O.extBut _ _ (Nat.ne_of_gt T) (N.extBut _ _ (Nat.ne_of_gt T) (X7 _ rfl));have V:q.objs.size=d.objs.size+1:=by rw[O.1,N.1,Heap.size_push]
 rw[R] at B U V;refine M7 ⟨_,rfl,?_⟩;show C (.ref d.objs.size) _;rw[R];obtain⟨x1,y1,r1⟩:=K;obtain⟨x2,y2,r2⟩:=L;exact go q B (F _ _ D.TOz r) ⟨x1,F _ _ D.i1z y1,r1⟩ ⟨x2,F _ _ D.i2z y2,r2⟩ U V λc o g y I J e=>F c o g (kp c o g y I J e)
theorem jiy{C:PySem.Fin->Shared->Prop}(p:A.handled=none)(D:ZipApart z TI TO j1 j2 l t)(a:IsZip s.heap z TI TO .none)(qI:IsPair s.heap TI (.ref j1) (.ref j2))
  (q:s.heap.IsListIter j1 l m) (r:s.heap.IsList l us) (u:us[m]?=none)
  (go:∀ k e,(∀ c o,c≠z->c≠TO->c≠j1->c≠j2->s.heap.get? c=some o->k.get? c=some o)->(∃ o,k.get? e=some o/\o.cls=.type "StopIteration")->E (.ref e) { s with heap:=k }) :
  wpAny (model prog w) A (Builtin.«zip.__next__» ⟨[.ref z],[]⟩) C E s:=by
 show wpAny (model prog w) A (field (.ref z) 2 >>= _) _ _ _;refine L3 (U7 a rfl (x:=.bool false) rfl ?_);show wpAny (model prog w) A (field (.ref z) 3 >>= _) _ _ _;refine L3 (U7 a rfl (x:=.ref TI) rfl (L3 (wpAny_seqItems qI rfl ?_)));show wpAny (model prog w) A (Builtin.SmallTypes.ownedTupleIsFree (.ref z) >>= _) _ _ _;refine L3 ?_;delta Builtin.SmallTypes.ownedTupleIsFree;refine L3 (U7 a rfl (x:=.none) rfl (M7 ?_));simp only[if_true];refine L3 (wpAny_rule (L3 (U7 a rfl (x:=.ref TO) rfl (L3 (wpAny_setField_rec a (by simp) λv b d=>?_)))));replace b:IsZip v z TI TO .ellipsis:=b;refine L3 ?_;simp only[List.forIn_cons,List.forIn_nil,List.zipIdx_cons,List.zipIdx_nil];refine L3<|L3<|wpAny_onRaise ?_
 show wpAny _ _ (Builtin.SmallTypes.nextOf (.ref j1) >>= _) _ _ _;refine L3 (wpAny_nextOf_list_end p (q.extBut d.extBut D.i1z) (r.extBut d.extBut D.l1z) u λy e g B=>?_);obtain⟨F,f,h⟩:=B;have i:IsZip y z TI TO .ellipsis:=g _ _ D.i1z.symm b;have ne:e≠z:=λx=>by subst x;rw[i] at f;cases f;simp at h
 exact wpAny_setField_rec i (by simp) λG _ j=>go G e (λc o n _ H _ x=>j.extBut _ _ n (g _ _ H (d.extBut _ _ n x))) ⟨F,j.extBut _ _ ne f,h⟩
theorem jfk{C:Option Value->Shared->Prop}(D:ZipApart z TI TO j1 j2 l t)(d:IsZip s.heap z TI TO .none)(qI:IsPair s.heap TI (.ref j1) (.ref j2))(e:IsPair s.heap TO a b)
  (f:s.heap.IsListIter j1 l m) (g:s.heap.IsTupleIter j2 t m) (h:s.heap.IsList l us) (i:s.heap.IsTuple t vs) (j:us[m]?=some u) (ev:vs[m]?=some v)
  (go:∀ k,IsZip k z TI TO (rawInt s.heap.objs.size)->IsPair k TO u v->k.IsListIter j1 l (m+1)->k.IsTupleIter j2 t (m+1)->IsPair k s.heap.objs.size u v->k.objs.size=s.heap.objs.size+1 ->
   (∀ c o,c≠z->c≠TO->c≠j1->c≠j2->s.heap.get? c=some o->k.get? c=some o)->C (some (.ref s.heap.objs.size)) { s with heap:=k }):wpAny (model prog w) A (pyNext (.ref z)) C E s:=by
 have ty:s.TypeIs (.ref z) "zip":=⟨_,d,rfl⟩;unfold pyNext;exact L3 (wpAny_attempt (wpAny_callSpecial?_slot (name:=Str.ofString "__next__") ty F.slot_zip_next (wpAny_call_entry F.slot_zip_next ty F.entry_zip_next
  (jfU D d qI e f g h i j ev λk n p q r x y B=>M7 (go k n p q r x y B)) (F.args_zip_next_1 _))))
theorem jeZ{C:Option Value->Shared->Prop}(d:A.handled=none)(D:ZipApart z TI TO j1 j2 l t)(a:IsZip s.heap z TI TO .none)(qI:IsPair s.heap TI (.ref j1) (.ref j2))
  (f:s.heap.IsListIter j1 l m) (g:s.heap.IsList l us) (h:us[m]?=none)
  (go:∀ k,(∀ c o,c≠z->c≠TO->c≠j1->c≠j2->s.heap.get? c=some o->k.get? c=some o)->C none { s with heap:=k }):wpAny (model prog w) A (pyNext (.ref z)) C E s:=by
 have ty:s.TypeIs (.ref z) "zip":=⟨_,a,rfl⟩;unfold pyNext;refine L3 (wpAny_attempt (wpAny_callSpecial?_slot (name:=Str.ofString "__next__") ty F.slot_zip_next (wpAny_call_entry F.slot_zip_next ty F.entry_zip_next (jiy d D a qI f g h λk e kp i=>?_) (F.args_zip_next_1 _))));obtain⟨o,j,n⟩:=i;exact L3 (wpAny_isInstance (T:="StopIteration") (b:=true) ⟨o,j,n⟩ isSubtype_stop (M7 (go _ kp)))
end
noncomputable abbrev zlA(h:Heap)(l:Addr):Heap:=h.push { cls:=.type "list_iterator",data:=.fields #[.ref l,.int 0 0] }
noncomputable abbrev zlB(h:Heap)(l t:Addr):Heap:=(zlA h l).push { cls:=.type "tuple_iterator",data:=.fields #[.ref t,.int 0 0] }
noncomputable abbrev zlC(h:Heap)(l t:Addr):Heap:=(zlB h l t).push { cls:=.type "tuple",data:=.seq #[.ref h.objs.size,.ref (zlA h l).objs.size] }
noncomputable abbrev zlD(h:Heap)(l t:Addr):Heap:=(zlC h l t).push { cls:=.type "tuple",data:=.seq #[.none,.none] }
noncomputable abbrev zlE(h:Heap)(l t:Addr):Heap:=(zlD h l t).push { cls:=.type "zip",data:=.fields #[.none,.bool false,.bool false,.ref (zlB h l t).objs.size,.ref (zlC h l t).objs.size] }
theorem jf1(l t:Addr)(us vs:Array Value):Meets (Builtin.«zip.__new__» ⟨[.type "zip",.ref l,.ref t],[]⟩) (λ_ R s=>s.heap.IsList l us/\s.heap.IsTuple t vs/\R (.ok (.ret (.ref (zlD s.heap l t).objs.size))) { s with heap:=zlE s.heap l t }) :=
 .of_wp λprog w A R s h=>by
  obtain⟨a,g,d,b,os⟩:=s;obtain⟨e,f,h⟩:=h;have c:=sub_zip;have i:Heap.IsList (Shared.heap ⟨a,g,d,b,os⟩) l us:=e;have j:Heap.IsTuple (Shared.heap ⟨a.push { cls:=.type "list_iterator",data:=.fields #[.ref l,.int 0 0] },g,d,b,os⟩) t vs:=Heap.IsTuple.push f _
  wp_walk using wpAny_pyIter_list i,wpAny_pyIter_tuple j
  exact⟨_,rfl,h⟩
section
variable {prog:Program}{w:World}{A:Around}{E:Value->Shared->Prop}{s:Shared}
theorem jfc{l t:Addr}{us vs:Array Value}{C:Value->Shared->Prop}(h1:s.heap.IsList l us)(h2:s.heap.IsTuple t vs)
  (go:∀ k,IsZip k (s.heap.objs.size+4) (s.heap.objs.size+2) (s.heap.objs.size+3) .none->IsPair k (s.heap.objs.size+2) (.ref s.heap.objs.size) (.ref (s.heap.objs.size+1))->IsPair k (s.heap.objs.size+3) .none .none ->
   k.IsListIter s.heap.objs.size l 0->k.IsTupleIter (s.heap.objs.size+1) t 0->(∀ c o,s.heap.get? c=some o->k.get? c=some o)->C (.ref (s.heap.objs.size+4)) { s with heap:=k }) :
  wpAny (model prog w) A (call (.type "zip") [.ref l,.ref t]) C E s:=by
 refine callType_new F.called_zip (by decide) (F.typeCall_zip_2 _ _) (F.newCall_zip_2 _ _) (λobj=>F.args_object_init_3 obj _ _) F.entry_zip_new (jf1 l t us vs) ⟨h1,h2,?_⟩;have a:(zlA s.heap l).objs.size=s.heap.objs.size+1:=Heap.size_push ..;have b:(zlB s.heap l t).objs.size=s.heap.objs.size+2:=by rw[Heap.size_push,a]
 have d:(zlC s.heap l t).objs.size=s.heap.objs.size+3:=by rw[Heap.size_push,b]
 have f:(zlD s.heap l t).objs.size=s.heap.objs.size+4:=by rw[Heap.size_push,d]
 have e:(zlE s.heap l t).get? (zlD s.heap l t).objs.size=some _:=X7 _ rfl;have g:(zlE s.heap l t).get? (zlC s.heap l t).objs.size=some _:=L8 _ (X7 _ rfl);have h:(zlE s.heap l t).get? (zlB s.heap l t).objs.size=some _:=L8 _ (L8 _ (X7 _ rfl));have i:(zlE s.heap l t).get? (zlA s.heap l).objs.size=some _:=L8 _ (L8 _ (L8 _ (X7 _ rfl)));have j:(zlE s.heap l t).get? s.heap.objs.size=some _:=L8 _ (L8 _ (L8 _ (L8 _ (X7 _ rfl))));show _/\_;rw[b,d,f] at e;rw[a,b] at h;rw[d] at g;rw[a] at i;rw[f];exact⟨⟨_,e,rfl⟩,go _ e h g ⟨_,j,rfl,rfl⟩ ⟨_,i,rfl,rfl⟩ λc o x=>L8 _ (L8 _ (L8 _ (L8 _ (L8 _ x))))⟩
end
noncomputable def Izt(K:PySem.W.Frag)(l t:Addr):It :=
 ⟨λi H=>∃ xs ys x y,SqL K H l xs/\SqT K H t ys/\xs[i]?=some x/\ys[i]?=some y,λi H x H'=>∃ p u v,(∀ xs,SqL K H l xs->xs[i]?=some u)/\(∀ ys,SqT K H t ys->ys[i]?=some v)/\x=.ref p/\H p=none/\H'=upd H p (.tup [u,v]),
  λi H=>∃ xs,SqL K H l xs/\xs.length<=i⟩
theorem jfN{P:Program}{w:World}{K:PySem.W.Frag}{F:List Expr}{n:Nat}{pos:Pos}(z TI TO j1 j2 l t:Addr)(D:ZipApart z TI TO j1 j2 l t) :
  Turn P w K (.Tuple F n pos) (Izt K l t) [z,TI,TO,j1,j2] z (λi h=>IsZip h z TI TO .none/\IsPair h TI (.ref j1) (.ref j2)/\(∃ a b,IsPair h TO a b)/\h.IsListIter j1 l i/\h.IsTupleIter j2 t i) where
 mem:=by simp
 obj:=λi h st b p=>by
  obtain⟨g,j,⟨a,c,A⟩,⟨o4,r,_,d4⟩,⟨O,B,_,d5⟩⟩:=st;rcases(by simpa using p:b=z \/ b=TI \/ b=TO \/ b=j1 \/ b=j2) with q | q | q | q | q<;>subst q
  ·exact⟨_,g,λv q=>by cases q⟩
  ·exact⟨_,j,λv q=>by cases q⟩
  ·exact⟨_,A,λv q=>by cases q⟩
  ·exact⟨_,r,λv q=>by rw[d4] at q;cases q⟩
  ·exact⟨_,B,λv q=>by rw[d5] at q;cases q⟩
 keep:=λi h h' st k=>by
  obtain⟨g,j,⟨a,c,A⟩,r,⟨O,B,S⟩⟩:=st;exact⟨k z (by simp) _ g,k TI (by simp) _ j,⟨a,c,k TO (by simp) _ A⟩,r.at λo q=>k j1 (by simp) o q,⟨O,k j2 (by simp) _ B,S⟩⟩
 item:=by
  intro X U V Y hc i G s σ H E I Q st Z;subst U V Y;obtain⟨xs,ys,x,y,m,J,hx,hy⟩:=Z;obtain⟨L,C,p1,hz1⟩:=I.list m;obtain⟨its2,rv2,p2,hz2⟩:=I.tuple J;obtain⟨u,hu,ru⟩:=C.get hx;obtain⟨v,hv,rv⟩:=rv2.get hy;obtain⟨g,j,⟨a,c,A⟩,r,B⟩:=st;refine jfk D g j A r B p1.isList p2 (u:=u) (v:=v) (by simpa using hu) (by simpa using hv) λhh a1 a2 a3 a4 a5 a6 R=>?_;refine⟨_,rfl,wpAny_letOwnedTupleGo_zip (s:={ s with heap:=hh }) a1 λM hz6 f=>?_⟩;replace f:Heap.SameBut z hh M:=f;have lt:∀{c o},s.heap.get? c=some o->c < s.heap.objs.size:=λe=>N2 e;have N:M.get? s.heap.objs.size=_:=(f.2 _ (Nat.ne_of_gt (lt g))).trans a5;have kk:∀ b o,b∉[z,TI,TO,j1,j2]->s.heap.get? b=some o->M.get? b=some o:=λb o p q=>by
   have d:b≠z/\b≠TI/\b≠TO/\b≠j1/\b≠j2:=by simpa using p
   exact(f.2 b d.1).trans (R b o d.1 d.2.2.1 d.2.2.2.1 d.2.2.2.2 q)
  have I1:=I.turnedNew (h':=M) (t':=s.toks) (wr:=[z,TI,TO,j1,j2]) (T:=s.heap.objs.size) (xs:=[x,y]) (its:=#[u,v]) kk Q (M9 _) ⟨⟨_,N,rfl,_,rfl⟩,_,N,rfl⟩ (.cons ru (.cons rv .nil)) (by show 2<=sizeLine;decide);have g5:M.IsTupleIter j2 t (i+1):=by
   obtain⟨O,e5,S⟩:=a4;exact⟨O,(f.2 j2 D.i2z).trans e5,S⟩
  refine⟨.ref s.heap.objs.size,_,I1,rfl,⟨_,x,y,(λzs hs=>by rw[I.list_inj hs m];exact hx),(λzs hs=>by rw[I.tuple_inj hs J];exact hy),rfl,I.hok.fresh (M9 _),rfl⟩,⟨hz6,(f.2 TI D.TIz).trans (R _ _ D.TIz D.TITO D.TIi1 D.TIi2 j),⟨_,_,(f.2 TO D.TOz).trans a2⟩,a3.at λo q=>(f.2 j1 D.i1z).trans q,g5⟩,λb p=>?_⟩;rw[jo]
  ·exact(Q b p).1
  ·intro q;have:b < s.heap.objs.size:=by
    obtain⟨_,h4',_⟩:=id r;obtain⟨_,h5',_⟩:=id B;rcases(by simpa using p:b=z \/ b=TI \/ b=TO \/ b=j1 \/ b=j2) with w | w | w | w | w<;>rw[w]
    ·exact lt g
    ·exact lt j
    ·exact lt A
    ·exact lt h4'
    ·exact lt h5'
   exact absurd this (by rw[q];exact Nat.lt_irrefl _)
 done:=by
  intro X U V Y hc i G s σ H E I Q st Z;subst U V Y;obtain⟨xs,m,hx⟩:=Z;obtain⟨L,C,p1,hz1⟩:=I.list m;obtain⟨g,j,⟨a,c,A⟩,r,B⟩:=st;have hl1:=C.length;exact jeZ (I.ok.hd hc) D g j r p1.isList (by simp;lia) λhh R=>⟨rfl,I.turnedL (t':=s.toks) (wr:=[z,TI,TO,j1,j2]) (λb o p q=>by
   have d:b≠z/\b≠TI/\b≠TO/\b≠j1/\b≠j2:=by simpa using p
   exact R b o d.1 d.2.2.1 d.2.2.2.1 d.2.2.2.2 q) Q⟩
 self:=λ_ _ _ _ _ st h=>wpAny_pyIter_zip st.1 h
noncomputable def jmz(K:PySem.W.Frag)(tl:TA):TI:=λσ H R=>tl σ H λvs H1=>∃ a b xs ys,vs=[.ref a,.ref b]/\SqL K H1 a xs/\SqT K H1 b ys/\R (Izt K a b) H1
section
variable {X:Cx}
theorem jkC{f:List Expr}{n:Nat}{tpos p pos:Pos}{a b:Expr}{ta:TA}(F:Gl X "zip")(G:X.mg "zip" = none)(J:PA X [a,b] ta)(L:starEach [a,b] X.env=[(false,eval a X.env),(false,eval b X.env)]:=by rfl)(g:starEach [b] X.env=[(false,eval b X.env)]:=by rfl) :
  PI X (.Tuple f n tpos) (.Call (.Name "zip" p) [a,b] [] pos) (jmz X.K ta):=by
 intro d s σ H R I h;refine Call_ (KM I F G (show bootBuiltins "zip" = some (.type "zip") by decide +kernel) (PyProof.Rows.callWith_type1 (thn (J pos d s σ H _ I h) λus c ⟨vs,A,i,M,N⟩=>?_) (by rw[L,g]) (by rw[g];rfl)));obtain⟨t,w,xs,ys,rfl,x,y,q⟩:=N;obtain⟨u,v,rfl,O,P⟩:=M.two;cases O;cases P;obtain⟨B,Q,j,S⟩:=i.list x;obtain⟨C,T,k,U⟩:=i.tuple y;have l:t < c.heap.objs.size:=by
  obtain⟨o,_,e,_⟩:=j;exact N2 e
 have m:w < c.heap.objs.size:=by
  obtain⟨o,e,_⟩:=id k;exact N2 e
 refine jfc j.isList k λD E V W Y Z hk=>?_;have I2:Inv X d σ A { c with heap:=D }:=i.kept (t':=c.toks) hk;refine PySem.wpAny_pyIter_zip (s:={ c with heap:=D }) E ?_;refine⟨c.heap.objs.size+4,[c.heap.objs.size+4,c.heap.objs.size+2,c.heap.objs.size+3,c.heap.objs.size,c.heap.objs.size+1],_,_,A,rfl,I2,jfN _ _ _ _ _ t w (jfA _ t w l m),⟨E,V,⟨_,_,W⟩,Y,Z⟩,λb hb=>?_,q⟩;have r:c.heap.objs.size<=b:=by
  rcases(by simpa using hb:b=c.heap.objs.size+4 \/ b=c.heap.objs.size+2 \/ b=c.heap.objs.size+3 \/ b=c.heap.objs.size \/ b=c.heap.objs.size+1) with z | z | z | z | z<;>rw[z]
  ·exact Nat.le_add_right _ 4
  ·exact Nat.le_add_right _ 2
  ·exact Nat.le_add_right _ 3
  ·exact M9 _
  ·exact Nat.le_add_right _ 1
 exact i.fpOk r (i.hok.fresh r)
end
end L2
namespace QD
open PySem L2 PySem.Spec PyProof.Rows
noncomputable def jmo(ks:List KA)(l:List D)(p:PF):PF:=λρ=>(p ρ).bind λy=>(xH y).bind λk=>zQ ks l k
noncomputable def jc7(ks:List KA)(l:List D)(p:PF):PF:=λρ=>(p ρ).bind λy=>(xH y).bind λk=>some ((zQ ks l k).getD .non)
@[simp] theorem jkG:jmo ks l p ρ=(p ρ).bind λy=>(xH y).bind λk=>zQ ks l k:=rfl
@[simp] theorem jjl:jc7 ks l p ρ=(p ρ).bind λy=>(xH y).bind λk=>some ((zQ ks l k).getD .non):=rfl
theorem jls(b:∀(Z:Zn) (H:Hp),Reps R Z H l vs [])(f:ks.length=l.length)(h:PB R ty p):PB R (jiX ((ks.map kaV).zip vs) ty) (jmo ks l p):=by
 intro σ ρ Z H O d z s e Q k;rw[jkG] at e;cases e1:p ρ with
 | none=>rw[e1] at e;cases e
 | some y =>
  rw[e1,L4] at e;cases e2:xH y with
  | none=>rw[e2] at e;cases e
  | some c =>
   rw[e2,L4] at e;refine h z s e1 λ{v g i o} j m=>?_;obtain⟨rfl,_⟩:=wC e2 m;obtain⟨u,P,ev,n⟩:=(xM (a:=c) (b g i) f).1 d e;exact⟨kaV c,u,rfl,ev,k j n⟩
theorem jin(g:∀(Z:Zn) (H:Hp),Reps R Z H l vs [])(i:ks.length=l.length)(h:PB R ty p):PB R (jcY ((ks.map kaV).zip vs) ty) (jc7 ks l p):=by
 intro σ ρ Z H O d z s e Q k;rw[jjl] at e;cases e1:p ρ with
 | none=>rw[e1] at e;cases e
 | some y =>
  rw[e1,L4] at e;cases e2:xH y with
  | none=>rw[e2] at e;cases e
  | some c =>
   rw[e2,L4] at e;refine h z s e1 λ{v j m q} b n=>?_;obtain⟨rfl,_⟩:=wC e2 n;refine⟨kaV c,rfl,?_⟩;have f:=xM (a:=c) (g j m) i;cases e3:zQ ks l c with
   | none =>
    rw[e3] at e;cases e;rw[f.2 e3];exact k b .non_mk
   | some x =>
    rw[e3] at e;cases e;obtain⟨u,P,ev,o⟩:=f.1 x e3;rw[ev];exact k b o
noncomputable def jf2(p:PAf):PAf:=λρ=>match p ρ with
 | some [.lst _ l,.tup m]=>bif decide (l.length<=m.length) then some (Kx (fzs l) (fzs m)) else none
 | _=>none
theorem jiJ(h:PPs R ta p):PIt R (jmz R.K ta) (jf2 p):=by
 intro σ ρ Z H O xs z s e Q k;unfold jf2 at e;split at e
 ·rename_i o l m n;cases b:decide (l.length<=m.length) with
  | false=>rw[b] at e;cases e
  | true =>
   rw[b] at e;cases e;have b:=X3 b;refine h z s n λ{vs M H1 P1} g1 r1=>?_;obtain⟨v,v2,N,S,rfl,rfl,r2,B⟩:=r1.two_of;have T:=r2.freeze (Z':=λa=>M a \/ a∈N++S) (λa z=>.inl z) λa z=>.inr (List.mem_append_left _ z);have d:=B.freeze (Z':=λa=>M a \/ a∈N++S) (λa z=>.inl z) λa z=>.inr (U4 _ z);rw[show fz (.lst o l)=.lst false (fzs l) from rfl,Rep] at T;rw[show fz (.tup m)=.tup (fzs m) from rfl,Rep] at d;obtain⟨a,f,O',rfl,rs,U,rfl,_⟩:=T;obtain⟨a',c,rfl,V,C⟩:=d;refine⟨a,a',f,c,rfl,FL.sq U,V.sq,k g1.fz ?_⟩;intro W X r A zd i;have D:=(U.frame r A).sq;have g:=(V.frame r A).sq;have Y:Reps R W X (fzs l) f []:=rs.frame r A λa E=>(nomatch E);have F:Reps R W X (fzs m) c []:=C.frame r A λa E=>(nomatch E);refine⟨λhi=>⟨f,D,?_⟩,λx hx=>?_⟩
   ·rw[Y.length];rw[jbD] at hi;have a1:(fzs l).length=l.length:=by rw[qV,L0]
    have a2:(fzs m).length=m.length:=by rw[qV,L0]
    rw[a1,a2] at hi;rw[a1]
    lia
   obtain⟨y,y',hy,G,rfl⟩:=jbl _ _ i x hx;obtain⟨u,hu,ru⟩:=Y.item hy;obtain⟨u',j,I⟩:=F.item G;refine⟨⟨f,c,u,u',D,g,hu,j⟩,λw H3 J=>?_⟩;obtain⟨q,t,t',ht,L,rfl,hq,rfl⟩:=J;have n:=ht f D;rw[hu] at n;cases n;have e2:=L c g;rw[j] at e2;cases e2;exact⟨_,Go.newF (wf0 zd) hq,Rep.tupNew (wf0 zd) hq (.cons (O:=[]) (P:=[]) ru (.one I))⟩
 ·cases e
noncomputable def jmb:List Str->List Tok->List Value
 | x::xs,t::ts=>.str x t::jmb xs ts
 | _,_=>[]
theorem wD:∀{xs:List Str}{ts:List Tok},xs.length=ts.length->Vals (xs.map V.str) (jmb xs ts)
 | [],[],_=>.nil
 | x::xs,t::ts,h=>.cons ⟨t,rfl⟩ (wD (by simpa using h))
 | [],_::_,h=>by simp at h
 | _::_,[],h=>by simp at h
theorem jcP(ws:List (List Nat)):Reps R Z H (ws.map D.str) ((ws.map S).map V.str) []:=by
 induction ws with
 | nil=>exact .empty
 | cons w ws a=>exact .cons (O:=[]) (P:=[]) .str_mk a
theorem qp{K:PySem.W.Frag}{n:Nat}{sl:Array (Option Value)}{xs:List Str}{ts:List Tok}{ws:List (List Nat)}(c:ws.map S=xs)(h:K.lookup a=some ⟨.type "tuple",none,.seq (jmb xs ts).toArray n,sl⟩)(d:xs.length=ts.length)(hz:xs.length<=1000)(cl:Nat->Addr)(Z:Zn)(H:Hp):Rep ⟨K,cl⟩ Z H (.tup (ws.map D.str)) (.ref a) []:=by
 subst c;rw[Rep];have b:=wD d;refine⟨a,(ws.map S).map V.str,rfl,.inr ⟨_,_,n,h,rfl,rfl,?_,by simpa using b⟩,jcP ws⟩;have:=b.length;rw[L0] at this;show(jmb (ws.map S) ts).toArray.size<=sizeLine;rw[N4,<- this];exact jjN hz
theorem jjS{cl:Nat->Addr}{X:Cx}{i:Expr}{ty:TE}{pi:PF}{pos p:Pos}{x:Str}{a:Addr}{ks:List KA}{l:List D}{vs:List V}(b:X.mg x=some (.ref a))(c:KD X.prog X.w X.K a ((ks.map kaV).zip vs))(d:∀(Z:Zn) (H:Hp),Reps ⟨X.K,cl⟩ Z H l vs [])(e:ks.length=l.length)(hi:QB cl X i ty pi)(f:jnF i:=by exact λ_ _=>rfl)(g:Gl X x:=by rfl)(hd:(x==("__debug__" : Str))=false:=by decide) :
  QB cl X (.Subscript (.Name x p) i pos) (jiX ((ks.map kaV).zip vs) ty) (jmo ks l pi):=⟨jhU c g b hi.sem f hd,jls d e hi.den⟩
theorem jd3{cl:Nat->Addr}{X:Cx}{e:Expr}{te:TE}{pe:PF}{p apos cpos:Pos}{x:Str}{a:Addr}{ks:List KA}{l:List D}{vs:List V}(c:X.mg x=some (.ref a))(d:KD X.prog X.w X.K a ((ks.map kaV).zip vs))(f:∀(Z:Zn) (H:Hp),Reps ⟨X.K,cl⟩ Z H l vs [])(g:ks.length=l.length)(b:QB cl X e te pe)(m:M1 X (.Name x p) "get" apos e cpos:=by exact⟨rfl,rfl,rfl,rfl⟩)(h:Gl X x:=by rfl)(hd:(x==("__debug__" : Str))=false:=by decide) :
  QB cl X (.Call (.Attribute (.Name x p) "get" apos) [e] [] cpos) (jcY ((ks.map kaV).zip vs) te) (jc7 ks l pe):=⟨jfu d h c b.sem m hd,jin f g b.den⟩
theorem jgJ(d:X.mg "zip" = none)(h:QPs cl X [a,b] tr pr)(e:Gl X "zip":=by rfl)(f:starEach [a,b] X.env=[(false,eval a X.env),(false,eval b X.env)]:=by rfl)(c:starEach [b] X.env=[(false,eval b X.env)]:=by rfl) :
  QI cl X (.Tuple elts n tpos) (.Call (.Name "zip" p) [a,b] [] pos) (jmz X.K tr) (jf2 pr):=⟨jkC e d h.sem f c,jiJ h.den⟩
noncomputable def jgl:List D->Option (List D)
 | [.lst _ l,.tup m]=>bif decide (l.length<=m.length) then some (Kx (fzs l) (fzs m)) else none
 | _=>none
@[simp] theorem pZlt_e:jf2 p ρ=(p ρ).bind jgl:=by
 unfold jf2;cases p ρ with
 | none=>rfl
 | some d =>
  match d with
  | []=>rfl
  | [x]=>cases x<;>rfl
  | [x,y]=>cases x<;>cases y<;>rfl
  | x::y::z::r=>cases x<;>cases y<;>rfl
end QD
namespace L2
open PySem PySem.Spec PyProof.Rows
end L2
namespace QD
open PySem L2 PySem.Spec PyProof.Rows
noncomputable def spM(R:RC)(m:List D->Option (D×D))(n j:Nat):Sp:=λvs H Q _=>∃ Z ds d c O u,WF Z H O/\ds.length=n/\Reps R Z H ds vs O/\vs[j]?=some u/\m ds=some (d,c) /\
 ∀{v:V}{Z':Zn}{H':Hp}{P O':List Addr},Go Z H O Z' H' (P++O')->Rep R Z' H' d v P->Rep R Z' H' c u O'->Q v H'
noncomputable def jmi(j:Nat):Out->Option (D×D)
 | .rt d ρ=>match ρ[j]? with
  | some (some c)=>some (d,c)
  | _=>none
 | .nx ρ=>match ρ[j]? with
  | some (some c)=>some (.non,c)
  | _=>none
 | _=>none
noncomputable def fnM(n j:Nat)(f:FS):List D->Option (D×D):=λds=>(f (ds.map some++List.replicate (n - ds.length) none)).bind (jmi j)
theorem jeo:fnM n j f ds=(f (ds.map some++List.replicate (n - ds.length) none)).bind (jmi j):=rfl
theorem Go.pick(g:Go Z H O Z' H' (P++(A++Q++B))):Go Z H O Z' H' (P++Q):=g.drop (λa h=>by simp at h ⊢;rcases h with h | h<;>simp[h]) (by
 have nd:=g.wf.nd;simp only[X0,N3] at nd ⊢;exact⟨nd.1,nd.2.1.1.2.1,λa c b d=>nd.2.2 a c b (.inl (.inr d))⟩)
theorem jhb(C:DS R [j] ts f)(h:spM R (fnM N.length j f) n j vs H Q E):ts { nx:=λ_ H'=>Q .non H',rt:=Q } (L2.start N vs) H:=by
 obtain⟨Z,i,d,c,O,u,w,K,r,D,e,k⟩:=h;rw[jeo] at e;have s:Slots R Z H (i.map some++List.replicate (N.length - i.length) none) (L2.start N vs) O:=by
  have q:=qW r (qY (R:=R) (Z:=Z) (H:=H) (N.length - i.length));unfold L2.start;rw[r.length];rw[N1] at q;exact q
 have t:(L2.start N vs)[j]?=some (some u):=by
  unfold L2.start;have F:j < vs.length:=(L9.mp D).1;rw[List.getElem?_append_left (by simpa using F),List.getElem?_map,D];rfl
 have key:∀{b:Rh}{m:L2.St}{p:Zn}{H':Hp}{P x:List Addr}{v:V},b[j]?=some (some c)->Go Z H O p H' (P++x)->Rep R p H' d v P->Slots R p H' b m x->Keep [j] (L2.start N vs) m->Q v H':=by
  intro b m p H' P x v a g y l kp;obtain⟨A,L,B,rfl,G,_,_⟩:=l.put (L9.mp a).1;obtain⟨M,ev,I⟩:=G c a;have:m[j]?=some (some u):=by rw[kp j (by simp),t]
  rw[ev] at this;cases this;exact k g.pick y I
 cases e1:f (i.map some++List.replicate (N.length - i.length) none) with
 | none=>rw[e1] at e;cases e
 | some o =>
  rw[e1,L4] at e;cases o with
  | rt S b =>
   unfold jmi at e;dsimp only at e;cases a:b[j]? with
   | none=>rw[a] at e;cases e
   | some z =>
    cases z with
    | none=>rw[a] at e;cases e
    | some J =>
     rw[a] at e;cases e;exact C w s e1 λg y l kp=>key a g y l kp
  | nx b =>
   unfold jmi at e;dsimp only at e;cases a:b[j]? with
   | none=>rw[a] at e;cases e
   | some z =>
    cases z with
    | none=>rw[a] at e;cases e
    | some J =>
     rw[a] at e;cases e;exact C w s e1 λg l kp=>key (P:=[]) a (by simpa using g) .non_mk l kp
  | bk b=>cases e
  | ct b=>cases e
theorem ji2(h:spM R m n j vs H Q E):vs.length=n:=by
 obtain⟨Z,b,d,c,O,u,w,a,r,_⟩:=h;rw[r.length,a]
def PJ(R:RC)(i j:Nat)(ta:TA)(p:PAf):Prop:=∀{σ:L2.St}{ρ:Rh}{Z:Zn}{H:Hp}{O:List Addr}{ds:List D},Zd Z H->Slots R Z H ρ σ O->p ρ=some ds->∀{u:V},σ[i]?=some (some u) ->
 ∀{Q:List V->Hp->Prop},(∀{v1 v2:List V}{Z':Zn}{H':Hp},Go Z H [] Z' H' []->v1.length=j->Reps R Z' H' (ds.take j) v1 []->Reps R Z' H' (ds.drop j) v2 []->Q (v1++u::v2) H')->ta σ H Q
theorem Go.turn(g:Go Z H O Z' H' (A++(P++Q)++B)):Go Z H O Z' H' (P++(A++Q++B)):=g.drop (λa h=>by simp at h ⊢;rcases h with h | h | h | h<;>simp[h]) (by
 have nd:=g.wf.nd;simp only[X0,N3] at nd ⊢;obtain⟨⟨j,⟨k,l,m⟩,f⟩,n,i⟩:=nd;refine⟨k,⟨⟨j,l,λa d b c=>f a d b (.inr c)⟩,n,λa d b c=>i a (d.elim .inl λq=>.inr (.inr q)) b c⟩,λa d b c e=>?_⟩;rcases c with(c | c) | c
 ·exact f b c a (.inl d) e.symm
 ·exact m a d b c e
 ·exact i a (.inr (.inl d)) b c e)
structure QJ(cl:Nat->Addr)(X:Cx)(i j:Nat)(es:List Expr)(ta:TA)(p:PAf):Prop where
 sem:PA X es ta
 den:PJ ⟨X.K,cl⟩ i j ta p
 n:∀ ρ ds,p ρ=some ds->ds.length+1=es.length/\j<=ds.length
theorem jgE{cl:Nat->Addr}{P:Program}{w:World}{K:PySem.W.Frag}{mg:Str->Option Value}{base:Heap}{x qual:Str}{fst:Stmt}{fa:Addr}{fd:FuncData}{N ps:List Str}{k n j:Nat}{fs:FS}(F:Fun K x qual fst fa fd)(b:FnScope N ps (jh fst))(c:ps.length=n)
  (a:∀(cdv:Value) (A:Around) (outer:List Env) (s:Shared) (H:Hp) (E:XK),Room k (A.deeper (envOfC qual (jh fst) s.heap.objs.size fa cdv)) ->
   ∃ ts,QSs cl [j] (uP CX0 P w K mg base N qual (jh fst) fa cdv A outer s H E).nox (vC fst) ts fs):FnOk P w K mg base CX0 (k+1) fa fd ps (spM ⟨K,cl⟩ (fnM N.length j fs) n j):=by
 refine F.ok b (λd H Q E h=>by rw[ji2 h,c]) λcdv A outer s H d Q E e h=>?_;obtain⟨ts,q⟩:=a cdv A outer s H E e;exact⟨ts,q.sem,jhb q.den h⟩
noncomputable def oF(g:D->D->Option D):D->D->Option D:=λx y=>(g x y).bind λd=>bif frz d then some d else none
def DIt(R:RC)(wi:TI)(fi:FA):Prop:=∀{σ:L2.St}{ρ ρ':Rh}{Z:Zn}{H:Hp}{O:List Addr}{xs:List D},WF Z H O->Slots R Z H ρ σ O->fi ρ=some (xs,ρ') ->
 ∀{Q:It->Hp->Prop},(∀{J:It}{Z':Zn}{H':Hp}{O':List Addr},Go Z H O Z' H' O'->Slots R Z' H' ρ' σ O'->jmk R J Z' H' xs->Q J H')->wi σ H Q
structure QTE(cl:Nat->Addr)(X:Cx)(e:Expr)(tt:TT)(f:FT'):Prop where
 sem:PT X e tt
 den:DT ⟨X.K,cl⟩ tt f
structure QWE(cl:Nat->Addr)(X:Cx)(e:Expr)(tt:TT)(f:FT'):Prop where
 sem:PW X e tt
 den:DT ⟨X.K,cl⟩ tt f
structure QIE(cl:Nat->Addr)(X:Cx)(tg e:Expr)(wi:TI)(p:FA):Prop where
 sem:PI X tg e wi
 den:DIt ⟨X.K,cl⟩ wi p
theorem jbn:∀(ρ:Rh) (ds:List D),pN ρ=some ds->ds.length=0:=λρ ds h=>by cases h;rfl
theorem uI(h:∀(ρ:Rh) (ds:List D),pr ρ=some ds->ds.length=n):∀(ρ:Rh) (ds:List D),jb p pr ρ=some ds->ds.length=n+1:=λρ ds e=>by
 rw[jhL] at e;cases e1:p ρ with
 | none=>rw[e1] at e;cases e
 | some d =>
  rw[e1,L4] at e;cases e2:pr ρ with
  | none=>rw[e2] at e;cases e
  | some l =>
   rw[e2,L4] at e;cases e;rw[M3,h ρ l e2]
end QD
namespace L2
open PySem PySem.Spec PyProof.Rows
theorem jm0(l:Addr)(c:Array Value)(n:Nat)(b:Addr)(a:Array Value)(f:Nat)(dd:Option Addr)(sl:Array (Option Value))(i:¬(!c.isEmpty&&Builtin.List.listTooLong (c.size+a.size))=true)(h1:c.size<=sizeLine)(h2:c.size+a.size<=sizeLine+1) :
  Meets (Builtin.«list.extend» ⟨[.ref l,.ref b],[]⟩) (λ_ R s=>s.heap.get? l=some { cls:=.type "list",dict:=none,data:=.seq c n,slots:=#[] }/\s.heap.get? b=some { cls:=.type "list",dict:=dd,data:=.seq a f,slots:=sl }/\R (.ok (.ret Value.none)) { s with heap:=s.heap.update l (Obj.mapSeq λx=>x++a) }) :=
 .of_wp λprog w A R s h=>by
  rcases s with⟨j,k,m,o,os⟩;obtain⟨d,g,q⟩:=h;have p:=AutoSeq1.idx_int;have r:=AutoSeq1.sub_tuple_tuple;have t:=AutoSeq1.sub_list_list;have u:=AutoSeq1.sub_tuple_list;have v:=AutoSeq1.sub_list_tuple;have e:(c++a).size<=sizeLine+1:=by rw[Array.size_append];exact h2
  wp_walk using(wpAny_updateSeq d rfl (hz:=h1) (_hz':=e)),wpAny_loadPart' d,wpAny_loadPart' g
  exact⟨_,rfl,q⟩
theorem jmI(l:Addr)(c:Array Value)(n:Nat)(b:Addr)(a:Array Value)(f:Nat)(dd:Option Addr)(sl:Array (Option Value))(i:¬(!c.isEmpty&&Builtin.List.listTooLong (c.size+a.size))=true)(h1:c.size<=sizeLine)(h2:c.size+a.size<=sizeLine+1) :
  Meets (Builtin.«list.extend» ⟨[.ref l,.ref b],[]⟩) (λ_ R s=>s.heap.get? l=some { cls:=.type "list",dict:=none,data:=.seq c n,slots:=#[] }/\s.heap.get? b=some { cls:=.type "tuple",dict:=dd,data:=.seq a f,slots:=sl }/\R (.ok (.ret Value.none)) { s with heap:=s.heap.update l (Obj.mapSeq λx=>x++a) }) :=
 .of_wp λprog w A R s h=>by
  rcases s with⟨j,k,m,o,os⟩;obtain⟨d,g,q⟩:=h;have p:=AutoSeq1.idx_int;have r:=AutoSeq1.sub_tuple_tuple;have t:=AutoSeq1.sub_list_list;have u:=AutoSeq1.sub_tuple_list;have v:=AutoSeq1.sub_list_tuple;have e:(c++a).size<=sizeLine+1:=by rw[Array.size_append];exact h2
  wp_walk using(wpAny_updateSeq d rfl (hz:=h1) (_hz':=e)),wpAny_loadPart' d,wpAny_loadPart' g
  exact⟨_,rfl,q⟩
def ji1(K:PySem.W.Frag):V->List V->Hp->VK->Prop:=λx vs H Q=>∃ l b xs zs,x=.ref l/\vs=[.ref b]/\H l=some (.lst xs)/\(SqL K H b zs \/ SqT K H b zs)/\xs.length+zs.length<=sizeLine/\Q .non (upd H l (.lst (xs++zs)))
theorem jiQ:MtM X "list.extend" (ji1 X.K):=by
 intro w s σ H x D v E Q I A B h;obtain⟨l,b,xs,G,rfl,rfl,m,f,y,q⟩:=h;cases A;obtain⟨u,rfl,C⟩:=B.one;cases C;obtain⟨z,its,n,r,J,e⟩:=I.lstM m;rcases f with f | f
 ·obtain⟨a,g,p2,_⟩:=I.list f;obtain⟨⟨cls,dd,data,j⟩,k,o,i,hd,p⟩:=p2;simp only at i hd p
  first | subst i | skip
  have d:its.toArray.size+a.toArray.size<=sizeLine:=by rw[N4,N4,<- r.length,<- g.length];exact y
  have c:¬ (!its.toArray.isEmpty&&Builtin.List.listTooLong (its.toArray.size+a.toArray.size))=true:=by
   rw[jbf d,Bool.and_false];exact M4
  have t:s.heap.get? b=some { cls:=.type "list",dict:=dd,data:=.seq a.toArray k,slots:=j }:=by
   rw[o];simp_all
  refine call_meets PySem.F.slot_list_extend ⟨_,e,rfl⟩ PySem.F.entry_list_extend (PySem.F.args_list_extend_2 _ _) (jm0 l its.toArray n b a.toArray k dd j c (by lia) (by lia)) ⟨e,t,?_⟩;refine⟨.non,_,I.lset (its':=its++a) m e (by simp) (r.append g) ?_,rfl,q⟩;rw[N5]
  lia
 ·obtain⟨a,g,p2,_⟩:=I.tuple f;obtain⟨⟨cls,dd,data,j⟩,o,i,k,hd⟩:=p2;simp only at i hd;subst i hd;have d:its.toArray.size+a.toArray.size<=sizeLine:=by rw[N4,N4,<- r.length,<- g.length];exact y
  have c:¬ (!its.toArray.isEmpty&&Builtin.List.listTooLong (its.toArray.size+a.toArray.size))=true:=by
   rw[jbf d,Bool.and_false];exact M4
  refine call_meets PySem.F.slot_list_extend ⟨_,e,rfl⟩ PySem.F.entry_list_extend (PySem.F.args_list_extend_2 _ _) (jmI l its.toArray n b a.toArray k dd j c (by lia) (by lia)) ⟨e,o,?_⟩;refine⟨.non,_,I.lset (its':=its++a) m e (by simp) (r.append g) ?_,rfl,q⟩;rw[N5]
  lia
end L2
namespace QD
open PySem L2 PySem.Spec PyProof.Rows
end QD
namespace QD
open PySem L2
theorem jg{n:Nat}(h:n<=100000):lim n=true:=X1 h
theorem u0{α:Type}{l:List α}{i:Int}(a:0<=i)(h:i < l.length):atI l i=l[i.toNat]?:=by
 unfold atI ixN;rw[if_pos (by omega),if_pos (by omega)];rfl
theorem jeN{n i:Nat}(h:i < n):ixN n (i:Int)=some i:=by
 unfold ixN;rw[if_pos (by omega),if_pos (by omega)];simp
theorem ja0{lo:Int}{n i:Nat}{x:D}(h:(Kw lo n)[i]?=some x):x=.int (lo+i)/\i < n:=by
 unfold Kw at h;rw[List.getElem?_map] at h;by_cases a:i < n
 ·rw[List.getElem?_range a] at h;cases h;exact⟨rfl,a⟩
 ·rw[List.getElem?_eq_none (by simpa using a)] at h;cases h
theorem VD(lo:Int)(n:Nat):(Kw lo n).length=n:=by simp[Kw]
@[simp] theorem eq_ss(a b:List Nat):vA (.str a) (.str b)=some (.bl (a==b)):=rfl
@[simp] theorem jlf(a b:List Nat):vX (.str a) (.str b)=some (.bl (!(a==b))):=rfl
@[simp] theorem isnot_i(i:Int):kj (.int i) .non=some (.bl true):=rfl
@[simp] theorem isnot_n:kj .non .non=some (.bl false):=rfl
@[simp] theorem isnot_s(a:List Nat):kj (.str a) .non=some (.bl true):=rfl
@[simp] theorem is_i(i:Int):YV (.int i) .non=some (.bl false):=rfl
@[simp] theorem is_n:YV .non .non=some (.bl true):=rfl
@[simp] theorem is_s(a:List Nat):YV (.str a) .non=some (.bl false):=rfl
@[simp] theorem in_cs(a:Bool)(c:Nat)(s:List Nat):zG a (.str [c]) (.str s)=some (.bl (a != decide (c∈s))):=rfl
@[simp] theorem neg_i(i:Int):kZ (.int i)=some (.int (-i)):=rfl
theorem jlA{a:List Nat}{n:Int}(h:a.length<=1000)(b:0<=n)(h1:n<=1000):YE (.str a) (.int n)=some (.str (List.replicate n.toNat a).flatten):=by
 show(bif decide (a.length<=1000)&&(decide (0<=n)&&decide (n<=1000)) then some (D.str (List.replicate n.toNat a).flatten) else none)=_;rw[X1 h,X1 b,X1 h1];rfl
theorem jaE{a:List Nat}(h:a.length<=100000):Jq [.str a]=some (.int a.length):=by
 show(bif lim a.length then some (D.int a.length) else none)=_;rw[jg h];rfl
theorem jg4{s:List Nat}{i:Int}(a:s.length<=100000)(b:0<=i)(h:i < s.length):jF (.str s) (.int i)=some (.str [s.getD i.toNat 0]):=by
 show(bif lim s.length then(match atI s i with | some c=>some (D.str [c]) | none=>none) else none)=_;rw[jg a,u0 b h];have:i.toNat < s.length:=by omega
 simp[this]
theorem V9{α:Type}(xs:List α){k:Int}(h:0<=k):VB xs (some k) none=xs.drop k.toNat:=by
 obtain⟨n,rfl⟩:∃ n:Nat,k=(n:Int):=⟨k.toNat,by omega⟩;rw[jdp];simp
theorem jk5{i:Int}(a:0<=i)(h:i < 2 ^ 200):je6 [.int i]=some (.str (Jp i.toNat)):=by
 show(bif decide (0<=i)&&decide (i < 2 ^ 200) then some (D.str (Jp i.toNat)) else none)=_;rw[X1 a,X1 h];rfl
@[simp] theorem str_s(s:List Nat):je6 [.str s]=some (.str s):=rfl
@[simp] theorem fAll_lst(o:Bool)(l:List D):jl3 [.lst o l]=(JX l).bind λbs=>some (.bl (bs.all λb=>b)):=by
 show(match JX l with | some ns=>some (D.bl (ns.all λb=>b)) | none=>none)=_;cases JX l<;>rfl
@[simp] theorem fTuple_lst(o:Bool)(l:List D):xy [.lst o l]=bif frzs l then some (.tup l) else none:=rfl
theorem jnq{w:List Nat}(h:w≠[])(h1:w.length<=600)(h2:∀ c∈w,48<=c/\c<=57):jl4 [.str w]=some (.int (NumText.digitsVal w:Nat)):=by
 have:jbZ w=true:=by
  unfold jbZ;simp[h,h1];exact λx a=>h2 x a
 show(bif jbZ w then some (D.int (NumText.digitsVal w:Nat)) else none)=_;rw[this];rfl
theorem Ql(w:List Nat)(l:List (List Nat)):jb2 (.str w) (l.map D.str)=true:=by
 unfold jb2;rw[M0];refine⟨rfl,List.all_eq_true.mpr λy a=>?_⟩;obtain⟨z,_,rfl⟩:=M6.mp a;rfl
theorem xE(w:List Nat)(l:List (List Nat)):inL (.str w) (l.map D.str)=decide (w∈l):=by
 unfold inL;rw[Bool.eq_iff_iff,List.any_eq_true,decide_eq_true_eq];constructor
 ·rintro⟨y,a,e⟩;obtain⟨z,b,rfl⟩:=M6.mp a;have:z=w:=by
   have e:(z==w)=true:=e;exact eq_of_beq e
  exact this▸b
 ·intro h;exact⟨.str w,M6.mpr ⟨w,h,rfl⟩,by show(w==w)=true;simp⟩
theorem Qr(a o:Bool)(w:List Nat)(l:List (List Nat)):zG a (.str w) (.lst o (l.map D.str))=some (.bl (a != decide (w∈l))):=by
 show(bif jb2 (.str w) (l.map D.str) then some (D.bl (a != inL (.str w) (l.map D.str))) else none)=_;rw[Ql,xE];rfl
mutual
theorem jgp:∀(n:Nat) (d:D),okE n d=true->eqD d d=true
 | n,.non,_=>rfl
 | n,.bl _,_=>by show(_==_)=true;simp
 | n,.int _,_=>by show(_==_)=true;simp
 | n,.str _,_=>by show(_==_)=true;simp
 | n+1,.tup l,h=>by rw[eqD];exact Qc n l (by simpa [okE] using h)
 | n+1,.lst _ l,h=>by rw[eqD];exact Qc n l (by simpa [okE] using h)
 | 0,.tup l,h=>by simp[okE] at h
 | 0,.lst _ l,h=>by simp[okE] at h
 | n,.dK _ _ _,h=>by cases n<;>simp[okE] at h
 | n,.dT _ _ _,h=>by cases n<;>simp[okE] at h
 | n,.ins _ _ _ _,h=>by cases n<;>simp[okE] at h
 | n,.dead,h=>by cases n<;>simp[okE] at h
 | n,.exc _ _,h=>by cases n<;>simp[okE] at h
theorem Qc:∀(n:Nat) (l:List D),vP n l=true->uq l l=true
 | n,[],_=>rfl
 | n,d::l,h=>by
  rw[vP,M0] at h;rw[uq,jgp n d h.1,Qc n l h.2];rfl
end
theorem jfM{o o':Bool}{l m:List D}(h:vP 19 l=true)(h':vP 19 m=true):vA (.lst o l) (.lst o' m)=some (.bl (uq l m)):=by
 show(bif okE 20 (.lst o l)&&okE 20 (.lst o' m) then some (D.bl (uq l m)) else none)=_;show(bif vP 19 l&&vP 19 m then _ else _)=_;rw[h,h'];rfl
theorem jfw{o o':Bool}{l m:List D}(h:vP 19 l=true)(h':vP 19 m=true):vX (.lst o l) (.lst o' m)=some (.bl (!uq l m)):=by
 show(bif okE 20 (.lst o l)&&okE 20 (.lst o' m) then some (D.bl (!uq l m)) else none)=_;show(bif vP 19 l&&vP 19 m then _ else _)=_;rw[h,h'];rfl
theorem Ku{n:Nat}{l:List D}(h:∀ d∈l,okE n d=true):vP n l=true:=by rw[xX];exact List.all_eq_true.mpr h
theorem ke:∀{l:List D},(∀ d∈l,frz d=true)->frzs l=true
 | [],_=>rfl
 | d::l,h=>by rw[wK,h d (by simp),ke λx a=>h x (by simp[a])];rfl
theorem jda:∀{l:List D},(∀ d∈l,fz d=d)->fzs l=l
 | [],_=>rfl
 | d::l,h=>by rw[jfH,h d (by simp),jda λx a=>h x (by simp[a])]
theorem kO{n:Nat}{w:List Nat}(h:∀ c∈w,c < 1114112):okE n (.str w)=true:=by
 have:okE n (.str w)=w.all λc=>decide (c < 1114112):=by cases n<;>rfl
 rw[this];exact List.all_eq_true.mpr λc a=>X1 (h c a)
@[simp] theorem okE_int(n:Nat)(i:Int):okE n (.int i)=true:=by cases n<;>rfl
theorem jdw{l:List Nat}{i N:Nat}(h:∀ c∈l,c < N)(a:0 < N):l.getD i 0 < N:=by
 rw[List.getD_eq_getElem?_getD];cases e:l[i]? with
 | none=>exact a
 | some c=>exact h c (List.mem_of_getElem? e)
theorem xu(a:List Nat):∀(w:List Nat) (ws:List (List Nat)),yk a (w::ws)=w++(ws.map (a++·)).flatten
 | w,[]=>by simp[yk]
 | w,v::ws=>by rw[yk,xu a v ws];simp
theorem ja5{G:D->Rh->Option Rh}{p:PF}{Good:D->Prop}{P:Rh->Prop}:∀{xs:List D}(_:∀ x∈xs,∀ ρ,P ρ->∃ ρ1 y,G x ρ=some ρ1/\p ρ1=some y/\Good y/\P ρ1) {ρ:Rh}(_:P ρ),∃ ys,kG G qT p xs ρ=some ys/\ys.length=xs.length/\∀ y∈ys,Good y
 | [],_,ρ,_=>⟨[],rfl,rfl,by simp⟩
 | x::xs,step,ρ,b=>by
  obtain⟨ρ1,y,c,d,e,p1⟩:=step x (by simp) ρ b;obtain⟨ys,f,g,h⟩:=ja5 (xs:=xs) (λz a=>step z (by simp[a])) p1;refine⟨y::ys,?_,by simp[g],?_⟩
  ·rw[Ko,c];simp[d,f]
  ·intro z a;rcases M5.mp a with rfl | a
   ·exact e
   ·exact h z a
theorem ja4{α:Type}{f:α->D}{Q:α->Prop}:∀{ys:List D},(∀ y∈ys,∃ a,y=f a/\Q a)->∃ l:List α,ys=l.map f/\∀ a∈l,Q a
 | [],_=>⟨[],rfl,by simp⟩
 | y::ys,h=>by
  obtain⟨a,e,q⟩:=h y (by simp);obtain⟨l,c,d⟩:=ja4 (ys:=ys) λz g=>h z (by simp[g]);exact⟨a::l,by rw[e,c];rfl,λb i=>(M5.mp i).elim (λz=>z▸q) (d b)⟩
theorem jnb{o:Bool}{l:List D}{lo hi:Option Int}(a:frzs l=true):jep lo hi (.lst o l)=some (.lst true (VB l lo hi)):=by
 show(bif frzs l then some (D.lst true (VB l lo hi)) else none)=_;rw[a];rfl
theorem qA{o:Bool}{l:List D}{i:Int}(a:0<=i)(h:i < l.length):jF (.lst o l) (.int i)=l[i.toNat]?:=u0 a h
theorem jn6{l:List D}{i:Int}(a:0<=i)(h:i < l.length):jF (.tup l) (.int i)=l[i.toNat]?:=u0 a h
def Wd(w:List Nat):Prop:=w.length<=30/\∀ c∈w,c < 1114112
@[simp] theorem vE(l:List (List Nat)):fzs (l.map D.str)=l.map D.str:=by
 rw[qV,U2];rfl
@[simp] theorem Vw(l:List (List Nat)):frzs (l.map D.str)=true:=by
 rw[K4,List.all_map,List.all_eq_true];intro x _;rfl
@[simp] theorem cleans_strs(l:List (List Nat)):yY (l.map D.str)=true:=by
 rw[yZ,List.all_map,List.all_eq_true];intro x _;rfl
theorem jah{o:Bool}{l:List (List Nat)}{i:Int}(a:0<=i)(h:i < l.length):jF (.lst o (l.map D.str)) (.int i)=some (.str (l.getD i.toNat [])):=by
 rw[qA a (by rw[L0];exact h),List.getElem?_map,List.getD_eq_getElem?_getD,X6 (by omega)];rfl
theorem getD_mem{α:Type}{l:List α}{i:Nat}{d:α}(h:i < l.length):l.getD i d∈l:=by
 rw[List.getD_eq_getElem?_getD,X6 h];exact List.getElem_mem h
theorem jbh{α β:Type}(f:α->β)(l:List α)(lo hi:Option Int):VB (l.map f) lo hi=(VB l lo hi).map f:=by
 unfold VB;rw[L0,List.map_take,List.map_drop]
theorem jgk{α:Type}(l:List α)(lo hi:Option Int):(VB l lo hi).length<=l.length:=by
 unfold VB;rw[List.length_take,List.length_drop];omega
theorem jd4(o:Bool)(l:List (List Nat))(lo hi:Option Int):jep lo hi (.lst o (l.map D.str))=some (.lst true ((VB l lo hi).map D.str)):=by
 rw[jnb (Vw l),jbh]
theorem jb5{G:D->Rh->Option Rh}{q:PTf}{p:PF}{α:Type}{l:List α}{en out:α->D}{b:α->Bool}(P:Rh->Prop)(step:∀ x∈l,∀ ρ,P ρ->∃ ρ1,G (en x) ρ=some ρ1/\q ρ1=some (b x)/\p ρ1=some (out x)/\P ρ1){ρ:Rh}(a:P ρ):kG G q p (l.map en) ρ=some ((l.filter b).map out):=by
 induction l generalizing ρ with
 | nil=>rfl
 | cons x l c =>
  obtain⟨ρ1,d,e,f,p1⟩:=step x L7 ρ a;have:=c (λy g=>step y (L6 _ g)) p1;rw[L5,Ko,d,L4,e,L4];cases hb:b x with
  | true=>simp[f,this,hb]
  | false=>simp[this,hb]
mutual
theorem jkh:∀(n:Nat) (d:D),okE n d=true->eqD (fz d) d=true
 | n,.non,_=>rfl
 | n,.bl _,_=>by show(_==_)=true;simp
 | n,.int _,_=>by show(_==_)=true;simp
 | n,.str _,_=>by show(_==_)=true;simp
 | n+1,.tup l,h=>by rw[fz,eqD];exact jaH n l (by simpa [okE] using h)
 | n+1,.lst _ l,h=>by rw[fz,eqD];exact jaH n l (by simpa [okE] using h)
 | 0,.tup l,h=>by simp[okE] at h
 | 0,.lst _ l,h=>by simp[okE] at h
 | n,.dK _ _ _,h=>by cases n<;>simp[okE] at h
 | n,.dT _ _ _,h=>by cases n<;>simp[okE] at h
 | n,.ins _ _ _ _,h=>by cases n<;>simp[okE] at h
 | n,.dead,h=>by cases n<;>simp[okE] at h
 | n,.exc _ _,h=>by cases n<;>simp[okE] at h
theorem jaH:∀(n:Nat) (l:List D),vP n l=true->uq (fzs l) l=true
 | n,[],_=>rfl
 | n,d::l,h=>by
  rw[vP,M0] at h;rw[fzs,uq,jkh n d h.1,jaH n l h.2];rfl
end
mutual
theorem jj5:∀(n:Nat) (d e:D),okE n d=true->fz d=fz e->eqD d e=true
 | n,.non,e,_,h=>by cases e<;>simp[fz] at h;rfl
 | n,.bl _,e,_,h=>by cases e<;>simp[fz] at h;subst h;show(_==_)=true;simp
 | n,.int _,e,_,h=>by cases e<;>simp[fz] at h;subst h;show(_==_)=true;simp
 | n,.str _,e,_,h=>by cases e<;>simp[fz] at h;subst h;show(_==_)=true;simp
 | n+1,.tup l,e,h,q=>by
  cases e<;>simp[fz] at q;rw[eqD];exact jat n l _ (by simpa [okE] using h) q
 | n+1,.lst _ l,e,h,q=>by
  cases e<;>simp[fz] at q;rw[eqD];exact jat n l _ (by simpa [okE] using h) q
 | 0,.tup l,e,h,_=>by simp[okE] at h
 | 0,.lst _ l,e,h,_=>by simp[okE] at h
 | n,.dK _ _ _,e,h,_=>by cases n<;>simp[okE] at h
 | n,.dT _ _ _,e,h,_=>by cases n<;>simp[okE] at h
 | n,.ins _ _ _ _,e,h,_=>by cases n<;>simp[okE] at h
 | n,.dead,e,h,_=>by cases n<;>simp[okE] at h
 | n,.exc _ _,e,h,_=>by cases n<;>simp[okE] at h
theorem jat:∀(n:Nat) (l m:List D),vP n l=true->fzs l=fzs m->uq l m=true
 | n,[],[],_,_=>rfl
 | n,[],_::_,_,q=>by simp[fzs] at q
 | n,_::_,[],_,q=>by simp[fzs] at q
 | n,d::l,e::m,h,q=>by
  rw[vP,M0] at h;rw[fzs,fzs] at q;injection q with q1 q2;rw[uq,jj5 n d e h.1 q1,jat n l m h.2 q2];rfl
end
noncomputable def lkp{α:Type}(w:List Nat):List (List Nat×α)->Option α
 | []=>none
 | p::l=>if p.1=w then some p.2 else lkp w l
noncomputable def fnOf(S:List (List Nat×Int))(n:List Nat):Int:=(lkp n S).getD 0
noncomputable def wgo(c:Nat):List Nat->List Nat->List (List Nat)
 | cur,[]=>if cur=[] then [] else [cur]
 | cur,d::r=>if d=c then(if cur=[] then wgo c [] r else cur::wgo c [] r) else wgo c (cur++[d]) r
theorem jaO(c:Nat):∀(p cur r:List Nat),c∉p->wgo c cur (p++r)=wgo c (cur++p) r
 | [],cur,r,_=>by simp
 | d::p,cur,r,h=>by
  rw[List.cons_append,wgo,if_neg (λz=>h (by simp[z])),jaO c p (cur++[d]) r (λz=>h (by simp[z]))];simp
theorem x6(c:Nat):∀(L:List (List Nat)),(∀ p∈L,c∉p)->wgo c [] (yk [c] L)=L.filter λw=>!(w==[])
 | [],_=>rfl
 | [p],h=>by
  have:=jaO c p [] [] (h p (by simp));rw[N1,X5] at this;show wgo c [] p=_;rw[this,wgo];cases p with
  | nil=>rfl
  | cons a p=>rfl
 | p::q::L,h=>by
  have e:yk [c] (p::q::L)=p++([c]++yk [c] (q::L)):=by rw[yk];simp
  rw[e,jaO c p [] _ (h p (by simp)),X5,List.cons_append,X5,wgo,if_pos rfl,x6 c (q::L) λx b=>h x (by simp[b])];cases p with
  | nil=>rfl
  | cons a p=>rfl
theorem ut(a:List Nat)(c:Nat):(vj a [c]).filter (λw=>!(w==[]))=wgo c [] a:=by
 have e:∀ p∈vj a [c],c∉p:=by
  intro p b;unfold vj at b;obtain⟨x,f,rfl⟩:=M6.mp b;exact StrLaws.split_free (S a) c x f
 have g:yk [c] (vj a [c])=a:=by
  have d:=x5 [c] (vj a [c]);have h:(vj a [c]).map S=Txt.split (S a) (S [c]):=by
   unfold vj;rw[U2]
   conv=>rhs;rw[<- List.map_id (Txt.split (S a) (S [c]))]
   exact List.map_congr_left λx _=>by
    show S x.cps.toList=x;apply PyProof.Rows.ext_toList;rw[vR]
  rw[h,StrLaws.join_split] at d;have:=congrArg (λx:Str=>x.cps.toList) d;simpa [vR] using this.symm
 rw[<- x6 c _ e,g]
theorem jaS(m:Nat):Jp m≠[]:=by
 intro h;have:=jbo m;unfold Jp at h;rw[List.map_eq_nil_iff] at h;exact absurd h Nat.toDigits_ne_nil
variable {ρ:Rh}{fa fb fe:FE}{ft fu:FT'}{fr:FA}{p:PAf}{pi:PAf}{g:D->D->Option D}{gl:List D->Option D}{G:D->Rh->Option Rh}{f:FS}{m:List D->Option (D×D)}{mp:List D->Option D}{i j:Nat}
@[simp] theorem oF_e:oF g x y=(g x y).bind λd=>bif frz d then some d else none:=rfl
theorem jeW:pV i ρ=(ρ[i]?).join:=by
 unfold pV;cases h:ρ[i]? with
 | none=>rfl
 | some o=>cases o<;>rfl
end QD
namespace L2
open PySem PySem.Spec PyProof.Rows
end L2
namespace QD
open PySem L2 PySem.Spec PyProof.Rows
end QD
namespace L2
open PySem PySem.Spec PyProof.Rows
section
theorem jk1(ft:TypeCalled T nw it)
  (q:checkTypeCall T ⟨xs,kw⟩=pure ()) (d:checkBuiltinCall nw ⟨.type T::xs,kw⟩=pure ()) (f:entryFor table nw=some Bn) (i:entryFor table it=some Bi)
  (g:Meets (Bn ⟨.type T::xs,kw⟩) Sn) (h:Sn A.in1 (wants Q1 E) s)
  (nx:∀ obj s1,Q1 obj s1->s1.TypeIs obj T/\argsOk it ⟨obj::xs,kw⟩/\∃ Si,MeetsIn prog w (Bi ⟨obj::xs,kw⟩) Si/\Si A.in1 (wants (λr s2=>r=.none/\Q obj s2) E) s1) :
  wpAny (model prog w) A (call (.type T) xs kw) Q E s:=by
 obtain⟨c,t,u⟩:=ft.mro;have v:=ft.made;have x:=ft.sub;refine wpAny_call (codeAny_of_tree ?_);show wpAny _ _ (callAny (.type T) _) _ _ _;refine M7 ⟨Code.quiet_builtin _ (by decide +kernel),codeAny_builtin F.entry_type_call ?_⟩;rw[Around.under_plain (weight_type_call_type T xs kw) (units_type_call_type T xs kw)];have y:=ft.notType;have z:=ft.canCreate
 repeat (any_goals (first | assumption | wp_step))
 refine codeAny_mono (codeAny_call_builtin ft.plain f (wpAny_of_eq d (g prog w A.in1 _ s h))) λr s1 b=>?_;cases r with
 | error e=>exact b
 | ok j =>
  cases j with
  | ret obj =>
   obtain⟨k,l,Si,m,n⟩:=nx _ _ b;have B:=ft.init.lookup;have C:=ft.init.bind obj
   repeat (any_goals (first | assumption | wp_step))
   refine codeAny_mono (codeAny_call_builtin ft.init.plain i (ft.init.check _ _ _ _ _ _ _ _ k l (m A.in1 _ s1 n))) λo s2 a=>?_;cases o with
   | error e=>exact a
   | ok p =>
    cases p with
    | ret r =>
     obtain⟨rfl,D⟩:=a
     repeat (any_goals (first | assumption | wp_step))
    | _=>exact a.elim
  | _=>exact b.elim
theorem jlw(c:typeLookup (.type T) "__init__" = pure (some (.builtin "object.__init__")))
  (d:Bind.madeBy (.type T)=pure (some nw)) (e:(some nw != some "object.__new__")=true) :
  Meets (Builtin.«object.__init__» ⟨self::x::xs,kw⟩) (λ_ R s=>s.TypeIs self T/\R (.ok (.ret .none)) s):=by
 refine Meets.of_wp λprog w A R s a=>?_;obtain⟨f,b⟩:=a
 repeat (any_goals (first | assumption | wp_step))
 exact⟨_,rfl,b⟩
theorem jny(a b:Value):checkTypeCall "enumerate" ⟨[a],[("start",b)]⟩=pure ():=by kernel_rfl
theorem jnE(a b:Value):checkBuiltinCall "enumerate.__new__" ⟨[.type "enumerate",a],[("start",b)]⟩=pure ():=by kernel_rfl
theorem jna(a b c:Value):argsOk "object.__init__" ⟨[a,b],[("start",c)]⟩:=by
 unfold argsOk;rw[signature?_of (id:="object.__init__") (n:=['_','_','t','i','n','i','_','_']) (o:=['t','c','e','j','b','o']) (by kernel_rfl) F.owner_object];kernel_rfl
open AutoSeq1 (wpAny_loadPart') in
theorem jiH(l:Addr)(us:Array Value)(m:Nat)(dc:Option Addr)(sl:Array (Option Value))(n:Int)(t:Tok)(j:Builtin.SmallTypes.fitsIndex n=true) :
  Meets (Builtin.«enumerate.__new__» ⟨[.type "enumerate",.ref l],[("start",.int n t)]⟩) (λ_ R s=>s.heap.get? l=some { cls:=.type "list",dict:=dc,data:=.seq us m,slots:=sl } /\
   R (.ok (.ret (.ref (s.heap.push { cls:=.type "list_iterator",data:=.fields #[.ref l,.int 0 0] }).objs.size)))
    { s with heap:=(s.heap.push { cls:=.type "list_iterator",data:=.fields #[.ref l,.int 0 0] }).push { cls:=.type "enumerate",data:=.fields #[.none,.bool false,.ref s.heap.objs.size,rawInt n,.none,.none] } }) :=
 .of_wp λprog w A R s h=>by
  obtain⟨f,g,d,i,os⟩:=s;obtain⟨a,h⟩:=h;have e:=sub_enumerate;have b:Heap.IsList (Shared.heap ⟨f,g,d,i,os⟩) l us:=⟨_,a,rfl,m,rfl⟩
  wp_walk using wpAny_loadPart' a
  refine wpAny_stack_any λst=>M7 ?_;split
  ·rename_i c _ _ _ _ _;cases(c==Value.type "enumerate")
   ·wp_walk using wpAny_loadPart' a,wpAny_pyIter_list b
    exact⟨_,rfl,h⟩
   ·wp_walk using wpAny_loadPart' a,wpAny_pyIter_list b
    exact⟨_,rfl,h⟩
  ·wp_walk using wpAny_loadPart' a,wpAny_pyIter_list b
   exact⟨_,rfl,h⟩
theorem jh5(g:s.heap.IsList l us)(h:Builtin.SmallTypes.fitsIndex n=true)
  (go:∀ k,IsEnum k (s.heap.objs.size+1) s.heap.objs.size n .none->k.IsListIter s.heap.objs.size l 0->(∀ b o,s.heap.get? b=some o->k.get? b=some o)->C (.ref (s.heap.objs.size+1)) { s with heap:=k }) :
  wpAny (model prog w) A (call (.type "enumerate") [.ref l] [("start",.int n t)]) C E s:=by
 obtain⟨⟨c,i,j,p⟩,r,a,m,hd⟩:=g;replace a:c=.type "list":=a;replace hd:j=.seq us m:=hd;subst a hd;refine jk1 (Q1:=λobj d=>d.TypeIs obj "enumerate"/\C obj d) F.called_enumerate (jny _ _) (jnE _ _) F.entry_enumerate_new F.entry_object_init (jiH l us m i p n t h) ⟨r,?_⟩
  λobj _ q=>⟨q.1,jna _ _ _,_,(jlw F.called_enumerate.init.lookup F.called_enumerate.made (by decide)).inModel _ _,q.1,rfl,q.2⟩
 have e:(s.heap.push { cls:=.type "list_iterator",data:=.fields #[.ref l,.int 0 0] }).objs.size=s.heap.objs.size+1:=Heap.size_push ..;show _/\_;rw[e];have f:IsEnum ((s.heap.push { cls:=.type "list_iterator",data:=.fields #[.ref l,.int 0 0] }).push { cls:=.type "enumerate",data:=.fields #[.none,.bool false,.ref s.heap.objs.size,rawInt n,.none,.none] }) (s.heap.objs.size+1) s.heap.objs.size n .none:=by
  have q:=X7 (s.heap.push { cls:=.type "list_iterator",data:=.fields #[.ref l,.int 0 0] }) (o:={ cls:=.type "enumerate",data:=.fields #[.none,.bool false,.ref s.heap.objs.size,rawInt n,.none,.none] }) rfl;rw[e] at q;exact q
 exact⟨⟨_,f,rfl⟩,go _ f ⟨_,L8 _ (X7 _ rfl),rfl,rfl⟩ λb o x=>L8 _ (L8 _ x)⟩
theorem jhY{A:Around}{E:Value->Shared->Prop}{s:Shared}{i:Nat}{n:Int}{us:Array Value}{C:Value->Shared->Prop}
  (J:IsEnum s.heap e it n was) (hi:s.heap.IsListIter it l i) (T:s.heap.IsList l us) (U:us[i]?=some x) (ne:e≠it)
  (go:∀ k,IsEnumOut k e it (n+1) x s.heap.objs.size->k.IsListIter it l (i+1)->k.get? s.heap.objs.size=some { cls:=.type "tuple",data:=.seq #[.int n s.toks,x] } ->
   (∀ b o,b≠e->b≠it->s.heap.get? b=some o->k.get? b=some o)->C (.ref s.heap.objs.size) { s with heap:=k,toks:=s.toks+1 }) :
  wpAny (model prog w) A (Builtin.«enumerate.__next__» ⟨[.ref e],[]⟩) (λfin s'=>∃ v,fin=.done (.ret v)/\C v s') E s:=by
 obtain⟨c,g,d,a,os⟩:=s;show wpAny _ _ (field (.ref e) 2 >>= _) _ _ _;refine L3 (U7 J rfl (x:=.ref it) rfl (L3 (wpAny_nextOf_list_item hi T U λf S m=>?_)));replace m:Heap.SameBut it c f:=m;have B:IsEnum f e it n was:=(m.2 e ne).trans J;show wpAny _ _ (field (.ref e) 3 >>= _) _ _ ⟨f,g,d,a,os⟩;refine L3 (U7 B rfl (x:=rawInt n) rfl ?_);show wpAny _ _ (field (.ref e) 4 >>= _) _ _ ⟨f,g,d,a,os⟩;refine L3 (U7 B rfl (x:=.none) rfl ?_);show wpAny _ _ (mkInt n >>= _) _ _ ⟨f,g,d,a,os⟩;refine L3 (wpAny_mkInt ?_);show wpAny _ _ (setField (.ref e) 3 (rawInt (n+1)) >>= _) _ _ ⟨f,g,d,a+1,os⟩;refine L3 (wpAny_setField_rec B (by simp) λt D p=>?_);replace p:Heap.SameBut e f t:=p;replace D:IsEnum t e it (n+1) was:=D;show wpAny _ _ (setField (.ref e) 4 .none >>= _) _ _ ⟨t,g,d,a+1,os⟩;refine L3 (wpAny_setField_rec D (by simp) λh F q=>?_);replace q:Heap.SameBut e t h:=q;replace F:IsEnum h e it (n+1) was:=F;show wpAny _ _ (newTuple [.int n a,x] >>= _) _ _ ⟨h,g,d,a+1,os⟩;refine L3 (wpAny_newTuple ?_);have G:IsEnum (h.push { cls:=.type "tuple",data:=.seq #[.int n a,x] }) e it (n+1) was:=L8 _ F;generalize H:h.push { cls:=.type "tuple",data:=.seq #[.int n a,x] }=k4 at G;have K:h.objs.size=c.objs.size:=by rw[q.1,p.1,m.1]
 have lt:e < c.objs.size:=N2 J;have V:k4.get? c.objs.size=some { cls:=.type "tuple",data:=.seq #[.int n a,x] }:=by rw[<- H,<- K];exact X7 _ rfl
 have kp:∀ b o,b≠e->b≠it->c.get? b=some o->k4.get? b=some o:=λb o j L M=>by
  rw[<- H];exact L8 _ (q.extBut b o j (p.extBut b o j (m.extBut b o L M)))
 have W:k4.IsListIter it l (i+1):=by
  rw[<- H];obtain⟨o,X,r⟩:=(S.extBut p.extBut ne.symm).extBut q.extBut ne.symm;exact⟨o,L8 _ X,r⟩
 show wpAny _ _ (Builtin.SmallTypes.ownedTupleIsFree (.ref e) >>= _) _ _ ⟨k4,g,d,a+1,os⟩;rw[K];clear H F q D p B m S K h t f;refine L3 ?_;delta Builtin.SmallTypes.ownedTupleIsFree;refine L3 (U7 G rfl (x:=.none) rfl (M7 ?_));simp only[if_true];refine L3 (wpAny_rule (L3 (U7 G rfl (x:=was) rfl (L3 (wpAny_setField_rec G (by simp) λI N u=>?_)))));replace u:Heap.SameBut e k4 I:=u;replace N:IsEnum I e it (n+1) x:=N;show wpAny _ _ (Builtin.SmallTypes.ownedTupleHandOut (.ref e) (.ref c.objs.size) >>= _) _ _ ⟨I,g,d,a+1,os⟩;refine L3 ?_;delta Builtin.SmallTypes.ownedTupleHandOut;refine L3 (wpAny_setField_rec N (by simp) λO P y=>?_);replace y:Heap.SameBut e I O:=y;replace P:IsEnumOut O e it (n+1) x c.objs.size:=P;refine wpAny_setField_rec P (by simp) λQ R z=>?_;replace z:Heap.SameBut e O Q:=z;replace R:IsEnumOut Q e it (n+1) x c.objs.size:=R;refine L3 (wpAny_letGo (M7 ⟨_,rfl,go Q R ?_ ?_ ?_⟩))
 ·exact((W.extBut u.extBut ne.symm).extBut y.extBut ne.symm).extBut z.extBut ne.symm
 ·exact z.extBut _ _ (Nat.ne_of_gt lt) (y.extBut _ _ (Nat.ne_of_gt lt) (u.extBut _ _ (Nat.ne_of_gt lt) V))
 ·exact λb o j L M=>z.extBut b o j (y.extBut b o j (u.extBut b o j (kp b o j L M)))
theorem jie 
  (a:IsEnum s.heap e it n was) (hi:s.heap.IsListIter it l i) (c:s.heap.IsList l us) (d:us[i]?=some x) (ne:e≠it)
  (go:∀ k,IsEnumOut k e it (n+1) x s.heap.objs.size->k.IsListIter it l (i+1)->k.get? s.heap.objs.size=some { cls:=.type "tuple",data:=.seq #[.int n s.toks,x] } ->
   (∀ b o,b≠e->b≠it->s.heap.get? b=some o->k.get? b=some o)->C (some (.ref s.heap.objs.size)) { s with heap:=k,toks:=s.toks+1 }):wpAny (model prog w) A (pyNext (.ref e)) C E s:=by
 have ty:s.TypeIs (.ref e) "enumerate":=⟨_,a,rfl⟩;unfold pyNext;exact L3 (wpAny_attempt (wpAny_callSpecial?_slot (name:=Str.ofString "__next__") ty F.slot_enumerate_next
  (wpAny_call_entry F.slot_enumerate_next ty F.entry_enumerate_next (jhY a hi c d ne λk f g h j=>M7 (go k f g h j)) (F.args_enumerate_next_1 _))))
theorem jig(d:A.handled=none)
  (c:IsEnum s.heap e it n was) (hi:s.heap.IsListIter it l i) (f:s.heap.IsList l us) (a:us[i]?=none)
  (go:∀ k,Heap.ExtBut it s.heap k->C none { s with heap:=k }):wpAny (model prog w) A (pyNext (.ref e)) C E s:=by
 have ty:s.TypeIs (.ref e) "enumerate":=⟨_,c,rfl⟩;unfold pyNext;refine L3 (wpAny_attempt (wpAny_callSpecial?_slot (name:=Str.ofString "__next__") ty F.slot_enumerate_next (wpAny_call_entry F.slot_enumerate_next ty F.entry_enumerate_next ?_ (F.args_enumerate_next_1 _))));show wpAny _ _ (field (.ref e) 2 >>= _) _ _ _;refine L3 (U7 c rfl (x:=.ref it) rfl (L3 (wpAny_nextOf_list_end d hi f a λk x b a=>?_)));obtain⟨o,g,h⟩:=a;exact L3 (wpAny_isInstance (T:="StopIteration") (b:=true) ⟨o,g,h⟩ isSubtype_stop (M7 (go _ b)))
end
noncomputable def Itn(K:PySem.W.Frag)(l:Addr)(n:Int):It :=
 ⟨λi H=>∃ xs x,SqL K H l xs/\xs[i]?=some x,λi H x H'=>∃ p v,(∀ xs,SqL K H l xs->xs[i]?=some v)/\x=.ref p/\H p=none/\H'=upd H p (.tup [.int (n+i),v]),λi H=>∃ xs,SqL K H l xs/\xs.length<=i⟩
theorem jii{P:Program}{w:World}{K:PySem.W.Frag}{t:List Expr}{m:Nat}{pos:Pos}(e a l:Addr)(n:Int)(y:e≠a)(hle:l≠e)(hli:l≠a) :
  Turn P w K (.Tuple t m pos) (Itn K l n) [e,a] e (λi h=>(∃ old,IsEnum h e a (n+i) old)/\h.IsListIter a l i) where
 mem:=by simp
 obj:=λi h st b f=>by
  obtain⟨⟨old,g⟩,o,J,L,hd⟩:=st;rcases(by simpa using f:b=e \/ b=a) with z | z
  ·subst z;exact⟨_,g,λv q=>by cases q⟩
  ·subst z;exact⟨o,J,λv q=>by rw[hd] at q;cases q⟩
 keep:=λi h h' st k=>by
  obtain⟨⟨old,g⟩,c⟩:=st;exact⟨⟨old,k e (by simp) _ g⟩,c.at λo q=>k a (by simp) o q⟩
 item:=by
  intro X M N O L i A s σ H E I F st Q;subst M N O;obtain⟨xs,x,G,R⟩:=Q;obtain⟨its,S,p,hz⟩:=I.list G;obtain⟨u,hu,ru⟩:=S.get R;obtain⟨⟨old,g⟩,c⟩:=st;refine jie g c p.isList (x:=u) (by simpa using hu) y λU J B hT hk=>?_;refine⟨_,rfl,wpAny_letOwnedTupleGo_enum (s:={ s with heap:=U,toks:=s.toks+1 }) J λC V d=>?_⟩;replace d:Heap.SameBut e U C:=d;have j:e < s.heap.objs.size:=N2 g;have D:C.get? s.heap.objs.size=_:=(d.2 _ (Nat.ne_of_gt j)).trans hT;have kk:∀ b o,b∉[e,a]->s.heap.get? b=some o->C.get? b=some o:=λb o f q=>by
   have r:b≠e/\b≠a:=by simpa using f
   exact(d.2 b r.1).trans (hk b o r.1 r.2 q)
  have I1:=I.turnedNew (h':=C) (t':=s.toks+1) (wr:=[e,a]) (T:=s.heap.objs.size) (xs:=[.int (n+i),x]) (its:=#[.int (n+i) s.toks,u]) kk F (M9 _) ⟨⟨_,D,rfl,_,rfl⟩,_,D,rfl⟩ (.cons ⟨_,rfl⟩ (.cons ru .nil)) (by show 2<=sizeLine;decide);have Y:IsEnum C e a (n+((i+1:Nat):Int)) u:=by
   have q:=V;rw[show n+((i+1:Nat):Int)=n+i+1 by lia];exact q
  refine⟨.ref s.heap.objs.size,_,I1,rfl,⟨_,x,(λys hy=>by rw[I.list_inj hy G];exact R),rfl,I.hok.fresh (M9 _),rfl⟩,⟨⟨_,Y⟩,B.at λo q=>(d.2 a y.symm).trans q⟩,λb f=>?_⟩;rw[jo]
  ·exact(F b f).1
  ·intro z;have:b < s.heap.objs.size:=by
    obtain⟨oi,Z,_⟩:=id c;rcases(by simpa using f:b=e \/ b=a) with q | q
    ·rw[q];exact j
    ·rw[q];exact N2 Z
   exact absurd this (by rw[z];exact Nat.lt_irrefl _)
 done:=by
  intro X M N O L i A s σ H E I F st Q;subst M N O;obtain⟨xs,G,R⟩:=Q;obtain⟨its,S,p,hz⟩:=I.list G;obtain⟨⟨old,g⟩,c⟩:=st;have hl:=S.length;exact jig (I.ok.hd L) g c p.isList (by simp;lia) λU eb=>⟨rfl,I.turnedL (t':=s.toks) (wr:=[e,a]) (λb o f q=>eb b o (by simp at f;exact f.2) q) F⟩
 self:=λ_ _ _ _ _ st h=>wpAny_pyIter_enum st.1.choose_spec h
noncomputable def jnu(K:PySem.W.Frag)(tl:TA)(tb:TE):TI:=λσ H R=>tl σ H λvs H1=>tb σ H1 λv H2=>∃ a xs n,vs=[.ref a]/\v=.int n/\Builtin.SmallTypes.fitsIndex n=true/\SqL K H2 a xs/\R (Itn K a n) H2
theorem jnw{X:Cx}{f:List Expr}{m:Nat}{tpos p pos kpos:Pos}{a b:Expr}{ta:TA}{tb:TE}(M:Gl X "enumerate")(N:X.mg "enumerate" = none)(O:PA X [a] ta)(C:PE X b tb)(F:starEach [a] X.env=[(false,eval a X.env)]:=by rfl) :
  PI X (.Tuple f m tpos) (.Call (.Name "enumerate" p) [a] [⟨some "start",b,kpos⟩] pos) (jnu X.K ta tb):=by
 intro c s σ H R I h;refine wpAny_Call_Name_kw (KM I M N (show bootBuiltins "enumerate" = some (.type "enumerate") by decide +kernel) ?_);unfold callWith;have D:((backTo pos (starEach [a] X.env)).any (·.1)||(backToKw pos (keywordEach [⟨some "start",b,kpos⟩] X.env)).any (·.1.isNone))=false:=by rw[F];rfl
 rw[D];refine L3 (wpAny_holding ?_);have G:=O pos c s σ H _ I h;rw[F] at G ⊢;refine wpAny_mono (evalArgs_kw (Q:=λx g=>wpAny (model X.prog X.w) X.A (call (.type "enumerate") x.pos x.kw) (λv g=>wpAny (model X.prog X.w) X.A (pyIter v) (PIE X c σ (.Tuple f m tpos) R) X.xe g) X.xe g) rfl (thn G λus g ⟨vs,P,S,T,U⟩=>?_)) (λx g k=>L3 (wpAny_standAt ?_)) λ_ _ x=>x
 ·refine wpAny_evalAll_cons ?_;show wpAny _ _ (eval b X.env >>= λv=>standAt pos >>= λ_=>pure v) _ _ _;refine L3 (thn (C c g σ P _ S U) λv d ⟨y,J,B,V,W⟩=>L3 (wpAny_standAt (M7 (wpAny_evalAll_nil ?_))));obtain⟨l,xs,n,rfl,rfl,Y,Z,q⟩:=W;obtain⟨u,rfl,ru⟩:=T.one;cases ru;obtain⟨t,rfl⟩:=V;obtain⟨its,rv,pl,hz⟩:=B.list Z;have i:l < d.heap.objs.size:=by
   obtain⟨o,_,e,_⟩:=pl;exact N2 e
  refine jh5 pl.isList Y λk L E hk=>?_;have I3:Inv X c σ J { d with heap:=k }:=B.kept (t':=d.toks) hk;refine PySem.wpAny_pyIter_enum (s:={ d with heap:=k }) L ?_;refine⟨d.heap.objs.size+1,[d.heap.objs.size+1,d.heap.objs.size],_,_,J,rfl,I3,jii _ _ l n (Nat.succ_ne_self _) (N7 (Nat.lt_succ_of_lt i)) (N7 i),⟨⟨_,by simpa using L⟩,E⟩,λb C=>?_,q⟩;have j:d.heap.objs.size<=b:=by
   rcases(by simpa using C:b=d.heap.objs.size+1 \/ b=d.heap.objs.size) with z | z
   ·rw[z];exact Nat.le_succ _
   ·rw[z];exact M9 _
  exact B.fpOk j (B.hok.fresh j)
 ·refine L3 (M7 ?_);exact L3 (wpAny_mono k (λr d hr=>L3 (wpAny_holding (wpAny_point (M7 hr)))) λ_ _ x=>x)
end L2
namespace QD
open PySem L2 PySem.Spec PyProof.Rows
noncomputable def JS:Int->List D->List D
 | _,[]=>[]
 | n,x::l=>.tup [.int n,x]::JS (n+1) l
theorem wE:∀(n:Int) (l:List D),(JS n l).length=l.length
 | _,[]=>rfl
 | n,x::l=>by rw[JS,M3,M3,wE]
theorem wH:∀(n:Int) (l:List D) (i:Nat) (y:D),(JS n l)[i]?=some y->∃ x,l[i]?=some x/\y=.tup [.int (n+i),x]
 | _,[],_,_,e=>by simp[JS] at e
 | n,x::l,0,y,e=>by simp[JS] at e;exact⟨x,rfl,by rw[<- e];simp⟩
 | n,x::l,i+1,y,e=>by
  obtain⟨z,a,b⟩:=wH (n+1) l i y (by simpa [JS] using e);exact⟨z,by simpa using a,by rw[b];congr 3;lia⟩
noncomputable def jeY(p:PAf)(q:PF):PAf:=λρ=>match p ρ with
 | some [.lst _ l]=>(match q ρ with
  | some (.int n)=>bif VE n then some (JS n (fzs l)) else none
  | _=>none)
 | _=>none
theorem jky(h:PPs R ta p)(g:PB R tb q):PIt R (jnu R.K ta tb) (jeY p q):=by
 intro σ ρ Z H O xs z s e Q k;unfold jeY at e;split at e
 ·rename_i o l j;split at e
  ·rename_i n J;cases hs:VE n with
   | false=>rw[hs] at e;cases e
   | true =>
    rw[hs] at e;cases e;refine h z s j λ{vs L H1 M} N P=>?_;obtain⟨v,rfl,S⟩:=P.one_of;have D:=S.freeze (Z':=λa=>L a \/ a∈M) (λa z=>.inl z) λa z=>.inr z;rw[fz,Rep] at D;obtain⟨a,c,O',rfl,T,U,rfl,_⟩:=D;have b:=N.fz;refine g b.wf.zd (b.slots z s) J λ{u Z2 H2 P2} d m=>?_;obtain⟨rfl,_⟩:=m.int_of;have f:=U.frame d.zz (λa z=>d.same a (b.wf.zd a z));have r:=T.frame d.zz (λa z=>d.same a (b.wf.zd a z)) (λa A=>(nomatch A));have hb:=zi hs;refine⟨a,c,n,rfl,rfl,by unfold Builtin.SmallTypes.fitsIndex;simp;lia,FL.sq f,k (b.pair d) ?_⟩;intro Z3 V E F zd i;have B:=(f.frame E F).sq;have m:Reps R Z3 V (fzs l) c []:=r.frame E F λa A=>(nomatch A);refine⟨λG=>⟨c,B,by rw[m.length];rw[wE] at G;exact G⟩,λx W=>?_⟩;obtain⟨y,X,rfl⟩:=wH _ _ i x W;obtain⟨u,I,Y⟩:=m.item X;refine⟨⟨c,u,B,I⟩,λw H4 C=>?_⟩;obtain⟨q,t,ht,rfl,g,rfl⟩:=C;have j:=ht c B;rw[I] at j;cases j;exact⟨_,Go.newF (wf0 zd) g,jbd zd g .int_mk Y⟩
  ·cases e
 ·cases e
theorem jm6(h:pV i ρ=some d):ρ[i]?=some (some d):=by
 unfold pV at h;split at h
 ·rename_i x a;rw[a];rw[X4 h]
 ·cases h
theorem jlD(d:X.mg "enumerate" = none)(h:QPs cl X [a] tr pr)(c:QB cl X b tb pb)(e:Gl X "enumerate":=by rfl)(f:starEach [a] X.env=[(false,eval a X.env)]:=by rfl) :
  QI cl X (.Tuple elts n tpos) (.Call (.Name "enumerate" p) [a] [⟨some "start",b,kpos⟩] pos) (jnu X.K tr tb) (jeY pr pb):=⟨jnw e d h.sem c.sem f,jky h.den c.den⟩
end QD
namespace L2
open PySem PySem.Spec PyProof.Rows
end L2
namespace QD
open PySem L2 PySem.Spec PyProof.Rows
end QD
namespace L2
open PySem PySem.Spec PyProof.Rows
end L2
namespace QD
open PySem L2 PySem.Spec PyProof.Rows
theorem K8{l m:List Addr}(h:∀ c,l.count c<=m.count c)(n:m.Nodup):l.Nodup:=List.nodup_iff_count.mpr λc=>N8 (h c) (List.nodup_iff_count.mp n c)
theorem jbw{l m:List Addr}(h:∀ c,l.count c<=m.count c):∀ c∈l,c∈m:=λc a=>List.count_pos_iff.mp (U5 (List.count_pos_iff.mpr a) (h c))
end QD
namespace PySem
open Sem (wp)
namespace F
end F
end PySem
namespace L2
open PySem PySem.Spec PyProof.Rows
end L2
namespace QD
open PySem L2 PySem.Spec PyProof.Rows
noncomputable def pFz(p:PF):PF:=λρ=>(p ρ).bind λd=>some (fz d)
@[simp] theorem pFz_e:pFz p ρ=(p ρ).bind λd=>some (fz d):=rfl
theorem jmA(h:PP R te p):PB R te (pFz p):=by
 intro σ ρ Z H O d z s e Q k;unfold pFz at e;cases e1:p ρ with
 | none=>rw[e1] at e;cases e
 | some x =>
  rw[e1,L4] at e;cases e;refine h z s e1 λ{v b c P} g r=>?_;exact k (P:=[]) g.fz (r.freeze (Z':=λa=>b a \/ a∈P) (λa z=>.inl z) λa z=>.inr z)
theorem QP.fzb(h:QP cl X e te pe):QB cl X e te (pFz pe):=⟨h.sem,jmA h.den⟩
end QD
namespace L2
open PySem PySem.Spec PyProof.Rows
end L2
namespace QD
open PySem L2 PySem.Spec PyProof.Rows
end QD
namespace L2
open PySem PySem.Spec PyProof.Rows
end L2
namespace QD
open PySem L2 PySem.Spec PyProof.Rows
end QD
namespace L2
open PySem PySem.Spec PyProof.Rows
end L2
namespace QD
open PySem L2 PySem.Spec PyProof.Rows
noncomputable def zj:List Str->List D->Str->Option D
 | n::ns,d::l,f=>if f=n then some d else zj ns l f
 | _,_,_=>none
theorem jcG:∀{ns:List Str}{l:List D}{vs:List V}{O:List Addr},Reps R Z H l vs O->ns.length=l.length->zj ns l f=some d->∃ v P,(ns.zip vs).lookup f=some v/\Rep R Z H d v P
 | [],l,vs,O,_,_,h=>by cases l<;>cases h
 | n::ns,[],vs,O,_,a,_=>by simp at a
 | n::ns,x::l,vs,O,r,a,h=>by
  rw[Reps] at r;obtain⟨v,b,c,m,rfl,rfl,g,i⟩:=r;rw[zj] at h;by_cases e:f=n
  ·rw[if_pos e] at h;cases h;exact⟨v,c,by rw[U8,List.lookup_cons,e];simp,g⟩
  ·rw[if_neg e] at h;obtain⟨w,P,j,k⟩:=jcG i (by simpa using a) h;refine⟨w,P,?_,k⟩;rw[U8,List.lookup_cons];have:(f==n)=false:=by simp[e]
   rw[this];exact j
noncomputable def jcw(c:Nat)(f:Str)(p:PF):PF:=λρ=>match p ρ with
 | some (.ins _ c' ns l)=>bif c'==c then zj ns l f else none
 | _=>none
theorem jk6(m:Cls R.K (R.cls c))(n:NoAttr R.K (R.cls c) f)(h:PB R ta p):PB R (je3 R.K ta f) (jcw c f p):=by
 intro σ ρ Z H O d z s e Q k;unfold jcw at e;split at e
 ·rename_i o i ns l q;cases hc:i==c with
  | false=>rw[hc] at e;cases e
  | true =>
   rw[hc] at e;have b:i=c:=by simpa using hc
   subst b;have e:zj ns l f=some d:=e;refine h z s q λ{v A B C} r j=>?_;rw[Rep] at j;obtain⟨a,dx,D,E,rfl,t,u,x,_⟩:=j;obtain⟨w,P,y,g⟩:=jcG t u e;exact⟨a,_,dx,_,w,rfl,x,m,n,y,k r g⟩
 ·cases e
noncomputable def JO:List Str->List D->Str->D->List Str×List D
 | n::ns,x::l,f,d=>if n=f then(n::ns,d::l) else(n::(JO ns l f d).1,x::(JO ns l f d).2)
 | _,_,f,d=>([f],[d])
theorem wY(b:Rep R Z H d v P):∀{ns:List Str}{l:List D}{vs:List V}{O:List Addr},Reps R Z H l vs O->ns.length=l.length ->
  ∃ vs2 O2,Reps R Z H (JO ns l f d).2 vs2 O2/\(JO ns l f d).1.zip vs2=x8 f v (ns.zip vs)/\(JO ns l f d).1.length=(JO ns l f d).2.length/\∀ c,O2.count c<=O.count c+P.count c
 | [],[],vs,O,r,_=>by
  rw[Reps] at r;obtain⟨rfl,rfl⟩:=r;exact⟨[v],P,.one b,rfl,rfl,λc=>by simp⟩
 | [],_::_,_,_,_,a=>by simp at a
 | _::_,[],_,_,_,a=>by simp at a
 | n::ns,x::l,vs,O,r,a=>by
  rw[Reps] at r;obtain⟨u,g,i,O2,rfl,rfl,j,h⟩:=r;rw[JO];by_cases e:n=f
  ·rw[if_pos e];refine⟨v::g,P++O2,Reps.cons b h,?_,a,λc=>by simp only[U9];lia⟩;rw[U8,U8,x8,if_pos e]
  ·rw[if_neg e];obtain⟨vs2,k,m,o,p,q⟩:=wY (f:=f) b h (by simpa using a);refine⟨u::vs2,i++k,Reps.cons j m,?_,by simp[p],λc=>by have:=q c;simp only[U9];lia⟩;rw[U8,U8,x8,if_neg e,o]
noncomputable def jaX(i c:Nat)(f:Str)(pv:PF):FS:=λρ=>match pv ρ with
 | none=>none
 | some d=>match ρ[i]? with
  | some (some (.ins true c' ns l))=>bif c'==c&&decide (ns.length<=900) then some (.nx (ρ.set i (some (.ins true c (JO ns l f d).1 (JO ns l f d).2)))) else none
  | _=>none
theorem jjH{R:RC}{pm:List Nat}{i c:Nat}{f:Str}{tv:TE}{pv:PF}(T:Cls R.K (R.cls c))(U:NoAttr R.K (R.cls c) f)(V:PP R tv pv):DS R pm (jmy R.K (Yj i) tv f) (jaX i c f pv):=by
 intro σ ρ Z H O o w s e D' k;unfold jaX at e;cases e1:pv ρ with
 | none=>rw[e1] at e;cases e
 | some d =>
  rw[e1] at e;dsimp only at e;split at e
  ·rename_i n ns l L;cases hm:n==c&&decide (ns.length<=900) with
   | false=>rw[hm] at e;cases e
   | true =>
    rw[hm] at e;cases e;rw[M0] at hm;have D:n=c:=by simpa using hm.1
    subst D;refine V w.zd s e1 λ{u E t F} M W=>?_;have X:=M.slots w.zd s;obtain⟨A,P,B,rfl,Y,k2,_⟩:=X.put (L9.mp L).1;obtain⟨v,ev,r⟩:=Y _ L;rw[Rep] at r;obtain⟨a,dx,vs,x,rfl,rs,G,ea,rfl⟩:=r;refine⟨.ref a,ev,a,_,dx,_,rfl,ea,T,U,?_,?_⟩
    ·rw[List.length_zip];have:=X3 hm.2;exact Nat.lt_of_le_of_lt (Nat.min_le_left _ _) (by lia)
    ·have y:Go Z H (A++(a::x)++B) E t (F++(A++(a::x)++B)):=M.widen w;obtain⟨j,C,r3,e3,l3,N⟩:=wY (f:=f) W rs G;rw[<- e3];have gB:=Go.put (o:=.ins (R.cls n) dx ((JO ns l f d).1.zip j)) y.wf (show a∈F++(A++(a::x)++B) by simp);have gC:=y.trans gB;have nd:=y.wf.nd;have I:=List.nodup_iff_count.mp nd a;simp only[U9,List.count_cons,beq_self_eq_true,if_true] at I;have pos:∀{m:List Addr},a∈m->0 < m.count a:=λh=>List.count_pos_iff.mpr h;have p:∀ b,E b->upd t a (.ins (R.cls n) dx ((JO ns l f d).1.zip j)) b=t b:=λb g=>jo λz=>y.wf.nz a (by simp) (z▸g);have J:∀ b∈C,b≠a:=λb g z=>by subst z;have:=pos g;have:=N b;lia
     have nA:∀ b∈A,b≠a:=λb g z=>by subst z;have:=pos g;lia
     have nB:∀ b∈B,b≠a:=λb g z=>by subst z;have:=pos g;lia
     have rt:Rep R E (upd t a (.ins (R.cls n) dx ((JO ns l f d).1.zip j))) (.ins true n (JO ns l f d).1 (JO ns l f d).2) (.ref a) (a::C):=by
      rw[Rep];exact⟨a,dx,j,C,rfl,r3.frame (λ_ z=>z) p (λb g=>jo (J b g)),l3,jU,rfl⟩
     have Q:=k2 rt (λ_ z=>z) p (λb g=>jo (nA b g)) (λb g=>jo (nB b g));rw[vF ev] at Q;have S:∀ q,(A++(a::C)++B).count q<=(F++(A++(a::x)++B)).count q:=λq=>by
      have:=N q;simp only[U9,List.count_cons];lia
     exact k (gC.drop (jbw S) (K8 S nd)) Q (Keep.refl _ _)
  ·cases e
theorem uW(b:Cls X.K (cl c))(d:NoAttr X.K (cl c) f)(a:QB cl X o to po)(e:attributeBase o f X.env (eval o X.env)=eval o X.env:=by rfl):QB cl X (.Attribute o f pos) (je3 X.K to f) (jcw c f po):=⟨ja3 a.sem e,jk6 (R:=⟨X.K,cl⟩) b d a.den⟩
theorem jgQ(b:Cls X.K (cl c))(d:NoAttr X.K (cl c) f)(g:QB cl X (.Name x xpos) (Yj i) (pV i))(a:QP cl X e te pe)(h:swapsWith e (some (.Attribute (.Name x xpos) f pos')) pos.line X.env=pure false:=by rfl) :
  QS cl pm X (.Assign [.Attribute (.Name x xpos) f pos'] e pos) (jmy X.K (Yj i) te f) (jaX i c f pe):=⟨jkP g.sem a.sem h,jjH (R:=⟨X.K,cl⟩) b d a.den⟩
noncomputable def jjw:List Str->Str->Option Nat
 | [],_=>none
 | n::ns,f=>if f=n then some 0 else(jjw ns f).map (·+1)
theorem ja2:∀{ns:List Str}{f:Str}{vs:List V}{j:Nat}{v:V},jjw ns f=some j->ns.length=vs.length->vs[j]?=some v->(ns.zip vs).lookup f=some v
 | [],_,_,_,_,h,_,_=>by cases h
 | n::ns,f,[],_,_,_,a,_=>by simp at a
 | n::ns,f,u::vs,j,v,h,a,b=>by
  rw[jjw] at h;by_cases e:f=n
  ·rw[if_pos e] at h;cases h;cases b;rw[U8,List.lookup_cons,e];simp
  ·rw[if_neg e] at h;cases hp:jjw ns f with
   | none=>rw[hp] at h;cases h
   | some i =>
    rw[hp] at h;cases h;rw[U8,List.lookup_cons,show(f==n)=false by simp[e]];exact ja2 hp (by simpa using a) (by simpa using b)
theorem K7:∀{ns:List Str}{l:List D}{vs:List V},ns.length=l.length->vs.length=l.length->zj ns l f=none->(ns.zip vs).lookup f=none
 | [],_,_,_,_,_=>rfl
 | n::ns,[],_,a,_,_=>by simp at a
 | n::ns,x::l,[],_,b,_=>by simp at b
 | n::ns,x::l,v::vs,a,b,h=>by
  rw[zj] at h;by_cases e:f=n
  ·rw[if_pos e] at h;cases h
  ·rw[if_neg e] at h;rw[U8,List.lookup_cons,show(f==n)=false by simp[e]];exact K7 (by simpa using a) (by simpa using b) h
noncomputable def Qe(m:List D->Option (D×D))(i c:Nat)(mn:Str)(p:PAf):FE:=λρ=>(p ρ).bind λds=>match ρ[i]? with
 | some (some (.ins true c' ns l))=>bif c'==c&&(frzs ds&&(zj ns l mn).isNone) then(m (.ins true c' ns l::ds)).bind λr=>some (r.1,ρ.set i (some r.2)) else none
 | _=>none
theorem je0(h:PPs R ta p)(S:∀ ρ ds,p ρ=some ds->ds.length+1=n):DE R (xB (R.cls c) mn (spM R m n 0) [] E0 (Yj i) ta) (Qe m i c mn p):=by
 intro σ ρ T Z H O d w s e Q k;unfold Qe at e;cases e1:p ρ with
 | none=>rw[e1] at e;cases e
 | some ds =>
  rw[e1,L4] at e;split at e
  ·rename_i b ns l o;cases hm:b==c&&(frzs ds&&(zj ns l mn).isNone) with
   | false=>rw[hm] at e;cases e
   | true =>
    rw[hm] at e;rw[M0,M0] at hm;obtain⟨q,t,x⟩:=hm;have y:b=c:=by simpa using q
    subst y;have e:((m (.ins true b ns l::ds)).bind λr=>some (r.1,ρ.set i (some r.2)))=some (d,T):=e;cases e2:m (.ins true b ns l::ds) with
    | none=>rw[e2] at e;cases e
    | some r =>
     obtain⟨U,V⟩:=r;rw[e2,L4] at e;cases e;have G:=(L9.mp o).1;obtain⟨A0,P0,B0,_,W,_,_⟩:=s.put G;obtain⟨u,C,I⟩:=W _ o;rw[Rep] at I;obtain⟨a,dx,vs,O',rfl,X,D,Y,_⟩:=I;refine⟨.ref a,C,a,dx,_,rfl,Y,K7 D X.length (Option.isNone_iff_eq_none.mp x),?_⟩;refine h w.zd s e1 λ{v1 E J P1} K L=>?_;cases L.nil t;have f:Go Z H O E J O:=by simpa using K.widen w
     obtain⟨A,P,B,rfl,k1,k2,_⟩:=(K.slots w.zd s).put G;obtain⟨u',g,rc⟩:=k1 _ o;rw[C] at g;cases g;have rr:Reps R E J (.ins true b ns l::ds) (.ref a::v1) P:=by
      have:=Reps.cons rc L;simpa using this
     refine⟨E,.ins true b ns l::ds,U,V,P,.ref a,f.wf.mid,by have:=S ρ ds e1;simpa using this,by rw[N1];exact rr,rfl,e2,λ{v Z2 H2 P2 O2} j r2 F=>?_⟩;have g3:=j.frame f.wf;have M:=Go.keepA f.wf j;have N:=k2 F j.zz (λa z=>j.zH f.wf.mid a z) M.1 M.2;rw[vF C] at N;exact k (P:=P2) (f.trans g3).turn r2 N
  ·cases e
noncomputable def jaV(m:List D->Option (D×D))(c:Nat)(p:PAf):PF:=λρ=>(p ρ).bind λds=>bif frzs ds then(match m (.ins true c [] []::ds) with
 | some (.non,t)=>some t
 | _=>none) else none
theorem jhO(h:PPs R ta p)(y:∀ ρ ds,p ρ=some ds->ds.length+1=n):PP R (jhr (R.cls c) (spM R m n 0) [] E0 ta) (jaV m c p):=by
 intro σ ρ Z H O d z s e Q k;unfold jaV at e;cases e1:p ρ with
 | none=>rw[e1] at e;cases e
 | some ds =>
  rw[e1,L4] at e;cases hf:frzs ds with
  | false=>rw[hf] at e;cases e
  | true =>
   rw[hf,cond_true] at e;split at e
   ·rename_i t A;cases e;refine h z s e1 λ{I B q J} b r=>?_;cases r.nil hf;intro x dx C f g;have u:=Go.newF (o:=.own x) (wf0 b.wf.zd) f;have i:upd q dx (.own x) x=none:=by rw[jo (λe=>g e.symm)];exact C
    have D:=Go.newO (o:=.ins (R.cls c) dx []) u.wf i;have j:=u.trans D;have E:=j.reps b.wf.zd r;have F:Rep R (λa=>B a \/ a=dx) (upd (upd q dx (.own x)) x (.ins (R.cls c) dx [])) (.ins true c [] []) (.ref x) [x]:=by
     rw[Rep];exact⟨x,dx,[],[],rfl,.empty,rfl,jU,rfl⟩
    refine⟨_,.ins true c [] []::ds,.non,d,[x],.ref x,j.wf,by have:=y ρ ds e1;simpa using this,by rw[N1];have:=Reps.cons F E;simpa using this,rfl,A,λ{v Z3 K L M} G w l=>?_⟩;rw[Rep] at w;obtain⟨rfl,rfl⟩:=w;exact⟨rfl,k (by simpa using(b.trans j).trans G) l⟩
   ·cases e
theorem jdk(g:Cls X.K (cl c))(h:Meth X.K (cl c) mn f)(j:Binds X.K fd ps [])(l:VM CX0 X E0)
  (G:FnOk X.prog X.w X.K X.mg X.base CX0 k f fd ps (spM ⟨X.K,cl⟩ m n 0)) (o:Room k X.A) (q:QB cl X (.Name x p) (Yj i) (pV i)) (d:QPs cl X (e::es) tr pr) (r:∀ ρ ds,pr ρ=some ds->ds.length+1=n)
  (a:starEach (e::es) X.env=(false,eval e X.env)::starEach es X.env:=by rfl) (b:(backTo pos (starEach es X.env)).any (·.1)=false:=by rfl)
  (s:eval (.Call (.Attribute (.Name x p) mn apos) (e::es) [] pos) X.env=(do
   let ov <- eval (.Name x p) X.env
   standAt apos.atName
   let (f,first) <- holding [ov] (getMethod ov mn pl)
   callWith pos f first (backTo pos (starEach (e::es) X.env)) (backToKw pos (keywordEach [] X.env))):=by rfl) :
  QE cl X (.Call (.Attribute (.Name x p) mn apos) (e::es) [] pos) (xB (cl c) mn (spM ⟨X.K,cl⟩ m n 0) [] E0 (Yj i) tr) (Qe m i c mn pr) :=
 ⟨jen q.sem g h G o j .nil l d.sem a b s,je0 (R:=⟨X.K,cl⟩) d.den r⟩
noncomputable def qU(m:List D->Option D)(c:Nat)(mn:Str)(po:PF)(p:PAf):PF:=λρ=>(po ρ).bind λs=>match s with
 | .ins o c' ns l=>bif c'==c&&(zj ns l mn).isNone then((p ρ).bind λds=>(m (fzs (.ins o c' ns l::ds))).bind λd=>bif frzs (.ins o c' ns l::ds)||vT d then some d else none) else none
 | _=>none
theorem jeh(J:PB R to po)(K:PBs R ta p)(L:∀ ρ ds,p ρ=some ds->ds.length+1=n):PP R (xB (R.cls c) mn (spP R m n) [] E0 to ta) (qU m c mn po p):=by
 intro σ ρ Z H O d z s e Q k;unfold qU at e;cases e0:po ρ with
 | none=>rw[e0] at e;cases e
 | some sf =>
  rw[e0,L4] at e;split at e
  ·rename_i o j ns l;cases hm:j==c&&(zj ns l mn).isNone with
   | false=>rw[hm] at e;cases e
   | true =>
    rw[hm,cond_true] at e;rw[M0] at hm;have x:j=c:=by simpa using hm.1
    subst x;cases e1:p ρ with
    | none=>rw[e1] at e;cases e
    | some ds =>
     rw[e1,L4] at e;cases e2:m (fzs (.ins o j ns l::ds)) with
     | none=>rw[e2] at e;cases e
     | some M =>
      rw[e2,L4] at e;cases f:frzs (.ins o j ns l::ds)||vT M with
      | false=>rw[f] at e;cases e
      | true =>
       rw[f] at e;cases e;refine J z s e0 λ{v0 Z0 H0 E} w F=>?_;have t:=F;rw[Rep] at t;obtain⟨a,dx,N,O',rfl,S,y,T,_⟩:=t;refine⟨a,dx,_,rfl,T,K7 y S.length (Option.isNone_iff_eq_none.mp hm.2),?_⟩;refine K w.wf.zd (w.slots z s) e1 λ{U g u G} ga V=>?_;have A:Go Z H [] g u []:=by simpa using w.pair ga
       have r:Reps R g u (.ins o j ns l::ds) (.ref a::U) (E++G):=Reps.cons (ga.rep w.wf.zd F) V;generalize E++G=P1 at r;have W:=A.wf.zd;have X:Zd (λa=>g a \/ a∈P1) u:=λa h=>h.elim (W a) (r.dom a);refine⟨λa=>g a \/ a∈P1,fzs (.ins o j ns l::ds),d,X,by rw[wk];have:=L ρ ds e1;simpa using this,by rw[N1];exact r.freeze (λa z=>.inl z) λa z=>.inr z,e2,λ{v B C P} b I=>?_⟩;rw[Bool.or_eq_true] at f;rcases f with f | f
       ·cases r.nil f;have i:Go g u [] B C P:=⟨b.wf,λa z=>b.zz a (.inl z),b.fr,λa z=>(b.zn a z).imp (λq=>q.resolve_right (λq=>(nomatch q))) id,b.sub,b.dm⟩;exact k (by simpa using A.pair i) I
       ·have i:Go g u [] (λa=>B a/\(a∉P1 \/ g a)) C P:=by
         refine⟨⟨b.wf.nd,λa h q=>b.wf.nz a h q.1,b.wf.od,λa q=>b.wf.zd a q.1⟩,λa z=>⟨b.zz a (.inl z),.inr z⟩,b.fr,λa z=>?_,b.sub,b.dm⟩;rcases b.zn a z.1 with(q | q) | q
         ·exact .inl q
         ·exact .inl (z.2.resolve_left λn=>n q)
         ·exact .inr q
        have Y:Rep R (λa=>B a/\(a∉P1 \/ g a)) C d v P:=by
         refine I.thaw (λa ws za ta=>⟨za,?_⟩) f;by_cases D:a∈P1
         ·exact absurd (Rd.agree (b.same a (r.dom a D)).symm ta) (r.notTup a D ws)
         ·exact .inl D
        exact k (by simpa using A.pair i) Y
  ·cases e
noncomputable abbrev Ln:=D->Option (D×(D->D))
def jbc(R:RC)(tb:TE)(i:Nat)(L:Ln):Prop:=∀{σ:L2.St}{ρ:Rh}{Z:Zn}{H:Hp}{O:List Addr}{d x:D}{k:D->D},Slots R Z H ρ σ O->ρ[i]?=some (some d)->L d=some (x,k) ->
 ∃ v A P B,O=A++P++B/\Rep R Z H x v P/\(∀{Q:VK},Q v H->tb σ H Q) /\
  ∀{Z':Zn}{H':Hp}{x':D}{P':List Addr},Rep R Z' H' x' v P'->(∀ a,Z a->Z' a)->(∀ a,Z a->H' a=H a)->(∀ a∈A,H' a=H a)->(∀ a∈B,H' a=H a)->Slots R Z' H' (ρ.set i (some (k x'))) σ (A++P'++B)
noncomputable def jb4:Ln:=λd=>some (d,λx=>x)
theorem jgu:jbc R (Yj i) i jb4:=by
 intro σ ρ Z H O d x k s h e;cases e;obtain⟨A,P,B,rfl,a,b,_⟩:=s.put (L9.mp h).1;obtain⟨v,ev,r⟩:=a _ h;refine⟨v,A,P,B,rfl,r,λq=>⟨v,ev,q⟩,λc f g j l=>?_⟩;have q:=b c f g j l;rw[vF ev] at q;exact q
noncomputable def jgz(c:Nat)(f:Str)(L:Ln):Ln:=λd=>(L d).bind λy=>match y.1 with
 | .ins true c' ns l=>bif c'==c then(jjw ns f).bind λj=>(l[j]?).bind λx=>some (x,λx'=>y.2 (.ins true c' ns (l.set j x'))) else none
 | _=>none
theorem jgx(S:Cls R.K (R.cls c))(T:NoAttr R.K (R.cls c) f)(h:jbc R tb i L):jbc R (je3 R.K tb f) i (jgz c f L):=by
 intro σ ρ Z H O d x k s hd e;unfold jgz at e;cases e0:L d with
 | none=>rw[e0] at e;cases e
 | some y =>
  obtain⟨y,k0⟩:=y;rw[e0,L4] at e;dsimp only at e;split at e
  ·rename_i p ns l;cases hc:p==c with
   | false=>rw[hc] at e;cases e
   | true =>
    rw[hc,cond_true] at e;have t:p=c:=by simpa using hc
    subst t;cases e1:jjw ns f with
    | none=>rw[e1] at e;cases e
    | some j =>
     rw[e1,L4] at e;cases e2:l[j]? with
     | none=>rw[e2] at e;cases e
     | some x0 =>
      rw[e2,L4] at e;cases e;obtain⟨v,A,P,B,rfl,r,U,V⟩:=h s hd e0;rw[Rep] at r;obtain⟨a,dx,D,O',rfl,E,n,F,rfl⟩:=r;obtain⟨u,G,W,I,J,rfl,X,o⟩:=E.at e2;have w:ns.length=D.length:=by rw[E.length];exact n
      refine⟨u,A++(a::G),W,I++B,by simp,X,λq=>U ⟨a,_,dx,_,u,rfl,F,S,T,ja2 e1 w J,q⟩,λ{Y H' x' z} r' M N C Q=>?_⟩;have g:=o r' M N (λb m=>C b (by simp[m])) (λb m=>Q b (by simp[m]));rw[vF J] at g;have rt:Rep R Y H' (.ins true p ns (l.set j x')) (.ref a) (a::(G++z++I)):=by
       rw[Rep];exact⟨a,dx,D,_,rfl,g,by rw[List.length_set];exact n,(C a (by simp)).trans F,rfl⟩
      have s2:=V rt M N (λb m=>C b (by simp[m])) (λb m=>Q b (by simp[m]));simpa using s2
  ·cases e
noncomputable def lIx(j:Int)(L:Ln):Ln:=λd=>(L d).bind λy=>match y.1 with
 | .tup l=>(ixN l.length j).bind λn=>(l[n]?).bind λx=>some (x,λx'=>y.2 (.tup (l.set n x')))
 | .lst true l=>(ixN l.length j).bind λn=>(l[n]?).bind λx=>some (x,λx'=>y.2 (.lst true (l.set n x')))
 | _=>none
theorem jge(W:∀{σ:L2.St}{H:Hp}{Q:VK},Q (.int j) H->tj σ H Q)(h:jbc R tb i L):jbc R (tOp (rIx R.K) tb tj) i (lIx j L):=by
 intro σ ρ Z H O d x k s hd e;unfold lIx at e;cases e0:L d with
 | none=>rw[e0] at e;cases e
 | some y =>
  obtain⟨y,k0⟩:=y;rw[e0,L4] at e;dsimp only at e;split at e
  ·rename_i l;cases e1:ixN l.length j with
   | none=>rw[e1] at e;cases e
   | some n =>
    rw[e1,L4] at e;cases e2:l[n]? with
    | none=>rw[e2] at e;cases e
    | some x0 =>
     rw[e2,L4] at e;cases e;obtain⟨v,A,P,B,rfl,r,G,I⟩:=h s hd e0;rw[Rep] at r;obtain⟨a,w,rfl,X,z⟩:=r;obtain⟨u,C,J,D,E,rfl,M,g⟩:=z.at e2;refine⟨u,A++C,J,D++B,by simp,M,λq=>G (W (.inr (.inl ⟨a,w,j,u,rfl,rfl,X.sq,jcJ (by rw[z.length];exact e1) E,q⟩))),λ{N S T m} U o p t F=>?_⟩;have c:=g U o p (λb f=>t b (by simp[f])) (λb f=>F b (by simp[f]));rw[vF E] at c;have rt:Rep R N S (.tup (l.set n T)) (.ref a) (C++m++D):=by
      rw[Rep];exact⟨a,w,rfl,X.frame o p,c⟩
     have V:=I rt o p (λb f=>t b (by simp[f])) (λb f=>F b (by simp[f]));simpa using V
  ·rename_i l;cases e1:ixN l.length j with
   | none=>rw[e1] at e;cases e
   | some n =>
    rw[e1,L4] at e;cases e2:l[n]? with
    | none=>rw[e2] at e;cases e
    | some x0 =>
     rw[e2,L4] at e;cases e;obtain⟨v,A,P,B,rfl,r,G,I⟩:=h s hd e0;rw[Rep] at r;obtain⟨a,w,O',rfl,z,Y,rfl⟩:=r;obtain⟨u,C,J,D,E,rfl,M,g⟩:=z.at e2;refine⟨u,A++(a::C),J,D++B,by simp,M,λq=>G (W (.inl ⟨a,w,j,u,rfl,rfl,SqL.of Y,jcJ (by rw[z.length];exact e1) E,q⟩)),λ{N S T m} U o p t F=>?_⟩;have c:=g U o p (λb f=>t b (by simp[f])) (λb f=>F b (by simp[f]));rw[vF E] at c;have rt:Rep R N S (.lst true (l.set n T)) (.ref a) (a::(C++m++D)):=by
      rw[Rep];exact⟨a,w,_,rfl,c,(t a (by simp)).trans Y,rfl⟩
     have V:=I rt o p (λb f=>t b (by simp[f])) (λb f=>F b (by simp[f]));simpa using V
  ·cases e
noncomputable def spX(te:TE)(n:Nat):Sp:=λvs H Q _=>vs.length=n/\te (vs.map some) H Q
noncomputable def jbM(c:Nat)(mn:Str)(L':Ln)(L:Ln):Ln:=λd=>(L d).bind λy=>match y.1 with
 | .ins true c' ns l=>bif c'==c&&(zj ns l mn).isNone then(L' (.ins true c' ns l)).bind λz=>some (z.1,λx'=>y.2 (z.2 x')) else none
 | _=>none
theorem jiA(h':jbc R te 0 L')(h:jbc R tb i L):jbc R (xB (R.cls c) mn (spX te 1) [] E0 tb K3) i (jbM c mn L' L):=by
 intro σ ρ Z H O d x k s hd e;unfold jbM at e;cases e0:L d with
 | none=>rw[e0] at e;cases e
 | some y =>
  obtain⟨y,k0⟩:=y;rw[e0,L4] at e;dsimp only at e;split at e
  ·rename_i g ns l;cases hm:g==c&&(zj ns l mn).isNone with
   | false=>rw[hm] at e;cases e
   | true =>
    rw[hm,cond_true] at e;rw[M0] at hm;have j:g=c:=by simpa using hm.1
    subst j;cases e1:L' (.ins true g ns l) with
    | none=>rw[e1] at e;cases e
    | some z =>
     obtain⟨z,w⟩:=z;rw[e1,L4] at e;cases e;obtain⟨v,A,P,B,rfl,r,N,Q⟩:=h s hd e0;have C:=r;rw[Rep] at C;obtain⟨a,dx,vs,O',rfl,S,m,T,_⟩:=C;have U:Slots R Z H [some (.ins true g ns l)] [some (.ref a)] P:=by
      have:=qW (Reps.one r) (qY (R:=R) (Z:=Z) (H:=H) 0);simpa using this
     obtain⟨u,D,V,E,rfl,W,n,o⟩:=h' U rfl e1;refine⟨u,A++D,V,E++B,by simp,W,λq=>N ⟨a,dx,_,rfl,T,K7 m S.length (Option.isNone_iff_eq_none.mp hm.2),rfl,n q⟩,λ{X Y F p} r' G I J K=>?_⟩;have s2:=o r' G I (λb f=>J b (by simp[f])) (λb f=>K b (by simp[f]));have rt:Rep R X Y (w F) (.ref a) (D++p++E):=by
      obtain⟨A2,P2,B2,eO,q1,_,q3⟩:=s2.put (i:=0) (by simp);obtain⟨v2,t,r2⟩:=q1 (w F) (by simp);cases t;have M:A2++B2=[]:=by
       have:=q3;simp at this;obtain⟨_,σ',e5,e6⟩:=this;cases e5;exact e6.2
      simp only[List.append_eq_nil_iff] at M;obtain⟨rfl,rfl⟩:=M;rw[eO];simpa using r2
     have s3:=Q rt G I (λb f=>J b (by simp[f])) (λb f=>K b (by simp[f]));simpa using s3
  ·cases e
noncomputable def wI(i:Nat)(L:Ln)(p:PF):FS:=λρ=>(p ρ).bind λd=>(pV i ρ).bind λt=>(L t).bind λy=>match y.1 with
 | .lst true l=>bif lim l.length then some (.nx (ρ.set i (some (y.2 (.lst true (l++[d])))))) else none
 | _=>none
theorem jiN(V:jbc R tb i L)(h:PP R te p):DS R pm (zF (tBM R.K "list" Qy tb (kq te K3))) (wI i L p):=by
 intro σ ρ Z H O o w s e D' k;unfold wI at e;cases e1:p ρ with
 | none=>rw[e1] at e;cases e
 | some d =>
  rw[e1,L4] at e;cases e2:pV i ρ with
  | none=>rw[e2] at e;cases e
  | some t =>
   rw[e2,L4] at e;have W:ρ[i]?=some (some t):=by
    rw[jeW] at e2;cases q:ρ[i]? with
    | none=>rw[q] at e2;cases e2
    | some o=>cases o with
     | none=>rw[q] at e2;cases e2
     | some t'=>rw[q] at e2;cases e2;rfl
   cases e3:L t with
   | none=>rw[e3] at e;cases e
   | some y =>
    obtain⟨y,k0⟩:=y;rw[e3,L4] at e;dsimp only at e;split at e
    ·rename_i l;cases hlim:lim l.length with
     | false=>rw[hlim] at e;cases e
     | true =>
      rw[hlim] at e;cases e;obtain⟨v,A,P,B,rfl,r,X,Y⟩:=V s W e3;rw[Rep] at r;obtain⟨a,f,g,rfl,T,I,rfl⟩:=r;refine X ⟨.inl ⟨rfl,f,SqL.of I⟩,?_⟩;refine h w.zd s e1 λ{u J j n} C r1=>?_;have M:j a=some (.lst f):=by rw[C.same a (by rw[I];exact λz=>(nomatch z))];exact I
      refine⟨a,f,u,rfl,rfl,M,by rw[T.length];exact jdx hlim,?_⟩;have F:Go Z H (A++(a::g)++B) J j (n++(A++(a::g)++B)):=C.widen w;have gB:=Go.put (o:=.lst (f++[u])) F.wf (show a∈n++(A++(a::g)++B) by simp);have gC:=F.trans gB;have nd:=F.wf.nd;have N:=List.nodup_iff_count.mp nd a;simp only[U9,List.count_cons,beq_self_eq_true,if_true] at N;have pos:∀{m:List Addr},a∈m->0 < m.count a:=λh=>List.count_pos_iff.mpr h;have D:∀ b,J b->upd j a (.lst (f++[u])) b=j b:=λb c=>jo λz=>F.wf.nz a (by simp) (z▸c);have nO:∀ b∈g,b≠a:=λb c z=>by subst z;have:=pos c;lia
      have nP:∀ b∈n,b≠a:=λb c z=>by subst z;have:=pos c;lia
      have nA:∀ b∈A,b≠a:=λb c z=>by subst z;have:=pos c;lia
      have nB:∀ b∈B,b≠a:=λb c z=>by subst z;have:=pos c;lia
      have Q:=C.reps w.zd T;have rt:Rep R J (upd j a (.lst (f++[u]))) (.lst true (l++[d])) (.ref a) (a::(g++n)):=by
       rw[Rep];refine⟨a,f++[u],g++n,rfl,?_,jU,rfl⟩;exact(Q.frame (λ_ z=>z) D (λb c=>jo (nO b c))).append (.one (r1.frame (λ_ z=>z) D (λb c=>jo (nP b c))))
      have S:∀ x,Z x->upd j a (.lst (f++[u])) x=H x:=λx G=>(D x (C.zz x G)).trans (C.same x (w.zd x G));have E:∀ x,x∈A++(a::g)++B->x≠a->upd j a (.lst (f++[u])) x=H x:=λx G hn=>(jo hn).trans (C.same x (w.od x G));have sl:=Y rt C.zz S (λb c=>E b (by simp[c]) (nA b c)) (λb c=>E b (by simp[c]) (nB b c));have U:∀ q,(A++(a::(g++n))++B).count q<=(n++(A++(a::g)++B)).count q:=λq=>by
       simp only[U9,List.count_cons];lia
      exact k (gC.drop (jbw U) (K8 U nd)) sl (Keep.refl _ _)
    ·cases e
noncomputable def uR(i c:Nat)(f g:Str):FE:=λρ=>match ρ[i]? with
 | some (some (.ins true c' [a,b] [x,y]))=>bif c'==c&&(decide (a=f)&&(decide (b=g)&&!decide (g=f))) then some (.tup [x,y],ρ.set i none) else none
 | _=>none
theorem jiO(E:Cls R.K (R.cls c))(M:NoAttr R.K (R.cls c) f)(N:NoAttr R.K (R.cls c) g):DE R (jlg (kq (je3 R.K (Yj i) f) (kq (je3 R.K (Yj i) g) K3))) (uR i c f g):=by
 intro σ ρ ρ' Z H O d w h e Q k;unfold uR at e;split at e
 ·rename_i F j l x y G;cases hm:F==c&&(decide (j=f)&&(decide (l=g)&&!decide (g=f))) with
  | false=>rw[hm] at e;cases e
  | true =>
   rw[hm] at e;cases e;simp only[M0,decide_eq_true_eq,Bool.not_eq_true',decide_eq_false_iff_not] at hm;obtain⟨S,rfl,rfl,s⟩:=hm;have t:F=c:=by simpa using S
   subst t;have T:i < ρ.length:=(L9.mp G).1;obtain⟨A,P,B,rfl,U,k2,I⟩:=h.put T;obtain⟨v,ev,r⟩:=U _ G;rw[Rep] at r;obtain⟨a,dx,vs,O',rfl,b,V,J,rfl⟩:=r;have u:=b;rw[Reps] at b;obtain⟨m,W,n,O2,rfl,rfl,r1,b⟩:=b;rw[Reps] at b;obtain⟨o,X,p,O4,rfl,rfl,r2,b⟩:=b;rw[Reps] at b;obtain⟨rfl,rfl⟩:=b;have Y:([j,l].zip [m,o]).lookup j=some m:=by simp[List.lookup]
   have l2:([j,l].zip [m,o]).lookup l=some o:=by
    have:(l==j)=false:=by simp[s]
    simp[List.lookup,this]
   refine⟨.ref a,ev,a,_,dx,_,m,rfl,J,E,M,Y,.ref a,ev,a,_,dx,_,o,rfl,J,E,N,l2,by show 2<=sizeLine;rw[sizeLine_eq];lia,λq C=>?_⟩;have nd:=w.nd;have L:∀ z,((n++(p++[]))++(A++B)).count z<=(A++(a::(n++(p++[])))++B).count z:=λz=>by
    simp only[U9,List.count_cons];lia
   have D:Go Z H (A++(a::(n++(p++[])))++B) Z H ((n++(p++[]))++(A++B)):=(Go.refl w).drop (jbw L) (K8 L nd);have ne:∀ a,H a≠none->a≠q:=λa h e=>h (e▸C);refine k (D.trans (Go.newF D.wf C)) (Rep.tupNew D.wf.left C u) (I.frame (λa z=>.inl z) (λa z=>jo (ne a (w.zd a z))) λa ha=>jo (ne a (I.dom a ha)))
 ·cases e
structure MtFact(K:PySem.W.Frag)(C:Addr)(x qual:Str)(st:Stmt)(f:Addr)(fd:FuncData)(ps:List Str):Prop where
 fn:Fun K x qual st f fd
 mt:Meth K C x f
 bd:Binds K fd ps []
structure QL(cl:Nat->Addr)(X:Cx)(e:Expr)(tb:TE)(i:Nat)(L:Ln):Prop where
 sem:PE X e tb
 den:jbc ⟨X.K,cl⟩ tb i L
theorem jcO{cl:Nat->Addr}{X:Cx}{o e:Expr}{es:List Expr}{to:TE}{po:PF}{tr:TA}{pr:PAf}{pos apos:Pos}{k n c:Nat}{f:Addr}{fd:FuncData}{ps:List Str}{m:List D->Option D}{a qual:Str}{st:Stmt}{pl:Sem Bool}(j:Cls X.K (cl c))(F:MtFact X.K (cl c) a qual st f fd ps)
  (G:FnOk X.prog X.w X.K X.mg X.base CX0 k f fd ps (spP ⟨X.K,cl⟩ m n)) (l:Room k X.A) (i:QB cl X o to po) (b:QBs cl X (e::es) tr pr) (p:(e::es).length+1=n:=by rfl)
  (d:starEach (e::es) X.env=(false,eval e X.env)::starEach es X.env:=by rfl) (g:(backTo pos (starEach es X.env)).any (·.1)=false:=by rfl)
  (q:eval (.Call (.Attribute o a apos) (e::es) [] pos) X.env=(do
   let ov <- eval o X.env
   standAt apos.atName
   let (f,first) <- holding [ov] (getMethod ov a pl)
   callWith pos f first (backTo pos (starEach (e::es) X.env)) (backToKw pos (keywordEach [] X.env))):=by rfl) :
  QP cl X (.Call (.Attribute o a apos) (e::es) [] pos) (xB (cl c) a (spP ⟨X.K,cl⟩ m n) [] E0 to tr) (qU m c a po pr) :=
 ⟨jen i.sem j F.mt G l F.bd .nil uY b.sem d g q,jeh (R:=⟨X.K,cl⟩) i.den b.den λρ r h=>by rw[b.n ρ r h];exact p⟩
theorem Y6{cl:Nat->Addr}{X:Cx}{o:Expr}{to:TE}{po:PF}{pos apos:Pos}{k n c:Nat}{f:Addr}{fd:FuncData}{ps:List Str}{m:List D->Option D}{a qual:Str}{st:Stmt}{pl:Sem Bool}(d:Cls X.K (cl c))(F:MtFact X.K (cl c) a qual st f fd ps)
  (G:FnOk X.prog X.w X.K X.mg X.base CX0 k f fd ps (spP ⟨X.K,cl⟩ m n)) (e:Room k X.A) (b:QB cl X o to po) (g:1=n:=by rfl)
  (i:eval (.Call (.Attribute o a apos) [] [] pos) X.env=(do
   let ov <- eval o X.env
   standAt apos.atName
   let (f,first) <- holding [ov] (getMethod ov a pl)
   callWith pos f first (backTo pos (starEach [] X.env)) (backToKw pos (keywordEach [] X.env))):=by rfl) :
  QP cl X (.Call (.Attribute o a apos) [] [] pos) (xB (cl c) a (spP ⟨X.K,cl⟩ m n) [] E0 to K3) (qU m c a po pN) :=
 ⟨jbp b.sem d F.mt G e F.bd .nil uY i,jeh (R:=⟨X.K,cl⟩) b.den jdY λρ j h=>by cases h;exact g⟩
theorem jex{cl:Nat->Addr}{X:Cx}{pos p:Pos}{k c:Nat}{f:Addr}{fd:FuncData}{ps:List Str}{m:List D->Option (D×D)}{x qual:Str}{st:Stmt}(F:MtFact X.K (cl c) "__init__" qual st f fd ps)(a:PySem.W.makesIn X.K (cl c)=true)(b:PySem.W.keepIn X.K (.ref (cl c))=true)
  (G:FnOk X.prog X.w X.K X.mg X.base CX0 k f fd ps (spM ⟨X.K,cl⟩ m 1 0)) (e:Room (k+1) X.A) (g:X.mg x=some (.ref (cl c))) (i:Gl X x:=by rfl) (d:(x==("__debug__" : Str))=false:=by decide) :
  QP cl X (.Call (.Name x p) [] [] pos) (jhr (cl c) (spM ⟨X.K,cl⟩ m 1 0) [] E0 K3) (jaV m c pN) :=
 ⟨jfn ⟨a,F.mt.at_,F.mt.fn,b⟩ G e i g F.bd .nil uY d,jhO (R:=⟨X.K,cl⟩) pps_nil λρ j h=>by cases h;rfl⟩
theorem uy(a:QB cl X (.Name x p) (Yj i) (pV i)):QL cl X (.Name x p) (Yj i) i jb4:=⟨a.sem,jgu⟩
theorem jdr(a:Cls X.K (cl c))(b:NoAttr X.K (cl c) f)(h:QL cl X o tb i L)(d:attributeBase o f X.env (eval o X.env)=eval o X.env:=by rfl):QL cl X (.Attribute o f pos) (je3 X.K tb f) i (jgz c f L) :=
 ⟨ja3 h.sem d,jgx (R:=⟨X.K,cl⟩) a b h.den⟩
theorem jkX{j2}(h:QL cl X o tb i L)(a:Q9 (.Constant (.int z) j2 jpos):=by exact λ_ _=>rfl):QL cl X (.Subscript o (.Constant (.int z) j2 jpos) pos) (tOp (rIx X.K) tb (tC (.int z))) i (lIx z L) :=
 ⟨jiL jdL h.sem jee a,jge (R:=⟨X.K,cl⟩) (λq=>q) h.den⟩
theorem jgA{j2}(h:QL cl X o tb i L)(a:Q9 (.UnaryOp .USub (.Constant (.int z) j2 jpos) upos):=by exact λ_ _=>rfl) :
  QL cl X (.Subscript o (.UnaryOp .USub (.Constant (.int z) j2 jpos) upos) pos) (tOp (rIx X.K) tb (tUn (rU λi=>.int (-i)) (tC (.int z)))) i (lIx (-z) L) :=
 ⟨jiL jdL h.sem (jk4 jgw jee) a,jge (R:=⟨X.K,cl⟩) (λq=>⟨z,rfl,q⟩) h.den⟩
theorem jha{cl:Nat->Addr}{X:Cx}{o:Expr}{te tb:TE}{pos apos:Pos}{L b:Ln}{i:Nat}{k c:Nat}{f:Addr}{fd:FuncData}{ps:List Str}{a qual:Str}{st:Stmt}{pl:Sem Bool}(d:Cls X.K (cl c))(F:MtFact X.K (cl c) a qual st f fd ps)(e:jbc ⟨X.K,cl⟩ te 0 b)
  (G:FnOk X.prog X.w X.K X.mg X.base CX0 k f fd ps (spX te 1)) (g:Room k X.A) (h:QL cl X o tb i L)
  (j:eval (.Call (.Attribute o a apos) [] [] pos) X.env=(do
   let ov <- eval o X.env
   standAt apos.atName
   let (f,first) <- holding [ov] (getMethod ov a pl)
   callWith pos f first (backTo pos (starEach [] X.env)) (backToKw pos (keywordEach [] X.env))):=by rfl) :
  QL cl X (.Call (.Attribute o a apos) [] [] pos) (xB (cl c) a (spX te 1) [] E0 tb K3) i (jbM c a b L) :=
 ⟨jbp h.sem d F.mt G g F.bd .nil uY j,jiA (R:=⟨X.K,cl⟩) e h.den⟩
theorem xF(g:QL cl X o tb i L)(h:QP cl X e te pe)(b:attributeBase o "append" X.env (eval o X.env)=eval o X.env:=by rfl)
  (d:((backTo cpos (starEach [e] X.env)).all (λx=>!x.1)&&(backToKw cpos (keywordEach [] X.env)).all (λx=>x.1.isSome)
   && decide ([e].length+([]:List Keyword).length+(if([]:List Keyword).isEmpty then 0 else 1) < 30))=true:=by rfl)
  (c:(apos.endLine==cpos.line)=true:=by rfl) (j:starEach [e] X.env=(false,eval e X.env)::starEach [] X.env:=by rfl) (a:(backTo cpos (starEach [] X.env)).any (·.1)=false:=by rfl)
  (f:swapsWith (.Call (.Attribute o "append" apos) [e] [] cpos) none pos.line X.env=pure false:=by rfl) :
  QS cl pm X (.Expr (.Call (.Attribute o "append" apos) [e] [] cpos) pos) (zF (tBM X.K "list" Qy tb (kq te K3))) (wI i L pe) :=
 ⟨zm (jeA PySem.F.plainAttrs_list PySem.F.slot_list_append PySem.F.type_list_append Vz g.sem (vJ h.sem YO j) b d c j a) f,jiN (R:=⟨X.K,cl⟩) g.den h.den⟩
theorem jgO{cl:Nat->Addr}{X:Cx}{pos p:Pos}{i:Nat}{c:Nat}{x f g:Str}{x1}{p2 b a:Pos}(j:Cls X.K (cl c))(k:NoAttr X.K (cl c) f)(l:NoAttr X.K (cl c) g)(m:QB cl X (.Name x p) (Yj i) (pV i))(d:QB cl X (.Name x p2) (Yj i) (pV i))
  (n:attributeBase (.Name x p) f X.env (eval (.Name x p) X.env)=eval (.Name x p) X.env:=by rfl) (e:attributeBase (.Name x p2) g X.env (eval (.Name x p2) X.env)=eval (.Name x p2) X.env:=by rfl)
  (o:starEach [.Attribute (.Name x p) f b,.Attribute (.Name x p2) g a] X.env=(false,eval (.Attribute (.Name x p) f b) X.env)::starEach [.Attribute (.Name x p2) g a] X.env:=by rfl)
  (h:starEach [.Attribute (.Name x p2) g a] X.env=(false,eval (.Attribute (.Name x p2) g a) X.env)::starEach [] X.env:=by rfl) :
  QE cl X (.Tuple [.Attribute (.Name x p) f b,.Attribute (.Name x p2) g a] x1 pos) (jlg (kq (je3 X.K (Yj i) f) (kq (je3 X.K (Yj i) g) K3))) (uR i c f g) :=
 ⟨jgs (vJ (ja3 m.sem n) (vJ (ja3 d.sem e) YO h) o),jiO (R:=⟨X.K,cl⟩) j k l⟩
theorem joi{cl:Nat->Addr}{P:Program}{w:World}{K:PySem.W.Frag}{mg:Str->Option Value}{base:Heap}{x qual:Str}{fst:Stmt}{fa:Addr}{fd:FuncData}{N ps:List Str}{k:Nat}{te:TE}{L:Ln}(F:Fun K x qual fst fa fd)(b:FnScope N ps (jh fst))(c:ps.length=1)(d:N.length=1)
  (e:jbc ⟨K,cl⟩ te 0 L)
  (a:∀(cdv:Value) (A:Around) (outer:List Env) (s:Shared) (H:Hp) (E:XK),Room k (A.deeper (envOfC qual (jh fst) s.heap.objs.size fa cdv)) ->
   PSs (uP CX0 P w K mg base N qual (jh fst) fa cdv A outer s H E).nox (vC fst) (jhs te)):∃ te,jbc ⟨K,cl⟩ te 0 L/\FnOk P w K mg base CX0 (k+1) fa fd ps (spX te 1):=by
 refine⟨te,e,F.ok b (λf H Q E h=>by rw[h.1,c]) λcdv A outer s H f Q E g h=>⟨_,a cdv A outer s H E g,?_⟩⟩;unfold L2.start;rw[h.1,d];simpa [jhs] using h.2
noncomputable def jjX(c:Nat)(f:Str):D->Option D
 | .ins _ c' ns l=>bif c'==c then zj ns l f else none
 | _=>none
@[simp] theorem fldOf_ins:jjX c f (.ins o c' ns l)=bif c'==c then zj ns l f else none:=rfl
@[simp] theorem pFld_e:jcw c f po ρ=(po ρ).bind (jjX c f):=by
 unfold jcw;cases po ρ with
 | none=>rfl
 | some d=>cases d<;>rfl
@[simp] theorem pMeth_e:qU m c mn po p ρ=(po ρ).bind λs=>match s with
 | .ins o a ns l=>bif a==c&&(zj ns l mn).isNone then((p ρ).bind λb=>(m (fzs (.ins o a ns l::b))).bind λd=>bif frzs (.ins o a ns l::b)||vT d then some d else none) else none
 | _=>none:=rfl
@[simp] theorem dMethM_e:Qe m i c mn p ρ=(p ρ).bind λds=>(pV i ρ).bind λt=>match t with
 | .ins true a ns l=>bif a==c&&(frzs ds&&(zj ns l mn).isNone) then(m (.ins true a ns l::ds)).bind λr=>some (r.1,ρ.set i (some r.2)) else none
 | _=>none:=by
 unfold Qe;rw[jeW];congr 1
 funext ds
 cases h:ρ[i]? with
 | none=>rfl
 | some o=>cases o with
  | none=>rfl
  | some d=>cases d<;>first | rfl | (rename_i o _ _ _;cases o<;>rfl)
@[simp] theorem pMake_e:jaV m c p ρ=(p ρ).bind λds=>bif frzs ds then(match m (.ins true c [] []::ds) with
 | some (.non,t)=>some t
 | _=>none) else none:=rfl
@[simp] theorem sFldS_e{ρ:Rh}{i c:Nat}{f:Str}{pv:PF}:jaX i c f pv ρ=(pv ρ).bind λd=>(pV i ρ).bind λt=>match t with
 | .ins true a ns l=>bif a==c&&decide (ns.length<=900) then some (.nx (ρ.set i (some (.ins true c (JO ns l f d).1 (JO ns l f d).2)))) else none
 | _=>none:=by
 unfold jaX;rw[jeW];cases pv ρ with
 | none=>rfl
 | some d =>
  dsimp only[Option.bind];cases h:ρ[i]? with
  | none=>rfl
  | some o=>cases o with
   | none=>rfl
   | some d=>cases d<;>first | rfl | (rename_i o _ _ _;cases o<;>rfl)
@[simp] theorem sLApp_e{ρ:Rh}{i:Nat}{pv:PF}{L:Ln}:wI i L pv ρ=(pv ρ).bind λd=>(pV i ρ).bind λt=>(L t).bind λy=>match y.1 with
 | .lst true l=>bif lim l.length then some (.nx (ρ.set i (some (y.2 (.lst true (l++[d])))))) else none
 | _=>none:=rfl
theorem jfo(h:ρ[i]?=some (some (.ins true c [f,g] [x,y])))(a:g≠f):uR i c f g ρ=some (.tup [x,y],ρ.set i none):=by
 unfold uR;rw[h];simp[a]
theorem jbi(h:ze d=some l):d=.lst true l:=by
 cases d with
 | lst o a=>cases o with
  | true=>cases h;rfl
  | false=>cases h
 | _=>cases h
def jok(R:RC)(tk:TE)(pk:Rh->Option (List KA)):Prop:=∀{σ:L2.St}{ρ:Rh}{Z:Zn}{H:Hp}{O:List Addr}{k:List KA},Zd Z H->Slots R Z H ρ σ O->pk ρ=some k ->
 ∀{Q:VK},(∀{p:Addr}{Z':Zn}{H':Hp},Go Z H [] Z' H' []->Z' p->H' p=some (.tup ((k.map kaV).map kV))->Q (.ref p) H')->tk σ H Q
structure QK3(cl:Nat->Addr)(X:Cx)(e:Expr)(tk:TE)(pk:Rh->Option (List KA)):Prop where
 sem:PE X e tk
 den:jok ⟨X.K,cl⟩ tk pk
end QD
namespace L2
open PySem PySem.Spec PyProof.Rows
end L2
namespace QD
open PySem L2 PySem.Spec PyProof.Rows
noncomputable def jc6(i:Nat)(p:PF):FS:=λρ=>(p ρ).bind λe=>(ze e).bind λm=>(pV i ρ).bind λt=>(ze t).bind λl=>bif lim (l.length+m.length) then some (.nx (ρ.set i (some (.lst true (l++m))))) else none
@[simp] theorem sExtO_e:jc6 i p ρ=(p ρ).bind λe=>(ze e).bind λm=>(pV i ρ).bind λt=>(ze t).bind λl=>bif lim (l.length+m.length) then some (.nx (ρ.set i (some (.lst true (l++m))))) else none:=rfl
theorem ji4(h:PP R te p):DS R pm (zF (tBM R.K "list" (ji1 R.K) (Yj i) (kq te K3))) (jc6 i p):=by
 intro σ ρ Z H O o w s e D' k;unfold jc6 at e;cases e1:p ρ with
 | none=>rw[e1] at e;cases e
 | some d =>
 rw[e1,L4] at e;cases e2:ze d with
 | none=>rw[e2] at e;cases e
 | some m =>
 rw[e2,L4] at e;cases jbi e2;cases e3:pV i ρ with
 | none=>rw[e3] at e;cases e
 | some t =>
 rw[e3,L4] at e;cases e4:ze t with
 | none=>rw[e4] at e;cases e
 | some l =>
 rw[e4,L4] at e;cases jbi e4;have S:=jm6 e3;cases hlim:lim (l.length+m.length) with
 | false=>rw[hlim] at e;cases e
 | true =>
 rw[hlim] at e;cases e;obtain⟨A,P,B,rfl,Y,k2,_⟩:=s.put (L9.mp S).1;obtain⟨v,ev,r⟩:=Y _ S;rw[Rep] at r;obtain⟨a,f,g,rfl,T,I,rfl⟩:=r;refine⟨.ref a,ev,.inl ⟨rfl,f,SqL.of I⟩,?_⟩;refine h w.zd s e1 λ{u J j P1} n U=>?_;rw[Rep] at U;obtain⟨b,y,C,rfl,V,eb,rfl⟩:=U;have L:j a=some (.lst f):=by rw[n.same a (by rw[I];exact λz=>(nomatch z))];exact I
 have M:=n.reps w.zd T;refine⟨a,b,f,y,rfl,rfl,L,.inl (SqL.of eb),by rw[T.length,V.length];exact VC hlim,?_⟩;have F:Go Z H (A++(a::g)++B) J j (b::C++(A++(a::g)++B)):=n.widen w;have gB:=Go.put (o:=.lst (f++y)) F.wf (show a∈b::C++(A++(a::g)++B) by simp);have gC:=F.trans gB;have nd:=F.wf.nd;have N:=List.nodup_iff_count.mp nd a;simp only[U9,List.count_cons,beq_self_eq_true,if_true] at N;have pos:∀{m:List Addr},a∈m->0 < m.count a:=λh=>List.count_pos_iff.mpr h;have D:∀ q,J q->upd j a (.lst (f++y)) q=j q:=λq c=>jo λz=>F.wf.nz a (by simp) (z▸c);have nO:∀ q∈g,q≠a:=λq c z=>by subst z;have:=pos c;lia
 have nP:∀ q∈C,q≠a:=λq c z=>by subst z;have:=pos c;lia
 have nA:∀ q∈A,q≠a:=λq c z=>by subst z;have:=pos c;lia
 have nB:∀ q∈B,q≠a:=λq c z=>by subst z;have:=pos c;lia
 have rt:Rep R J (upd j a (.lst (f++y))) (.lst true (l++m)) (.ref a) (a::(g++C)):=by
  rw[Rep];exact⟨a,f++y,g++C,rfl,(M.frame (λ_ z=>z) D (λq c=>jo (nO q c))).append (V.frame (λ_ z=>z) D (λq c=>jo (nP q c))),jU,rfl⟩
 have Q:∀ x,Z x->upd j a (.lst (f++y)) x=H x:=λx G=>(D x (n.zz x G)).trans (n.same x (w.zd x G));have E:∀ x,x∈A++(a::g)++B->x≠a->upd j a (.lst (f++y)) x=H x:=λx G hn=>(jo hn).trans (n.same x (w.od x G));have W:=k2 rt n.zz Q (λq c=>E q (by simp[c]) (nA q c)) (λq c=>E q (by simp[c]) (nB q c));rw[vF ev] at W;have X:∀ q,(A++(a::(g++C))++B).count q<=(b::C++(A++(a::g)++B)).count q:=λq=>by
  simp only[U9,List.count_cons];lia
 exact k (gC.drop (jbw X) (K8 X nd)) W (Keep.refl _ _)
theorem jiW(j:QB cl X (.Name x xpos) (Yj i) (pV i))(h:QP cl X e te pe)(b:attributeBase (.Name x xpos) "extend" X.env (eval (.Name x xpos) X.env)=eval (.Name x xpos) X.env:=by rfl)
  (d:((backTo cpos (starEach [e] X.env)).all (λx=>!x.1)&&(backToKw cpos (keywordEach [] X.env)).all (λx=>x.1.isSome)
   && decide ([e].length+([]:List Keyword).length+(if([]:List Keyword).isEmpty then 0 else 1) < 30))=true:=by rfl)
  (c:(apos.endLine==cpos.line)=true:=by rfl) (g:starEach [e] X.env=(false,eval e X.env)::starEach [] X.env:=by rfl) (a:(backTo cpos (starEach [] X.env)).any (·.1)=false:=by rfl)
  (f:swapsWith (.Call (.Attribute (.Name x xpos) "extend" apos) [e] [] cpos) none pos.line X.env=pure false:=by rfl) :
  QS cl pm X (.Expr (.Call (.Attribute (.Name x xpos) "extend" apos) [e] [] cpos) pos) (zF (tBM X.K "list" (ji1 X.K) (Yj i) (kq te K3))) (jc6 i pe) :=
 ⟨zm (jeA PySem.F.plainAttrs_list PySem.F.slot_list_extend PySem.F.type_list_extend jiQ j.sem (vJ h.sem YO g) b d c g a) f,ji4 (R:=⟨X.K,cl⟩) h.den⟩
namespace QK
end QK
end QD
namespace PySem
open Sem (wp)
end PySem
namespace L2
open PySem PySem.Spec PyProof.Rows
end L2
namespace QD
open PySem L2 PySem.Spec PyProof.Rows
section
variable {R:RC}{Z Z':Zn}{H H':Hp}{pm:List Nat}
def PK(R:RC)(te:TE)(pk:Rh->Option (List KA))(pv:PF):Prop:=∀{σ:L2.St}{ρ:Rh}{Z:Zn}{H:Hp}{O:List Addr}{c:List KA}{d:D},Zd Z H->Slots R Z H ρ σ O->pk ρ=some c->pv ρ=some d->frz d=true ->
 ∀{Q:VK},(∀{t b:Addr}{u:V}{Z':Zn}{H':Hp},Go Z H [] Z' H' []->Z' t->Z' b->H' t=some (.tup [.ref b,u])->H' b=some (.tup ((c.map kaV).map kV))->Rep R Z' H' d u []->Q (.ref t) H')->te σ H Q
structure KvAt(R:RC)(Z:Zn)(H:Hp)(ys:List (List KA×D))(vs:List V)(ps:List (List Key×Addr×V)):Prop where
 l:vs.length=ps.length
 i:∀(j:Nat) (v:V),vs[j]?=some v->∃ kv t,ps[j]?=some kv/\v=.ref t/\H t=some (.tup [.ref kv.2.1,kv.2.2])/\H kv.2.1=some (.tup (kv.1.map kV))
 k:ps.map (·.1)=ys.map λy=>y.1.map kaV
 r:Reps R Z H (ys.map (·.2)) (ps.map (·.2.2)) []
end
section
variable {cl:Nat->Addr}{pm:List Nat}{X:Cx}{tg iter elt:Expr}{ifs:List Expr}{wi:TI}{pi:PAf}{t:TG}{g:D->Rh->Option Rh}{te:TE}{pk:Rh->Option (List KA)}{pv:PF}{pos cpos p:Pos}
structure QKv(cl:Nat->Addr)(X:Cx)(e:Expr)(te:TE)(pk:Rh->Option (List KA))(pv:PF):Prop where
 sem:PE X e te
 den:PK ⟨X.K,cl⟩ te pk pv
end
end QD
namespace PySem
open PySem.W PyProof.Rows PySem.Calls
end PySem
set_option maxHeartbeats 4000000
namespace PySem
open PySem.W PyProof.Rows PySem.Calls
end PySem
namespace L2
open PySem PySem.Spec PyProof.Rows
end L2
namespace QD
open PySem L2 PySem.Spec PyProof.Rows
end QD
namespace PySem
open Sem (wp)
end PySem
namespace L2
open PySem PySem.Spec PyProof.Rows
end L2
namespace QD
open PySem L2 PySem.Spec PyProof.Rows
end QD
set_option maxHeartbeats 1000000
namespace PySem
namespace F
end F
end PySem
namespace L2
open PySem PySem.Spec PyProof.Rows
structure Z3(z TI TO j1 j2 j3 t l m:Addr):Prop where
 TIz:TI≠z
 TOz:TO≠z
 j1z:j1≠z
 j2z:j2≠z
 j3z:j3≠z
 TITO:TI≠TO
 TIj1:TI≠j1
 TIj2:TI≠j2
 TIj3:TI≠j3
 TOj1:TO≠j1
 TOj2:TO≠j2
 TOj3:TO≠j3
 j12:j1≠j2
 j13:j1≠j3
 j23:j2≠j3
 out:∀ x,x=t \/ x=l \/ x=m->x≠z/\x≠TO/\x≠j1/\x≠j2/\x≠j3
end L2
namespace PySem
namespace F
end F
end PySem
namespace L2
open PySem PySem.Spec PyProof.Rows
end L2
namespace QD
open PySem L2 PySem.Spec PyProof.Rows
end QD
namespace QD
open PySem L2
end QD
namespace L2
open PySem PySem.Spec PyProof.Rows
end L2
namespace QD
open PySem L2
end QD
namespace L2
open PySem PySem.Spec PyProof.Rows
end L2
namespace QD
open PySem L2 PySem.Spec PyProof.Rows
mutual
noncomputable def pln:D->Bool
 | .tup l=>jl5 l
 | .non=>true | .bl _=>true | .int _=>true | .str _=>true
 | .lst _ _=>false | .dK _ _ _=>false | .dT _ _ _=>false | .ins _ _ _ _=>false | .dead=>false | .exc _ _=>false
noncomputable def jl5:List D->Bool
 | []=>true
 | d::l=>pln d&&jl5 l
end
section
variable {R:RC}{Z Z':Zn}{H H':Hp}{pm:List Nat}
mutual
theorem Rep.cutA{a:Addr}(ha:∀ vs,¬ Rd H a (.tup vs))(hH:∀ b,b≠a->H' b=H b):∀{d:D}{v:V}{O:List Addr},pln d=true->Rep R Z H d v O->Rep R (λb=>Z b/\b≠a) H' d v O
 | .non,_,_,_,r=>by rw[Rep] at r ⊢;exact r
 | .bl _,_,_,_,r=>by rw[Rep] at r ⊢;exact r
 | .int _,_,_,_,r=>by rw[Rep] at r ⊢;exact r
 | .str _,_,_,_,r=>by rw[Rep] at r ⊢;exact r
 | .tup l,_,_,h,r=>by
  rw[pln] at h;rw[Rep] at r ⊢;obtain⟨p,vs,e,t,r⟩:=r;refine⟨p,vs,e,?_,Reps.cutA ha hH h r⟩;rcases t with⟨z,t⟩ | t
  ·have ne:p≠a:=λq=>ha vs (q▸t);exact .inl ⟨⟨z,ne⟩,Rd.agree (hH p ne) t⟩
  ·exact .inr t
 | .lst _ _,_,_,h,_=>by rw[pln] at h;cases h
 | .dK _ _ _,_,_,h,_=>by rw[pln] at h;cases h
 | .dT _ _ _,_,_,h,_=>by rw[pln] at h;cases h
 | .ins _ _ _ _,_,_,h,_=>by rw[pln] at h;cases h
 | .dead,_,_,h,_=>by rw[pln] at h;cases h
 | .exc _ _,_,_,h,_=>by rw[pln] at h;cases h
theorem Reps.cutA{a:Addr}(ha:∀ vs,¬ Rd H a (.tup vs))(hH:∀ b,b≠a->H' b=H b):∀{l:List D}{vs:List V}{O:List Addr},jl5 l=true->Reps R Z H l vs O->Reps R (λb=>Z b/\b≠a) H' l vs O
 | [],_,_,_,r=>by rw[Reps] at r ⊢;exact r
 | d::l,_,_,h,r=>by
  rw[jl5,M0] at h;rw[Reps] at r ⊢;obtain⟨v,vs',O1,O2,e1,e2,r1,r2⟩:=r;exact⟨v,vs',O1,O2,e1,e2,Rep.cutA ha hH h.1 r1,Reps.cutA ha hH h.2 r2⟩
end
end
end QD
namespace PySem
open Sem (wp)
namespace F
end F
end PySem
namespace L2
open PySem PySem.Spec PyProof.Rows
end L2
namespace QD
open PySem L2 PySem.Spec PyProof.Rows
end QD
namespace L2
open PySem PySem.Spec PyProof.Rows
end L2
namespace QD
open PySem L2 PySem.Spec PyProof.Rows
def kM(K:PySem.W.Frag)(mg:Str->Option Value)(x:Str)(st:Stmt)(ps:List Str):Prop:=∃ f fd,FnFact K mg x x st f fd ps
def jcx(K:PySem.W.Frag)(C:Addr)(x qual:Str)(st:Stmt)(ps:List Str):Prop:=∃ f fd,MtFact K C x qual st f fd ps
def OkF(P:Program)(w:World)(K:PySem.W.Frag)(mg:Str->Option Value)(x:Str)(st:Stmt)(k:Nat)(ps:List Str)(sp:Sp):Prop:=∃ f fd,FnFact K mg x x st f fd ps/\∀ base,FnOk P w K mg base CX0 k f fd ps sp
def OkM(P:Program)(w:World)(K:PySem.W.Frag)(mg:Str->Option Value)(C:Addr)(x qual:Str)(st:Stmt)(k:Nat)(ps:List Str)(sp:Sp):Prop:=∃ f fd,MtFact K C x qual st f fd ps/\∀ base,FnOk P w K mg base CX0 k f fd ps sp
section
variable {K:PySem.W.Frag}{mg:Str->Option Value}{h:Heap}{x qual:Str}{st:Stmt}{ps:List Str}{a C:Addr}{od an:Option Addr}{sl:Array (Option Value)}{oc kV dc pm cd ct:Value}
theorem hasF(X:K.In h)(G:h.Ns mainGlobals mg)(e:PySem.W.nsIn K mainGlobals x=some (some (.ref a)))(b:K.lookup a=some ⟨oc,od,.func (PySem.W.fnOf x x (JE st) (vC st) (jh st) .none kV dc pm an cd ct),sl⟩)(c:PySem.W.codeIn K cd x=true)(d:PySem.W.keepIn K (.ref a)=true)
  (f:∀(kV doc pm:Value) (an:Option Addr) (cdv ct:Value) (us:List Value),us.length=ps.length->bindArgs (PySem.W.fnOf x x (JE st) (vC st) (jh st) .none kV doc pm an cdv ct) ⟨us,[]⟩=pure (ps.zip us)):kM K mg x st ps:=⟨_,_,uB b c d,PySem.W.mg_of X G e,(uB b c d).binds f⟩
theorem hasM(e:PySem.W.findIn K (.ref C) x=some (some (.ref a)))(f:PySem.W.isFn K (.ref a)=true)(c:K.lookup a=some ⟨oc,od,.func (PySem.W.fnOf x qual (JE st) (vC st) (jh st) .none kV dc pm an cd ct),sl⟩)(d:PySem.W.codeIn K cd qual=true)(b:PySem.W.keepIn K (.ref a)=true)
  (g:∀(kV doc pm:Value) (an:Option Addr) (cdv ct:Value) (us:List Value),us.length=ps.length->bindArgs (PySem.W.fnOf x qual (JE st) (vC st) (jh st) .none kV doc pm an cdv ct) ⟨us,[]⟩=pure (ps.zip us)):jcx K C x qual st ps:=⟨_,_,uB c d b,⟨e,f,b⟩,(uB c d b).binds g⟩
end
theorem fsc{N ps:List Str}{h:Scope}(a:h.kind=.function:=by rfl)(b:h.isCoroutine=false:=by rfl)(c:h.isGenerator=false:=by rfl)(d:N.Nodup:=by decide +kernel)(e:N.take ps.length=ps:=by rfl)
  (f:∀ x∈ps,h.names.lookup x=some .local \/ h.names.lookup x=some .cell:=by decide +kernel) (g:∀ y∈h.names,y.2≠.free:=by decide +kernel):FnScope N ps h:=⟨a,b,c,d,e,f,g⟩
theorem bkF{N ps:List Str}{a:Scope}(_:FnScope N ps a){X:Cx}{scope:Scope}{ix:List (Option Nat)}(N':List Str)(h1:X.env.scope=a:=by rfl)(h2:X.N=N:=by rfl)(h:K5 a N scope N' ix=true:=by decide +kernel):BlockOk X scope N' ix:=jc3 a N h1 h2 h
section
variable {cl:Nat->Addr}{X:Cx}{pos:Pos}{x:Str}{scope:Scope}{N':List Str}{i:Nat}
theorem qS{j}{l:List Nat}(h:x=S l:=by decide +kernel):QP cl X (.Constant (.str x) j pos) (tC (.str x)) (pC (.str l)):=jmL l h
theorem cgN(a:N'.Nodup:=by decide +kernel)(hi:N'[i]?=some x:=by rfl)(b:∀ C s H fp,Loc (vc X scope N' C s H fp).env.scope x:=by first | exact λ_ _ _ _=>.inl rfl | exact λ_ _ _ _=>.inr rfl)
  (c:∀ C s H fp,(vc X scope N' C s H fp).fn x=true \/ (vc X scope N' C s H fp).env.scope.names.lookup x=some .local:=by first | exact λ_ _ _ _=>.inl rfl | exact λ_ _ _ _=>.inr rfl) :
  ∀ C s H fp,QG cl [] (vc X scope N' C s H fp) (.Name x pos) (zK i) (jS [] i):=λC s H fp=>y3 a hi (b C s H fp) (c C s H fp)
theorem jjB:∀ C s H fp,QIf cl (vc X scope N' C s H fp) [] (λ_ H Q=>Q true H) qT:=λ_ _ _ _=>wm
theorem qI{i:Int}{j}:QB cl X (.Constant (.int i) j pos) (tC (.int i)) (pC (.int i)):=QP.bb Vx
end
end QD
namespace L2
open PySem PySem.Spec PyProof.Rows
end L2
namespace QD
open PySem L2 PySem.Spec PyProof.Rows
end QD
namespace L2
open PySem PySem.Spec PyProof.Rows
end L2
namespace QD
open PySem L2 PySem.Spec PyProof.Rows
end QD
namespace PySem
open L2 PyProof.Rows
end PySem
namespace L2
open PySem PySem.Spec PyProof.Rows
end L2
namespace QD
open PySem L2 PySem.Spec PyProof.Rows
end QD
namespace QX
open PySem PySem.Spec L2 QD PyProof.Rows
def x0(C e:Addr):Heap->Prop:=λh=>∃ t,h.get? e=some (uQ C t)
def x1(C e dx:Addr):Heap->Prop:=λh=>∃ t,h.get? e=some { uQ C t with dict:=some dx }
theorem zZ{P:Program}{w:World}{H:Hp}{h:Heap}{e:Addr}{o:Obj}{φ:Heap->Prop}(a:h.get? e=some o)(p:φ h)(st:∀ h1 h2:Heap,φ h1->(∀ o,h1.get? e=some o->h2.get? e=some o)->φ h2):ObjOk P w H h e (.ext φ):=⟨p,⟨o,a⟩,st⟩
theorem jj2(C e:Addr)(h1 h2:Heap):x0 C e h1->(∀ o,h1.get? e=some o->h2.get? e=some o)->x0 C e h2:=λ⟨t,q⟩ k=>⟨t,k _ q⟩
theorem jnv(C e dx:Addr)(h1 h2:Heap):x1 C e dx h1->(∀ o,h1.get? e=some o->h2.get? e=some o)->x1 C e dx h2:=λ⟨t,q⟩ k=>⟨t,k _ q⟩
theorem jh7(C e dx:Addr)(h1 h2:Heap):xo C e dx h1->(∀ o,h1.get? e=some o->h2.get? e=some o)->xo C e dx h2:=λ⟨o,a,q,r⟩ k=>⟨o,a,k _ q,r⟩
theorem jeR{H:Hp}{a:Addr}{o:HO}(h:H a=some o):upd H a o=H:=by
 funext b
 unfold upd;split
 ·rename_i e;rw[e,h]
 ·rfl
theorem vty:typeOf (.type "ValueError")=pure (.type "type"):=by rfl
theorem vcl(K:PySem.W.Frag):PySem.W.findCls K (.type "ValueError") (.type "type") "__init__" = some (.val (.builtin "ValueError.__init__")):=by rfl
theorem vst:Manifest.isStub "ValueError" = false:=by decide +kernel
theorem vbo:bootBuiltins "ValueError" = some (.type "ValueError"):=by decide +kernel
theorem vha:PySem.W.handedIn (.builtin "ValueError.__init__")=true:=by decide +kernel
section
variable {X:Cx}{a1 a2 o value:Expr}{t:TA}{ta tv:TE}{f:Str}{p ap pos pos':Pos}
noncomputable def jgL(K:PySem.W.Frag)(t:TA):TS:=λD σ H=>t σ H λvs H1=>∃ e u C,vs=[.ref e,u]/\H1 e=some (.ext (x0 C e))/\XC K C/\D.nx σ H1
theorem jfj{pl:Sem Bool}(y:PA X [a1,a2] t)(A:X.mg "ValueError" = none)(B:Gl X "ValueError":=by rfl)
  (E:swapsWith (.Call (.Attribute (.Name "ValueError" p) "__init__" ap) [a1,a2] [] pos) none pos'.line X.env=pure false:=by rfl)
  (g:starEach [a1,a2] X.env=(false,eval a1 X.env)::starEach [a2] X.env:=by rfl) (i:(backTo pos (starEach [a2] X.env)).any (·.1)=false:=by rfl)
  (F:eval (.Call (.Attribute (.Name "ValueError" p) "__init__" ap) [a1,a2] [] pos) X.env=(do
   let ov <- eval (.Name "ValueError" p) X.env
   standAt ap.atName
   let (f,first) <- holding [ov] (getMethod ov "__init__" pl)
   callWith pos f first (backTo pos (starEach [a1,a2] X.env)) (backToKw pos (keywordEach [] X.env))):=by rfl) :
  PS X (.Expr (.Call (.Attribute (.Name "ValueError" p) "__init__" ap) [a1,a2] [] pos) pos') (jgL X.K t):=by
 intro a s σ H D I h;refine wpAny_Expr_any ?_ I.quiet E;refine PySem.W.methodCall_KW (pl:=pl) (KM (u:=.type "ValueError") I B A vbo ?_) F;obtain⟨m,fr⟩:=I.fr;have d:=vcl X.K;refine PySem.W.method_type (K:=X.K) (T:="ValueError") (name:="__init__") (v:=.builtin "ValueError.__init__") fr I.mod.kin vty vst d vha ?_;have G:=I.tok (s.toks+1);refine callWith_builtin1 (thn (y pos a _ σ H _ G h) λU J ⟨V,L,j,r,e,u,C,ev,k,c,q⟩=>?_) g i;subst ev;cases r with
 | cons M N =>
  cases N with
  | cons Y O =>
   cases O;obtain rfl:=M;obtain⟨⟨Z,P⟩,_⟩:=j.hok e _ k;obtain⟨h1,g1,d1,l,Q⟩:=J;refine jmP j.kIn c.cls P λn R kp d=>?_;have w:=j.write (x:=e) (e:=e) (o:=.ext (x0 C e)) (h':=n) (t':=l) (by rw[k];exact True.intro) (.inl rfl) (λb u S z=>kp b u S z) ⟨_,d⟩ (zZ d ⟨R,d⟩ (jj2 C e));rw[jeR k] at w;exact⟨σ,L,w,q⟩
noncomputable def jjI(K:PySem.W.Frag)(ta tv:TE)(f:Str):TS:=λD σ H=>tv σ H λy H1=>ta σ H1 λx H2=>∃ e C,x=.ref e/\H2 e=some (.ext (x0 C e))/\XC K C/\NoAttr K C f /\
 ∀ dx,H2 dx=none->D.nx σ (upd (upd H2 dx (.xd [(f,y)])) e (.ext (x1 C e dx)))
theorem jh0(E:PE X o ta)(F:PE X value tv)(G:swapsWith value (some (.Attribute o f pos')) pos.line X.env=pure false:=by rfl):PS X (.Assign [.Attribute o f pos'] value pos) (jjI X.K ta tv f):=by
 intro g s σ H D I h;refine plainObj_wpAny_Assign_Attribute (thn (F g s σ H _ I h) λu J ⟨y,L,M,N,q⟩=>thn (E g J σ L _ M q) λO P ⟨x,Q,j,R,e,C,ex,p,c,n,S⟩=>?_) G;subst ex;obtain rfl:O=Value.ref e:=R;obtain⟨⟨T,t⟩,_⟩:=j.hok e _ p;obtain⟨d,g2,d2,t2,U⟩:=P;refine jn9 j.kIn c.cls c.sa n t λk v l ns kp=>?_;obtain⟨od,V,W,i,r⟩:=id ns;have Y:=(Heap.get?_some_iff.mp i).2;have lt:=N2 t;have ne:e≠d.objs.size:=N7 lt;have Z:∀ b u,d.get? b=some u->(d.push od).get? b=some u:=λb u z=>L8 _ z;have w:(d.push od).get? d.objs.size=some od:=X7 _ Y;have I3:=j.laid (a:=d.objs.size) (o:=.xd [(f,y)]) (h':=d.push od) (t':=v) Z (M9 _) ⟨_,⟨od,V,W,w,r⟩,λz=>by
  by_cases q:z=f
  ·subst q;rw[if_pos rfl];simp only[List.lookup,beq_self_eq_true];exact N
  ·rw[if_neg q];have:(z==f)=false:=U3.mpr q;simp only[List.lookup,this];exact True.intro⟩
 have m:upd Q d.objs.size (.xd [(f,y)]) e=some (.ext (x0 C e)):=by rw[jo ne];exact p
 have I4:=I3.write (x:=e) (e:=e) (o:=.ext (x1 C e d.objs.size)) (h':=k) (t':=v) (by rw[m];exact True.intro) (.inl rfl) (λb u hb z=>by
  by_cases A:b=d.objs.size
  ·subst A;rw[show u=od from X4 (z.symm.trans w)];exact i
  ·obtain⟨z1,z3⟩:=Heap.get?_some_iff.mp z;refine kp b u hb (Heap.get?_some_iff.mpr ⟨?_,z3⟩);have B:(d.objs.push od)[b]?=some u:=z1;rw[Array.getElem?_push,if_neg A] at B;exact B) ⟨_,l⟩ (zZ l ⟨T,l⟩ (jnv C e _))
 exact⟨σ,_,I4,S _ (j.hok.fresh (M9 _))⟩
end
noncomputable def xh(K:PySem.W.Frag):Sp:=λvs H Q _=>∃ e u p C,vs=[.ref e,u,p]/\H e=some (.ext (x0 C e))/\XC K C/\NoAttr K C "place" /\
 ∀ dx,H dx=none->Q .non (upd (upd H dx (.xd [("place",p)])) e (.ext (x1 C e dx)))
noncomputable def CXr(P:Program)(w:World):CXT:=λouter H s E e s'=>∃ a C dx T H',e=.ref a/\s'.os=s.os/\AllBare s'.gens/\Un (frs outer) [] H H' s.heap s'.heap/\HOk P w H' s'.heap /\
 H' T=none/\s.heap.objs.size<=T/\s.heap.objs.size<=a/\Fly a (.ref C) (some dx) T .none s'.heap/\H' a=some (.ext (xo C a dx))/\E e none H'
theorem Fly.xo{e C dx T:Addr}{a:Value}{h:Heap}(f:Fly e (.ref C) (some dx) T a h):QD.xo C e dx h:=by
 obtain⟨b,c,j,k,d,g,hd,i,_⟩:=f;exact⟨b,c,d,g,hd,i⟩
theorem Fly.at{e T:Addr}{cl a:Value}{dx:Option Addr}{h:Heap}(f:Fly e cl dx T a h):∃ o,h.get? e=some o:=let ⟨o,_,_,_,he,_⟩:=f;⟨o,he⟩
theorem Fly.atT{e T:Addr}{cl a:Value}{dx:Option Addr}{h:Heap}(f:Fly e cl dx T a h):∃ o,h.get? T=some o:=let ⟨_,_,o,_,_,_,_,_,_,_,hT,_⟩:=f;⟨o,hT⟩
theorem jaY{P:Program}{w:World}{H:Hp}{h h':Heap}{fs xs:List Addr}{e:Addr}{φ ψ:Heap->Prop}(ok:HOk P w H h)(l:H e=some (.ext φ))(k:Kp fs xs h h')(m:∀ b∈fs,H b=none)(n:∀ b∈xs,b≠e->H b=none)
  (new:ObjOk P w (upd H e (.ext ψ)) h' e (.ext ψ)):HOk P w (upd H e (.ext ψ)) h':=λb u q=>by
 by_cases j:b=e
 ·subst j;rw[jU] at q;cases q;exact new
 ·rw[jo j] at q;have a:∀ c y,H c=some (.own y)->c≠e:=λc y r z=>by rw[z,l] at r;cases r
  have f:∀ c g,H c=some (.tup g)->c≠e:=λc g r z=>by rw[z,l] at r;cases r
  refine(ok b u q).stay (λc v i r=>?_) (λc r=>by rw[jo (a c b r)];exact r) λc g r=>by rw[jo (f c g r)];exact r
  have d:c≠e/\H c≠none:=by
   rcases i with rfl | i
   ·exact⟨j,λz=>by rw[q] at z;cases z⟩
   ·exact⟨a c b i,λz=>by rw[i] at z;cases z⟩
  exact k.keep c v r (λz=>d.2 (m c z)) λz=>d.2 (n c z d.1)
theorem jgH{fs fs' xs:List Addr}{j H:Hp}{a h h':Heap}{e:Addr}{φ ψ:Heap->Prop}(u:Un fs [] j H a h)(d:H e=some (.ext φ))(t:a.get? e=none)(k:Kp fs' xs h h')(l:∀ b∈fs',b∈fs \/ a.get? b=none)(f:∀ b∈xs,a.get? b=none)
  (at_:∃ o,h'.get? e=some o):Un fs [] j (upd H e (.ext ψ)) a h' where
 keep:=λb o q n m z=>by
  have:=u.keep b o q n m z;exact k.keep b o this (λy=>(l b y).elim m λy=>by rw[q] at y;cases y) λy=>by have:=f b y;rw[q] at this;cases this
 slot:=λb o q n m z=>by
  obtain⟨p,r⟩:=u.slot b o q n m z;by_cases y:b∈fs'
  ·obtain⟨c,g⟩:=k.slot b _ r y;exact⟨c,g⟩
  ·exact⟨p,k.keep b _ r y λy=>by have:=f b y;rw[q] at this;cases this⟩
 free:=λb o q n z=>by
  have r:=u.free b o q n z;rw[jo (λy=>by rw[y,d] at r;cases r)];exact r
 there:=λb o q z=>by
  obtain⟨v,r⟩:=u.there b o q z;have nx:b∉xs:=λy=>by have:=f b y;rw[q] at this;cases this
  by_cases y:b∈fs'
  ·obtain⟨c,g⟩:=k.slot b _ r y;exact⟨_,g⟩
  ·exact⟨_,k.keep b _ r y nx⟩
 tups:=λb i q=>by
  have r:=u.tups b i q;rw[jo (λy=>by rw[y,d] at r;cases r)];exact r
 frzs:=λb o i q=>by
  have r:=u.frzs b o i q;rw[jo (λy=>by rw[y,d] at r;cases r)];exact r
 tbls:=λb s q=>by
  obtain⟨m,r⟩:=u.tbls b s q;exact⟨m,by rw[jo (λy=>by rw[y,d] at r;cases r)];exact r⟩
structure Lv(X:Cx)(E:XK):Prop where
 st:X.stack=X.env::X.outer
 fr:X.env.frame=some X.env.locals
 ex:X.ex=[]
 xe:∀ e s',wpAny (model X.prog X.w) X.A (leaving X.env e) (λ_ s''=>CXr X.prog X.w X.outer X.H₀ X.s₀ E e s'') (λ_ _=>False) s'->X.xe e s'
section
variable {X:Cx}{pins:List (Addr×Obj)}{σ:L2.St}{H:Hp}{s:Shared}{E:XK}
theorem jdl(I:L2.Inv X pins σ H s)(l:Lv X E):∀ b∈QX.fms (X.env::X.outer),H b=none/\(b∈X.fs \/ X.s₀.heap.get? b=none):=λb c=>by
 have a:b∈frs X.stack:=by rw[l.st];exact c
 refine⟨I.stkFree b a,?_⟩;rcases M5.mp (I.stkSub b a) with z | z
 ·rw[z];exact .inr (Heap.get?_none_of_le I.ok.above)
 ·exact .inl z
theorem jhA(l:Lv X E):VM (CXr X.prog X.w) X E:=by
 intro p σ H s e r I h;obtain⟨a,C,dx,T,A,rfl,os,bare,un,hok,B,t,d,u,i,q⟩:=h;have m:=I.call' (ch:=[]) os un hok bare (λb z=>absurd z (by simp));have fm:=jdl m l;have sz:X.s₀.heap.objs.size<=s.heap.objs.size:=I.sz;obtain⟨G,D⟩:=u.atT;have lt:T < r.heap.objs.size:=N2 D;have n:X.s₀.heap.objs.size<=r.heap.objs.size:=N8 (N8 sz t) (Nat.le_of_lt lt);refine l.xe _ _ (jcc (base:=X.base) (by rw[I.ok.frames,l.st]) (by rw[<- l.st];exact m.stack) l.fr u λJ F k f j=>?_);have v:=m.base;rw[l.ex] at v;have x:∀ b∈[a,T],X.s₀.heap.get? b=none:=λb c=>by
  rcases M5.mp c with z | z
  ·rw[z];exact Heap.get?_none_of_le (N8 sz d)
  ·rw[M8.mp z];exact Heap.get?_none_of_le (N8 sz t)
 have y:=jgH (ψ:=QD.xo C a dx) v i (x a (by simp)) k (λb c=>(fm b c).2) x j.at
 have g:=jaY (ψ:=QD.xo C a dx) hok i k (λb c=>(fm b c).1) (λb c ne=>by
  rcases M5.mp c with z | z
  ·exact absurd z ne
  ·rw[M8.mp z];exact B) (let ⟨o,he⟩:=j.at;zZ he j.xo (jh7 C a dx))
 rw[jeR i] at y g;exact⟨a,C,dx,F,A,rfl,os.trans I.os,bare,y,g,hok.fresh f,N8 n f,N8 sz d,j,i,q⟩
theorem jjW{e C dx:Addr}(l:Lv X E)(I:L2.Inv X pins σ H s)(d:H e=some (.ext (x1 C e dx)))(h:X.s₀.heap.objs.size<=e)(q:E (.ref e) none (upd H e (.ext (xo C e dx)))):X.xe (.ref e) s:=by
 obtain⟨⟨p,i⟩,_⟩:=I.hok e _ d;have fm:=jdl I l;refine l.xe _ _ (uS (base:=X.base) (vs:=#[.ref p,.none,.none,.none,.bool false,.none]) (by rw[I.ok.frames,l.st]) (by rw[<- l.st];exact I.stack) l.fr i rfl rfl λr T k a j=>?_);have m:=I.base;rw[l.ex] at m;have f:Fly e (.ref C) (some dx) T .none r:=j;have n:∀ b∈[e],X.s₀.heap.get? b=none:=λb c=>by rw[M8.mp c];exact Heap.get?_none_of_le h
 have t:=jgH (ψ:=QD.xo C e dx) m d (n e (by simp)) k (λb c=>(fm b c).2) n j.at
 have g:=jaY (ψ:=QD.xo C e dx) I.hok d k (λb c=>(fm b c).1) (λb c ne=>absurd (M8.mp c) ne) (let ⟨o,d⟩:=f.at;zZ d f.xo (jh7 C e dx));have ne:T≠e:=λz=>absurd (N2 i) (Nat.not_lt.mpr (z▸a));exact⟨e,C,dx,T,_,rfl,I.os,I.bare,t,g,by rw[jo ne];exact I.hok.fresh a,N8 I.sz a,h,f,jU,q⟩
end
theorem z9{prog:Program}{w:World}{A:Around}{E:Value->Shared->Prop}{s:Shared}{env:Env}{K:PySem.W.Frag}{x:Sem Value}{Q:Flow->Shared->Prop}(f:A.handled=none)
  (h:wpAny (model prog w) A x (λv s1=>∃ e C dx t0,v=.ref e/\K.In s1.heap/\wq K C=true/\s1.heap.get? e=some { uQ C t0 with dict:=some dx }/\E (.ref e) s1) E s):wpAny (model prog w) A (raiseStmt env (some x) none) Q E s:=by
 unfold raiseStmt;refine L3 (wpAny_mono h (λv s1 i=>?_) λ_ _ x=>x);obtain⟨e,C,dx,t0,rfl,X,j,b,k⟩:=i;unfold uQ at b;obtain⟨m,g,d,n,os⟩:=s1;obtain⟨nm,o,N,bs,bm,p,sub,q,l,dd,r,t,u,y,z,c,T⟩:=QC X j;have a:(Value.ref C::bm).contains (.type "BaseException")=true:=by rw[List.contains_cons,vD T];rfl
 repeat (first | with_reducible refine wpAny_loadPart_at b ?_ | with_reducible refine wpAny_loadPart_at c ?_ | (with_reducible refine wpAny_isSubtype_exc c ?_;rw[a]) | wp_step)
 exact wpAny_raiseNew_none f k
structure XR(K:PySem.W.Frag)(C f:Addr):Prop extends XC K C where
 init:PySem.W.findIn K (.ref C) "__init__" = some (some (.ref f))
 fn:PySem.W.isFn K (.ref f)=true
 pl:NoAttr K C "place"
 kp:PySem.W.keepIn K (.ref C)=true
section
variable {X:Cx}{pins:List (Addr×Obj)}{σ:L2.St}{H:Hp}{s:Shared}{k:Nat}{f C:Addr}{fd:FuncData}
theorem jcC{u p:V}{us:List Value}(c:XR X.K C f)(F:FnOk X.prog X.w X.K X.mg X.base CX0 k f fd ["self","words","place"] (xh X.K))(G:Room (k+1) X.A)(J:Binds X.K fd ["self","words","place"] [])(I:L2.Inv X pins σ H s)(r:Vals [u,p] us){E:Value->Shared->Prop} :
  wpAny (model X.prog X.w) X.A (call (.ref C) us) (λv s'=>∃ e dx,v=.ref e/\s.heap.objs.size<=e/\H e=none/\H dx=none/\dx≠e/\L2.Inv X pins σ (upd (upd H dx (.xd [("place",p)])) e (.ext (x1 C e dx))) s') E s:=by
 have q:=r.length;obtain⟨R,g,d,t,os⟩:=s;refine je5 I.kIn c.cls c.init c.fn (λl e m x=>?_) (by rw[<- q];exact(by decide:2<=sizeLine));obtain⟨y,L,_,_⟩:=x.there;have h:l.get? e=some (uQ C y):=L;have M:H e=none:=I.hok.fresh m;have n:=I.laid (a:=e) (o:=.ext (x0 C e)) (h':=l) (t':=t) x.keeps m (zZ h ⟨y,h⟩ (jj2 C e));have N:Vals (V.ref e::[u,p]) (Value.ref e::us):=.cons rfl r;have i:(Value.ref e::us++[]).length=["self","words","place"].length:=by
  rw[N1,M3,<- q];rfl
 refine wpAny_call (codeAny_mono (F.run _ X.stack _ _ ⟨Value.ref e::us,[]⟩ (Value.ref e::us++[]) [V.ref e,u,p] (λv B=>v=.non/\∃ dx,upd H e (.ext (x0 C e)) dx=none/\B=upd (upd (upd H e (.ext (x0 C e))) dx (.xd [("place",p)])) e (.ext (x1 C e dx))) E0 (G.make C us [])
  (n.env0.make C us []) (J _ (Value.ref e::us) n.kIn i) (by rw[N1];exact N) ⟨e,u,p,C,rfl,jU,c.toXC,c.pl,λdx hd=>⟨rfl,dx,hd,rfl⟩⟩) λr s' j=>?_)
 cases r with
 | error e=>exact False.elim j
 | ok O =>
  cases O with
  | ret S =>
   obtain⟨v,B,D,P,rfl,dx,hd,rfl⟩:=n.after j;have ne:dx≠e:=λz=>by rw[z,jU] at hd;cases hd
   refine⟨P,e,dx,rfl,m,M,by rw[jo ne] at hd;exact hd,ne,?_⟩;have Q:upd (upd (upd H e (.ext (x0 C e))) dx (.xd [("place",p)])) e (.ext (x1 C e dx))=upd (upd H dx (.xd [("place",p)])) e (.ext (x1 C e dx)):=by
    funext b
    unfold upd;by_cases z:b=e
    ·rw[if_pos z,if_pos z]
    ·rw[if_neg z,if_neg z,if_neg z]
   rw[Q] at D;exact D
  | next=>exact False.elim j
  | brk=>exact False.elim j
  | cont=>exact False.elim j
variable {E:XK}{x:Str}{np cpos pos:Pos}{a1 a2:Expr}{t:TA}
noncomputable def jeu(C:Addr)(E:XK)(t:TA):TS:=λ_ σ H=>t σ H λvs H1=>∃ u p,vs=[u,p]/\∀ e dx,H1 e=none->H1 dx=none->dx≠e->E (.ref e) none (upd (upd H1 dx (.xd [("place",p)])) e (.ext (xo C e dx)))
theorem jgj(l:Lv X E)(c:XR X.K C f)(F:FnOk X.prog X.w X.K X.mg X.base CX0 k f fd ["self","words","place"] (xh X.K))(y:Room (k+1) X.A)(z:Binds X.K fd ["self","words","place"] [])(B:X.mg x=some (.ref C))
  (G:PA X [a1,a2] t) (J:X.calm=true:=by rfl) (L:Gl X x:=by rfl) (d:(x==("__debug__" : Str))=false:=by decide) (M:starEach [a1,a2] X.env=(false,eval a1 X.env)::starEach [a2] X.env:=by rfl) (g:(backTo cpos (starEach [a2] X.env)).any (·.1)=false:=by rfl) :
  PS X (.Raise (some (.Call (.Name x np) [a1,a2] [] cpos)) none pos) (jeu C E t):=by
 intro a s σ H D I h;rw[arm_exec_Raise];have go:wpAny (model X.prog X.w) X.A (eval (.Call (.Name x np) [a1,a2] [] cpos) X.env) (λv b=>∃ e C dx i,v=.ref e/\X.K.In b.heap/\wq X.K C=true/\b.heap.get? e=some { uQ C i with dict:=some dx }/\X.xe (.ref e) b) X.xe s:=by
  refine wpAny_Call_Name_kw (JZ I L B ?_ d);refine PySem.W.callWith_K (h₀:=X.base) I.ok.mod.kin c.kp (thn (G cpos a s σ H _ I h) λS b ⟨T,U,j,r,u,p,ev,q⟩=>⟨j.kIn,?_⟩) M g;subst ev;refine thn (jcC c F y z j r) λv V ⟨e,dx,ev,N,O,P,ne,m⟩=>?_;subst ev;obtain⟨⟨i,Q⟩,_⟩:=m.hok e _ jU;refine⟨e,C,dx,i,rfl,m.kIn,c.cls,Q,jjW l m jU (N8 j.sz N) ?_⟩;rw[ji7];exact q e dx O P ne
 have o:=I.ok.hd J
 first
  | exact L3 (wpAny_standAt (z9 o (L3 (wpAny_mono go (λv R n=>L3 (wpAny_standAt (M7 n))) λ_ _ x=>x))))
  | (simp only[evalOpt,Option.map];exact L3 (wpAny_standAt (z9 o (L3 (wpAny_mono go (λv R n=>L3 (wpAny_standAt (M7 n))) λ_ _ x=>x)))))
end
noncomputable abbrev inX(X:Cx)(e:Value):Cx:={ X with A:=X.A.mark (some e),calm:=false,xe:=λ_ _=>False }
section
variable {X:Cx}{pins:List (Addr×Obj)}{σ:L2.St}{H H1:Hp}{s s1:Shared}{e:Value}
theorem jgG(I:L2.Inv X pins σ H s):L2.Inv (inX X e) pins σ H s :=
 ⟨⟨I.ok.mod,I.ok.kind,I.ok.glob,I.ok.blt,I.ok.above,I.ok.inj,I.ok.has,I.ok.cab,λz=>absurd (show false=true from z) (by decide),I.ok.frames,I.ok.stk,I.ok.exf,I.ok.bs,I.ok.bsz,I.ok.noex,I.ok.exfs,I.ok.funs,I.ok.frf⟩,
  I.os,I.bare,I.base,I.loc,I.cell,I.free,I.freeC,I.pin,I.hok,I.len⟩
theorem jh4(hd:X.calm=true->X.A.handled=none)(I:L2.Inv (inX X e) pins σ H s):L2.Inv X pins σ H s :=
 ⟨⟨I.ok.mod,I.ok.kind,I.ok.glob,I.ok.blt,I.ok.above,I.ok.inj,I.ok.has,I.ok.cab,hd,I.ok.frames,I.ok.stk,I.ok.exf,I.ok.bs,I.ok.bsz,I.ok.noex,I.ok.exfs,I.ok.funs,I.ok.frf⟩,
  I.os,I.bare,I.base,I.loc,I.cell,I.free,I.freeC,I.pin,I.hok,I.len⟩
theorem jaG{a C dx T:Addr}{h':Heap}(e:L2.Inv X pins σ H1 s1)(I:L2.Inv X pins σ H s)(h:H a=some (.ext (QD.xo C a dx)))(k:Kp (frs X.stack) [a,T] s.heap h')(m:H T=none)(f:s1.heap.objs.size<=T)(t:s1.heap.objs.size<=a)(x:QD.xo C a dx h') :
  L2.Inv X pins σ H { s with heap:=h' }:=by
 have at_:∃ o,h'.get? a=some o:=let ⟨o,_,q,_⟩:=x;⟨o,q⟩
 have i:HOk X.prog X.w H h':=by
  have:=jaY (ψ:=QD.xo C a dx) I.hok h k (λb d=>I.stkFree b d) (λb d ne=>by
   rcases M5.mp d with z | z
   ·exact absurd z ne
   ·rw[M8.mp z];exact m) (let ⟨o,he⟩:=at_;zZ he x (jh7 C a dx))
  rwa [jeR h] at this
 have u:∀ b,H b=none->b≠a:=λb n z=>by rw[z,h] at n;cases n
 refine I.call' (s':={ s with heap:=h' }) (ch:=[T]) rfl ⟨λb o q n d g=>?_,λb o q n d g=>?_,λb o q n _=>n,λb o q g=>?_,λ_ _ q=>q,λ_ _ _ q=>q,λ_ D q=>⟨#[],by rw[q];simp⟩⟩ i I.bare λb d=>?_
 ·exact k.keep b o q d λz=>by
   rcases M5.mp z with z | z
   ·exact u b n z
   ·exact g z
 ·exact k.slot b o q d
 ·by_cases j:b∈frs X.stack
  ·obtain⟨E,r⟩:=k.slot b o q j;exact⟨_,r⟩
  ·by_cases l:b=a
   ·rw[l];exact at_
   ·exact⟨o,k.keep b o q j λz=>by
     rcases M5.mp z with z | z
     ·exact l z
     ·exact g z⟩
 ·rw[M8.mp d];refine⟨.inr (N8 e.sz f),Nat.ne_of_gt (U5 e.lt f),λy c q=>?_,λp A=>?_⟩
  ·obtain⟨v,o,B,_⟩:=e.cell y c q;exact N7 (U5 (N2 B) f)
  ·exact N7 (U5 (N2 (e.pin p A).1) f)
theorem jjb{M:Model}{A:Around}{E:Value->Shared->Prop}{j:Nat}{n:Str}{pos:Pos}{Q:Unit->Shared->Prop}(I:L2.Inv X pins σ H s)(K:X.N.Nodup)(L:X.N[j]?=some n)(O:X.env.scope.names.lookup n=some .local)
  (h:∀ s',L2.Inv X pins (σ.set j none) H s'->Q () s'):wpAny M A (do bindName X.env n .none;unbindBehindTheSuite X.env n pos) Q E s:=by
 obtain⟨m,G,P⟩:=id I.loc;have d:(X.env.scope.kind==.class||(X.env.scope.kind==.module&&X.env.locals != X.env.globals))=false:=by rw[I.ok.kind];rfl
 obtain⟨oL,_,_,R,_⟩:=id G;refine wpAny_nameGoes_keeps O G d λS v x a=>h _ ?_;have nl:∀ b o,X.s₀.heap.get? b=some o->b≠X.env.locals:=λb o z=>N7 (U5 (N2 z) I.ok.above);have B:HOk X.prog X.w H S:=λb T q=>(I.hok b T q).stay (λc w' d U=>(a.2 c (by
  rintro rfl;rcases d with rfl | d
  ·rw[I.free] at q;cases q
  ·rw[I.free] at d;cases d)).trans U) (λ_ q=>q) λ_ _ q=>q
 refine⟨I.ok,I.os,I.bare,⟨λb o z C D f=>(a.2 b (nl b o z)).trans (I.base.keep b o z C D f),λb o z C D f=>?_,I.base.free,λb o z f=>?_,I.base.tups,I.base.frzs,I.base.tbls⟩,⟨_,x,λi y V J l W=>?_⟩,λy c q=>?_,I.free,I.freeC,λp Y=>?_,B,by simpa using I.len⟩
 ·obtain⟨Z,r⟩:=I.base.slot b o z C D f;exact⟨Z,(a.2 b (nl b o z)).trans r⟩
 ·obtain⟨o',r⟩:=I.base.there b o z f;exact⟨o',(a.2 b (nl b o z)).trans r⟩
 ·have ne:i≠j:=λz=>by
   rw[z,List.getElem?_set] at l;simp at l
  rw[List.getElem?_set,if_neg (Ne.symm ne)] at l;have ny:y≠n:=λz=>ne (wg K J (z▸L));obtain⟨u,r,lk⟩:=P i y V J l W;refine⟨u,r,?_⟩;rcases lk with⟨g,e⟩ | ⟨g,c,e,t⟩
  ·exact .inl ⟨g,(if_neg ny).trans e⟩
  ·refine .inr ⟨g,c,e,?_⟩;obtain⟨o,k,F⟩:=t;exact⟨o,(a.2 c (I.cne y c e)).trans k,F⟩
 ·obtain⟨v,o,k,F⟩:=I.cell y c q;exact⟨v,o,(a.2 c (I.cne y c q)).trans k,F⟩
 ·obtain⟨g,e,t,k⟩:=I.pin p Y;exact⟨(a.2 p.1 t).trans g,e,t,k⟩
variable {k:Nat}{f:Addr}{fd:FuncData}{ps:List Str}{sp:Sp}{x n z D:Str}{p pos pos' cpos np hp ap vp nn:Pos}{es:List Expr}{a1:Expr}{t:TA}{CD:Addr}{i j:Nat}
end
def NewX(R:RC)(H:Hp)(Z':Zn)(H':Hp)(c:Nat)(p:Int)(a:Addr):Prop:=∃ dx,H a=none/\H dx=none/\Z' a/\Z' dx/\H' a=some (.ext (QD.xo (R.cls c) a dx))/\H' dx=some (.xd [("place",.int p)])
noncomputable abbrev FX:=Rh->Option (Nat×Int)
noncomputable def spR(R:RC)(m:List D->Option (Nat×Int))(n:Nat):Sp:=λvs H _ E=>∃ Z ds c p,Zd Z H/\ds.length=n/\Reps R Z H ds vs []/\m ds=some (c,p)/\∀{a:Addr}{Z':Zn}{H':Hp},Go Z H [] Z' H' []->NewX R H Z' H' c p a->E (.ref a) none H'
def DX(R:RC)(E:XK)(ts:TS)(x:FX):Prop:=∀{σ:L2.St}{ρ:Rh}{Z:Zn}{H:Hp}{O:List Addr}{c:Nat}{p:Int},WF Z H O->Slots R Z H ρ σ O->x ρ=some (c,p) ->
 (∀{a:Addr}{Z':Zn}{H':Hp},Go Z H O Z' H' []->NewX R H Z' H' c p a->E (.ref a) none H')->∀ D':Ends,ts D' σ H
section
variable {R:RC}{Z Z' Z'':Zn}{H H' H'':Hp}{O O':List Addr}{c:Nat}{p:Int}{a:Addr}{E:XK}{pm:List Nat}{ts tu:TS}
theorem NewX.back(g:Go Z H O Z' H' O')(n:NewX R H' Z'' H'' c p a):NewX R H Z'' H'' c p a:=by
 obtain⟨dx,b,d,r⟩:=n;exact⟨dx,Classical.byContradiction λz=>g.dm a z b,Classical.byContradiction λz=>g.dm dx z d,r⟩
theorem NewX.rep(n:NewX R H Z' H' c p a):Rep R Z' H' (.exc c p) (.ref a) []:=by
 obtain⟨dx,_,_,b,d,e,f⟩:=n;rw[Rep];exact⟨a,dx,rfl,b,d,e,f,rfl⟩
theorem jh9{m:List D->Option (Nat×Int)}{n:Nat}{vs:List V}{Q:VK}(h:spR R m n vs H Q E):vs.length=n:=by
 obtain⟨Z,b,_,_,z,a,r,_⟩:=h;rw[r.length,a]
noncomputable def fnR(n:Nat)(x:FX):List D->Option (Nat×Int):=λds=>x (ds.map some++List.replicate (n - ds.length) none)
theorem jhE{N:List Str}{x:FX}{vs:List V}{Q:VK}{n:Nat}(b:DX R E ts x)(h:spR R (fnR N.length x) n vs H Q E)(D':Ends):ts D' (L2.start N vs) H:=by
 obtain⟨Z,a,c,p,z,d,r,e,k⟩:=h;have s:Slots R Z H (a.map some++List.replicate (N.length - a.length) none) (L2.start N vs) []:=by
  have q:=qW r (qY (R:=R) (Z:=Z) (H:=H) (N.length - a.length));unfold L2.start;rw[r.length];exact q
 exact b (wf0 z) s e (λg n=>k g n) D'
noncomputable def xN:FX:=λ_=>none
theorem jeS:DX R E ts xN:=λ_ _ e=>nomatch e
noncomputable def vk(c:Nat)(pr:PAf):FX:=λρ=>match pr ρ with
 | some [_,.int p]=>some (c,p)
 | _=>none
theorem jfX{t:TA}{pr:PAf}(h:PPs R t pr):DX R E (jeu (R.cls c) E t) (vk c pr):=by
 intro σ ρ Z H O C p w s e k D;unfold vk at e;split at e
 ·rename_i F G q;cases e;refine h w.zd s q λ{I r b J} u f=>?_;rw[Reps] at f;obtain⟨v,x,K,L,rfl,rfl,M,g⟩:=f;rw[Reps] at g;obtain⟨N,i,P,Q,rfl,rfl,y,j⟩:=g;rw[Reps] at j;obtain⟨rfl,rfl⟩:=j;obtain⟨rfl,rfl⟩:=y.int_of;refine⟨v,_,rfl,λe dx l m ne=>?_⟩;have d:=(u.widen w);have n:=d.trans (Go.newF (o:=.xd [("place",.int p)]) d.wf m);have z:upd b dx (.xd [("place",.int p)]) e=none:=by rw[jo (Ne.symm ne)];exact l
  have A:=n.trans (Go.newF (o:=.ext (QD.xo (R.cls c) e dx)) n.wf z);have B:NewX R b (λa=>(r a \/ a=dx) \/ a=e) (upd (upd b dx (.xd [("place",.int p)])) e (.ext (QD.xo (R.cls c) e dx))) c p e :=
   ⟨dx,l,m,.inr rfl,.inl (.inr rfl),jU,by rw[jo ne,jU]⟩
  exact k A.to0 (B.back d)
 ·cases e
noncomputable def qB(x1:FX)(f:FS)(x2:FX):FX:=λρ=>match x1 ρ with
 | some r=>some r
 | none=>match f ρ with
  | some (.nx ρ1)=>x2 ρ1
  | _=>none
theorem jlj{x1 b:FX}{f:FS}(h1:DX R E ts x1)(d:DS R pm ts f)(h2:DX R E tu b):DX R E (jjC ts tu) (qB x1 f b):=by
 intro σ ρ Z H O c p w s e k g;unfold qB at e;split at e
 ·rename_i r h;cases e;exact h1 w s h k _
 ·split at e
  ·rename_i m i;refine d w s i λ{o q t u} a j _=>?_;exact h2 a.wf j e (λl n=>k (a.trans l) (n.back a)) g
  ·cases e
noncomputable def xIf(q:PTf)(xa xb:FX):FX:=λρ=>match q ρ with
 | none=>none
 | some b=>bif b then xa ρ else xb ρ
theorem jmO{tc:TT}{q:PTf}{f h:FX}(j:PTt R tc q)(l:DX R E ts f)(m:DX R E tu h):DX R E (jln tc ts tu) (xIf q f h):=by
 intro σ ρ Z H O c p w s e k i;unfold xIf at e;cases e1:q ρ with
 | none=>rw[e1] at e;cases e
 | some b =>
  rw[e1] at e;refine j w.zd s e1 λ{o r} d=>?_;have a:Go Z H O o r O:=by simpa using d.widen w
  cases b with
  | true=>exact jfE (l a.wf (d.slots w.zd s) e (λg n=>k (a.trans g) (n.back a)) i)
  | false=>exact jfG (m a.wf (d.slots w.zd s) e (λg n=>k (a.trans g) (n.back a)) i)
noncomputable def Jy(g:D->Rh->Option Rh)(f:FS)(x:FX):List D->FX
 | [],_=>none
 | d::l,ρ=>match g d ρ with
  | none=>none
  | some ρ1=>match x ρ1 with
   | some r=>some r
   | none=>match f ρ1 with
    | some (.nx ρ2)=>Jy g f x l ρ2
    | some (.ct ρ2)=>Jy g f x l ρ2
    | _=>none
noncomputable def jeU(p:PAf)(g:D->Rh->Option Rh)(f:FS)(x:FX):FX:=λρ=>match p ρ with
 | none=>none
 | some xs=>Jy g f x xs ρ
theorem jlQ{wi:TI}{tg:TG}{tb:TS}{N:PAf}{g:D->Rh->Option Rh}{f:FS}{x:FX}(hi:PIt R wi N)(hg:PGt R pm tg g)(hf:DS R pm tb f)(hx:DX R E tb x):DX R E (jkm wi tg tb) (jeU N g f x):=by
 intro σ ρ Z H O c p w s e k D';unfold jeU at e;cases e1:N ρ with
 | none=>rw[e1] at e;cases e
 | some xs =>
  rw[e1] at e;dsimp only at e;refine hi w.zd s e1 λ{J v K} V it=>?_;have j:Go Z H O v K O:=by simpa using V.widen w
  refine⟨λi m W y=>m=xs.length - i/\i<=xs.length/\∃ L A B,Go v K O A y B/\Slots R A y L W B/\Jy g f x (xs.drop i) L=some (c,p),
   ⟨xs.length,rfl,U6 _,ρ,v,O,Go.refl j.wf,V.slots w.zd s,e⟩,?_⟩
  rintro i m W y ⟨rfl,hi',L,A,B,q,s1,b⟩;have P:=it (Z1:=A) (H1:=y) q.zz (λa z=>q.zH j.wf a z) q.wf.zd i;by_cases C:i < xs.length
  ·right
   have F:xs[i]?=some xs[i]:=by simp[C]
   obtain⟨go,yl⟩:=P.2 _ F;rw[VU F] at b;unfold Jy at b;cases e3:g xs[i] L with
   | none=>rw[e3] at b;cases b
   | some X =>
    rw[e3] at b;dsimp only at b;refine⟨go,λY l=>∃ h o M,Go v K O o l M/\Slots R o l h Y M/\Jy g f x (xs.drop (i+1)) h=some (c,p),λY l ⟨h,o,M,a1,a2,a4⟩=>⟨xs.length - (i+1),by omega,rfl,C,h,o,M,a1,a2,a4⟩,λu l hy=>?_⟩;obtain⟨o,g2,r2⟩:=yl u l hy;have G:Go A y B o l B:=by simpa using g2.widen q.wf
    refine hg r2 (g2.slots q.wf.zd s1) e3 λ{σ3 O3} sub nd s3 k3=>?_;have t:Go v K O o l O3:=(q.trans G).drop sub (nd G.wf.nd);cases e4:x X with
    | some r =>
     rw[e4] at b;cases b;exact hx t.wf s3 e4 (λI n=>k (j.trans (t.trans I)) (n.back (j.trans t))) _
    | none =>
     rw[e4] at b;dsimp only at b;cases e5:f X with
     | none=>rw[e5] at b;cases b
     | some o1 =>
      rw[e5] at b;refine hf t.wf s3 e5 ?_;cases o1 with
      | nx h=>exact λ{σ4 Q H4 S} I T k4=>⟨h,Q,S,t.trans I,T,b⟩
      | ct h=>exact λ{σ4 Q H4 S} I T k4=>⟨h,Q,S,t.trans I,T,b⟩
      | bk h=>cases b
      | rt d h=>cases b
  ·have U:i=xs.length:=by omega
   rw[U,List.drop_length] at b;cases b
noncomputable def JT(m:List D->Option (Nat×Int))(pr:PAf):FX:=λρ=>match pr ρ with
 | none=>none
 | some ds=>m (fzs ds)
theorem jdI{m:List D->Option (Nat×Int)}{n:Nat}{ds:List D}{vs:List V}{P:List Addr}{Q:VK}(w:WF Z H O)(r:Reps R Z H ds vs P)(j:ds.length=n)(e:m (fzs ds)=some (c,p))
  (k:∀{a:Addr}{Z':Zn}{H':Hp},Go Z H [] Z' H' []->NewX R H Z' H' c p a->E (.ref a) none H'):spR R m n (vs++[]) H Q E:=by
 have l:=w.zd;have o:Zd (λa=>Z a \/ a∈P) H:=λa h=>h.elim (l a) (r.dom a);refine⟨λa=>Z a \/ a∈P,fzs ds,c,p,o,by rw[wk];exact j,by rw[N1];exact r.freeze (λa z=>.inl z) λa z=>.inr z,e,λ{a Z' H'} d n=>?_⟩;have f:Go Z H [] (λa=>Z' a/\(a∉P \/ Z a)) H' []:=by
  refine⟨⟨d.wf.nd,λa h q=>d.wf.nz a h q.1,d.wf.od,λa q=>d.wf.zd a q.1⟩,λa z=>⟨d.zz a (.inl z),.inr z⟩,d.fr,λa z=>?_,d.sub,d.dm⟩;rcases d.zn a z.1 with q | q | q
  ·rcases q with q | q
   ·exact .inl q
   ·exact .inl (z.2.resolve_left λy=>y q)
  ·exact .inr (.inl q)
  ·exact .inr (.inr q)
 obtain⟨dx,g,i,s,t,u⟩:=n;refine k (Z':=λb=>Z' b/\(b∉P \/ Z b)) f ⟨dx,g,i,⟨s,.inl λy=>r.dom a y g⟩,⟨t,.inl λy=>r.dom dx y i⟩,u⟩
theorem jbI{m:List D->Option (Nat×Int)}{n:Nat}{t:TA}{pr:PAf}(h:PBs R t pr)(b:∀ ρ ds,pr ρ=some ds->ds.length=n):DX R E (jhs (zP (spR R m n) [] E t)) (JT m pr):=by
 intro σ ρ Z H O c p w s e k l;unfold JT at e;cases e1:pr ρ with
 | none=>rw[e1] at e;cases e
 | some ds =>
  rw[e1] at e;refine h w.zd s e1 λ{o d f q} i j=>?_;have a:Go Z H O d f O:=by simpa using i.widen w
  exact jdI a.wf j (b ρ ds e1) e λg n=>k (a.trans (g.widen a.wf)).to0 (n.back a)
end
section
variable {P:Program}{w:World}{K:PySem.W.Frag}{mg:Str->Option Value}{base:Heap}{N ps:List Str}{k n:Nat}{fa:Addr}{fd:FuncData}{x qual:Str}{fst:Stmt}{cl:Nat->Addr}{xs:FX}
theorem Qq{b:Scope}{a:Value}{A:Around}{outer:List Env}{s:Shared}{H:Hp}{E:XK}:Lv (uP (CXr P w) P w K mg base N qual b fa a A outer s H E) E :=
 ⟨rfl,rfl,rfl,λe c h=>wpAny_mono h (λ_ _ z=>z) λ_ _ z=>False.elim z⟩
theorem jkQ(F:Fun K x qual fst fa fd)(d:FnScope N ps (jh fst))(e:ps.length=n)
  (a:∀(cdv:Value) (A:Around) (outer:List Env) (s:Shared) (H:Hp) (E:XK),Room k (A.deeper (envOfC qual (jh fst) s.heap.objs.size fa cdv)) ->
   ∃ ts,PSs (uP (CXr P w) P w K mg base N qual (jh fst) fa cdv A outer s H E) (vC fst) ts/\DX ⟨K,cl⟩ E ts xs):FnOk P w K mg base (CXr P w) (k+1) fa fd ps (spR ⟨K,cl⟩ (fnR N.length xs) n):=by
 obtain⟨m,od,kV,f,o,p,cdv,ct,g,rfl,i,b⟩:=F.ex;refine jk2 i b d (λj H Q E h=>by rw[jh9 h,e]) λA outer s H j Q E l c=>?_;obtain⟨t,h,q⟩:=a cdv A outer s H E l;exact⟨t,h,jhE q c _⟩
end
section
variable {X:Cx}
noncomputable def jhK:Value->Bool
 | .bool b=>b
 | _=>false
theorem uV:∀{bs:List Bool}{us:List Value},Vals (bs.map V.bl) us->us=bs.map Value.bool
 | [],_,.nil=>rfl
 | b::bs,_,.cons r t=>by rw[uV t];cases r;rfl
def jcK(K:PySem.W.Frag):V->List V->Hp->VK->Prop:=λx xs H Q=>∃(a:Addr) (bs:List Bool),x=.ref a/\xs=[.bl true]/\SqL K H a (bs.map V.bl)/\Q (.int (bs.countP id:Nat)) H
theorem uD{h:Heap}{a:Addr}{its:Array Value}(p:PlainL h a its):∃ n dd sl,h.get? a=some { cls:=.type "list",dict:=dd,data:=.seq its n,slots:=sl }:=by
 obtain⟨⟨c,dd,g,sl⟩,n,e,b,d,f⟩:=p;dsimp only at b d f;subst b d f;exact⟨n,_,sl,e⟩
theorem jcE:MtR X "list.count" (jcK X.K):=by
 intro c s σ H x xs v m Q I f g q;obtain⟨a,bs,rfl,rfl,sq,q⟩:=q;obtain rfl:=f;cases g with
 | cons h i =>
  cases i;cases h;obtain⟨its,j,pl,_⟩:=I.list sq;have e:=uV j;subst e;obtain⟨n,dd,k,d⟩:=uD pl;refine call_meets PySem.F.slot_list_count ⟨_,d,rfl⟩ PySem.F.entry_list_count (PySem.F.args_list_count_2 _ _) (SeqAt.list_countAt a (bs.map Value.bool).toArray n dd k (.bool true) jhK) ⟨d,λy l=>?_,?_⟩
  ·obtain⟨b,_,rfl⟩:=M6.mp (show y∈bs.map Value.bool by simpa only[List.mem_toArray] using l);have:=SeqAt.EqAt.bool_bool (A:=X.A.in1) (s:=s) b true;rw[show(b==true)=jhK (.bool b) from by cases b<;>rfl] at this;exact this
  ·have e:(List.countP jhK (bs.map Value.bool).toArray.toList)=bs.countP id:=by
    rw[show(bs.map Value.bool).toArray.toList=bs.map Value.bool from rfl,List.countP_map];rfl
   rw[e];exact⟨.int _,H,I.tok _,⟨_,rfl⟩,q⟩
def jcD(K:PySem.W.Frag):V->List V->Hp->VK->Prop:=λx xs H Q=>∃(a:Addr) (bs:List Bool),x=.ref a/\xs=[.bl true]/\SqL K H a (bs.map V.bl)/\true∈bs/\Q (.int (bs.idxOf true:Nat)) H
theorem jd8:MtR X "list.index" (jcD X.K):=by
 intro d s σ H x xs v u Q I g h q;obtain⟨a,bs,rfl,rfl,sq,mem,q⟩:=q;obtain rfl:=g;cases h with
 | cons i j =>
  cases j;cases i;obtain⟨its,k,pl,sz⟩:=I.list sq;have e:=uV k;subst e;obtain⟨n,dd,l,f⟩:=uD pl;have o:bs.idxOf true < bs.length:=List.idxOf_lt_length_iff.mpr mem;have w:sizeLine=16777216:=by decide
  rw[L0] at sz;refine call_meets PySem.F.slot_list_index ⟨_,f,rfl⟩ PySem.F.entry_list_index (PySem.F.args_list_index_2 _ _) (SeqAt.list_indexAt a (bs.map Value.bool).toArray n dd l (.bool true) jhK (bs.idxOf true) (by simpa using o) (by omega) ?_ ?_) ⟨f,λy p=>?_,?_⟩
  ·simp[jhK]
  ·intro m r c;have t:m < bs.length:=by simpa using r
   have z:bs.idxOf true=bs.findIdx (·==true):=rfl;rw[z] at c;have:=List.not_of_lt_findIdx c;simp[jhK] at this ⊢;exact this
  ·obtain⟨b,_,rfl⟩:=M6.mp (show y∈bs.map Value.bool by simpa only[List.mem_toArray] using p);have:=SeqAt.EqAt.bool_bool (A:=X.A.in1) (s:=s) b true;rw[show(b==true)=jhK (.bool b) from by cases b<;>rfl] at this;exact this
  ·exact⟨.int _,H,I.tok _,⟨_,rfl⟩,q⟩
end
noncomputable def jb1:List D->Option (List Bool)
 | []=>some []
 | .bl b::l=>match jb1 l with
  | some r=>some (b::r)
  | none=>none
 | _=>none
section
variable {R:RC}{Z:Zn}{H:Hp}
theorem jag:∀{l:List D}{bs:List Bool}{vs:List V}{O:List Addr},jb1 l=some bs->Reps R Z H l vs O->vs=bs.map V.bl
 | [],bs,vs,O,e,r=>by cases e;rw[Reps] at r;exact r.1
 | .bl b::l,bs,vs,O,e,r=>by
  unfold jb1 at e;rw[Reps] at r;obtain⟨v,a,f,g,rfl,rfl,c,d⟩:=r;cases e2:jb1 l with
  | none=>rw[e2] at e;cases e
  | some q =>
   rw[e2] at e;cases e;obtain⟨rfl,_⟩:=c.bl_of;rw[jag e2 d];rfl
 | .non::l,_,_,_,e,_=>by cases e
 | .int _::l,_,_,_,e,_=>by cases e
 | .str _::l,_,_,_,e,_=>by cases e
 | .tup _::l,_,_,_,e,_=>by cases e
 | .lst _ _::l,_,_,_,e,_=>by cases e
 | .dK _ _ _::l,_,_,_,e,_=>by cases e
 | .dT _ _ _::l,_,_,_,e,_=>by cases e
 | .ins _ _ _ _::l,_,_,_,e,_=>by cases e
 | .dead::l,_,_,_,e,_=>by cases e
 | .exc _ _::l,_,_,_,e,_=>by cases e
noncomputable def jaP:D->List D->Option D
 | .lst _ l,[.bl true]=>(jb1 l).map λbs=>.int (bs.countP id:Nat)
 | _,_=>none
noncomputable def jaN:D->List D->Option D
 | .lst _ l,[.bl true]=>(jb1 l).bind λbs=>bif bs.contains true then some (.int (bs.idxOf true:Nat)) else none
 | _,_=>none
theorem jdm{o:Bool}{l:List D}{v:V}{O:List Addr}(r:Rep R Z H (.lst o l) v O):∃ a vs O',v=.ref a/\Reps R Z H l vs O'/\SqL R.K H a vs:=by
 rw[Rep] at r;obtain⟨a,vs,O',rfl,b,h⟩:=r;cases o with
 | true=>exact⟨a,vs,O',rfl,b,SqL.of h.1⟩
 | false=>exact⟨a,vs,O',rfl,b,h.1.sq⟩
theorem jeI:BM R "list" (jcK R.K) jaP:=by
 intro Z H x d xs v i j m z r b e Q k;unfold jaP at e;split at e
 ·rename_i o l;obtain⟨bs,f,rfl⟩:=Option.map_eq_some_iff.mp e;obtain⟨a,n,p,rfl,g,sq⟩:=jdm r;rw[jag f g] at sq;rw[Reps] at b;obtain⟨u,q,s,t,rfl,rfl,h,c⟩:=b;rw[Reps] at c;obtain⟨rfl,_⟩:=c;obtain⟨rfl,_⟩:=h.bl_of;exact⟨a,bs,rfl,rfl,sq,k (Go.id z) .int_mk⟩
 ·cases e
theorem jek:BM R "list" (jcD R.K) jaN:=by
 intro Z H x d xs v j m n z r c e Q k;unfold jaN at e;split at e
 ·rename_i o l;obtain⟨bs,g,b⟩:=Option.bind_eq_some_iff.mp e;obtain⟨a,p,q,rfl,h,sq⟩:=jdm r;rw[jag g h] at sq;rw[Reps] at c;obtain⟨u,s,t,w,rfl,rfl,i,f⟩:=c;rw[Reps] at f;obtain⟨rfl,_⟩:=f;obtain⟨rfl,_⟩:=i.bl_of;cases hc:bs.contains true with
  | false=>rw[hc] at b;cases b
  | true =>
   rw[hc] at b;cases b;exact⟨a,bs,rfl,rfl,sq,by simpa using hc,k (Go.id z) .int_mk⟩
 ·cases e
end
section
variable {X:Cx}{pins:List (Addr×Obj)}{σ:L2.St}{H:Hp}{s:Shared}
theorem jdP{a C dx:Addr}{fs:List (Str×V)}(I:L2.Inv X pins σ H s)(h1:H a=some (.ext (QD.xo C a dx)))(h2:H dx=some (.xd fs)):∃(ox od:Obj) (mA:Str->Option Value),PySem.W.InstAt s.heap a ox C (some od)/\(∀ name,PySem.W.lookIn name od=some (mA name))/\∀ f,RelO (fs.lookup f) (mA f):=by
 obtain⟨⟨o,i,b,c,d,e⟩,_⟩:=I.hok a _ h1;obtain⟨mA,ns,r⟩:=I.hok dx _ h2;obtain⟨od,g,h⟩:=ub ns;refine⟨o,od,mA,⟨b,c,?_,?_⟩,h,r⟩
 ·unfold PySem.W.notCls;rw[e]
 ·rw[d];exact g
def jml(K:PySem.W.Frag):List V->Hp->VK->Prop:=λvs H Q=>∃(a C dx:Addr) (fs:List (Str×V)) (u:V) (b:Bool),vs=[.ref a,u]/\H a=some (.ext (QD.xo C a dx))/\H dx=some (.xd fs)/\XC K C/\(∀ cv,RelV u cv->jd1 K cv=true/\PySem.W.subIn K (.ref C) cv=some b)/\Q (.bl b) H
theorem ja7:CallR X (.builtin "isinstance") (jml X.K):=by
 intro d s σ H o p Q I r q;obtain⟨a,C,dx,fs,u,b,rfl,e,f,c,g,q⟩:=q;cases r with
 | cons h i =>
  cases i with
  | cons j k =>
   cases k;obtain rfl:=h;obtain⟨t,od,v,J,_,_⟩:=jdP I e f;obtain⟨l,m⟩:=g _ j;exact xis I.kIn c J l m λn=>⟨.bl b,H,I.tok n,rfl,q⟩
noncomputable def jgD(K:PySem.W.Frag)(ta:TE):TE:=λσ H Q=>ta σ H λx H1=>∃(a C dx:Addr) (v:V),x=.ref a/\H1 a=some (.ext (QD.xo C a dx))/\H1 dx=some (.xd [("place",v)])/\XC K C/\NoAttr K C "place"/\Q v H1
theorem jfC{e:Expr}{ta:TE}{pos:Pos}(j:PE X e ta)(k:attributeBase e "place" X.env (eval e X.env)=eval e X.env:=by rfl):PE X (.Attribute e "place" pos) (jgD X.K ta):=by
 intro b s σ H Q I h;refine jdU k (thn (j b s σ H _ I h) λD l ⟨x,m,f,o,a,C,dx,v,ex,p,w,c,n,q⟩=>?_);subst ex;obtain rfl:=o;obtain⟨E,od,y,J,z,r⟩:=jdP f p w;have A:RelO (some v) (y "place"):=by have:=r "place";simpa [List.lookup] using this
 obtain⟨u,B,i⟩:=RelO.some_of A;obtain⟨h,g,d,t,os⟩:=l;have hd:PySem.W.hasDictIn X.K C=true:=by
  have q:=c.cls;unfold wq at q;unfold PySem.W.hasDictIn PySem.W.clsIn;split at q
  ·rename_i e;split at q
   ·simp only[M0] at q;rw[e];exact q.1.1.2
   ·cases q
  ·cases q
 exact joc f.kIn c.cls J c.ga c.gn (PySem.W.findObj_own hd n rfl (by rw[z,B])) (ug i) ⟨v,m,f.tok _,i,q⟩
noncomputable def jnM(i n:Nat):TE:=λσ H Q=>∃ l:List Nat,σ[i]?=some (some (.str (S l)))/\l.length<=n/\(∀ c∈l,c < 16 ^ 8)/\∀ y,Q (.str y) H
theorem jk3{i:Nat}{x a b:Str}{j1 j2 p1 p2 p3 p4 pos}(j:X.N[i]?=some x:=by rfl)(k:Vis X.env.scope x:=by first | exact Or.inl rfl | exact Or.inr (Or.inl rfl))(A:a.length<=1000:=by decide +kernel)(B:b.length<=1000:=by decide +kernel)(hd:(x==("__debug__" : Str))=false:=by decide)(d:(x==("__classdict__" : Str))=false:=by decide) :
  PE X (.JoinedStr [.Constant (.str a) j1 p1,.FormattedValue (.Name x p2) 114 none p3,.Constant (.str b) j2 p4] pos) (jnM i 1000):=by
 intro c s σ H Q I h;obtain⟨l,m,C,n,q⟩:=h;have D:sizeLine=16777216:=by decide
 have g:(reprText (S l)).length<=10002:=by
  refine N8 (PySem.StrLaws.reprText_len (S l) (by simpa [S] using n)) ?_;have:(S l).length=l.length:=Jr ..;omega
 have o:(Str.empty:Str).length=0:=rfl;refine wpAny_JoinedStr ?_;refine Calls.Constant_str ⟨a,_,rfl,by rw[strLen_append];omega,?_⟩;refine wpAny_FormattedValue_repr (thn (ui (X:=X) (i:=i) (pos:=p2) j k hd d c _ σ H (λv e=>v=.str (S l)/\e=H) (I.tok _) ⟨_,m,rfl,rfl⟩) λu E ⟨v,e,p,r,f,w⟩=>?_);subst f w;obtain⟨t,rfl⟩:=r;refine pyReprObj_str ?_ (by omega);refine formatField_str (λy z=>⟨_,y,rfl,by rw[strLen_append,strLen_append];omega,?_⟩) (by omega);refine Calls.Constant_str ⟨b,_,rfl,by rw[strLen_append,strLen_append,strLen_append];omega,?_⟩;refine⟨by rw[strLen_append,strLen_append,strLen_append];omega,?_⟩;exact⟨.str _,e,p.tok (z+1+1),⟨_,rfl⟩,q _⟩
end
section
variable {cl:Nat->Addr}{X:Cx}{e:Expr}{te:TE}{pe:PF}{pos p q:Pos}{K:PySem.W.Frag}
noncomputable def jch(l:List Bool)(pa:PF):PF:=λρ=>match pa ρ with
 | some (.exc c _)=>(l[c]?).map .bl
 | _=>none
theorem jgT{R:RC}{u:V}{ta:TE}{pa:PF}{l:List Bool}(h:PB R ta pa)(g:∀ c b,l[c]?=some b->XC R.K (R.cls c)/\∀ cv,RelV u cv->jd1 R.K cv=true/\PySem.W.subIn R.K (.ref (R.cls c)) cv=some b) :
  PP R (tCB (jml R.K) (kq ta (kq (tC u) K3))) (jch l pa):=by
 intro σ ρ Z H O d z s e Q k;unfold jch at e;split at e
 ·rename_i c n i;obtain⟨b,j,rfl⟩:=Option.map_eq_some_iff.mp e;obtain⟨m,o⟩:=g c b j;refine h z s i λ{v t w x} p f=>?_;rw[Rep] at f;obtain⟨a,dx,rfl,y,A,q,r,_⟩:=f;exact⟨a,R.cls c,dx,_,u,b,rfl,q,r,m,o,k p .bl_mk⟩
 ·cases e
def K2(K:PySem.W.Frag)(cl:Nat->Addr)(u:V)(l:List Bool):Prop:=∀ c b,l[c]?=some b->XC K (cl c)/\∀ cv,RelV u cv->jd1 K cv=true/\PySem.W.subIn K (.ref (cl c)) cv=some b
theorem uf{x:Str}{D:Addr}{l:List Bool}(g:X.mg "isinstance" = none)(i:X.mg x=some (.ref D))(j:K2 X.K cl (.ref D) l)(h:QB cl X e te pe)(k:Gl X "isinstance":=by rfl)(a:Gl X x:=by rfl)(b:(x==("__debug__" : Str))=false:=by decide)
  (f:starEach [e,.Name x q] X.env=(false,eval e X.env)::starEach [.Name x q] X.env:=by rfl) (c:starEach [.Name x q] X.env=(false,eval (.Name x q) X.env)::starEach [] X.env:=by rfl) (d:(backTo pos (starEach [.Name x q] X.env)).any (·.1)=false:=by rfl) :
  QP cl X (.Call (.Name "isinstance" p) [e,.Name x q] [] pos) (tCB (jml X.K) (kq te (kq (tC (.ref D)) K3))) (jch l pe) :=
 ⟨K6 ja7 k g (by decide +kernel) (vJ h.sem (vJ (xZ a i rfl b) YO c) f) (by decide) (by decide) f d,jgT h.den j⟩
theorem jle{x:Str}{T:String}{l:List Bool}(i:X.mg "isinstance" = none)(j:X.mg x=none)(k:bootBuiltins x=some (.type T))(m:K2 X.K cl (.ty T) l)(h:QB cl X e te pe)(n:Gl X "isinstance":=by rfl)(a:Gl X x:=by rfl)(b:x≠"__name__":=by decide)(c:(x==("__debug__" : Str))=false:=by decide)
  (g:starEach [e,.Name x q] X.env=(false,eval e X.env)::starEach [.Name x q] X.env:=by rfl) (d:starEach [.Name x q] X.env=(false,eval (.Name x q) X.env)::starEach [] X.env:=by rfl) (f:(backTo pos (starEach [.Name x q] X.env)).any (·.1)=false:=by rfl) :
  QP cl X (.Call (.Name "isinstance" p) [e,.Name x q] [] pos) (tCB (jml X.K) (kq te (kq (tC (.ty T)) K3))) (jch l pe) :=
 ⟨K6 ja7 n i (by decide +kernel) (vJ h.sem (vJ (jdK a j k rfl b c) YO d) g) (by decide) (by decide) g f,jgT h.den m⟩
noncomputable def jbj(n:Nat)(pa:PF):PF:=λρ=>match pa ρ with
 | some (.exc c i)=>bif decide (c < n) then some (.int i) else none
 | _=>none
theorem jiw{n:Nat}(f:∀ c,c < n->XC X.K (cl c)/\NoAttr X.K (cl c) "place")(h:QB cl X e te pe)(g:attributeBase e "place" X.env (eval e X.env)=eval e X.env:=by rfl):QP cl X (.Attribute e "place" pos) (jgD X.K te) (jbj n pe):=by
 refine⟨jfC h.sem g,?_⟩;intro σ ρ Z H O d z s e Q k;unfold jbj at e;split at e
 ·rename_i c i j;cases hn:decide (c < n) with
  | false=>rw[hn] at e;cases e
  | true =>
   rw[hn] at e;cases e;obtain⟨l,m⟩:=f c (X3 hn);refine h.den z s j λ{v r t u} o b=>?_;rw[Rep] at b;obtain⟨a,dx,rfl,w,x,p,q,_⟩:=b;exact⟨a,cl c,dx,_,rfl,p,q,l,m,k o .int_mk⟩
 ·cases e
noncomputable def jl8(i:Nat):PF:=λρ=>match ρ[i]? with
 | some (some (.str l))=>bif decide (l.length<=1000)&&l.all (λc=>decide (c < 1000)) then some .dead else none
 | _=>none
theorem jmR{i:Nat}{x a b:Str}{j1 j2 p1 p2 p3 p4}(h:X.N[i]?=some x:=by rfl)(j:Vis X.env.scope x:=by first | exact Or.inl rfl | exact Or.inr (Or.inl rfl))(m:a.length<=1000:=by decide +kernel)(n:b.length<=1000:=by decide +kernel)(hd:(x==("__debug__" : Str))=false:=by decide)(f:(x==("__classdict__" : Str))=false:=by decide) :
  QP cl X (.JoinedStr [.Constant (.str a) j1 p1,.FormattedValue (.Name x p2) 114 none p3,.Constant (.str b) j2 p4] pos) (jnM i 1000) (jl8 i):=by
 refine⟨jk3 h j m n hd f,?_⟩;intro σ ρ Z H O d z s e Q k;unfold jl8 at e;split at e
 ·rename_i l g;cases hn:(decide (l.length<=1000)&&l.all λc=>decide (c < 1000)) with
  | false=>rw[hn] at e;cases e
  | true =>
   rw[hn] at e;cases e;rw[M0] at hn;obtain⟨A,P,B,rfl,o,_⟩:=s.put (L9.mp g).1;obtain⟨v,ev,r⟩:=o _ g;obtain⟨rfl,_⟩:=r.str_of;refine⟨l,ev,X3 hn.1,λc p=>Nat.lt_trans (X3 (List.all_eq_true.mp hn.2 c p)) (by decide),λy=>k (P:=[]) (Go.id z) (by rw[Rep])⟩
 ·cases e
end
section
variable {R:RC}{Z:Zn}{H:Hp}
theorem Kj:∀{ρ:Rh}{σ:L2.St}{O:List Addr}{j:Nat}{y:Option V},Slots R Z H ρ σ O->ρ[j]?=some none->Slots R Z H ρ (σ.set j y) O
 | [],_,_,_,_,_,e=>by simp at e
 | none::ρ,_,_,0,y,h,_=>by
  obtain⟨s,a,rfl,r⟩:=h;exact⟨y,a,rfl,r⟩
 | some d::ρ,_,_,0,_,_,e=>by simp at e
 | none::ρ,_,_,j+1,y,h,e=>by
  obtain⟨s,a,rfl,r⟩:=h;exact⟨s,_,rfl,Kj r (by simpa using e)⟩
 | some d::ρ,_,_,j+1,y,h,e=>by
  obtain⟨v,a,b,c,rfl,rfl,f,g⟩:=h;exact⟨v,_,b,c,rfl,rfl,f,Kj g (by simpa using e)⟩
variable {cl:Nat->Addr}{X:Cx}{k n nc i j:Nat}{f CD:Addr}{fd:FuncData}{ps:List Str}{m:List D->Option (Nat×Int)}{pm:List Nat}{x nm z D qual:Str}{st:Stmt}{p pos pos' cpos np hp ap vp nn:Pos}{es:List Expr}{a1:Expr}{t:TA}{pr:PAf}
end
section
variable (cl:Nat->Addr)(pm:List Nat)(X:Cx)(E:XK)
structure QX1(st:Stmt)(ts:TS)(f:FS)(x:FX):Prop where
 sem:PS X st ts
 den:DS ⟨X.K,cl⟩ pm ts f
 dx:DX ⟨X.K,cl⟩ E ts x
structure QXs(st:List Stmt)(ts:TS)(f:FS)(x:FX):Prop where
 sem:PSs X st ts
 den:DS ⟨X.K,cl⟩ pm ts f
 dx:DX ⟨X.K,cl⟩ E ts x
end
section
variable {cl:Nat->Addr}{pm:List Nat}{X:Cx}{E:XK}{st:Stmt}{rest a b:List Stmt}{ts tu:TS}{f g:FS}{x y:FX}{pos:Pos}
theorem qx(h:QS cl pm X st ts f):QX1 cl pm X E st ts f xN:=⟨h.sem,h.den,jeS⟩
theorem YK(h:QSs cl pm X a ts f):QXs cl pm X E a ts f xN:=⟨h.sem,h.den,jeS⟩
theorem kR(h:QX1 cl pm X E st ts f x):QXs cl pm X E [st] ts f x:=⟨Qf h.sem,h.den,h.dx⟩
theorem y6(h:QX1 cl pm X E st ts f x)(k:QXs cl pm X E rest tu g y):QXs cl pm X E (st::rest) (jjC ts tu) (jL f g) (qB x f y):=⟨xC h.sem k.sem,jg8 h.den k.den,jlj h.dx h.den k.dx⟩
theorem zM{c:Expr}{tc:TT}{q:PTf}(e:QT cl X c tc q)(h:QXs cl pm X E a ts f x)(i:QXs cl pm X E b tu g y):QX1 cl pm X E (.If c a b pos) (jln tc ts tu) (sIf (dPT q) f g) (xIf q x y):=⟨jj4 e.sem h.sem i.sem,jlm (PTt.d e.den) h.den i.den,jmO e.den h.dx i.dx⟩
theorem jgv{tg iter:Expr}{wi:TI}{pi:PAf}{t:TG}{b:D->Rh->Option Rh}{body:List Stmt}(hp:PassesOwn (model X.prog X.w) X.A X.env X.xe)(d:X.calm=true)(hi:QI cl X tg iter wi pi)(c:QG cl pm X tg t b)(a:QXs cl pm X E body ts f x)(e:∀ x,foldedSetIterable iter X.env x=pure x:=by intro _;rfl) :
  QX1 cl pm X E (.For tg iter body [] pos) (jkm wi t ts) (wn pi b f) (jeU pi b f x):=⟨jg6 hp d hi.sem c.sem a.sem e,jgZ hi.den c.den a.den,jlQ hi.den c.den a.den a.dx⟩
theorem jkU:DS ⟨X.K,cl⟩ pm ts yu:=by intro _ _ _ _ _ _ _ _ e;cases e
variable {k n c:Nat}{fa:Addr}{fd:FuncData}{z qual:Str}{np cpos:Pos}{a1 a2:Expr}{es:List Expr}{t:TA}{pr:PAf}{ps:List Str}{m:List D->Option (Nat×Int)}{fst:Stmt}{p:Pos}
theorem qD(l:Lv X E)(r:XR X.K (cl c) fa)(F:FnOk X.prog X.w X.K X.mg X.base CX0 k fa fd ["self","words","place"] (xh X.K))(e:Room (k+1) X.A)(f:Binds X.K fd ["self","words","place"] [])(g:X.mg z=some (.ref (cl c)))
  (d:QPs cl X [a1,a2] t pr) (h:X.calm=true:=by rfl) (i:Gl X z:=by rfl) (a:(z==("__debug__" : Str))=false:=by decide) (j:starEach [a1,a2] X.env=(false,eval a1 X.env)::starEach [a2] X.env:=by rfl) (b:(backTo cpos (starEach [a2] X.env)).any (·.1)=false:=by rfl) :
  QX1 cl pm X E (.Raise (some (.Call (.Name z np) [a1,a2] [] cpos)) none pos) (jeu (cl c) E t) yu (vk c pr):=⟨jgj l r F e f g d.sem h i a j b,jkU,jfX (R:=⟨X.K,cl⟩) d.den⟩
theorem jkf(l:Lv X E)(F:FnFact X.K X.mg z qual fst fa fd ps)(G:FnOk X.prog X.w X.K X.mg X.base (CXr X.prog X.w) k fa fd ps (spR ⟨X.K,cl⟩ m n))(d:Room k X.A)(a:QBs cl X (a1::es) t pr)(e:(a1::es).length=n:=by rfl)(f:Gl X z:=by rfl)(b:(z==("__debug__" : Str))=false:=by decide)
  (g:starEach (a1::es) X.env=(false,eval a1 X.env)::starEach es X.env:=by rfl) (c:(backTo cpos (starEach es X.env)).any (·.1)=false:=by rfl):QX1 cl pm X E (.Return (some (.Call (.Name z p) (a1::es) [] cpos)) pos) (jhs (zP (spR ⟨X.K,cl⟩ m n) [] E t)) yu (JT m pr) :=
 ⟨jc5 (xD G d f F.mgf F.fn.kp F.bd .nil (jhA l) a.sem b g c),jkU,jbI a.den λρ h q=>(a.n ρ h q).trans e⟩
theorem zV{P:Program}{w:World}{K:PySem.W.Frag}{mg:Str->Option Value}{base:Heap}{N:List Str}{b:Scope}{a:Value}{A:Around}{outer:List Env}{s:Shared}{H:Hp} :
  PassesOwn (model P w) (uP (CXr P w) P w K mg base N qual b fa a A outer s H E).A (uP (CXr P w) P w K mg base N qual b fa a A outer s H E).env (uP (CXr P w) P w K mg base N qual b fa a A outer s H E).xe:=PassesOwn.leaving
end
theorem ji8{P:Program}{w:World}{K:PySem.W.Frag}{mg:Str->Option Value}{base:Heap}{x qual:Str}{st:Stmt}{f:Addr}{fd:FuncData}(F:Fun K x qual st f fd)(S:FnScope ["self","words","place"] ["self","words","place"] (jh st))
  (h:∀(cdv:Value) (A:Around) (outer:List Env) (s:Shared) (H:Hp) (E:XK),PSs (uP CX0 P w K mg base ["self","words","place"] qual (jh st) f cdv A outer s H E).nox (vC st) (jjC (jgL K (kq (Yj 0) (kq (Yj 1) K3))) (jjI K (Yj 0) (Yj 2) "place"))) :
  FnOk P w K mg base CX0 1 f fd ["self","words","place"] (xh K):=by
 refine F.ok S (λb H Q E h=>by obtain⟨_,_,_,_,rfl,_⟩:=h;rfl) λcdv A outer s H b Q E g d=>⟨_,h cdv A outer s H E,?_⟩;obtain⟨e,u,p,C,rfl,a,c,n,q⟩:=d;exact⟨_,rfl,_,rfl,e,u,C,rfl,a,c,_,rfl,_,rfl,e,C,rfl,a,c,n,λdx hd=>q dx hd⟩
theorem jbE{P:Program}{w:World}{K:PySem.W.Frag}{mg:Str->Option Value}{base:Heap}{N ps:List Str}{k n:Nat}{fa:Addr}{fd:FuncData}{x qual:Str}{fst:Stmt}{cl:Nat->Addr}{xs:FX}(F:Fun K x qual fst fa fd)(b:FnScope N ps (jh fst))(c:ps.length=n)
  (a:∀(cdv:Value) (A:Around) (outer:List Env) (s:Shared) (H:Hp) (E:XK),Room k (A.deeper (envOfC qual (jh fst) s.heap.objs.size fa cdv)) ->
   ∃ ts f,QXs cl [] (uP (CXr P w) P w K mg base N qual (jh fst) fa cdv A outer s H E) E (vC fst) ts f xs):FnOk P w K mg base (CXr P w) (k+1) fa fd ps (spR ⟨K,cl⟩ (fnR N.length xs) n) :=
 jkQ F b c λcdv A outer s H E d=>let ⟨ts,_,q⟩:=a cdv A outer s H E d;⟨ts,q.sem,q.dx⟩
def Ini(P:Program)(w:World)(K:PySem.W.Frag)(mg:Str->Option Value)(C f:Addr):Prop:=XR K C f/\∃ fd,Binds K fd ["self","words","place"] []/\∀ base,FnOk P w K mg base CX0 1 f fd ["self","words","place"] (xh K)
noncomputable def pLM(g:D->List D->Option D)(pa:PF)(pr:PAf):PF:=λρ=>match pa ρ with
 | some (.lst o l)=>(match pr ρ with
  | none=>none
  | some xs=>g (.lst o l) xs)
 | _=>none
theorem jmJ{R:RC}{r:V->List V->Hp->VK->Prop}{g:D->List D->Option D}{to:TE}{ta:TA}{pa:PF}{pr:PAf}(h:BM R "list" r g)(i:PB R to pa)(j:PBs R ta pr):PP R (tBM R.K "list" r to ta) (pLM g pa pr):=by
 intro σ ρ Z H O d z s e Q k;unfold pLM at e;split at e
 ·rename_i o l m;cases e2:pr ρ with
  | none=>rw[e2] at e;cases e
  | some xs =>
   rw[e2] at e;refine i z s m λ{v u w x} b f=>⟨?_,?_⟩
   ·obtain⟨a,n,y,rfl,_,sq⟩:=jdm f;exact .inl ⟨rfl,_,sq⟩
   ·refine j b.wf.zd (b.slots z s) e2 λ{n A B C} c p=>?_;exact h c.wf.zd (c.rep b.wf.zd f) p e λq t=>k ((b.pair c).pair q) t
 ·cases e
section
variable {cl:Nat->Addr}{X:Cx}{o e:Expr}{es:List Expr}{to:TE}{po:PF}{tr:TA}{pr:PAf}{name:Str}{apos cpos:Pos}{id:String}{r:V->List V->Hp->VK->Prop}{g:D->List D->Option D}
theorem jnL(slot:Slot "list" name id)(f:typeOf (.builtin id)=pure (.type "method_descriptor"))(j:MtR X id r)(k:BM ⟨X.K,cl⟩ "list" r g)(h:QB cl X o to po)(i:QBs cl X (e::es) tr pr)
  (b:attributeBase o name X.env (eval o X.env)=eval o X.env:=by rfl)
  (d:((backTo cpos (starEach (e::es) X.env)).all (λx=>!x.1)&&(backToKw cpos (keywordEach [] X.env)).all (λx=>x.1.isSome)
   && decide ((e::es).length+([]:List Keyword).length+(if([]:List Keyword).isEmpty then 0 else 1) < 30))=true:=by rfl)
  (c:(apos.endLine==cpos.line)=true:=by rfl) (l:starEach (e::es) X.env=(false,eval e X.env)::starEach es X.env:=by rfl) (a:(backTo cpos (starEach es X.env)).any (·.1)=false:=by rfl) :
  QP cl X (.Call (.Attribute o name apos) (e::es) [] cpos) (tBM X.K "list" r to tr) (pLM g po pr) :=
 ⟨jeA PySem.F.plainAttrs_list slot f j h.sem i.sem b d c l a,jmJ k h.den i.den⟩
end
theorem jmu{K:PySem.W.Frag}{nm q:Str}{C N:Addr}{bs bm:List Value}{sn:List Str}{sub:List Value}{ab:Bool}{col:Option Bool}{dd:Option Addr}{k0 k1 k2 k3 k5:Option Value}
  (h:K.lookup C=some (excClassObj nm q C N bs bm true sn sub ab col dd k0 k1 k2 k3 k5 "ValueError.__new__")) (t:zb bm=true):wq K C=true:=by
 unfold wq;rw[h];simp[t]
theorem jnh{K:PySem.W.Frag}{C:Addr}{od:Option Addr}{cd:ClassData}{sl:Array (Option Value)}(h:K.lookup C=some ⟨.type "type",od,.cls cd,sl⟩):jd1 K (.ref C)=true:=by
 have a:PySem.W.clsIn K C=some cd:=by unfold PySem.W.clsIn;rw[h]
 have b:PySem.W.typeIn K (.ref C)=some (.type "type"):=by
  show(K.lookup C).map (·.cls)=_;rw[h];rfl
 show((PySem.W.clsIn K C).isSome&&PySem.W.typeIn K (.ref C)==some (.type "type"))=true;rw[a,b];rfl
theorem jn5{K:PySem.W.Frag}:jd1 K (.type "ValueError")=true:=by rfl
section
variable {P:Program}{w:World}{K:PySem.W.Frag}{mg:Str->Option Value}{base:Heap}{CX:CXT}{k:Nat}{f:Addr}{fd:FuncData}{ps:List Str}{sp sp':Sp}
theorem jnc(F:FnOk P w K mg base CX0 k f fd ps sp):FnOk P w K mg base CX k f fd ps sp :=
 ⟨F.len,λA outer s H args a b Q E c d g i j=>codeAny_mono (F.run A outer s H args a b Q E c d g i j) λr m h=>by
  cases r with
  | error e=>exact False.elim h
  | ok l =>
   cases l with
   | ret u=>exact h
   | next=>exact False.elim h
   | brk=>exact False.elim h
   | cont=>exact False.elim h⟩
theorem jnt(F:FnOk P w K mg base CX k f fd ps sp)(G:FnOk P w K mg base CX k f fd ps sp'):FnOk P w K mg base CX k f fd ps (λvs H Q E=>sp vs H Q E \/ sp' vs H Q E) :=
 ⟨λvs H Q E h=>h.elim (F.len vs H Q E) (G.len vs H Q E),λA outer s H args a vs Q E b c d e g=>g.elim (F.run A outer s H args a vs Q E b c d e) (G.run A outer s H args a vs Q E b c d e)⟩
end
noncomputable def jeV(R:RC)(m:List D->Option D)(x:List D->Option (Nat×Int))(n:Nat):Sp:=λvs H Q E=>spP R m n vs H Q E \/ spR R x n vs H Q E
theorem jao{P:Program}{w:World}{K:PySem.W.Frag}{mg:Str->Option Value}{base:Heap}{k n:Nat}{f:Addr}{fd:FuncData}{ps:List Str}{cl:Nat->Addr}{m:List D->Option D}{x:List D->Option (Nat×Int)}
  (F:FnOk P w K mg base CX0 k f fd ps (spP ⟨K,cl⟩ m n)) (G:FnOk P w K mg base (CXr P w) k f fd ps (spR ⟨K,cl⟩ x n)):FnOk P w K mg base (CXr P w) k f fd ps (jeV ⟨K,cl⟩ m x n):=jnt (jnc F) G
section
variable {X:Cx}{pins:List (Addr×Obj)}{σ:L2.St}{H H1:Hp}{s s1:Shared}{e:Value}
variable {k:Nat}{f:Addr}{fd:FuncData}{ps:List Str}{sp:Sp}{x n z D y:Str}{yp p pos pos' cpos np hp ap vp nn:Pos}{es:List Expr}{a1:Expr}{t:TA}{CD:Addr}{i j l:Nat}
noncomputable def jiI(sp:Sp)(l i j:Nat)(K:PySem.W.Frag)(CD:Addr)(t:TA):TS:=λD σ H=>t σ H λvs H1=>sp vs H1 (λv H2=>D.nx (σ.set l (some v)) H2) λe _ H2=>∃ a C dx,e=.ref a/\H2 a=some (.ext (QD.xo C a dx))/\XC K C/\PySem.W.subIn K (.ref C) (.ref CD)=some true /\
 D.nx (((σ.set j (some (.ref a))).set i (some (.ref a))).set j none) H2
theorem jjd(F:FnOk X.prog X.w X.K X.mg X.base (CXr X.prog X.w) k f fd ps sp)(hr:Room k X.A)(hk:PySem.W.keepIn X.K (.ref f)=true)(hb:Binds X.K fd ps [])(hm:X.mg z=some (.ref f))(hD:X.mg D=some (.ref CD))(cD:XC X.K CD)
  (V:X.N.Nodup) (ha:PA X (a1::es) t) (hxe:∀ e s',X.xe e s'->False:=by exact λ_ _ h=>h) (d:X.stack=X.env::X.outer:=by rfl) (hfr:X.env.frame=some X.env.locals:=by rfl) (hi:X.N[i]?=some x:=by rfl) (Y:X.N[j]?=some n:=by rfl)
  (hx:X.env.scope.names.lookup x=some .local:=by rfl) (Z:X.env.scope.names.lookup n=some .local:=by rfl) (hg:Gl X z:=by rfl) (hgD:Gl X D:=by rfl)
  (hdb:(z==("__debug__" : Str))=false:=by decide) (hdD:(D==("__debug__" : Str))=false:=by decide) (hdn:(n==("__debug__" : Str))=false:=by decide) (hcn:(n==("__classdict__" : Str))=false:=by decide)
  (he:starEach (a1::es) X.env=(false,eval a1 X.env)::starEach es X.env:=by rfl) (hpl:(backTo cpos (starEach es X.env)).any (·.1)=false:=by rfl)
  (hs:swapsWith (.Call (.Name z p) (a1::es) [] cpos) (some (.Name y yp)) pos'.line X.env=pure false:=by rfl) (hy:X.N[l]?=some y:=by rfl) (O:X.env.scope.names.lookup y=some .local:=by rfl) (hs2:swapsWith (.Name n vp) (some (.Name x ap)) nn.line X.env=pure false:=by rfl) :
  PS X (.Try [.Assign [.Name y yp] (.Call (.Name z p) (a1::es) [] cpos) pos'] [.ExceptHandler (some (.Name D np)) (some n) [.Assign [.Name x ap] (.Name n vp) nn] hp] [] [] pos) (jiI sp l i j X.K CD t):=by
 intro g s σ H DD I h;refine wpAny_Try_except (wpAny_execs_cons (wpAny_Assign_Name ?_ hs));refine wpAny_Call_Name_kw (JZ I hg hm ?_ hdb);refine PySem.W.callWith_K (h₀:=X.base) I.ok.mod.kin hk (wpAny_mono (ha cpos g s σ H _ I h) (λus s1 J=>?_) (λ_ _ z=>(hxe _ _ z).elim)) he hpl;obtain⟨vs,H1,m,r,q⟩:=J;refine⟨m.kIn,?_⟩;have hl:(us++[]).length=ps.length:=by rw[N1,<- r.length];exact F.len _ _ _ _ q
 refine wpAny_call (codeAny_mono (F.run X.A X.stack s1 H1 ⟨us,[]⟩ (us++[]) vs _ _ hr m.env0 (hb s1 us m.kIn hl) (by rw[N1];exact r) q) λr s' J=>?_);cases r with
 | ok fl =>
  cases fl with
  | ret u =>
   obtain⟨v,P,I',rv,q'⟩:=m.after J;exact Vt I' V hy (.inl O) rv (λs2 Q=>wpAny_execs_nil (wpAny_execs_nil ⟨_,P,Q,q'⟩)) (.inr O)
  | next=>exact False.elim J
  | brk=>exact False.elim J
  | cont=>exact False.elim J
 | error e =>
  obtain⟨a,C,dx,T,P,rfl,os,bare,un,hok,hT,le,L,fl,M,a',C',dx',ea,ha2,c,sb,q'⟩:=J;cases ea;have Q:=m.call' (ch:=[]) os un hok bare (λb z=>absurd z (by simp));have stk:=Q.stack;rw[d] at stk;refine wU (base:=X.base) (by rw[Q.ok.frames,d]) stk hfr fl λh3 T3 k3 R f3=>?_;have I3:=jaG m Q M (by rw[d];exact k3) hT le L f3.xo;have S:P T3=none:=hok.fresh R;obtain⟨oT,eT⟩:=fl.atT;have B:s1.heap.objs.size<=T3:=N8 le (N8 (Nat.le_of_lt (N2 eT)) R);have E:=I3.stack;rw[d] at E;refine jmj (s:={ s' with heap:=h3 }) (base:=X.base) (outer:=X.env::X.outer) f3 E λh4 k4 f4 sz4=>?_;have U:=jaG m I3 M (by rw[d];exact k4.mono (by simp)) S B L f4.xo;refine wpAny_handleBy_cons (codeAny_handlers_test ?_) (by intro q;cases q);have J4:=jgG (e:=.ref a) U;refine JZ (X:=inX X (.ref a)) J4 hgD hD ?_ hdD;obtain⟨⟨o,ws,e1,e2,e3⟩,_⟩:=U.hok a _ ha2;refine jki U.kIn c cD e1 e2 sb ?_;refine codeAny_handlers_suite_as ?_;have G:=U.stack;rw[d] at G;refine jmj (s:={ s' with heap:=h4 }) (base:=X.base) (outer:=X.env::X.outer) f4 G λh5 k5 f5 sz5=>?_;have I5:=jaG m U M (by rw[d];exact k5.mono (by simp)) S B L f5.xo;refine Vt (X:=inX X (.ref a)) (i:=j) (x:=n) (v:=.ref a) (jgG (e:=.ref a) I5) V Y (.inl Z) rfl (λs6 I6=>?_) (.inr Z);have hjl:j < σ.length:=by rw[I.len];exact(L9.mp Y).1
  have go:=Qf (jdg (X:=inX X (.ref a)) (i:=i) (x:=x) (pos':=ap) (pos:=nn) V hi (.inl hx) (ui (X:=inX X (.ref a)) (i:=j) (pos:=vp) Y (.inl Z) hdn hcn) hs2 (.inr hx)) g s6 (σ.set j (some (.ref a))) P { nx:=λσ7 H7=>σ7=(σ.set j (some (.ref a))).set i (some (.ref a))/\H7=P,rt:=λ_ _=>False } I6 ⟨.ref a,by simp[hjl],rfl,rfl⟩;refine wpAny_mono go (λfl7 s7 h7=>?_) λ_ _ z=>False.elim z;cases fl7 with
  | next =>
   obtain⟨σ7,H7,I7,rfl,rfl⟩:=h7;exact jjb (jh4 I.ok.hd I7) V Y Z λs8 I8=>⟨_,_,I8,q'⟩
  | ret u=>obtain⟨_,_,_,_,_,z⟩:=h7;exact False.elim z
  | brk=>obtain⟨_,_,_,z⟩:=h7;exact False.elim z
  | cont=>obtain⟨_,_,_,z⟩:=h7;exact False.elim z
end
theorem jgK{R:RC}{m:List D->Option D}{n:Nat}{ds:List D}{d:D}{vs:List V}{e:List Addr}{Z1:Zn}{H1:Hp}{Q:VK}{E:XK}(z:Zd Z1 H1)(g:Reps R Z1 H1 ds vs e)(l:ds.length=n)(o:m (fzs ds)=some d)(f:(frzs ds||vT d)=true)
  (k:∀{v:V}{Z':Zn}{H':Hp}{P:List Addr},Go Z1 H1 [] Z' H' P->Rep R Z' H' d v P->Q v H'):spP R m n (vs++[]) H1 Q E:=by
 have p:=z;have r:Zd (λa=>Z1 a \/ a∈e) H1:=λa h=>h.elim (p a) (g.dom a);refine⟨λa=>Z1 a \/ a∈e,fzs ds,d,r,by rw[wk];exact l,by rw[N1];exact g.freeze (λa z=>.inl z) λa z=>.inr z,o,λ{v Z' H' P} b j=>?_⟩;rw[Bool.or_eq_true] at f;rcases f with f | f
 ·cases g.nil f;have c:Go Z1 H1 [] Z' H' P:=⟨b.wf,λa z=>b.zz a (.inl z),b.fr,λa z=>(b.zn a z).imp (λq=>q.resolve_right (λq=>(nomatch q))) id,b.sub,b.dm⟩;exact k (c) j
 ·have c:Go Z1 H1 [] (λa=>Z' a/\(a∉e \/ Z1 a)) H' P:=by
   refine⟨⟨b.wf.nd,λa h q=>b.wf.nz a h q.1,b.wf.od,λa q=>b.wf.zd a q.1⟩,λa z=>⟨b.zz a (.inl z),.inr z⟩,b.fr,λa z=>?_,b.sub,b.dm⟩;rcases b.zn a z.1 with(q | q) | q
   ·exact .inl q
   ·exact .inl (z.2.resolve_left λn=>n q)
   ·exact .inr q
  have s:Rep R (λa=>Z' a/\(a∉e \/ Z1 a)) H' d v P:=by
   refine j.thaw (λa t u w=>⟨u,?_⟩) f;by_cases i:a∈e
   ·exact absurd (Rd.agree (b.same a (g.dom a i)).symm w) (g.notTup a i t)
   ·exact .inl i
  exact k (c) s
noncomputable def jck(m0:List D->Option D)(m:List D->Option (Nat×Int))(n l i j:Nat)(pr:PAf):FS:=λρ=>match pr ρ with
 | none=>none
 | some ds=>match m (fzs ds) with
  | some (c,p)=>bif decide (c < n)&&decide (i < ρ.length)&&decide (j < ρ.length)&&decide (i≠j) then some (.nx ((ρ.set i (some (.exc c p))).set j none)) else none
  | none=>match m0 (fzs ds) with
   | some d=>bif (frzs ds||vT d)&&decide (l < ρ.length) then some (.nx (ρ.set l (some d))) else none
   | none=>none
section
variable {R:RC}
theorem jir{m0:List D->Option D}{m:List D->Option (Nat×Int)}{n nc i j l:Nat}{CD:Addr}{pm:List Nat}{t:TA}{pr:PAf}(h:PBs R t pr)(hn:∀ ρ ds,pr ρ=some ds->ds.length=n)(hc:∀ c,c < nc->XC R.K (R.cls c)/\PySem.W.subIn R.K (.ref (R.cls c)) (.ref CD)=some true)(hi:i∉pm)(hj:j∉pm)(hl:l∉pm) :
  DS R pm (jiI (jeV R m0 m n) l i j R.K CD t) (jck m0 m nc l i j pr):=by
 intro σ ρ Z H O o w s e T k;unfold jck at e;cases e1:pr ρ with
 | none=>rw[e1] at e;cases e
 | some ds =>
  rw[e1] at e;dsimp only at e;cases e2:m (fzs ds) with
  | none =>
   rw[e2] at e;dsimp only at e;cases e3:m0 (fzs ds) with
   | none=>rw[e3] at e;cases e
   | some d =>
    rw[e3] at e;dsimp only at e;cases f:((frzs ds||vT d)&&decide (l < ρ.length)) with
    | false=>rw[f] at e;cases e
    | true =>
     rw[f] at e;cases e;rw[M0] at f;have U:=X3 f.2;refine h w.zd s e1 λ{vs V X P1} I Y=>.inl ?_;have u:Go Z H O V X O:=by simpa using I.widen w
     have:=jgK (E:=E0) (Q:=λv G=>T.nx (σ.set l (some v)) G) u.wf.zd Y (hn ρ ds e1) e3 f.1 λ{v J L P} g r=>?_
     ·rw[N1] at this;exact this
     ·have M:Go Z H O J L (P++O):=u.trans (g.widen u.wf);have s2:Slots R J L ρ σ O:=g.slots u.wf.zd (I.slots w.zd s);obtain⟨A,P0,B,N,_,k2,_⟩:=s2.put U;have s3:=k2 r (λ_ z=>z) (λ_ _=>rfl) (λ_ _=>rfl) (λ_ _=>rfl);have nd:=M.wf.nd;rw[N] at nd;refine k (M.drop (O'':=A++P++B) (λb q=>?_) ?_) s3 (Keep.set hl)
      ·rw[N];simp at q ⊢;rcases q with z | z | z<;>simp[z]
      ·simp only[X0,N3] at nd ⊢;exact⟨⟨nd.2.1.1.1,nd.1,λa x b q e=>nd.2.2 b q a (.inl (.inl x)) e.symm⟩,nd.2.1.2.1,λa x b q e=>x.elim (λz=>nd.2.1.2.2 a (.inl z) b q e) λz=>nd.2.2 a z b (.inr q) e⟩
  | some cp =>
   obtain⟨c,p⟩:=cp;rw[e2] at e;dsimp only at e;cases f:(decide (c < nc)&&decide (i < ρ.length)&&decide (j < ρ.length)&&decide (i≠j)) with
   | false=>rw[f] at e;cases e
   | true =>
    rw[f] at e;cases e;simp only[M0,decide_eq_true_eq] at f;obtain⟨⟨⟨b1,U⟩,b3⟩,b4⟩:=f;obtain⟨xc,sb⟩:=hc c b1;refine h w.zd s e1 λ{vs V X P1} I Y=>.inr ?_;have u:Go Z H O V X O:=by simpa using I.widen w
    have:=jdI (E:=λe _ G=>∃ a C dx,e=.ref a/\G a=some (.ext (QD.xo C a dx))/\XC R.K C/\PySem.W.subIn R.K (.ref C) (.ref CD)=some true/\T.nx (((σ.set j (some (.ref a))).set i (some (.ref a))).set j none) G) (Q:=λv G=>T.nx (σ.set l (some v)) G) u.wf Y (hn ρ ds e1) e2 λ{a J L} g nw=>?_
    ·rw[N1] at this;exact this
    ·have rp:=nw.rep;obtain⟨dx,_,_,_,_,x,_⟩:=nw;refine⟨a,_,dx,rfl,x,xc,sb,?_⟩;have M:Go Z H O J L O:=u.trans (by simpa using g.widen u.wf);have s2:Slots R J L ρ σ O:=g.slots u.wf.zd (I.slots w.zd s);obtain⟨A,P,B,N,_,k2,_⟩:=s2.put U;have s3:=k2 rp (λ_ z=>z) (λ_ _=>rfl) (λ_ _=>rfl) (λ_ _=>rfl);obtain⟨A',P',B',S,_,_,k4⟩:=s3.put (i:=j) (by simpa using b3);have s5:=Kj (j:=j) (y:=none) k4 (by rw[List.getElem?_set_self (by simpa using b3)]);have es:((σ.set j (some (.ref a))).set i (some (.ref a))).set j none=(σ.set i (some (.ref a))).set j none:=by
      rw[List.set_comm _ _ (Ne.symm b4),List.set_set]
     rw[es];have nd:=M.wf.nd;have F:(A'++P'++B').Nodup:=by
      rw[<- S];rw[N] at nd;simp only[X0,N3,N1] at nd ⊢;exact⟨nd.1.1,nd.2.1,λa x b f=>nd.2.2 a (.inl x) b f⟩
     refine k (M.drop (O'':=A'++B') (λb f=>?_) ?_) s5 ((Keep.set hi).trans (Keep.set hj))
     ·have:b∈A'++P'++B':=by simp at f ⊢;rcases f with z | z<;>simp[z]
      rw[<- S] at this;rw[N];simp at this ⊢;rcases this with z | z<;>simp[z]
     ·simp only[X0,N3] at F ⊢;exact⟨F.1.1,F.2.1,λa x b f=>F.2.2 a (.inl x) b f⟩
end
section
variable {R:RC}
variable {cl:Nat->Addr}{X:Cx}{k n nc i j l:Nat}{f CD:Addr}{fd:FuncData}{ps:List Str}{m0:List D->Option D}{m:List D->Option (Nat×Int)}{pm:List Nat}{x nm z D qual y:Str}{st:Stmt}{yp p pos pos' cpos np hp ap vp nn:Pos}{es:List Expr}{a1:Expr}{t:TA}{pr:PAf}
theorem jiv(F:FnFact X.K X.mg z qual st f fd ps)(G:FnOk X.prog X.w X.K X.mg X.base (CXr X.prog X.w) k f fd ps (jeV ⟨X.K,cl⟩ m0 m n))(M:Room k X.A)(O:X.mg D=some (.ref CD))(P:XC X.K CD)(Q:∀ c,c < nc->XC X.K (cl c)/\PySem.W.subIn X.K (.ref (cl c)) (.ref CD)=some true)
  (R:X.N.Nodup) (b:QBs cl X (a1::es) t pr) (S:(a1::es).length=n:=by rfl) (d:∀ e s',X.xe e s'->False:=by exact λ_ _ h=>h) (g:X.stack=X.env::X.outer:=by rfl) (o:X.env.frame=some X.env.locals:=by rfl) (hi:X.N[i]?=some x:=by rfl) (T:X.N[j]?=some nm:=by rfl)
  (U:X.env.scope.names.lookup x=some .local:=by rfl) (r:X.env.scope.names.lookup nm=some .local:=by rfl) (V:Gl X z:=by rfl) (s:Gl X D:=by rfl)
  (u:(z==("__debug__" : Str))=false:=by decide) (v:(D==("__debug__" : Str))=false:=by decide) (B:(nm==("__debug__" : Str))=false:=by decide) (C:(nm==("__classdict__" : Str))=false:=by decide)
  (Y:starEach (a1::es) X.env=(false,eval a1 X.env)::starEach es X.env:=by rfl) (E:(backTo cpos (starEach es X.env)).any (·.1)=false:=by rfl)
  (Z:swapsWith (.Call (.Name z p) (a1::es) [] cpos) (some (.Name y yp)) pos'.line X.env=pure false:=by rfl) (hy:X.N[l]?=some y:=by rfl) (H:X.env.scope.names.lookup y=some .local:=by rfl) (I:swapsWith (.Name nm vp) (some (.Name x ap)) nn.line X.env=pure false:=by rfl) (J:i∉pm:=by decide) (L:j∉pm:=by decide) (a:l∉pm:=by decide) :
  QS cl pm X (.Try [.Assign [.Name y yp] (.Call (.Name z p) (a1::es) [] cpos) pos'] [.ExceptHandler (some (.Name D np)) (some nm) [.Assign [.Name x ap] (.Name nm vp) nn] hp] [] [] pos) (jiI (jeV ⟨X.K,cl⟩ m0 m n) l i j X.K CD t) (jck m0 m nc l i j pr) :=
 ⟨jjd G M F.fn.kp F.bd F.mgf O P R b.sem d g o hi T U r V s u v B C Y E Z hy H I,jir b.den (λρ ds q=>(b.n ρ ds q).trans S) Q J L a⟩
end
end QX
namespace QD
open PySem L2 PySem.Spec PyProof.Rows
section
variable {R:RC}{Z Z':Zn}{H H':Hp}{pm:List Nat}
noncomputable abbrev PrF:=Rh->Option (List KA×List D)
def PRs(R:RC)(trs:List (TE×TE))(f:PrF):Prop:=∀{σ:L2.St}{ρ:Rh}{Z:Zn}{H:Hp}{O:List Addr}{q:List KA×List D},Zd Z H->Slots R Z H ρ σ O->f ρ=some q ->
 ∀{Q:List (V×V)->Hp->Prop},(∀{vs:List V}{Z':Zn}{H':Hp},Go Z H [] Z' H' []->Reps R Z' H' q.2 vs []->q.1.length=q.2.length->Q (((q.1.map kaV).zip vs).map λkv=>(kV kv.1,kv.2)) H')->jgy trs σ H Q
end
end QD
namespace QX
open PySem PySem.Spec L2 QD PyProof.Rows
def OkB(P:Program)(w:World)(K:PySem.W.Frag)(mg:Str->Option Value)(x:Str)(st:Stmt)(k:Nat)(ps:List Str)(sp sp':Sp):Prop:=∃ f fd,FnFact K mg x x st f fd ps/\∀ base,FnOk P w K mg base CX0 k f fd ps sp/\FnOk P w K mg base (CXr P w) k f fd ps sp'
section
variable {R:RC}{E:XK}{pm:List Nat}{m0:List D->Option D}{m:List D->Option (Nat×Int)}{n:Nat}{t:TA}{pr:PAf}
theorem ja9(h:PBs R t pr)(b:∀ ρ ds,pr ρ=some ds->ds.length=n):PP R (zP (jeV R m0 m n) [] E t) (j7 m0 pr):=by
 intro σ ρ Z H O d z s e Q k;unfold j7 at e;cases e1:pr ρ with
 | none=>rw[e1] at e;cases e
 | some ds =>
  rw[e1] at e;dsimp only at e;cases e2:m0 (fzs ds) with
  | none=>rw[e2] at e;cases e
  | some c =>
   rw[e2] at e;dsimp only at e;cases hf:frzs ds||vT c with
   | false=>rw[hf] at e;cases e
   | true =>
    rw[hf] at e;cases e;exact h z s e1 λ{i j l o} a f=>.inl (jgK a.wf.zd f (b ρ ds e1) e2 hf λg r=>k (a.trans g) r)
theorem jbx{ts:TS}{te:TE}(b:∀(D':Ends) (σ:L2.St) (H:Hp),(∀ Q:VK,te σ H Q)->ts D' σ H)(d:te=zP (jeV R m0 m n) [] E t)(h:PBs R t pr)(f:∀ ρ ds,pr ρ=some ds->ds.length=n):DX R E ts (JT m pr):=by
 intro σ ρ Z H O c p w s e k D';subst d;refine b D' σ H λQ=>?_;unfold JT at e;cases e1:pr ρ with
 | none=>rw[e1] at e;cases e
 | some ds =>
  rw[e1] at e;refine h w.zd s e1 λ{q i j r} l o=>?_;have a:Go Z H O i j O:=by simpa using l.widen w
  exact .inr (jdI a.wf o (f ρ ds e1) e λg n=>k (a.trans (g.widen a.wf)).to0 (n.back a))
noncomputable def xFz(i:Nat)(x:FX):FX:=λρ=>match ρ[i]? with
 | some (some d)=>x (ρ.set i (some (fz d)))
 | _=>x ρ
theorem ji6{i:Nat}{x:FX}{ρ:Rh}:xFz i x ρ=match pV i ρ with | some d=>x (ρ.set i (some (fz d))) | none=>x ρ:=by
 unfold xFz pV;cases ρ[i]? with
 | none=>rfl
 | some o=>cases o<;>rfl
theorem jm8{i:Nat}{ts:TS}{x:FX}(h:DX R E ts x):DX R E ts (xFz i x):=by
 intro σ ρ Z H O c p w s e k b;unfold xFz at e;split at e
 ·rename_i d hd;obtain⟨A,P,B,rfl,j,l,_⟩:=s.put (L9.mp hd).1;obtain⟨v,ev,r⟩:=j d hd;have g:Go Z H (A++P++B) (λa=>Z a \/ a∈P) H (A++[]++B):=(Go.freeze w.mid).frame w;have f:=l (r.freeze (Z':=λa=>Z a \/ a∈P) (λa z=>.inl z) λa z=>.inr z) (λa z=>.inl z) (λ_ _=>rfl) (λ_ _=>rfl) (λ_ _=>rfl);rw[vF ev] at f;exact h g.wf f e (λm n=>k (g.trans m) (n.back g)) b
 ·exact h w s e k b
end
section
variable {cl:Nat->Addr}{pm:List Nat}{X:Cx}{E:XK}{st:Stmt}{ts:TS}{f:FS}{x:FX}{pos:Pos}
theorem QX1.fz(i:Nat)(h:QX1 cl pm X E st ts f x):QX1 cl pm X E st ts (sFz i f) (xFz i x):=⟨h.sem,jkD h.den,jm8 h.dx⟩
variable {k n:Nat}{fa:Addr}{fd:FuncData}{z qual:Str}{cpos:Pos}{a1:Expr}{es:List Expr}{t:TA}{pr:PAf}{ps:List Str}{m0:List D->Option D}{m:List D->Option (Nat×Int)}{fst:Stmt}{p:Pos}
theorem jhw{i:Nat}{y:Str}{pos':Pos}(l:Lv X E)(F:FnFact X.K X.mg z qual fst fa fd ps)(G:FnOk X.prog X.w X.K X.mg X.base (CXr X.prog X.w) k fa fd ps (jeV ⟨X.K,cl⟩ m0 m n))(g:Room k X.A)(j:X.N.Nodup)(a:QBs cl X (a1::es) t pr)(f:(a1::es).length=n:=by rfl)
  (o:Gl X z:=by rfl) (b:(z==("__debug__" : Str))=false:=by decide) (r:starEach (a1::es) X.env=(false,eval a1 X.env)::starEach es X.env:=by rfl) (c:(backTo cpos (starEach es X.env)).any (·.1)=false:=by rfl)
  (hi:X.N[i]?=some y:=by rfl) (s:Loc X.env.scope y:=by first | exact Or.inl rfl | exact Or.inr rfl) (u:swapsWith (.Call (.Name z p) (a1::es) [] cpos) (some (.Name y pos')) pos.line X.env=pure false:=by rfl)
  (v:X.fn y=true \/ X.env.scope.names.lookup y=some .local:=by first | exact .inl rfl | exact .inr rfl) :
  QX1 cl pm X E (.Assign [.Name y pos'] (.Call (.Name z p) (a1::es) [] cpos) pos) (jgI (zP (jeV ⟨X.K,cl⟩ m0 m n) [] E t) (zK i)) (y9 (dP (j7 m0 pr)) (jS pm i)) (JT m pr) :=
 ⟨jdg j hi s (xD G g o F.mgf F.fn.kp F.bd .nil (jhA l) a.sem b r c) u v,jby (PP.d (ja9 a.den λρ e q=>(a.n ρ e q).trans f)) jaJ,jbx (λx σ H h=>h _) rfl a.den λρ e q=>(a.n ρ e q).trans f⟩
theorem jgi(l:Lv X E)(F:FnFact X.K X.mg z qual fst fa fd ps)(G:FnOk X.prog X.w X.K X.mg X.base (CXr X.prog X.w) k fa fd ps (jeV ⟨X.K,cl⟩ m0 m n))(g:Room k X.A)(a:QBs cl X (a1::es) t pr)(f:(a1::es).length=n:=by rfl)
  (i:Gl X z:=by rfl) (b:(z==("__debug__" : Str))=false:=by decide) (j:starEach (a1::es) X.env=(false,eval a1 X.env)::starEach es X.env:=by rfl) (c:(backTo cpos (starEach es X.env)).any (·.1)=false:=by rfl)
  (o:swapsWith (.Call (.Name z p) (a1::es) [] cpos) none pos.line X.env=pure false:=by rfl) :
  QX1 cl pm X E (.Expr (.Call (.Name z p) (a1::es) [] cpos) pos) (zF (zP (jeV ⟨X.K,cl⟩ m0 m n) [] E t)) (zv (dP (j7 m0 pr))) (JT m pr) :=
 ⟨zm (xD G g i F.mgf F.fn.kp F.bd .nil (jhA l) a.sem b j c) o,jd7 (PP.d (ja9 a.den λρ e q=>(a.n ρ e q).trans f)),jbx (λr σ H h=>h _) rfl a.den λρ e q=>(a.n ρ e q).trans f⟩
end
theorem xc_mk{K:PySem.W.Frag}{nm q:Str}{C N:Addr}{bs bm:List Value}{sn:List Str}{sub:List Value}{ab:Bool}{col:Option Bool}{dd:Option Addr}{k0 k1 k2 k3 k5:Option Value}
  (h:K.lookup C=some (excClassObj nm q C N bs bm true sn sub ab col dd k0 k1 k2 k3 k5 "ValueError.__new__")) (t:zb bm=true) (a:PySem.W.findIn K (.ref C) "__getattribute__" = some (some (.builtin "BaseException.__getattribute__"))) (b:PySem.W.findIn K (.ref C) "__getattr__" = some none)
  (c:PySem.W.findIn K (.ref C) "__setattr__" = some (some (.builtin "object.__setattr__"))) (d:PySem.W.findIn K (.ref C) "__class__" = some (some (.builtin "object.__class__"))) (e:PySem.W.mroIn K C (.type "object")=some true):XC K C:=⟨jmu h t,a,b,c,d,e,jnh h⟩
def jeP(K:PySem.W.Frag):List Addr->Value->List Bool->Prop
 | a::l,cv,b::bs=>PySem.W.subIn K (.ref a) cv=some b/\jeP K l cv bs
 | _,_,[]=>True
 | [],_,_::_=>False
noncomputable def atA:List Addr->Nat->Addr
 | [],_=>0
 | a::_,0=>a
 | _::l,n+1=>atA l n
theorem YN{K:PySem.W.Frag}{u:V}{cv:Value}(g:∀ v,RelV u v->v=cv)(i:jd1 K cv=true):∀{l:List Addr}{bs:List Bool}(cl:Nat->Addr),(∀ c,c < l.length->cl c=atA l c)->(∀ a∈l,XC K a)->jeP K l cv bs->K2 K cl u bs
 | [],[],_,_,_,_=>λc b e=>nomatch e
 | _::_,[],_,_,_,_=>λc b e=>nomatch e
 | [],_::_,_,_,_,h=>h.elim
 | a::l,b::bs,cl,d,j,h=>by
  intro c b' e;have k:cl 0=a:=d 0 (by simp);cases c with
  | zero =>
   cases e;rw[k];exact⟨j a (by simp),λv r=>by rw[g v r];exact⟨i,h.1⟩⟩
  | succ c=>exact YN g i (λc=>cl (c+1)) (λc m=>(d (c+1) (by simpa using m)).trans rfl) (λx f=>j x (by simp[f])) h.2 c b' e
def OkP(P:Program)(w:World)(K:PySem.W.Frag)(mg:Str->Option Value)(cl:Nat->Addr)(C:Addr)(x qual:Str)(st:Stmt)(k:Nat)(ps:List Str)(sp:Sp)(L:Ln):Prop:=∃ f fd,MtFact K C x qual st f fd ps/\∀ base,FnOk P w K mg base CX0 k f fd ps sp/\∃ te,jbc ⟨K,cl⟩ te 0 L/\FnOk P w K mg base CX0 1 f fd ps (spX te 1)
end QX
namespace K13
open PySem L2 QD QX
noncomputable def top(i:Nat):Stmt:=PySem.Challenge.pw_tranchefall_k13_debts_refused.main.body.getD i (.Pass ⟨0,0,0,0⟩)
noncomputable abbrev Yb:Stmt:=top 15
noncomputable abbrev J9:List Str:=["row"]
theorem Qk:FnScope ["row"] J9 (jh Yb):=fsc
noncomputable abbrev Yu:Stmt:=top 16
noncomputable abbrev Yi:List Str:=["word","signs"]
theorem zc:FnScope ["word","signs"] Yi (jh Yu):=fsc
noncomputable abbrev yx:Stmt:=Kf (top 31) 0
noncomputable abbrev yy:List Str:=["self"]
theorem JK:FnScope ["self"] yy (jh yx):=fsc
noncomputable abbrev yE:Stmt:=Kf (top 31) 1
noncomputable abbrev yF:List Str:=["self","name"]
theorem vZ:FnScope ["self","name"] yF (jh yE):=fsc
noncomputable abbrev yo:Stmt:=Kf (top 31) 3
noncomputable abbrev yq:List Str:=["self"]
theorem vW:FnScope ["self"] yq (jh yo):=fsc
noncomputable abbrev ku:Stmt:=top 34
noncomputable abbrev kx:List Str:=["draft","kind"]
theorem Q3:FnScope ["draft","kind"] kx (jh ku):=fsc
noncomputable abbrev J8:Stmt:=top 38
noncomputable abbrev YD:List Str:=["_law_script","_law_k"]
theorem jap:FnScope ["_law_script","_law_k"] YD (jh J8):=fsc
noncomputable abbrev Jh:Stmt:=top 39
noncomputable abbrev Jv:List Str:=["_law_cell_here","_law_k"]
theorem KJ:FnScope ["_law_cell_here","_law_k","_law_m"] Jv (jh Jh):=fsc
noncomputable abbrev JC:Stmt:=top 41
noncomputable abbrev Jw:List Str:=["_law_cell_here","_law_way","_law_most"]
theorem uh:FnScope ["_law_cell_here","_law_way","_law_most"] Jw (jh JC):=fsc
noncomputable abbrev Yh:Stmt:=top 43
noncomputable abbrev YC:List Str:=["_law_caught"]
theorem Y3:FnScope ["_law_caught","_law_kinds"] YC (jh Yh):=fsc
noncomputable abbrev Yg:Stmt:=top 45
noncomputable abbrev Yl:List Str:=["_law_m","_law_names_here"]
theorem kh:FnScope ["_law_m","_law_names_here","_law_rows_here","_law_k"] Yl (jh Yg):=fsc
noncomputable abbrev VN:Stmt:=top 47
noncomputable abbrev VF:List Str:=["_law_row_here"]
theorem jcn:FnScope ["_law_row_here"] VF (jh VN):=fsc
noncomputable abbrev VZ:Stmt:=top 17
noncomputable abbrev VQ:List Str:=["word"]
theorem jbO:FnScope ["word"] VQ (jh VZ):=fsc
noncomputable abbrev Ju:Stmt:=top 18
noncomputable abbrev JB:List Str:=["word"]
theorem uv:FnScope ["word"] JB (jh Ju):=fsc
noncomputable abbrev yg:Stmt:=Kf (top 31) 2
noncomputable abbrev yi:List Str:=["self"]
theorem Je:FnScope ["self"] yi (jh yg):=fsc
noncomputable abbrev yH:Stmt:=Kf (top 31) 4
noncomputable abbrev yz:List Str:=["self","words"]
theorem JN:FnScope ["self","words"] yz (jh yH):=fsc
noncomputable abbrev Yx:Stmt:=top 35
noncomputable abbrev Yw:List Str:=["draft","words"]
theorem zr:FnScope ["draft","words","plan"] Yw (jh Yx):=fsc
noncomputable abbrev vz:Stmt:=top 36
noncomputable abbrev vv:List Str:=["draft","kind"]
theorem Vs:FnScope ["draft","kind"] vv (jh vz):=fsc
noncomputable abbrev Jt:Stmt:=top 40
noncomputable abbrev JF:List Str:=["_law_cell_here","_law_many_here"]
theorem yb:FnScope ["_law_cell_here","_law_many_here","_law_m","_law_base","_law_some","_law_size","_law_at","_law_out","_law_k","_law_signs"] JF (jh Jt):=fsc
noncomputable abbrev Vv:Stmt:=top 44
noncomputable abbrev Vq:List Str:=["_law_cell_here","_law_k","_law_names_here","_law_last"]
theorem Jf:FnScope ["_law_cell_here","_law_k","_law_names_here","_law_last","_law_m","_law_what","_law_day"] Vq (jh Vv):=fsc
noncomputable abbrev JA:Stmt:=top 48
noncomputable abbrev Jo:List Str:=["_law_row_here","_law_debts","_law_events","_law_called"]
theorem JV:FnScope ["_law_row_here","_law_debts","_law_events","_law_called","_law_unplanned","_law_plan"] Jo (jh JA):=fsc
noncomputable abbrev Ym:Stmt:=top 22
noncomputable abbrev Yp:List Str:=["word","kind"]
theorem QV:FnScope ["word","kind","number"] Yp (jh Ym):=fsc
noncomputable abbrev qJ:Stmt:=top 33
noncomputable abbrev qK:List Str:=["draft","words","place"]
theorem kS:FnScope ["draft","words","place","kind"] qK (jh qJ):=fsc
noncomputable abbrev Yy:Stmt:=top 46
noncomputable abbrev Yd:List Str:=["_law_script","_law_names_here"]
theorem ym:FnScope ["_law_script","_law_names_here","_law_rows_here","_law_m","_law_last","_law_k","_law_cell_here","_law_row_here"] Yd (jh Yy):=fsc
noncomputable abbrev Vr:Stmt:=top 49
noncomputable abbrev VS:List Str:=["_law_rows_here"]
theorem kg:FnScope ["_law_rows_here","_law_debts","_law_events","_law_called","_law_k","_law_row_here","_law_fault_here"] VS (jh Vr):=fsc
noncomputable abbrev YA:Stmt:=top 21
noncomputable abbrev Yn:List Str:=["words","kinds","place"]
theorem yJ:FnScope ["words","kinds","place","told","word","kind","value"] Yn (jh YA):=fsc
noncomputable abbrev kW:Stmt:=top 25
noncomputable abbrev qc:List Str:=["row","place"]
theorem ky:FnScope ["row","place","words"] qc (jh kW):=fsc
noncomputable abbrev qH:Stmt:=top 32
noncomputable abbrev qF:List Str:=["text"]
theorem jV:FnScope ["text","draft","rows","place","row","words"] qF (jh qH):=fsc
noncomputable abbrev JH:Stmt:=top 42
noncomputable abbrev qr:List Str:=["_law_found","_law_due_here"]
theorem KU:FnScope ["_law_found","_law_due_here","_law_k"] qr (jh JH):=fsc
noncomputable abbrev zO:Stmt:=top 50
noncomputable abbrev jfW:List Str:=["_law_script"]
theorem zg:FnScope ["_law_script","_law_names_here","_law_rows_here","_law_due_here","_law_found","_law_caught","error"] jfW (jh zO):=fsc
noncomputable def vG:D:=.tup [.str [108,97,116,101],.str [101,97,114,108,121],.str [113,117,105,116]]
noncomputable def YB:D:=.tup [.str [112,111,111,108],.str [99,108,97,105,109],.str [112,111,116],.str [101,97,116],.str [111,114,100,101,114],.str [112,97,114,116],.str [112,97,121],.str [115,104,97,114,101],.str [114,101,112,97,121],.str [102,105,108,108],.str [108,101,110,100],.str [98,97,99,107],.str [114,101,115,116],.str [108,111,111,107],.str [103,117,97,114,100],.str [100,101,98,116],.str [111,110],.str [108,97,116,101],.str [101,97,114,108,121],.str [113,117,105,116]]
noncomputable def ks_GREATEST:List KA:=[.str [99,111,105,110,115],.str [116,101,110,116,104,115],.str [100,97,121,115],.str [100,97,121],.str [98,121]]
noncomputable def Yv:List D:=[.int 1000000000000,.int 10,.int 9,.int 60,.int 30]
noncomputable def ks_FORMS:List KA:=[.str [100,101,98,116],.str [111,110],.str [108,97,116,101],.str [101,97,114,108,121],.str [113,117,105,116]]
noncomputable def qu:List D:=[.tup [.str [110,97,109,101],.str [110,97,109,101]],.tup [.str [100,97,121],.str [99,111,105,110,115]],.tup [.str [110,97,109,101],.str [100,97,121],.str [98,121]],.tup [.str [110,97,109,101],.str [100,97,121]],.tup [.str [110,97,109,101],.str [100,97,121]]]
noncomputable def V7:FS:=(yK (dP (J1 (jcy (pBM "str" KR (pV 0) (jb (pC (.str [32])) pN))) (jS [] 0) (jj (p2 vX (pV 0) (pC (.str [])))) (pF (pV 0)) [none])))
noncomputable def qf:List D->Option D:=fnP 1 V7
noncomputable def V8:FS:=(yK (dP (pCB jl3 (jb (J1 (jcy (pV 0)) (jS [] 0) qT (p2 (zG false) (pV 0) (pV 1)) [none,some 1]) pN))))
noncomputable def Jb:List D->Option D:=fnP 2 V8
noncomputable def vn:FS:=(jL (jaX 0 6 "debts" (va pN))
 (jaX 0 6 "events" (va pN)))
noncomputable def jX:List D->Option (D×D):=fnM 1 0 vn
noncomputable def vo:FS:=(yK (dP (p2 (zG false) (pV 1) (J1 (jcy (jcw 6 "debts" (pV 0))) (jS [] 0) qT (pF (p2 jF (pV 0) (pC (.int 0)))) [none]))))
noncomputable def jC:List D->Option D:=fnP 2 vo
noncomputable def y4:FS:=(yK (dP (pF (p2 jF (p2 jF (jcw 6 "debts" (pV 0)) (p1 kZ (pC (.int 1)))) (pC (.int 2))))))
noncomputable def jT:Ln:=(lIx 2 (lIx (-1) (jgz 6 "debts" jb4)))
noncomputable def jI:List D->Option D:=fnP 1 y4
noncomputable def yj:FS:=(jL (sIf (dPT (jj (p2 (zG false) (pV 1) (pC vG)))) (yK (dP (pC (.bl false))))
 jA)
 (jL (sIf (dPT (jj (p2 jjy (pCB Jq (jb (jcw 6 "events" (pV 0)) pN)) (pC (.int 0))))) (yK (dP (pC (.bl true))))
 jA)
 (yK (dP (zD (p2 vA (pV 1) (pC (.str [111,110]))) (p2 vA (pCB Jq (jb (jcw 6 "debts" (pV 0)) pN)) (pC (.int 0))))))))
noncomputable def jz:List D->Option D:=fnP 2 yj
noncomputable def Yz:FS:=(jL (sIf (dPT (jj (p2 jfV (pV 1) (pCB Jq (jb (pV 0) pN))))) (yK (dP (pF (p2 jF (pV 0) (pV 1)))))
 jA)
 (yK (dP (pC (.int 0)))))
noncomputable def v5:List D->Option D:=fnP 2 Yz
noncomputable def Y4:FS:=(jL (y9 (dP (p2 yG (p2 yN (p2 YE (p2 yG (pV 0) (pC (.int 2147483647))) (pC (.int 48271))) (p2 YE (p2 yN (p2 yN (p2 YE (pV 1) (pV 1)) (p2 YE (pC (.int 3)) (pV 1))) (pC (.int 7))) (pC (.int 69621)))) (pC (.int 2147483647)))) (jS [] 2))
 (yK (dP (p2 yG (p2 YE (pV 2) (pV 2)) (pC (.int 2147483647))))))
noncomputable def vM:List D->Option D:=fnP 3 Y4
noncomputable def Y5:FS:=(jL (sIf (dPT (jj (p2 vA (p2 yG (pV 1) (pC (.int 5))) (pC (.int 0))))) (yK (dP (pC (.int 1))))
 jA)
 (jL (sIf (dPT (jj (p2 vA (p2 yG (pV 1) (pC (.int 5))) (pC (.int 1))))) (yK (dP (pF (pV 2))))
 jA)
 (jL (sIf (dPT (jj (p2 vA (p2 yG (pV 1) (pC (.int 5))) (pC (.int 2))))) (yK (dP (p2 yN (pC (.int 1)) (p2 yG (pV 0) (pC (.int 7))))))
 jA)
 (jL (sIf (dPT (jj (p2 vA (p2 yG (pV 1) (pC (.int 5))) (pC (.int 3))))) (yK (dP (p2 yN (pC (.int 1)) (p2 yG (pV 0) (pV 2)))))
 jA)
 (yK (dP (p2 yN (pC (.int 1)) (p2 yG (p2 YE (p2 YE (p2 yN (p2 yG (pV 0) (pV 2)) (pC (.int 1))) (p2 yN (pV 1) (pC (.int 48271)))) (pC (.int 99999999999999997))) (pV 2)))))))))
noncomputable def JD:List D->Option D:=fnP 3 Y5
noncomputable def xv:FS:=(jL (y9 (dP (va (jb (jch [true,false,false,false,false,false] (pV 0)) (jb (jch [false,true,false,false,false,false] (pV 0)) (jb (jch [false,false,true,false,false,false] (pV 0)) pN))))) (jS [] 1))
 (jL (y9 (dP (p2 yN (pV 1) (va (jb (jch [false,false,false,true,false,false] (pV 0)) (jb (jch [false,false,false,false,true,false] (pV 0)) (jb (jch [false,false,false,false,false,true] (pV 0)) pN)))))) (jS [] 1))
 (jL (jbt 1 (jch [false,false,false,false,false,false] (pV 0)))
 (jL (sIf (dPT (qOr (wo (jj (jch [true,true,true,true,true,true] (pV 0)))) (qOr (wo (jj (jch [true,true,true,true,true,true] (pV 0)))) (jj (p2 vX (pLM jaP (pV 1) (jb (pC (.bl true)) pN)) (pC (.int 1))))))) (yK (dP (pC (.str [111,100,100]))))
 jA)
 (yK (dP (pF (p2 jF (va (jb (pC (.str [98,97,100])) (jb (pC (.str [109,105,115,112,108,97,99,101,100])) (jb (pC (.str [117,110,102,105,110,105,115,104,101,100])) (jb (pC (.str [116,119,105,99,101])) (jb (pC (.str [110,111,110,97,109,101])) (jb (pC (.str [116,111,111,109,97,110,121])) (jb (pC (.str [117,110,103,117,97,114,100,101,100])) pN)))))))) (pLM jaN (pV 1) (jb (pC (.bl true)) pN))))))))))
noncomputable def Kg:List D->Option D:=fnP 2 xv
noncomputable def kL:FS:=(jc6 2 (va (jb (va (jb (pC (.str [100,101,98,116])) (jb (pF (p2 jF (pV 1) (p2 yN (pV 3) (pC (.int 7))))) (jb (pF (p2 jF (pV 1) (pC (.int 0)))) pN)))) (jb (va (jb (pC (.str [111,110])) (jb (p2 yN (pC (.int 1)) (pV 3)) (jb (pC (.int 5)) pN)))) pN))))
noncomputable def qZ:FS:=(jL (y9 (dP (va pN)) (jS [] 2))
 (jL (sIf (dPT (jj (p2 vA (p2 yG (pV 0) (pC (.int 3))) (pC (.int 0))))) (jL (wn (K1 (jb (p2 yN (pC (.int 30)) (p2 yG (p2 v7 (pV 0) (pC (.int 3))) (pC (.int 2)))) pN)) (jS [] 3) kL)
 (yK (dMv 2)))
 jA)
 (jL (y9 (dP (va (jb (va (jb (pC (.str [100,101,98,116])) (jb (pF (p2 jF (pV 1) (pC (.int 7)))) (jb (pF (p2 jF (pV 1) (pC (.int 0)))) pN)))) pN))) (jS [] 2))
 (jL (sIf (dPT (jj (p2 vA (p2 yG (pV 0) (pC (.int 3))) (pC (.int 1))))) (sFz 2 (yK (dP (p2 yN (pV 2) (pFz (J1 (K1 (jb (p2 yN (pC (.int 12)) (p2 yG (p2 v7 (pV 0) (pC (.int 3))) (pC (.int 2)))) pN)) (jS [] 0) qT (va (jb (pC (.str [111,110])) (jb (p2 yN (pC (.int 1)) (pV 0)) (jb (pC (.int 5)) pN)))) [none]))))))
 jA)
 (jL (jbt 2 (va (jb (pC (.str [111,110])) (jb (pC (.int 1)) (jb (pC (.int 5)) pN)))))
 (sFz 2 (yK (dP (p2 yN (pV 2) (pFz (J1 (K1 (jb (p2 yN (pC (.int 60)) (p2 yG (p2 v7 (pV 0) (pC (.int 3))) (pC (.int 2)))) pN)) (jS [] 0) qT (va (jb (pC (.str [113,117,105,116])) (jb (pF (p2 jF (pV 1) (pC (.int 7)))) (jb (p2 yN (pC (.int 1)) (p2 yG (pV 0) (pC (.int 60)))) pN)))) [none,some 1])))))))))))
noncomputable def ko:List D->Option D:=fnP 4 qZ
noncomputable def vh:FS:=(jL (sIf (dPT (jj (p2 vA (p2 jF (pV 0) (pC (.int 0))) (pC (.str [100,101,98,116]))))) (yK (dP (p2 vX (pCB Jq (jb (pV 0) pN)) (pC (.int 3)))))
 jA)
 (jL (sIf (dPT (jj (p2 vA (p2 jF (pV 0) (pC (.int 0))) (pC (.str [111,110]))))) (yK (dP (p2 jfV (p2 jF (pV 0) (pC (.int 1))) (pC (.int 1)))))
 jA)
 (yK (dP (pOr (p2 jjy (p2 jF (pV 0) (pC (.int 2))) (pC (.int 60))) (zD (p2 vA (pCB Jq (jb (pV 0) pN)) (pC (.int 4))) (p2 jjy (p2 jF (pV 0) (pC (.int 3))) (pC (.int 30)))))))))
noncomputable def jG:List D->Option D:=fnP 1 vh
noncomputable def zf:FS:=(jL (sIf (dPT (wo (jj (KK jff jff (pC (.int 1)) (pCB Jq (jb (pV 0) pN)) (pC (.int 8)))))) (yK (dP (pC (.bl false))))
 jA)
 (yK (dP (zD (j7 Jb (jb (pV 0) (jb (pC (.str [97,98,99,100,101,102,103,104,105,106,107,108,109,110,111,112,113,114,115,116,117,118,119,120,121,122])) pN))) (p2 (zG true) (pV 0) (pC YB))))))
noncomputable def VO:List D->Option D:=fnP 1 zf
noncomputable def ve:FS:=(jL (sIf (dPT (qOr (wo (jj (KK jff jff (pC (.int 1)) (pCB Jq (jb (pV 0) pN)) (pC (.int 13))))) (wo (jj (j7 Jb (jb (pV 0) (jb (pC (.str [48,49,50,51,52,53,54,55,56,57])) pN))))))) (yK (dP (pC .non)))
 jA)
 (jL (sIf (dPT (VX (jj (p2 vA (p2 jF (pV 0) (pC (.int 0))) (pC (.str [48])))) (jj (p2 vX (pV 0) (pC (.str [48])))))) (yK (dP (pC .non)))
 jA)
 (yK (dP (pCB jl4 (jb (pV 0) pN))))))
noncomputable def j4:List D->Option D:=fnP 1 ve
noncomputable def yh:FS:=(yK (dP (zD (p2 jjy (pCB Jq (jb (jcw 6 "debts" (pV 0)) pN)) (pC (.int 0))) (p2 vA (pCB Jq (jb (qU jI 6 "last_plan" (pV 0) pN) pN)) (pC (.int 0))))))
noncomputable def jn:List D->Option D:=fnP 1 yh
noncomputable def yc:FS:=(sIf (dPT (jj (p2 vA (p2 jF (pV 1) (pC (.int 0))) (pC (.str [100,101,98,116]))))) (wI 0 (jgz 6 "debts" jb4) (jbX (jb (pF (p2 jF (pV 1) (pC (.int 1)))) (jb (pF (p2 jF (pV 1) (pC (.int 2)))) (jb (va pN) pN)))))
 (sIf (dPT (jj (p2 vA (p2 jF (pV 1) (pC (.int 0))) (pC (.str [111,110]))))) (wI 0 (jbM 6 "last_plan" jT jb4) (jbX (jb (pF (p2 jF (pV 1) (pC (.int 1)))) (jb (pF (p2 jF (pV 1) (pC (.int 2)))) pN))))
 (wI 0 (jgz 6 "events" jb4) (pCB xy (jb (pV 1) pN)))))
noncomputable def jt:List D->Option (D×D):=fnM 2 0 yc
noncomputable def vw:FS:=(jL (sIf (dPT (jj (p2 vA (p2 jF (pV 1) (pC (.int 0))) (pC (.str [100,101,98,116]))))) (yK (dP (qU jC 6 "has_debt" (pV 0) (jb (p2 jF (pV 1) (pC (.int 1))) pN))))
 jA)
 (jL (sIf (dPT (jj (p2 vA (p2 jF (pV 1) (pC (.int 0))) (pC (.str [111,110]))))) (jL (y9 (dP (qU jI 6 "last_plan" (pV 0) pN)) (jS [] 2))
 (yK (dP (zD (p2 jjy (pCB Jq (jb (pV 2) pN)) (pC (.int 0))) (p2 jff (p2 jF (pV 1) (pC (.int 1))) (p2 jF (p2 jF (pV 2) (p1 kZ (pC (.int 1)))) (pC (.int 0))))))))
 jA)
 (yK (dP (pC (.bl false))))))
noncomputable def jY:List D->Option D:=fnP 3 vw
noncomputable def jW:FS:=(jL (sIf (dPT (jj (p2 vA (pV 1) (pC (.str [100,101,98,116]))))) (yK (dP (p2 jmg (pCB Jq (jb (jcw 6 "debts" (pV 0)) pN)) (pC (.int 30)))))
 jA)
 (jL (sIf (dPT (jj (p2 vA (pV 1) (pC (.str [111,110]))))) (yK (dP (p2 jmg (pCB Jq (jb (qU jI 6 "last_plan" (pV 0) pN) pN)) (pC (.int 12)))))
 jA)
 (yK (dP (p2 jmg (pCB Jq (jb (jcw 6 "events" (pV 0)) pN)) (pC (.int 60)))))))
noncomputable def ju:List D->Option D:=fnP 2 jW
noncomputable def k9:FS:=(jL (y9 (dP (J1 (K1 (jb (pV 5) pN)) (jS [] 0) qT (pF (pV 1)) [none,some 3])) (jS [] 9))
 (jL (y9 (dP (pF (p2 jF (pV 4) (p2 yG (p2 yN (p2 v7 (pV 2) (pC (.int 4200))) (p2 YE (pC (.int 3)) (pV 8))) (pC (.int 20)))))) (gIx [] 9 (pV 6)))
 (jL (y9 (dP (pF (p2 jF (pV 4) (p2 yG (p2 yN (p2 v7 (pV 2) (pC (.int 84000))) (p2 v7 (pV 8) (pC (.int 20)))) (pC (.int 20)))))) (gIx [] 9 (p2 yG (p2 yN (pV 6) (pC (.int 1))) (pV 5))))
 (jbt 7 (pBM "str" xV (pC (.str [])) (jb (pV 9) pN))))))
noncomputable def Jg:FS:=(jL (y9 (dP (j7 vM (jb (pV 0) (jb (pC (.int 3)) pN)))) (jS [] 2))
 (jL (y9 (dP (pF (p2 jF (pC (.str [97,98,99,100,101,102,103,104,105,106,107,108,109,110,112,113,114,115,116,117,118,119,120,121,122])) (p2 yG (pV 2) (pC (.int 25)))))) (jS [] 3))
 (jL (y9 (dP (pC (.str [98,99,100,102,103,104,106,107,108,109,110,112,113,114,115,116,118,119,120,122]))) (jS [] 4))
 (jL (sIf (dPT (VX (jj (p2 vA (p2 yG (p2 v7 (pV 2) (pC (.int 25))) (pC (.int 3))) (pC (.int 0)))) (jj (p2 jfV (pV 1) (pC (.int 9)))))) (yK (dP (J1 (K1 (jb (pV 1) pN)) (jS [] 0) qT (p2 YE (pV 1) (p2 zA (pV 2) (pV 0))) [none,some 3,some 1])))
 jA)
 (jL (y9 (dP (p2 yN (pC (.int 2)) (p2 yG (p2 v7 (pV 2) (pC (.int 75))) (pC (.int 7))))) (jS [] 5))
 (jL (y9 (dP (p2 yG (p2 v7 (pV 2) (pC (.int 525))) (pV 5))) (jS [] 6))
 (jL (y9 (dP (va pN)) (jS [] 7))
 (jL (wn (K1 (jb (pV 1) pN)) (jS [] 8) k9)
 (yK (dMv 7))))))))))
noncomputable def vI:List D->Option D:=fnP 10 Jg
noncomputable def yL:FS:=(jL (y9 (dP (j7 vM (jb (pV 0) (jb (pV 1) pN)))) (jS [] 4))
 (jL (y9 (dP (p2 yG (pV 4) (pC (.int 32)))) (jS [] 5))
 (jL (sIf (dPT (jj (p2 jfV (pV 5) (pC (.int 9))))) (yK (dP (va (jb (pC (.str [100,101,98,116])) (jb (pF (p2 jF (pV 2) (p2 yG (p2 v7 (pV 4) (pC (.int 32))) (pC (.int 6))))) (jb (pF (p2 jF (pV 2) (p2 yG (p2 v7 (pV 4) (pC (.int 192))) (pC (.int 7))))) pN))))))
 jA)
 (jL (sIf (dPT (jj (p2 jfV (pV 5) (pC (.int 22))))) (jL (y9 (dP (p2 yN (p2 yN (pV 3) (pC (.int 1))) (p2 yG (p2 v7 (pV 4) (pC (.int 32))) (pC (.int 4))))) (jS [] 6))
 (jL (sIf (dPT (jj (p2 vA (p2 yG (p2 v7 (pV 4) (pC (.int 128))) (pC (.int 16))) (pC (.int 0))))) (y9 (dP (pCB jnT (jb (pC (.int 1)) (jb (p2 zA (pV 3) (p2 yG (p2 v7 (pV 4) (pC (.int 2048))) (pC (.int 2)))) pN)))) (jS [] 6))
 jA)
 (yK (dP (va (jb (pC (.str [111,110])) (jb (pCB joh (jb (pC (.int 60)) (jb (pV 6) pN))) (jb (j7 JD (jb (pV 0) (jb (p2 yG (p2 v7 (pV 4) (pC (.int 4096))) (pC (.int 1009))) (jb (p2 jfv (pC (.int 10)) (pC (.int 12))) pN)))) pN))))))))
 jA)
 (jL (sIf (dPT (jj (p2 jfV (pV 5) (pC (.int 25))))) (yK (dP (va (jb (pC (.str [108,97,116,101])) (jb (pF (p2 jF (pV 2) (p2 yG (p2 v7 (pV 4) (pC (.int 32))) (pC (.int 7))))) (jb (p2 yN (pC (.int 1)) (p2 yG (p2 v7 (pV 4) (pC (.int 224))) (pC (.int 60)))) (jb (p2 yN (pC (.int 1)) (p2 yG (p2 v7 (pV 4) (pC (.int 13440))) (pC (.int 30)))) pN)))))))
 jA)
 (jL (sIf (dPT (jj (p2 jfV (pV 5) (pC (.int 29))))) (yK (dP (va (jb (pF (p2 jF (va (jb (pC (.str [101,97,114,108,121])) (jb (pC (.str [113,117,105,116])) pN))) (p2 yG (p2 v7 (pV 4) (pC (.int 32))) (pC (.int 2))))) (jb (pF (p2 jF (pV 2) (p2 yG (p2 v7 (pV 4) (pC (.int 64))) (pC (.int 7))))) (jb (p2 yN (pC (.int 1)) (p2 yG (p2 v7 (pV 4) (pC (.int 448))) (pC (.int 60)))) pN))))))
 jA)
 (jL (sIf (dPT (jj (p2 jfV (pV 5) (pC (.int 31))))) (yK (dP (va pN)))
 jA)
 (yK (dP (pF (p2 jF (pFz (va (jb (va (jb (pC (.str [111,110])) (jb (pC (.int 0)) (jb (pC (.int 1)) pN)))) (jb (va (jb (pC (.str [100,101,98,116])) (jb (pF (p2 jF (pV 2) (pC (.int 0)))) pN))) (jb (va (jb (pC (.str [108,97,116,101])) (jb (pF (p2 jF (pV 2) (pC (.int 0)))) (jb (pC (.int 1)) (jb (pC (.int 31)) pN))))) (jb (va (jb (pC (.str [113,117,105,116])) (jb (pF (p2 jF (pV 2) (pC (.int 0)))) (jb (pC (.int 61)) pN)))) pN)))))) (p2 yG (p2 v7 (pV 4) (pC (.int 32))) (pC (.int 4))))))))))))))
noncomputable def jQ:List D->Option D:=fnP 7 yL
noncomputable def vL:FS:=(jL (sIf (dPT (jj (j7 jG (jb (pV 0) pN)))) (yK (dP (pC (.str [98,97,100]))))
 jA)
 (jL (y9 (dP (zD (p2 vX (pV 1) (va pN)) (p2 vA (p2 jF (p2 jF (pV 1) (p1 kZ (pC (.int 1)))) (pC (.int 2))) (va pN)))) (jS [] 4))
 (jL (sIf (dPT (jj (p2 vA (p2 jF (pV 0) (pC (.int 0))) (pC (.str [111,110]))))) (jL (sIf (dPT (qOr (jj (p2 vA (pV 1) (va pN))) (jj (p2 vX (pV 2) (va pN))))) (yK (dP (pC (.str [109,105,115,112,108,97,99,101,100]))))
 jA)
 (jL (y9 (dP (pF (p2 jF (p2 jF (pV 1) (p1 kZ (pC (.int 1)))) (pC (.int 2))))) (jS [] 5))
 (jL (sIf (dPT (VX (jj (p2 vX (pV 5) (va pN))) (jj (p2 jff (p2 jF (pV 0) (pC (.int 1))) (p2 jF (p2 jF (pV 5) (p1 kZ (pC (.int 1)))) (pC (.int 0))))))) (yK (dP (pC (.str [116,119,105,99,101]))))
 jA)
 (yK (dP (pIf (jj (p2 vA (pCB Jq (jb (pV 5) pN)) (pC (.int 12)))) (pC (.str [116,111,111,109,97,110,121])) (pC (.str []))))))))
 jA)
 (jL (sIf (dPT (VX (jj (p2 vA (p2 jF (pV 0) (pC (.int 0))) (pC (.str [100,101,98,116])))) (jj (p2 vX (pV 2) (va pN))))) (yK (dP (pC (.str [109,105,115,112,108,97,99,101,100]))))
 jA)
 (jL (sIf (dPT (jj (pV 4))) (yK (dP (pC (.str [117,110,102,105,110,105,115,104,101,100]))))
 jA)
 (jL (sIf (dPT (VX (jj (p2 vA (p2 jF (pV 0) (pC (.int 0))) (pC (.str [100,101,98,116])))) (jj (p2 (zG false) (p2 jF (pV 0) (pC (.int 1))) (pV 3))))) (yK (dP (pC (.str [116,119,105,99,101]))))
 jA)
 (jL (sIf (dPT (VX (jj (p2 vX (p2 jF (pV 0) (pC (.int 0))) (pC (.str [100,101,98,116])))) (jj (p2 (zG true) (p2 jF (pV 0) (pC (.int 1))) (pV 3))))) (yK (dP (pC (.str [110,111,110,97,109,101]))))
 jA)
 (jL (sIf (dPT (jj (p2 vA (p2 jF (pV 0) (pC (.int 0))) (pC (.str [100,101,98,116]))))) (yK (dP (pIf (jj (p2 vA (pCB Jq (jb (pV 1) pN)) (pC (.int 30)))) (pC (.str [116,111,111,109,97,110,121])) (pC (.str [])))))
 jA)
 (yK (dP (pIf (jj (p2 vA (pCB Jq (jb (pV 2) pN)) (pC (.int 60)))) (pC (.str [116,111,111,109,97,110,121])) (pC (.str [])))))))))))))
noncomputable def j5:List D->Option D:=fnP 6 vL
noncomputable def qh:FS:=(jL (sIf (dPT (jj (p2 vA (pV 1) (pC (.str [110,97,109,101]))))) (yK (dP (pIf (jj (j7 VO (jb (pV 0) pN))) (pF (pV 0)) (pC .non))))
 jA)
 (jL (y9 (dP (j7 j4 (jb (pV 0) pN))) (jS [] 2))
 (jL (sIf (dPT (qOr (jj (p2 YV (pV 2) (pC .non))) (wo (jj (KK jff jff (pC (.int 1)) (pV 2) (jmo ks_GREATEST Yv (pV 1))))))) (yK (dP (pC .non)))
 jA)
 (yK (dP (pF (pV 2)))))))
noncomputable def j9:List D->Option D:=fnP 3 qh
noncomputable def kC:FS:=(jL (y9 (dP (pF (p2 jF (pV 1) (pC (.int 0))))) (jS [] 3))
 (jL (sIf (dPT (jj (j7 jz (jb (pV 0) (jb (pV 3) pN))))) yu
 jA)
 (jL (sIf (dPT (VX (jj (p2 vX (pV 3) (pC (.str [111,110])))) (jj (qU jn 6 "lacks_plan" (pV 0) pN)))) yu
 jA)
 (jL (sIf (dPT (jj (j7 jY (jb (pV 0) (jb (pV 1) pN))))) yu
 jA)
 (jL (sIf (dPT (VX (jj (p2 (zG false) (pV 3) (pC vG))) (wo (jj (qU jC 6 "has_debt" (pV 0) (jb (p2 jF (pV 1) (pC (.int 1))) pN)))))) yu
 jA)
 (sIf (dPT (jj (j7 ju (jb (pV 0) (jb (pV 3) pN))))) yu
 jA))))))
noncomputable def yO:List D->Option D:=fnP 4 kC
noncomputable def uo:FS:=(jL (y9 (dP (pF (p2 jF (pV 1) (pC (.int 0))))) (jS [] 3))
 (jL (sIf (dPT (jj (j7 jz (jb (pV 0) (jb (pV 3) pN))))) yu jA)
 (jL (sIf (dPT (VX (jj (p2 vX (pV 3) (pC (.str [111,110])))) (jj (qU jn 6 "lacks_plan" (pV 0) pN)))) yu jA)
 (jL (sIf (dPT (jj (j7 jY (jb (pV 0) (jb (pV 1) pN))))) yu jA)
 (jL (sIf (dPT (VX (jj (p2 (zG false) (pV 3) (pC vG))) (wo (jj (qU jC 6 "has_debt" (pV 0) (jb (p2 jF (pV 1) (pC (.int 1))) pN)))))) yu jA)
 (sIf (dPT (jj (j7 ju (jb (pV 0) (jb (pV 3) pN))))) yu jA))))))
noncomputable def yB:FX:=(qB xN (y9 (dP (pF (p2 jF (pV 1) (pC (.int 0))))) (jS [] 3))
 (qB (xIf (jj (j7 jz (jb (pV 0) (jb (pV 3) pN)))) (vk 1 (jb (pC (.str [116,104,101,32,114,111,119,32,115,116,97,110,100,115,32,119,104,101,114,101,32,105,116,32,99,97,110,39,116,32,115,116,97,110,100])) (jb (pF (pV 2)) pN))) xN) (sIf (dPT (jj (j7 jz (jb (pV 0) (jb (pV 3) pN))))) yu jA)
 (qB (xIf (VX (jj (p2 vX (pV 3) (pC (.str [111,110])))) (jj (qU jn 6 "lacks_plan" (pV 0) pN))) (vk 2 (jb (pC (.str [116,104,101,32,100,101,98,116,32,97,104,101,97,100,32,111,102,32,116,104,101,32,114,111,119,32,104,97,115,32,110,111,32,112,108,97,110])) (jb (pF (pV 2)) pN))) xN) (sIf (dPT (VX (jj (p2 vX (pV 3) (pC (.str [111,110])))) (jj (qU jn 6 "lacks_plan" (pV 0) pN)))) yu jA)
 (qB (xIf (jj (j7 jY (jb (pV 0) (jb (pV 1) pN)))) (vk 3 (jb (pC (.str [116,104,101,32,100,101,98,116,32,105,115,32,116,111,108,100,32,98,101,102,111,114,101,44,32,111,114,32,116,104,101,32,100,97,121,32,105,115,110,39,116,32,98,101,104,105,110,100,32,116,104,101,32,111,110,101,32,97,104,101,97,100])) (jb (pF (pV 2)) pN))) xN) (sIf (dPT (jj (j7 jY (jb (pV 0) (jb (pV 1) pN))))) yu jA)
 (qB (xIf (VX (jj (p2 (zG false) (pV 3) (pC vG))) (wo (jj (qU jC 6 "has_debt" (pV 0) (jb (p2 jF (pV 1) (pC (.int 1))) pN))))) (vk 4 (jb (pC (.str [116,104,101,32,114,111,119,32,110,97,109,101,115,32,110,111,32,100,101,98,116])) (jb (pF (pV 2)) pN))) xN) (sIf (dPT (VX (jj (p2 (zG false) (pV 3) (pC vG))) (wo (jj (qU jC 6 "has_debt" (pV 0) (jb (p2 jF (pV 1) (pC (.int 1))) pN)))))) yu jA)
 (xIf (jj (j7 ju (jb (pV 0) (jb (pV 3) pN)))) (vk 5 (jb (pC (.str [116,104,101,32,114,111,119,32,105,115,32,111,110,101,32,109,111,114,101,32,116,104,97,110,32,109,97,121,32,98,101])) (jb (pF (pV 2)) pN))) xN))))))
noncomputable def j0:List D->Option (Nat×Int):=fnR 4 yB
noncomputable def j6:FS:=(jL (y9 (dP (j7 jQ (jb (pV 6) (jb (pV 5) (jb (pV 1) (jb (pV 4) pN)))))) (jS [] 7))
 (jL (sFz 7 (jbt 2 (pF (pV 7))))
 (jL (sIf (dPT (VX (jj (p2 vX (pV 7) (va pN))) (jj (p2 vA (p2 jF (pV 7) (pC (.int 0))) (pC (.str [111,110])))))) (y9 (dP (pF (p2 jF (pV 7) (pC (.int 1))))) (jS [] 4))
 jA)
 (sIf (dPT (VX (jj (p2 vX (pV 7) (va pN))) (jj (p2 vA (p2 jF (pV 7) (pC (.int 0))) (pC (.str [100,101,98,116])))))) (y9 (dP (pC (.int 0))) (jS [] 4))
 jA))))
noncomputable def Ki:FS:=(jL (y9 (dP (va pN)) (jS [] 2))
 (jL (y9 (dP (j7 vM (jb (j7 v5 (jb (pV 0) (jb (pC (.int 0)) pN))) (jb (pC (.int 1)) pN)))) (jS [] 3))
 (jL (sIf (dPT (jj (p2 vA (p2 yG (pV 3) (pC (.int 3))) (pC (.int 0))))) (y9 (dP (j7 ko (jb (p2 v7 (pV 3) (pC (.int 3))) (jb (pV 1) pN)))) (jS [] 2))
 jA)
 (jL (y9 (dP (pC (.int 0))) (jS [] 4))
 (jL (sIf (dPT (VX (jj (p2 vX (pV 2) (va pN))) (jj (p2 vA (p2 jF (p2 jF (pV 2) (p1 kZ (pC (.int 1)))) (pC (.int 0))) (pC (.str [111,110])))))) (y9 (dP (pF (p2 jF (p2 jF (pV 2) (p1 kZ (pC (.int 1)))) (pC (.int 1))))) (jS [] 4))
 jA)
 (jL (wn (wA (jb (pSl (pV 0) (oS (pC (.int 2))) (oS (pC (.int 62)))) pN)) (gT 2 (gC (jS [] 5) (gC (jS [] 6) gN))) j6)
 (yK (dMv 2))))))))
noncomputable def Yk:List D->Option D:=fnP 8 Ki
noncomputable def jy:FS:=(jL (sIf (dPT (jj (p2 vA (pV 5) (va pN)))) jf3
 jA)
 (jL (y9 (dP (j7 j5 (jb (pV 5) (jb (pV 1) (jb (pV 2) (jb (pV 3) pN)))))) (jS [] 6))
 (jL (sIf (dPT (jj (p2 vX (pV 6) (pC (.str []))))) (yK (dP (jbX (jb (pF (pV 6)) (jb (p2 yN (pV 4) (pC (.int 1))) pN)))))
 jA)
 (sIf (dPT (jj (p2 vA (p2 jF (pV 5) (pC (.int 0))) (pC (.str [100,101,98,116]))))) (jL (jbt 3 (pF (p2 jF (pV 5) (pC (.int 1)))))
 (jbt 1 (jbX (jb (pF (p2 jF (pV 5) (pC (.int 1)))) (jb (pF (p2 jF (pV 5) (pC (.int 2)))) (jb (va pN) pN))))))
 (sIf (dPT (jj (p2 vA (p2 jF (pV 5) (pC (.int 0))) (pC (.str [111,110]))))) (wI 1 (lIx 2 (lIx (-1) jb4)) (jbX (jb (pF (p2 jF (pV 5) (pC (.int 1)))) (jb (pF (p2 jF (pV 5) (pC (.int 2)))) pN))))
 (jbt 2 (pCB xy (jb (pV 5) pN))))))))
noncomputable def JQ:FS:=(jL (y9 (dP (va pN)) (jS [] 1))
 (jL (y9 (dP (va pN)) (jS [] 2))
 (jL (y9 (dP (va pN)) (jS [] 3))
 (jL (wn (wA (jb (pF (pV 0)) pN)) (gT 2 (gC (jS [] 4) (gC (jS [] 5) gN))) jy)
 (jL (sIf (dPT (VX (jj (p2 vX (pV 1) (va pN))) (jj (p2 vA (p2 jF (p2 jF (pV 1) (p1 kZ (pC (.int 1)))) (pC (.int 2))) (va pN))))) (yK (dP (jbX (jb (pC (.str [117,110,102,105,110,105,115,104,101,100])) (jb (pCB jnT (jb (pC (.int 1)) (jb (pCB Jq (jb (pV 0) pN)) pN))) pN)))))
 jA)
 (sFz 1 (sFz 2 (yK (dP (jbX (jb (pC (.str [])) (jb (jbX (jb (pF (pV 1)) (jb (pF (pV 2)) pN))) pN))))))))))))
noncomputable def kH:List D->Option D:=fnP 7 JQ
noncomputable def qP:FS:=(jL (y9 (dP (j7 j9 (jb (pV 4) (jb (pV 5) pN)))) (jS [] 6))
 (jL (sIf (dPT (jj (p2 YV (pV 6) (pC .non)))) yu
 jA)
 (jbt 3 (pF (pV 6)))))
noncomputable def Kc:FS:=(jL (sIf (dPT (qOr (jj (p2 YV (pV 1) (pC .non))) (jj (p2 vX (pCB Jq (jb (pV 1) pN)) (p2 zA (pCB Jq (jb (pV 0) pN)) (pC (.int 1))))))) yu
 jA)
 (jL (y9 (dP (va (jb (pF (p2 jF (pV 0) (pC (.int 0)))) pN))) (jS [] 3))
 (jL (wn (jf2 (jb (pSl (pV 0) (oS (pC (.int 1))) oN) (jb (pF (pV 1)) pN))) (gT 2 (gC (jS [] 4) (gC (jS [] 5) gN))) qP)
 (yK (dMv 3)))))
noncomputable def Yq:List D->Option D:=fnP 7 Kc
noncomputable def vx:FS:=(jL (y9 (dP (j7 j9 (jb (pV 4) (jb (pV 5) pN)))) (jS [] 6))
 (jL (sIf (dPT (jj (p2 YV (pV 6) (pC .non)))) yu jA)
 (jbt 3 (pF (pV 6)))))
noncomputable def vy:FX:=(qB xN (y9 (dP (j7 j9 (jb (pV 4) (jb (pV 5) pN)))) (jS [] 6))
 (qB (xIf (jj (p2 YV (pV 6) (pC .non))) (vk 0 (jb (jl8 4) (jb (pF (pV 2)) pN))) xN) (sIf (dPT (jj (p2 YV (pV 6) (pC .non)))) yu jA)
 xN))
noncomputable def jcq:FS:=(jL (sIf (dPT (qOr (jj (p2 YV (pV 1) (pC .non))) (jj (p2 vX (pCB Jq (jb (pV 1) pN)) (p2 zA (pCB Jq (jb (pV 0) pN)) (pC (.int 1))))))) yu jA)
 (jL (y9 (dP (va (jb (pF (p2 jF (pV 0) (pC (.int 0)))) pN))) (jS [] 3))
 (jL (wn (jf2 (jb (pSl (pV 0) (oS (pC (.int 1))) oN) (jb (pF (pV 1)) pN))) (gT 2 (gC (jS [] 4) (gC (jS [] 5) gN))) vx)
 (yK (dMv 3)))))
noncomputable def qj:FX:=(qB (xIf (qOr (jj (p2 YV (pV 1) (pC .non))) (jj (p2 vX (pCB Jq (jb (pV 1) pN)) (p2 zA (pCB Jq (jb (pV 0) pN)) (pC (.int 1)))))) (vk 0 (jb (pC (.str [116,104,101,32,114,111,119,32,104,97,115,32,110,111,32,102,111,114,109,32,116,104,97,116,32,97,32,114,111,119,32,109,97,121,32,104,97,118,101])) (jb (pF (pV 2)) pN))) xN) (sIf (dPT (qOr (jj (p2 YV (pV 1) (pC .non))) (jj (p2 vX (pCB Jq (jb (pV 1) pN)) (p2 zA (pCB Jq (jb (pV 0) pN)) (pC (.int 1))))))) yu jA)
 (qB xN (y9 (dP (va (jb (pF (p2 jF (pV 0) (pC (.int 0)))) pN))) (jS [] 3))
 (qB (jeU (jf2 (jb (pSl (pV 0) (oS (pC (.int 1))) oN) (jb (pF (pV 1)) pN))) (gT 2 (gC (jS [] 4) (gC (jS [] 5) gN))) vx vy) (wn (jf2 (jb (pSl (pV 0) (oS (pC (.int 1))) oN) (jb (pF (pV 1)) pN))) (gT 2 (gC (jS [] 4) (gC (jS [] 5) gN))) vx)
 xN)))
noncomputable def yn:List D->Option (Nat×Int):=fnR 7 qj
noncomputable def kY:FS:=(jL (y9 (dP (j7 qf (jb (pV 0) pN))) (jS [] 2))
 (jL (sIf (dPT (jj (p2 vA (pCB Jq (jb (pV 2) pN)) (pC (.int 0))))) (yK (dP (pC .non)))
 jA)
 (yK (dP (j7 Yq (jb (pV 2) (jb (jc7 ks_FORMS qu (p2 jF (pV 2) (pC (.int 0)))) (jb (pV 1) pN))))))))
noncomputable def ya:List D->Option D:=fnP 3 kY
noncomputable def xQ:FS:=(jL (y9 (dP (j7 qf (jb (pV 0) pN))) (jS [] 2))
 (jL (sIf (dPT (jj (p2 vA (pCB Jq (jb (pV 2) pN)) (pC (.int 0))))) (yK (dP (pC .non))) jA)
 yu))
noncomputable def vU:FX:=(qB xN (y9 (dP (j7 qf (jb (pV 0) pN))) (jS [] 2))
 (qB (xIf (jj (p2 vA (pCB Jq (jb (pV 2) pN)) (pC (.int 0)))) xN xN) (sIf (dPT (jj (p2 vA (pCB Jq (jb (pV 2) pN)) (pC (.int 0))))) (yK (dP (pC .non))) jA)
 (JT yn (jb (pV 2) (jb (jc7 ks_FORMS qu (p2 jF (pV 2) (pC (.int 0)))) (jb (pV 1) pN))))))
noncomputable def jP:List D->Option (Nat×Int):=fnR 3 vU
noncomputable def YJ:FS:=(jL (y9 (dP (j7 ya (jb (pV 4) (jb (pV 3) pN)))) (jS [] 5))
 (sIf (dPT (jj (p2 kj (pV 5) (pC .non)))) (jL (zv (dP (j7 yO (jb (pV 1) (jb (pV 5) (jb (pV 3) pN))))))
 (sFz 5 (zv (Qe jt 1 6 "take_row" (jb (pF (pV 5)) pN)))))
 jA))
noncomputable def J2:FS:=(jL (y9 (dP (jaV jX 6 pN)) (jS [] 1))
 (jL (y9 (dP (pBM "str" KR (pV 0) (jb (pC (.str [10])) pN))) (jS [] 2))
 (jL (sFz 2 (wn (jeY (jb (pF (pV 2)) pN) (pC (.int 1))) (gT 2 (gC (jS [] 3) (gC (jS [] 4) gN))) YJ))
 (jL (sIf (dPT (jj (qU jn 6 "lacks_plan" (pV 1) pN))) yu
 jA)
 (yK (uR 1 6 "debts" "events"))))))
noncomputable def vQ:List D->Option D:=fnP 6 J2
noncomputable def jM:FS:=(jL (y9 (dP (j7 ya (jb (pV 4) (jb (pV 3) pN)))) (jS [] 5))
 (sIf (dPT (jj (p2 kj (pV 5) (pC .non)))) (jL (zv (dP (j7 yO (jb (pV 1) (jb (pV 5) (jb (pV 3) pN))))))
 (sFz 5 (zv (Qe jt 1 6 "take_row" (jb (pF (pV 5)) pN))))) jA))
noncomputable def jO:FX:=(qB (JT jP (jb (pV 4) (jb (pV 3) pN))) (y9 (dP (j7 ya (jb (pV 4) (jb (pV 3) pN)))) (jS [] 5))
 (xIf (jj (p2 kj (pV 5) (pC .non))) (qB (JT j0 (jb (pV 1) (jb (pV 5) (jb (pV 3) pN)))) (zv (dP (j7 yO (jb (pV 1) (jb (pV 5) (jb (pV 3) pN))))))
 xN) xN))
noncomputable def wP:FS:=(jL (y9 (dP (jaV jX 6 pN)) (jS [] 1))
 (jL (y9 (dP (pBM "str" KR (pV 0) (jb (pC (.str [10])) pN))) (jS [] 2))
 (jL (sFz 2 (wn (jeY (jb (pF (pV 2)) pN) (pC (.int 1))) (gT 2 (gC (jS [] 3) (gC (jS [] 4) gN))) jM))
 (jL (sIf (dPT (jj (qU jn 6 "lacks_plan" (pV 1) pN))) yu jA)
 (yK (uR 1 6 "debts" "events"))))))
noncomputable def kI:FX:=(qB xN (y9 (dP (jaV jX 6 pN)) (jS [] 1))
 (qB xN (y9 (dP (pBM "str" KR (pV 0) (jb (pC (.str [10])) pN))) (jS [] 2))
 (qB (xFz 2 (jeU (jeY (jb (pF (pV 2)) pN) (pC (.int 1))) (gT 2 (gC (jS [] 3) (gC (jS [] 4) gN))) jM jO)) (sFz 2 (wn (jeY (jb (pF (pV 2)) pN) (pC (.int 1))) (gT 2 (gC (jS [] 3) (gC (jS [] 4) gN))) jM))
 (qB (xIf (jj (qU jn 6 "lacks_plan" (pV 1) pN)) (vk 2 (jb (pC (.str [116,104,101,32,108,97,115,116,32,100,101,98,116,32,104,97,115,32,110,111,32,112,108,97,110])) (jb (pCB Jq (jb (pV 2) pN)) pN))) xN) (sIf (dPT (jj (qU jn 6 "lacks_plan" (pV 1) pN))) yu jA)
 xN))))
noncomputable def yS:List D->Option (Nat×Int):=fnR 6 kI
noncomputable def kX(yV:List D->Option D):FS:=(sIf (dPT (wo (jj (j7 yV (jb (p2 jF (pV 0) (pV 2)) (jb (p2 jF (pV 1) (pV 2)) pN)))))) (yK (dP (pC (.bl false))))
 jA)
noncomputable def v9(yV:List D->Option D):FS:=(jL (sIf (dPT (jj (p2 YV (pV 1) (pC .non)))) (yK (dP (p2 YV (pV 0) (pC .non))))
 jA)
 (jL (sIf (dPT (jj (uO "bool" (pV 1)))) (yK (dP (zD (uO "bool" (pV 0)) (p2 vA (pV 0) (pV 1)))))
 jA)
 (jL (sIf (dPT (jj (uO "int" (pV 1)))) (yK (dP (zD (uO "int" (pV 0)) (zD (jjx (uO "bool" (pV 0))) (p2 vA (pV 0) (pV 1))))))
 jA)
 (jL (sIf (dPT (jj (uO "str" (pV 1)))) (yK (dP (zD (uO "str" (pV 0)) (p2 vA (pV 0) (pV 1)))))
 jA)
 (jL (sIf (dPT (VX (jj (uO "tuple" (pV 1))) (wo (jj (uO "tuple" (pV 0)))))) (yK (dP (pC (.bl false))))
 jA)
 (jL (sIf (dPT (VX (jj (uO "list" (pV 1))) (wo (jj (uO "list" (pV 0)))))) (yK (dP (pC (.bl false))))
 jA)
 (jL (sIf (dPT (jj (p2 vX (pCB Jq (jb (pV 0) pN)) (pCB Jq (jb (pV 1) pN))))) (yK (dP (pC (.bl false))))
 jA)
 (jL (wn (K1 (jb (pCB Jq (jb (pV 1) pN)) pN)) (jS [] 2) (kX yV))
 (yK (dP (pC (.bl true))))))))))))
noncomputable def yf:Nat->List D->Option D
 | 0=>λ_=>none
 | n+1=>fnP 3 (v9 (yf n))
noncomputable def yV:List D->Option D:=yf 8
noncomputable def jf9:FS:=(jL (y9 (dP (j7 vI (jb (j7 v5 (jb (pV 0) (jb (pC (.int 1)) pN))) (jb (pC (.int 40)) pN)))) (jS [] 1))
 (jL (sFz 1 (y9 (dP (j7 Yk (jb (pV 0) (jb (pV 1) pN)))) (jS [] 2)))
 (jL (sFz 2 (y9 (dP (j7 kH (jb (pV 2) pN))) (jS [] 3)))
 (jL (y9 (dP (pC .non)) (jS [] 4))
 (jL (y9 (dP (pC .non)) (jS [] 5))
 (jL (jck vQ yS 6 4 5 6 (jb (pBM "str" xV (pC (.str [10])) (jb (J1 (jcy (pV 2)) (jS [] 0) qT (pBM "str" xV (pC (.str [32])) (jb (J1 (jcy (pV 0)) (jS [] 0) qT (pCB je6 (jb (pV 0) pN)) [none]) pN)) [none]) pN)) pN))
 (jL (sIf (dPT (jj (p2 vA (p2 jF (pV 3) (pC (.int 0))) (pC (.str []))))) (yK (dP (zD (p2 YV (pV 5) (pC .non)) (j7 yV (jb (pV 4) (jb (p2 jF (pV 3) (pC (.int 1))) pN))))))
 jA)
 (jL (sIf (dPT (qOr (jj (p2 kj (pV 4) (pC .non))) (jj (p2 vX (j7 Kg (jb (pV 5) pN)) (p2 jF (pV 3) (pC (.int 0))))))) (yK (dP (pC (.bl false))))
 jA)
 (yK (dP (j7 yV (jb (jbj 6 (pV 5)) (jb (p2 jF (pV 3) (pC (.int 1))) pN)))))))))))))
noncomputable def jaB:List D->Option D:=fnP 7 jf9
noncomputable abbrev jgV:Stmt:=Kf (top 1) 0
theorem jhq:FnScope ["self","words","place"] ["self","words","place"] (jh jgV):=fsc
structure Txt(P:Program)(w:World)(K:PySem.W.Frag)(mg:Str->Option Value)(cl:Nat->Addr)(jv:Addr)(t_LONGEST_NAME:Tok)(jm:Addr)(t_LETTERS:Tok)(t_LONGEST_NUMBER:Tok)(t_FIGURES:Tok)(t_MOST_DEBTS:Tok)(t_MOST_DAYS:Tok)(t_MOST_EVENTS:Tok)(jl:Addr)(jE:Addr)(b_FORMS_0:Addr)(b_FORMS_1:Addr)(b_FORMS_2:Addr)(b_FORMS_3:Addr)(b_FORMS_4:Addr)(jK:Addr)(x_Unguarded:Addr)(x_DealError:Addr):Prop where
 c_EVENTS:mg "EVENTS" = some (.ref jv)
 r_EVENTS:∀(cl:Nat->Addr) (Z:Zn) (H:Hp),Rep ⟨K,cl⟩ Z H vG (.ref jv) []
 c_LONGEST_NAME:mg "LONGEST_NAME" = some (.int 8 t_LONGEST_NAME)
 c_KEYWORDS:mg "KEYWORDS" = some (.ref jm)
 r_KEYWORDS:∀(cl:Nat->Addr) (Z:Zn) (H:Hp),Rep ⟨K,cl⟩ Z H YB (.ref jm) []
 c_LETTERS:mg "LETTERS" = some (.str "abcdefghijklmnopqrstuvwxyz" t_LETTERS)
 c_LONGEST_NUMBER:mg "LONGEST_NUMBER" = some (.int 13 t_LONGEST_NUMBER)
 c_FIGURES:mg "FIGURES" = some (.str "0123456789" t_FIGURES)
 c_MOST_DEBTS:mg "MOST_DEBTS" = some (.int 30 t_MOST_DEBTS)
 c_MOST_DAYS:mg "MOST_DAYS" = some (.int 12 t_MOST_DAYS)
 c_MOST_EVENTS:mg "MOST_EVENTS" = some (.int 60 t_MOST_EVENTS)
 c_GREATEST:mg "GREATEST" = some (.ref jl)
 k_GREATEST:KD P w K jl ((ks_GREATEST.map kaV).zip [.int 1000000000000,.int 10,.int 9,.int 60,.int 30])
 r_GREATEST:∀(cl:Nat->Addr) (Z:Zn) (H:Hp),Reps ⟨K,cl⟩ Z H Yv [.int 1000000000000,.int 10,.int 9,.int 60,.int 30] []
 c_FORMS:mg "FORMS" = some (.ref jE)
 k_FORMS:KD P w K jE ((ks_FORMS.map kaV).zip [.ref b_FORMS_0,.ref b_FORMS_1,.ref b_FORMS_2,.ref b_FORMS_3,.ref b_FORMS_4])
 r_FORMS:∀(cl:Nat->Addr) (Z:Zn) (H:Hp),Reps ⟨K,cl⟩ Z H qu [.ref b_FORMS_0,.ref b_FORMS_1,.ref b_FORMS_2,.ref b_FORMS_3,.ref b_FORMS_4] []
 C0:Cls K (cl 6)
 mk0:PySem.W.makesIn K (cl 6)=true
 kc0:PySem.W.keepIn K (.ref (cl 6))=true
 mg0:mg "DebtsDraft" = some (.ref (cl 6))
 N_debts:NoAttr K (cl 6) "debts"
 N_events:NoAttr K (cl 6) "events"
 n_ValueError:mg "ValueError" = none
 n_all:mg "all" = none
 n_bool:mg "bool" = none
 n_enumerate:mg "enumerate" = none
 n_int:mg "int" = none
 n_isinstance:mg "isinstance" = none
 n_len:mg "len" = none
 n_list:mg "list" = none
 n_max:mg "max" = none
 n_min:mg "min" = none
 n_range:mg "range" = none
 n_str:mg "str" = none
 n_tuple:mg "tuple" = none
 n_zip:mg "zip" = none
 g_Unfinished:mg "Unfinished" = some (.ref (cl 2))
 g_Misplaced:mg "Misplaced" = some (.ref (cl 1))
 g_BadRow:mg "BadRow" = some (.ref (cl 0))
 g_TooMany:mg "TooMany" = some (.ref (cl 5))
 g_NoName:mg "NoName" = some (.ref (cl 4))
 g_Twice:mg "Twice" = some (.ref (cl 3))
 g_Unguarded:mg "Unguarded" = some (.ref x_Unguarded)
 g_DealError:mg "DealError" = some (.ref x_DealError)
 ini_BadRow:Ini P w K mg (cl 0) jK
 ini_Misplaced:Ini P w K mg (cl 1) jK
 ini_Unfinished:Ini P w K mg (cl 2) jK
 ini_Twice:Ini P w K mg (cl 3) jK
 ini_NoName:Ini P w K mg (cl 4) jK
 ini_TooMany:Ini P w K mg (cl 5) jK
 XD:XC K x_DealError
 sub0:∀ c,c < 6->XC K (cl c)/\PySem.W.subIn K (.ref (cl c)) (.ref x_DealError)=some true
 pl0:∀ c,c < 6->XC K (cl c)/\NoAttr K (cl c) "place"
 i_Unfinished:K2 K cl (.ref (cl 2)) [false,false,true,false,false,false]
 i_Misplaced:K2 K cl (.ref (cl 1)) [false,true,false,false,false,false]
 i_BadRow:K2 K cl (.ref (cl 0)) [true,false,false,false,false,false]
 i_TooMany:K2 K cl (.ref (cl 5)) [false,false,false,false,false,true]
 i_NoName:K2 K cl (.ref (cl 4)) [false,false,false,false,true,false]
 i_Twice:K2 K cl (.ref (cl 3)) [false,false,false,true,false,false]
 i_Unguarded:K2 K cl (.ref x_Unguarded) [false,false,false,false,false,false]
 i_DealError:K2 K cl (.ref x_DealError) [true,true,true,true,true,true]
 i_ValueError:K2 K cl (.ty "ValueError") [true,true,true,true,true,true]
section
variable (P:Program)(w:World)(K:PySem.W.Frag)(mg:Str->Option Value)(cl:Nat->Addr)
noncomputable abbrev xk:Prop:=OkF P w K mg "words_in" Yb 1 J9 (spP ⟨K,cl⟩ qf 1)
noncomputable abbrev V4:Prop:=OkF P w K mg "has_only" Yu 1 Yi (spP ⟨K,cl⟩ Jb 2)
noncomputable abbrev kF:Prop:=OkM P w K mg (cl 6) "__init__" "DebtsDraft.__init__" yx 1 yy (spM ⟨K,cl⟩ jX 1 0)
noncomputable abbrev vg:Prop:=OkM P w K mg (cl 6) "has_debt" "DebtsDraft.has_debt" yE 1 yF (spP ⟨K,cl⟩ jC 2)
noncomputable abbrev j8:Prop:=OkP P w K mg cl (cl 6) "last_plan" "DebtsDraft.last_plan" yo 1 yq (spP ⟨K,cl⟩ jI 1) jT
noncomputable abbrev YU:Prop:=OkF P w K mg "is_misplaced" ku 1 kx (spP ⟨K,cl⟩ jz 2)
noncomputable abbrev Kr:Prop:=OkF P w K mg "_law_cell" J8 1 YD (spP ⟨K,cl⟩ v5 2)
noncomputable abbrev Jk:Prop:=OkF P w K mg "_law_mixed" Jh 1 Jv (spP ⟨K,cl⟩ vM 2)
noncomputable abbrev QH:Prop:=OkF P w K mg "_law_coins" JC 1 Jw (spP ⟨K,cl⟩ JD 3)
noncomputable abbrev xn:Prop:=OkF P w K mg "_law_kind" Yh 1 YC (spP ⟨K,cl⟩ Kg 1)
noncomputable abbrev xl:Prop:=OkF P w K mg "_law_many" Yg 1 Yl (spP ⟨K,cl⟩ ko 2)
noncomputable abbrev wG:Prop:=OkF P w K mg "_law_bad" VN 1 VF (spP ⟨K,cl⟩ jG 1)
noncomputable abbrev wV:Prop:=OkF P w K mg "is_name" VZ 2 VQ (spP ⟨K,cl⟩ VO 1)
noncomputable abbrev Qi:Prop:=OkF P w K mg "number_in" Ju 2 JB (spP ⟨K,cl⟩ j4 1)
noncomputable abbrev yU:Prop:=OkM P w K mg (cl 6) "lacks_plan" "DebtsDraft.lacks_plan" yg 2 yi (spP ⟨K,cl⟩ jn 1)
noncomputable abbrev kK:Prop:=OkM P w K mg (cl 6) "take_row" "DebtsDraft.take_row" yH 2 yz (spM ⟨K,cl⟩ jt 2 0)
noncomputable abbrev xx:Prop:=OkF P w K mg "is_twice" Yx 2 Yw (spP ⟨K,cl⟩ jY 2)
noncomputable abbrev qX:Prop:=OkF P w K mg "is_one_too_many" vz 2 vv (spP ⟨K,cl⟩ ju 2)
noncomputable abbrev Q7:Prop:=OkF P w K mg "_law_names" Jt 2 JF (spP ⟨K,cl⟩ vI 2)
noncomputable abbrev ud:Prop:=OkF P w K mg "_law_row" Vv 2 Vq (spP ⟨K,cl⟩ jQ 4)
noncomputable abbrev Qz:Prop:=OkF P w K mg "_law_fault" JA 2 Jo (spP ⟨K,cl⟩ j5 4)
noncomputable abbrev xz:Prop:=OkF P w K mg "value_in" Ym 3 Yp (spP ⟨K,cl⟩ j9 2)
noncomputable abbrev KP:Prop:=OkB P w K mg "refuse_row" qJ 3 qK (spP ⟨K,cl⟩ yO 3) (spR ⟨K,cl⟩ j0 3)
noncomputable abbrev xp:Prop:=OkF P w K mg "_law_rows" Yy 3 Yd (spP ⟨K,cl⟩ Yk 2)
noncomputable abbrev wQ:Prop:=OkF P w K mg "_law_due" Vr 3 VS (spP ⟨K,cl⟩ kH 1)
noncomputable abbrev zS:Prop:=OkB P w K mg "row_told" YA 4 Yn (spP ⟨K,cl⟩ Yq 3) (spR ⟨K,cl⟩ yn 3)
noncomputable abbrev VG:Prop:=OkB P w K mg "debt_row_of" kW 5 qc (spP ⟨K,cl⟩ ya 2) (spR ⟨K,cl⟩ jP 2)
noncomputable abbrev KY:Prop:=OkB P w K mg "read_debts" qH 6 qF (spP ⟨K,cl⟩ vQ 1) (spR ⟨K,cl⟩ yS 1)
noncomputable abbrev zp:Prop:=OkF P w K mg "_law_alike" JH 8 qr (spP ⟨K,cl⟩ yV 2)
noncomputable abbrev jnl:Prop:=OkF P w K mg "law" zO 9 jfW (spP ⟨K,cl⟩ jaB 1)
end
section
variable {P:Program}{w:World}{K:PySem.W.Frag}{mg:Str->Option Value}{cl:Nat->Addr}{jv:Addr}{t_LONGEST_NAME:Tok}{jm:Addr}{t_LETTERS:Tok}{t_LONGEST_NUMBER:Tok}{t_FIGURES:Tok}{t_MOST_DEBTS:Tok}{t_MOST_DAYS:Tok}{t_MOST_EVENTS:Tok}{jl:Addr}{jE:Addr}{b_FORMS_0:Addr}{b_FORMS_1:Addr}{b_FORMS_2:Addr}{b_FORMS_3:Addr}{b_FORMS_4:Addr}{jK:Addr}{x_Unguarded:Addr}{x_DealError:Addr}
theorem jaz(T:Txt P w K mg cl jv t_LONGEST_NAME jm t_LETTERS t_LONGEST_NUMBER t_FIGURES t_MOST_DEBTS t_MOST_DAYS t_MOST_EVENTS jl jE b_FORMS_0 b_FORMS_1 b_FORMS_2 b_FORMS_3 b_FORMS_4 jK x_Unguarded x_DealError):kM K mg "words_in" Yb J9->xk P w K mg cl:=by
 intro a;obtain⟨_,_,F⟩:=a;exact⟨_,_,F,λbase=>vY F.fn Qk rfl λb A outer s H E c=>⟨_,show QSs _ _ _ _ _ V7 from
  (jf (jq (QP.d (Vl (bkF Qk ["word"]) rfl (Qs (QP.bb (jjz PySem.F.plainAttrs_str PySem.F.slot_str_split PySem.F.type_str_split xI wc (ja 0) (jd (QP.bb qS) jk)))) cgN (λ_ _ _ _=>(jf5 (jr (QK.c_ne (K:=K) rfl c) (ja 0) (QP.bb qS)))) (λ_ _ _ _=>(QB.f (ja 0)))))))⟩⟩
theorem jaL(T:Txt P w K mg cl jv t_LONGEST_NAME jm t_LETTERS t_LONGEST_NUMBER t_FIGURES t_MOST_DEBTS t_MOST_DAYS t_MOST_EVENTS jl jE b_FORMS_0 b_FORMS_1 b_FORMS_2 b_FORMS_3 b_FORMS_4 jK x_Unguarded x_DealError):kM K mg "has_only" Yu Yi->V4 P w K mg cl:=by
 intro a;obtain⟨_,_,F⟩:=a;exact⟨_,_,F,λbase=>vY F.fn zc rfl λb A outer s H E c=>⟨_,show QSs _ _ _ _ _ V8 from
  (jf (jq (QP.d (QA (jga rfl) jkR T.n_all jcR (jd (QP.bb (Vl (bkF zc ["sign","signs"]) rfl (Qs (ja 0)) cgN jjB (λ_ _ _ _=>(kU (QK.c_in (K:=K) rfl (by with_unfolding_all rfl)) (ja 0) (ja 1))))) jk)))))⟩⟩
theorem JL(T:Txt P w K mg cl jv t_LONGEST_NAME jm t_LETTERS t_LONGEST_NUMBER t_FIGURES t_MOST_DEBTS t_MOST_DAYS t_MOST_EVENTS jl jE b_FORMS_0 b_FORMS_1 b_FORMS_2 b_FORMS_3 b_FORMS_4 jK x_Unguarded x_DealError):jcx K (cl 6) "__init__" "DebtsDraft.__init__" yx yy->kF P w K mg cl:=by
 intro a;obtain⟨_,_,F⟩:=a;exact⟨_,_,F,λbase=>jgE F.fn JK rfl λb A outer s H E c=>⟨_,show QSs _ _ _ _ _ vn from
  (jc (jgQ T.C0 T.N_debts (ja 0) (yt js))
  (jf (jgQ T.C0 T.N_events (ja 0) (yt js))))⟩⟩
theorem JP(T:Txt P w K mg cl jv t_LONGEST_NAME jm t_LETTERS t_LONGEST_NUMBER t_FIGURES t_MOST_DEBTS t_MOST_DAYS t_MOST_EVENTS jl jE b_FORMS_0 b_FORMS_1 b_FORMS_2 b_FORMS_3 b_FORMS_4 jK x_Unguarded x_DealError):jcx K (cl 6) "has_debt" "DebtsDraft.has_debt" yE yF->vg P w K mg cl:=by
 intro a;obtain⟨_,_,F⟩:=a;exact⟨_,_,F,λbase=>vY F.fn vZ rfl λb A outer s H E c=>⟨_,show QSs _ _ _ _ _ vo from
  (jf (jq (QP.d (kU (c_in (by with_unfolding_all rfl)) (ja 1) (QP.bb (Vl (bkF vZ ["debt"]) rfl (Qs (uW T.C0 T.N_debts (ja 0))) cgN jjB (λ_ _ _ _=>(QB.f (QK.ix (K:=K) rfl (ja 0) qI)))))))))⟩⟩
theorem Jj(T:Txt P w K mg cl jv t_LONGEST_NAME jm t_LETTERS t_LONGEST_NUMBER t_FIGURES t_MOST_DEBTS t_MOST_DAYS t_MOST_EVENTS jl jE b_FORMS_0 b_FORMS_1 b_FORMS_2 b_FORMS_3 b_FORMS_4 jK x_Unguarded x_DealError):jcx K (cl 6) "last_plan" "DebtsDraft.last_plan" yo yq->j8 P w K mg cl:=by
 intro b;obtain⟨_,_,F⟩:=b;exact⟨_,_,F,λbase=>⟨vY F.fn vW rfl λa A outer s H E c=>⟨_,show QSs _ _ _ _ _ y4 from
  (jf (jq (QP.d (QB.f (yM (yM (uW T.C0 T.N_debts (ja 0)) (QP.bb (uG qI))) qI)))))⟩,joi (L:=jT) F.fn vW rfl rfl (jge (R:=⟨K,cl⟩) (j:=2) (λq=>q) (jge (R:=⟨K,cl⟩) (j:=-1) (λq=>⟨_,rfl,q⟩) (jgx (R:=⟨K,cl⟩) T.C0 T.N_debts jgu))) (λa A outer s H E c=>Qf (jc5 ((jkX (z:=2) (jgA (z:=1) (jdr T.C0 T.N_debts (uy (ja 0)))))).sem))⟩⟩
theorem Qn(T:Txt P w K mg cl jv t_LONGEST_NAME jm t_LETTERS t_LONGEST_NUMBER t_FIGURES t_MOST_DEBTS t_MOST_DAYS t_MOST_EVENTS jl jE b_FORMS_0 b_FORMS_1 b_FORMS_2 b_FORMS_3 b_FORMS_4 jK x_Unguarded x_DealError):kM K mg "is_misplaced" ku kx->YU P w K mg cl:=by
 intro b;obtain⟨_,_,F⟩:=b;exact⟨_,_,F,λbase=>vY F.fn Q3 rfl λc A outer s H E a=>⟨_,show QSs _ _ _ _ _ yj from
  (jc (jR (jr (c_in (by with_unfolding_all rfl)) (ja 1) (QP.bb (jmc vG T.c_EVENTS (T.r_EVENTS cl)))) (jf (jq (QP.d jcv)))
  ji)
  (jc (jR (jr jke (QP.bb (km T.n_len (jd (uW T.C0 T.N_events (ja 0)) jk))) qI) (jf (jq (QP.d jcv)))
  ji)
  (jf (jq (QP.d (zh (QP.bb (kU (qC a) (ja 1) (QP.bb qS))) (Qt (kU (qC a) (QP.bb (km T.n_len (jd (uW T.C0 T.N_debts (ja 0)) jk))) qI))))))))⟩⟩
theorem jaU(T:Txt P w K mg cl jv t_LONGEST_NAME jm t_LETTERS t_LONGEST_NUMBER t_FIGURES t_MOST_DEBTS t_MOST_DAYS t_MOST_EVENTS jl jE b_FORMS_0 b_FORMS_1 b_FORMS_2 b_FORMS_3 b_FORMS_4 jK x_Unguarded x_DealError):kM K mg "_law_cell" J8 YD->Kr P w K mg cl:=by
 intro a;obtain⟨_,_,F⟩:=a;exact⟨_,_,F,λbase=>vY F.fn jap rfl λb A outer s H E c=>⟨_,show QSs _ _ _ _ _ Yz from
  (jc (jR (jr jgX (ja 1) (QP.bb (km T.n_len (jd (ja 0) jk)))) (jf (jq (QP.d (QB.f (yM (ja 0) (ja 1))))))
  ji)
  (jf (jq (QP.d Vx))))⟩⟩
theorem wM(T:Txt P w K mg cl jv t_LONGEST_NAME jm t_LETTERS t_LONGEST_NUMBER t_FIGURES t_MOST_DEBTS t_MOST_DAYS t_MOST_EVENTS jl jE b_FORMS_0 b_FORMS_1 b_FORMS_2 b_FORMS_3 b_FORMS_4 jK x_Unguarded x_DealError):kM K mg "_law_mixed" Jh Jv->Jk P w K mg cl:=by
 intro a;obtain⟨_,_,F⟩:=a;exact⟨_,_,F,λbase=>vY F.fn KJ rfl λb A outer s H E c=>⟨_,show QSs _ _ _ _ _ Y4 from
  (jc (jJ KJ.nd (QP.d (yR (QP.bb (v8 (QP.bb (xW (QP.bb (yR (ja 0) qI)) qI)) (QP.bb (xW (QP.bb (v8 (QP.bb (v8 (QP.bb (xW (ja 1) (ja 1))) (QP.bb (xW qI (ja 1))))) qI)) qI)))) qI)))
  (jf (jq (QP.d (yR (QP.bb (xW (ja 2) (ja 2))) qI)))))⟩⟩
theorem ur(T:Txt P w K mg cl jv t_LONGEST_NAME jm t_LETTERS t_LONGEST_NUMBER t_FIGURES t_MOST_DEBTS t_MOST_DAYS t_MOST_EVENTS jl jE b_FORMS_0 b_FORMS_1 b_FORMS_2 b_FORMS_3 b_FORMS_4 jK x_Unguarded x_DealError):kM K mg "_law_coins" JC Jw->QH P w K mg cl:=by
 intro b;obtain⟨_,_,F⟩:=b;exact⟨_,_,F,λbase=>vY F.fn uh rfl λc A outer s H E a=>⟨_,show QSs _ _ _ _ _ Y5 from
  (jc (jR (jr (qC a) (QP.bb (yR (ja 1) qI)) qI) (jf (jq (QP.d Vx)))
  ji)
  (jc (jR (jr (qC a) (QP.bb (yR (ja 1) qI)) qI) (jf (jq (QP.d (QB.f (ja 2)))))
  ji)
  (jc (jR (jr (qC a) (QP.bb (yR (ja 1) qI)) qI) (jf (jq (QP.d (v8 qI (QP.bb (yR (ja 0) qI))))))
  ji)
  (jc (jR (jr (qC a) (QP.bb (yR (ja 1) qI)) qI) (jf (jq (QP.d (v8 qI (QP.bb (yR (ja 0) (ja 2)))))))
  ji)
  (jf (jq (QP.d (v8 qI (QP.bb (yR (QP.bb (xW (QP.bb (xW (QP.bb (v8 (QP.bb (yR (ja 0) (ja 2))) qI)) (QP.bb (v8 (ja 1) qI)))) qI)) (ja 2)))))))))))⟩⟩
theorem jal(T:Txt P w K mg cl jv t_LONGEST_NAME jm t_LETTERS t_LONGEST_NUMBER t_FIGURES t_MOST_DEBTS t_MOST_DAYS t_MOST_EVENTS jl jE b_FORMS_0 b_FORMS_1 b_FORMS_2 b_FORMS_3 b_FORMS_4 jK x_Unguarded x_DealError):kM K mg "_law_kind" Yh YC->xn P w K mg cl:=by
 intro a;obtain⟨_,_,F⟩:=a;exact⟨_,_,F,λbase=>vY F.fn Y3 rfl λb A outer s H E c=>⟨_,show QSs _ _ _ _ _ xv from
  (jc (jJ Y3.nd (QP.d (yt (je (uf T.n_isinstance T.g_BadRow T.i_BadRow (ja 0)) (je (uf T.n_isinstance T.g_Misplaced T.i_Misplaced (ja 0)) (je (uf T.n_isinstance T.g_Unfinished T.i_Unfinished (ja 0)) js))))))
  (jc (jJ Y3.nd (QP.d (v8 (ja 1) (QP.bb (yt (je (uf T.n_isinstance T.g_Twice T.i_Twice (ja 0)) (je (uf T.n_isinstance T.g_NoName T.i_NoName (ja 0)) (je (uf T.n_isinstance T.g_TooMany T.i_TooMany (ja 0)) js))))))))
  (jc (Vp (ja 1) (uf T.n_isinstance T.g_Unguarded T.i_Unguarded (ja 0)))
  (jc (jR (QW.t (wF (J3 (yP (QP.bb (uf T.n_isinstance T.g_DealError T.i_DealError (ja 0))))) (wF (J3 (yP (QP.bb (jle T.n_isinstance T.n_ValueError vbo T.i_ValueError (ja 0))))) (Qx (jr (c_ne c) (QP.bb (jnL PySem.F.slot_list_count PySem.F.type_list_count jcE jeI (ja 1) (jd (QP.bb jcv) jk))) qI))))) (jf (jq (QP.d qS)))
  ji)
  (jf (jq (QP.d (QB.f (yM (QP.bb (yt (je qS (je qS (je qS (je qS (je qS (je qS (je qS js))))))))) (QP.bb (jnL PySem.F.slot_list_index PySem.F.type_list_index jd8 jek (ja 1) (jd (QP.bb jcv) jk))))))))))))⟩⟩
theorem u9(T:Txt P w K mg cl jv t_LONGEST_NAME jm t_LETTERS t_LONGEST_NUMBER t_FIGURES t_MOST_DEBTS t_MOST_DAYS t_MOST_EVENTS jl jE b_FORMS_0 b_FORMS_1 b_FORMS_2 b_FORMS_3 b_FORMS_4 jK x_Unguarded x_DealError):kM K mg "_law_many" Yg Yl->xl P w K mg cl:=by
 intro b;obtain⟨_,_,F⟩:=b;exact⟨_,_,F,λbase=>vY F.fn kh rfl λc A outer s H E a=>⟨_,show QSs _ _ _ _ _ qZ from
  (jc (jJ kh.nd (QP.d (yt js)))
  (jc (jR (jr (qC a) (QP.bb (yR (ja 0) qI)) qI) (jc (QN PassesOwn.never rfl (Vk T.n_range (jd (QP.bb (v8 qI (QP.bb (yR (QP.bb (qw (ja 0) qI)) qI)))) jk)) (y3 kh.nd)
  (jf (jiW (ja 2) (yt (je (yt (je qS (je (QB.f (yM (ja 1) (QP.bb (v8 (ja 3) qI)))) (je (QB.f (yM (ja 1) qI)) js)))) (je (yt (je qS (je (v8 qI (ja 3)) (je Vx js)))) js))))))
  (jf (jq (jkg 2))))
  ji)
  (jc (jJ kh.nd (QP.d (yt (je (yt (je qS (je (QB.f (yM (ja 1) qI)) (je (QB.f (yM (ja 1) qI)) js)))) js))))
  (jc (jR (jr (qC a) (QP.bb (yR (ja 0) qI)) qI) (jf (QS.fz 2 (jq (QP.d (v8 (ja 2) (QP.fzb (Vl (bkF kh ["_law_k"]) rfl (QI.b' (Vk T.n_range (jd (QP.bb (v8 qI (QP.bb (yR (QP.bb (qw (ja 0) qI)) qI)))) jk))) cgN jjB (λ_ _ _ _=>(yt (je qS (je (QK.add (K:=K) rfl qI (ja 0)) (je Vx js))))))))))))
  ji)
  (jc (Vp (ja 2) (yt (je qS (je Vx (je Vx js)))))
  (jf (QS.fz 2 (jq (QP.d (v8 (ja 2) (QP.fzb (Vl (bkF kh ["_law_k","_law_names_here"]) rfl (QI.b' (Vk T.n_range (jd (QP.bb (v8 qI (QP.bb (yR (QP.bb (qw (ja 0) qI)) qI)))) jk))) cgN jjB (λ_ _ _ _=>(yt (je qS (je (QB.f (QK.ix (K:=K) rfl (ja 1) qI)) (je (QK.add (K:=K) rfl qI (QP.bb (yR (ja 0) qI))) js)))))))))))))))))⟩⟩
theorem jb9(T:Txt P w K mg cl jv t_LONGEST_NAME jm t_LETTERS t_LONGEST_NUMBER t_FIGURES t_MOST_DEBTS t_MOST_DAYS t_MOST_EVENTS jl jE b_FORMS_0 b_FORMS_1 b_FORMS_2 b_FORMS_3 b_FORMS_4 jK x_Unguarded x_DealError):kM K mg "_law_bad" VN VF->wG P w K mg cl:=by
 intro b;obtain⟨_,_,F⟩:=b;exact⟨_,_,F,λbase=>vY F.fn jcn rfl λc A outer s H E a=>⟨_,show QSs _ _ _ _ _ vh from
  (jc (jR (jr (qC a) (yM (ja 0) qI) (QP.bb qS)) (jf (jq (QP.d (kU (c_ne a) (QP.bb (km T.n_len (jd (ja 0) jk))) qI))))
  ji)
  (jc (jR (jr (qC a) (yM (ja 0) qI) (QP.bb qS)) (jf (jq (QP.d (kU jgX (yM (ja 0) qI) qI))))
  ji)
  (jf (jq (QP.d (job (QP.bb (kU jke (yM (ja 0) qI) qI)) (Qt (zh (QP.bb (kU (qC a) (QP.bb (km T.n_len (jd (ja 0) jk))) qI)) (Qt (kU jke (yM (ja 0) qI) qI))))))))))⟩⟩
theorem jbK(T:Txt P w K mg cl jv t_LONGEST_NAME jm t_LETTERS t_LONGEST_NUMBER t_FIGURES t_MOST_DEBTS t_MOST_DAYS t_MOST_EVENTS jl jE b_FORMS_0 b_FORMS_1 b_FORMS_2 b_FORMS_3 b_FORMS_4 jK x_Unguarded x_DealError):kM K mg "is_name" VZ VQ->V4 P w K mg cl->wV P w K mg cl:=by
 intro a b;obtain⟨_,_,F⟩:=a;obtain⟨_,_,c,e⟩:=b;exact⟨_,_,F,λbase=>vY F.fn jbO rfl λf A outer s H E g=>⟨_,show QSs _ _ _ _ _ zf from
  (jc (jR (J3 (xY jgF jgF qI (QP.bb (km T.n_len (jd (ja 0) jk))) (QP.bb (jlx T.c_LONGEST_NAME)))) (jf (jq (QP.d jcv)))
  ji)
  (jf (jq (QP.d (zh (QP.bb (yd c (e _) (g.mono (by decide)) (jd (ja 0) (jd (QP.bb (jnK [97,98,99,100,101,102,103,104,105,106,107,108,109,110,111,112,113,114,115,116,117,118,119,120,121,122] T.c_LETTERS (by decide +kernel))) jk)))) (Qt (kU (jcX (by with_unfolding_all rfl)) (ja 0) (QP.bb (jmc YB T.c_KEYWORDS (T.r_KEYWORDS cl))))))))))⟩⟩
theorem wJ(T:Txt P w K mg cl jv t_LONGEST_NAME jm t_LETTERS t_LONGEST_NUMBER t_FIGURES t_MOST_DEBTS t_MOST_DAYS t_MOST_EVENTS jl jE b_FORMS_0 b_FORMS_1 b_FORMS_2 b_FORMS_3 b_FORMS_4 jK x_Unguarded x_DealError):kM K mg "number_in" Ju JB->V4 P w K mg cl->Qi P w K mg cl:=by
 intro b c;obtain⟨_,_,F⟩:=b;obtain⟨_,_,e,f⟩:=c;exact⟨_,_,F,λbase=>vY F.fn uv rfl λg A outer s H E a=>⟨_,show QSs _ _ _ _ _ ve from
  (jc (jR (QW.t (wF (J3 (xY jgF jgF qI (QP.bb (km T.n_len (jd (ja 0) jk))) (QP.bb (jlx T.c_LONGEST_NUMBER)))) (Qx (J3 (yP (QP.bb (yd e (f _) (a.mono (by decide)) (jd (ja 0) (jd (QP.bb (jnK [48,49,50,51,52,53,54,55,56,57] T.c_FIGURES (by decide +kernel))) jk))))))))) (jf (jq (QP.d JG)))
  ji)
  (jc (jR (QW.t (kP (jr (qC a) (yM (ja 0) qI) (QP.bb qS)) (vB (jr (c_ne a) (ja 0) (QP.bb qS))))) (jf (jq (QP.d JG)))
  ji)
  (jf (jq (QP.d (xL jeB jjR T.n_int QM (jd (ja 0) jk)))))))⟩⟩
theorem Jc(T:Txt P w K mg cl jv t_LONGEST_NAME jm t_LETTERS t_LONGEST_NUMBER t_FIGURES t_MOST_DEBTS t_MOST_DAYS t_MOST_EVENTS jl jE b_FORMS_0 b_FORMS_1 b_FORMS_2 b_FORMS_3 b_FORMS_4 jK x_Unguarded x_DealError):jcx K (cl 6) "lacks_plan" "DebtsDraft.lacks_plan" yg yi->j8 P w K mg cl->yU P w K mg cl:=by
 intro b c;obtain⟨_,_,F⟩:=b;obtain⟨_,_,e,f⟩:=c;exact⟨_,_,F,λbase=>vY F.fn Je rfl λg A outer s H E a=>⟨_,show QSs _ _ _ _ _ yh from
  (jf (jq (QP.d (zh (QP.bb (kU jke (QP.bb (km T.n_len (jd (uW T.C0 T.N_debts (ja 0)) jk))) qI)) (Qt (kU (qC a) (QP.bb (km T.n_len (jd (QP.bb (Y6 T.C0 e (f _).1 (a.mono (by decide)) (ja 0))) jk))) qI))))))⟩⟩
theorem JM(T:Txt P w K mg cl jv t_LONGEST_NAME jm t_LETTERS t_LONGEST_NUMBER t_FIGURES t_MOST_DEBTS t_MOST_DAYS t_MOST_EVENTS jl jE b_FORMS_0 b_FORMS_1 b_FORMS_2 b_FORMS_3 b_FORMS_4 jK x_Unguarded x_DealError):jcx K (cl 6) "take_row" "DebtsDraft.take_row" yH yz->j8 P w K mg cl->kK P w K mg cl:=by
 intro c d;obtain⟨_,_,F⟩:=c;obtain⟨_,_,e,g⟩:=d;exact⟨_,_,F,λbase=>by
  obtain⟨a,h,i⟩:=(g base).2;exact jgE F.fn JN rfl λj A outer s H E b=>⟨_,show QSs _ _ _ _ _ yc from
  (jf (jR (jr (qC b) (yM (ja 1) qI) (QP.bb qS)) (jf (xF (jdr T.C0 T.N_debts (uy (ja 0))) (wO (je (QB.f (yM (ja 1) qI)) (je (QB.f (yM (ja 1) qI)) (je (yt js) js))))))
  (jf (jR (jr (qC b) (yM (ja 1) qI) (QP.bb qS)) (jf (xF (jha T.C0 e h i (b.mono (by decide)) (uy (ja 0))) (wO (je (QB.f (yM (ja 1) qI)) (je (QB.f (yM (ja 1) qI)) js)))))
  (jf (xF (jdr T.C0 T.N_events (uy (ja 0))) (xL VR ja1 T.n_tuple JI (jd (ja 1) jk))))))))⟩⟩
theorem uX(T:Txt P w K mg cl jv t_LONGEST_NAME jm t_LETTERS t_LONGEST_NUMBER t_FIGURES t_MOST_DEBTS t_MOST_DAYS t_MOST_EVENTS jl jE b_FORMS_0 b_FORMS_1 b_FORMS_2 b_FORMS_3 b_FORMS_4 jK x_Unguarded x_DealError):kM K mg "is_twice" Yx Yw->vg P w K mg cl->j8 P w K mg cl->xx P w K mg cl:=by
 intro b c e;obtain⟨_,_,F⟩:=b;obtain⟨_,_,f,g⟩:=c;obtain⟨_,_,h,i⟩:=e;exact⟨_,_,F,λbase=>vY F.fn zr rfl λj A outer s H E a=>⟨_,show QSs _ _ _ _ _ vw from
  (jc (jR (jr (qC a) (yM (ja 1) qI) (QP.bb qS)) (jf (jq (QP.d (jcO T.C0 f (g _) (a.mono (by decide)) (ja 0) (jd (yM (ja 1) qI) jk)))))
  ji)
  (jc (jR (jr (qC a) (yM (ja 1) qI) (QP.bb qS)) (jc (jJ zr.nd (QP.d (Y6 T.C0 h (i _).1 (a.mono (by decide)) (ja 0))))
  (jf (jq (QP.d (zh (QP.bb (kU jke (QP.bb (km T.n_len (jd (ja 2) jk))) qI)) (Qt (kU jgF (yM (ja 1) qI) (yM (yM (ja 2) (QP.bb (uG qI))) qI))))))))
  ji)
  (jf (jq (QP.d jcv)))))⟩⟩
theorem VP(T:Txt P w K mg cl jv t_LONGEST_NAME jm t_LETTERS t_LONGEST_NUMBER t_FIGURES t_MOST_DEBTS t_MOST_DAYS t_MOST_EVENTS jl jE b_FORMS_0 b_FORMS_1 b_FORMS_2 b_FORMS_3 b_FORMS_4 jK x_Unguarded x_DealError):kM K mg "is_one_too_many" vz vv->j8 P w K mg cl->qX P w K mg cl:=by
 intro b c;obtain⟨_,_,F⟩:=b;obtain⟨_,_,e,f⟩:=c;exact⟨_,_,F,λbase=>vY F.fn Vs rfl λg A outer s H E a=>⟨_,show QSs _ _ _ _ _ jW from
  (jc (jR (jr (qC a) (ja 1) (QP.bb qS)) (jf (jq (QP.d (kU jmM (QP.bb (km T.n_len (jd (uW T.C0 T.N_debts (ja 0)) jk))) (QP.bb (jlx T.c_MOST_DEBTS))))))
  ji)
  (jc (jR (jr (qC a) (ja 1) (QP.bb qS)) (jf (jq (QP.d (kU jmM (QP.bb (km T.n_len (jd (QP.bb (Y6 T.C0 e (f _).1 (a.mono (by decide)) (ja 0))) jk))) (QP.bb (jlx T.c_MOST_DAYS))))))
  ji)
  (jf (jq (QP.d (kU jmM (QP.bb (km T.n_len (jd (uW T.C0 T.N_events (ja 0)) jk))) (QP.bb (jlx T.c_MOST_EVENTS))))))))⟩⟩
theorem wx(T:Txt P w K mg cl jv t_LONGEST_NAME jm t_LETTERS t_LONGEST_NUMBER t_FIGURES t_MOST_DEBTS t_MOST_DAYS t_MOST_EVENTS jl jE b_FORMS_0 b_FORMS_1 b_FORMS_2 b_FORMS_3 b_FORMS_4 jK x_Unguarded x_DealError):kM K mg "_law_names" Jt JF->Jk P w K mg cl->Q7 P w K mg cl:=by
 intro b c;obtain⟨_,_,F⟩:=b;obtain⟨_,_,e,g⟩:=c;exact⟨_,_,F,λbase=>vY F.fn yb rfl λh A outer s H E a=>⟨_,show QSs _ _ _ _ _ Jg from
  (jc (jJ yb.nd (QP.d (yd e (g _) (a.mono (by decide)) (jd (ja 0) (jd qI jk)))))
  (jc (jJ yb.nd (QP.d (QB.f (yM (QP.bb qS) (QP.bb (yR (ja 2) qI))))))
  (jc (jJ yb.nd (QP.d qS))
  (jc (jR (QW.t (kP (jr (qC a) (QP.bb (yR (QP.bb (qw (ja 2) qI)) qI)) qI) (vB (jr jgX (ja 1) qI)))) (jf (jq (QP.d (Vl (bkF yb ["_law_k","_law_base","_law_many_here"]) rfl (QI.b' (Vk T.n_range (jd (ja 1) jk))) cgN jjB (λ_ _ _ _=>(xW (ja 1) (QP.bb (jfy (ja 2) (ja 0)))))))))
  ji)
  (jc (jJ yb.nd (QP.d (v8 qI (QP.bb (yR (QP.bb (qw (ja 2) qI)) qI)))))
  (jc (jJ yb.nd (QP.d (yR (QP.bb (qw (ja 2) qI)) (ja 5))))
  (jc (jJ yb.nd (QP.d (yt js)))
  (jc (QN PassesOwn.never rfl (Vk T.n_range (jd (ja 1) jk)) (y3 yb.nd)
  (jc (jaM (bkF yb ["_law_place","_law_base"]) rfl (QI.b' (Vk T.n_range (jd (ja 5) jk))) cgN jjB (λ_ _ _ _=>(QB.f (ja 1))) yb.nd)
  (jc (jbg (ja 9) (ja 6) (QP.d (QB.f (yM (ja 4) (QP.bb (yR (QP.bb (v8 (QP.bb (qw (ja 2) qI)) (QP.bb (xW qI (ja 8))))) qI))))))
  (jc (jbg (ja 9) (QP.bb (yR (QP.bb (v8 (ja 6) qI)) (ja 5))) (QP.d (QB.f (yM (ja 4) (QP.bb (yR (QP.bb (v8 (QP.bb (qw (ja 2) qI)) (QP.bb (qw (ja 8) qI)))) qI))))))
  (jf (Vp (ja 7) (jjz PySem.F.plainAttrs_str PySem.F.slot_str_join PySem.F.type_str_join jae jaR (QP.bb qS) (jd (ja 9) jk))))))))
  (jf (jq (jkg 7)))))))))))⟩⟩
theorem jb8(T:Txt P w K mg cl jv t_LONGEST_NAME jm t_LETTERS t_LONGEST_NUMBER t_FIGURES t_MOST_DEBTS t_MOST_DAYS t_MOST_EVENTS jl jE b_FORMS_0 b_FORMS_1 b_FORMS_2 b_FORMS_3 b_FORMS_4 jK x_Unguarded x_DealError):kM K mg "_law_row" Vv Vq->QH P w K mg cl->Jk P w K mg cl->ud P w K mg cl:=by
 intro c e g;obtain⟨_,_,F⟩:=c;obtain⟨_,_,a,h⟩:=e;obtain⟨_,_,i,j⟩:=g;exact⟨_,_,F,λbase=>vY F.fn Jf rfl λk A outer s H E b=>⟨_,show QSs _ _ _ _ _ yL from
  (jc (jJ Jf.nd (QP.d (yd i (j _) (b.mono (by decide)) (jd (ja 0) (jd (ja 1) jk)))))
  (jc (jJ Jf.nd (QP.d (yR (ja 4) qI)))
  (jc (jR (jr jgX (ja 5) qI) (jf (jq (QP.d (yt (je qS (je (QB.f (yM (ja 2) (QP.bb (yR (QP.bb (qw (ja 4) qI)) qI)))) (je (QB.f (yM (ja 2) (QP.bb (yR (QP.bb (qw (ja 4) qI)) qI)))) js)))))))
  ji)
  (jc (jR (jr jgX (ja 5) qI) (jc (jJ Jf.nd (QP.d (v8 (QP.bb (v8 (ja 3) qI)) (QP.bb (yR (QP.bb (qw (ja 4) qI)) qI)))))
  (jc (jR (jr (qC b) (QP.bb (yR (QP.bb (qw (ja 4) qI)) qI)) qI) (jf (jJ Jf.nd (QP.d (QA (wN rfl) jhJ T.n_max wR (jd qI (jd (QP.bb (jfy (ja 3) (QP.bb (yR (QP.bb (qw (ja 4) qI)) qI)))) jk))))))
  ji)
  (jf (jq (QP.d (yt (je qS (je (QA (jeJ rfl) jhJ T.n_min jc2 (jd qI (jd (ja 6) jk))) (je (yd a (h _) (b.mono (by decide)) (jd (ja 0) (jd (QP.bb (yR (QP.bb (qw (ja 4) qI)) qI)) (jd (QP.bb (jnm qI qI)) jk)))) js)))))))))
  ji)
  (jc (jR (jr jgX (ja 5) qI) (jf (jq (QP.d (yt (je qS (je (QB.f (yM (ja 2) (QP.bb (yR (QP.bb (qw (ja 4) qI)) qI)))) (je (v8 qI (QP.bb (yR (QP.bb (qw (ja 4) qI)) qI))) (je (v8 qI (QP.bb (yR (QP.bb (qw (ja 4) qI)) qI))) js))))))))
  ji)
  (jc (jR (jr jgX (ja 5) qI) (jf (jq (QP.d (yt (je (QB.f (yM (QP.bb (yt (je qS (je qS js)))) (QP.bb (yR (QP.bb (qw (ja 4) qI)) qI)))) (je (QB.f (yM (ja 2) (QP.bb (yR (QP.bb (qw (ja 4) qI)) qI)))) (je (v8 qI (QP.bb (yR (QP.bb (qw (ja 4) qI)) qI))) js)))))))
  ji)
  (jc (jR (jr jgX (ja 5) qI) (jf (jq (QP.d (yt js))))
  ji)
  (jf (jq (QP.d (QB.f (yM (QP.fzb (yt (je (yt (je qS (je Vx (je Vx js)))) (je (yt (je qS (je (QB.f (yM (ja 2) qI)) js))) (je (yt (je qS (je (QB.f (yM (ja 2) qI)) (je Vx (je Vx js))))) (je (yt (je qS (je (QB.f (yM (ja 2) qI)) (je Vx js)))) js)))))) (QP.bb (yR (QP.bb (qw (ja 4) qI)) qI))))))))))))))⟩⟩
theorem wz(T:Txt P w K mg cl jv t_LONGEST_NAME jm t_LETTERS t_LONGEST_NUMBER t_FIGURES t_MOST_DEBTS t_MOST_DAYS t_MOST_EVENTS jl jE b_FORMS_0 b_FORMS_1 b_FORMS_2 b_FORMS_3 b_FORMS_4 jK x_Unguarded x_DealError):kM K mg "_law_fault" JA Jo->wG P w K mg cl->Qz P w K mg cl:=by
 intro c e;obtain⟨_,_,F⟩:=c;obtain⟨_,_,b,g⟩:=e;exact⟨_,_,F,λbase=>vY F.fn JV rfl λh A outer s H E a=>⟨_,show QSs _ _ _ _ _ vL from
  (jc (jR (yP (QP.bb (yd b (g _) (a.mono (by decide)) (jd (ja 0) jk)))) (jf (jq (QP.d qS)))
  ji)
  (jc (jJ JV.nd (QP.d (zh (QP.bb (kU (c_ne a) (ja 1) (QP.bb (yt js)))) (Qt (kU (qC a) (yM (yM (ja 1) (QP.bb (uG qI))) qI) (QP.bb (yt js)))))))
  (jc (jR (jr (qC a) (yM (ja 0) qI) (QP.bb qS)) (jc (jR (QW.t (wF (jr (qC a) (ja 1) (QP.bb (yt js))) (Qx (jr (c_ne a) (ja 2) (QP.bb (yt js)))))) (jf (jq (QP.d qS)))
  ji)
  (jc (jJ JV.nd (QP.d (QB.f (yM (yM (ja 1) (QP.bb (uG qI))) qI))))
  (jc (jR (QW.t (kP (jr (c_ne a) (ja 5) (QP.bb (yt js))) (vB (jr jgF (yM (ja 0) qI) (yM (yM (ja 5) (QP.bb (uG qI))) qI))))) (jf (jq (QP.d qS)))
  ji)
  (jf (jq (QP.d (jmd (jr (qC a) (QP.bb (km T.n_len (jd (ja 5) jk))) qI) qS qS)))))))
  ji)
  (jc (jR (QW.t (kP (jr (qC a) (yM (ja 0) qI) (QP.bb qS)) (vB (jr (c_ne a) (ja 2) (QP.bb (yt js)))))) (jf (jq (QP.d qS)))
  ji)
  (jc (jR (yP (ja 4)) (jf (jq (QP.d qS)))
  ji)
  (jc (jR (QW.t (kP (jr (qC a) (yM (ja 0) qI) (QP.bb qS)) (vB (jr (c_in (by with_unfolding_all rfl)) (yM (ja 0) qI) (ja 3))))) (jf (jq (QP.d qS)))
  ji)
  (jc (jR (QW.t (kP (jr (c_ne a) (yM (ja 0) qI) (QP.bb qS)) (vB (jr (jcX (by with_unfolding_all rfl)) (yM (ja 0) qI) (ja 3))))) (jf (jq (QP.d qS)))
  ji)
  (jc (jR (jr (qC a) (yM (ja 0) qI) (QP.bb qS)) (jf (jq (QP.d (jmd (jr (qC a) (QP.bb (km T.n_len (jd (ja 1) jk))) qI) qS qS))))
  ji)
  (jf (jq (QP.d (jmd (jr (qC a) (QP.bb (km T.n_len (jd (ja 2) jk))) qI) qS qS))))))))))))⟩⟩
theorem jaQ(T:Txt P w K mg cl jv t_LONGEST_NAME jm t_LETTERS t_LONGEST_NUMBER t_FIGURES t_MOST_DEBTS t_MOST_DAYS t_MOST_EVENTS jl jE b_FORMS_0 b_FORMS_1 b_FORMS_2 b_FORMS_3 b_FORMS_4 jK x_Unguarded x_DealError):kM K mg "value_in" Ym Yp->wV P w K mg cl->Qi P w K mg cl->xz P w K mg cl:=by
 intro e g h;obtain⟨_,_,F⟩:=e;obtain⟨_,_,a,i⟩:=g;obtain⟨_,_,b,j⟩:=h;exact⟨_,_,F,λbase=>vY F.fn QV rfl λk A outer s H E c=>⟨_,show QSs _ _ _ _ _ qh from
  (jc (jR (jr (qC c) (ja 1) (QP.bb qS)) (jf (jq (QP.d (jmd (yP (QP.bb (yd a (i _) (c.mono (by decide)) (jd (ja 0) jk)))) (QB.f (ja 0)) JG))))
  ji)
  (jc (jJ QV.nd (QP.d (yd b (j _) (c.mono (by decide)) (jd (ja 0) jk))))
  (jc (jR (QW.t (wF (jr jg1 (ja 2) (QP.bb JG)) (Qx (J3 (xY jgF jgF qI (ja 2) (jjS T.c_GREATEST T.k_GREATEST (T.r_GREATEST cl) rfl (ja 1))))))) (jf (jq (QP.d JG)))
  ji)
  (jf (jq (QP.d (QB.f (ja 2))))))))⟩⟩
theorem xO(T:Txt P w K mg cl jv t_LONGEST_NAME jm t_LETTERS t_LONGEST_NUMBER t_FIGURES t_MOST_DEBTS t_MOST_DAYS t_MOST_EVENTS jl jE b_FORMS_0 b_FORMS_1 b_FORMS_2 b_FORMS_3 b_FORMS_4 jK x_Unguarded x_DealError):kM K mg "refuse_row" qJ qK->vg P w K mg cl->yU P w K mg cl->YU P w K mg cl->qX P w K mg cl->xx P w K mg cl->KP P w K mg cl:=by
 obtain⟨L,o,b,c⟩:=T.ini_Misplaced;obtain⟨M,p,e,g⟩:=T.ini_Unfinished;obtain⟨N,q,h,i⟩:=T.ini_Twice;obtain⟨O,r,j,k⟩:=T.ini_NoName;obtain⟨Q,u,l,m⟩:=T.ini_TooMany;intro R S U V W X;obtain⟨_,_,F⟩:=R;obtain⟨_,_,v,x⟩:=S;obtain⟨_,_,y,z⟩:=U;obtain⟨_,_,B,C⟩:=V;obtain⟨_,_,D,G⟩:=W;obtain⟨_,_,I,J⟩:=X;exact⟨_,_,F,λbase=>⟨vY F.fn kS rfl λn A outer s H E a=>⟨_,show QSs _ _ _ _ _ kC from
  (jc (jJ kS.nd (QP.d (QB.f (yM (ja 1) qI))))
  (jc (jR (yP (QP.bb (yd B (C _) (a.mono (by decide)) (jd (ja 0) (jd (ja 3) jk))))) (jf qM)
  ji)
  (jc (jR (QW.t (kP (jr (c_ne a) (ja 3) (QP.bb qS)) (vB (yP (QP.bb (Y6 T.C0 y (z _) (a.mono (by decide)) (ja 0))))))) (jf qM)
  ji)
  (jc (jR (yP (QP.bb (yd I (J _) (a.mono (by decide)) (jd (ja 0) (jd (ja 1) jk))))) (jf qM)
  ji)
  (jc (jR (QW.t (kP (jr (c_in (by with_unfolding_all rfl)) (ja 3) (QP.bb (jmc vG T.c_EVENTS (T.r_EVENTS cl)))) (vB (J3 (yP (QP.bb (jcO T.C0 v (x _) (a.mono (by decide)) (ja 0) (jd (yM (ja 1) qI) jk)))))))) (jf qM)
  ji)
  (jf (jR (yP (QP.bb (yd D (G _) (a.mono (by decide)) (jd (ja 0) (jd (ja 3) jk))))) (jf qM)
  ji)))))))⟩,jbE F.fn kS rfl λn A outer s H E a=>⟨_,_,show QXs _ _ _ _ _ _ uo yB from
  (y6 (qx (jJ kS.nd (QP.d (QB.f (yM (ja 1) qI)))))
  (y6 (zM (yP (QP.bb (yd B (C _) (a.mono (by decide)) (jd (ja 0) (jd (ja 3) jk))))) (kR (qD Qq L (c _) (a.mono (by decide)) b T.g_Misplaced (je qS (je (QB.f (ja 2)) js))))
  (YK ji))
  (y6 (zM (QW.t (kP (jr (c_ne a) (ja 3) (QP.bb qS)) (vB (yP (QP.bb (Y6 T.C0 y (z _) (a.mono (by decide)) (ja 0))))))) (kR (qD Qq M (g _) (a.mono (by decide)) e T.g_Unfinished (je qS (je (QB.f (ja 2)) js))))
  (YK ji))
  (y6 (zM (yP (QP.bb (yd I (J _) (a.mono (by decide)) (jd (ja 0) (jd (ja 1) jk))))) (kR (qD Qq N (i _) (a.mono (by decide)) h T.g_Twice (je qS (je (QB.f (ja 2)) js))))
  (YK ji))
  (y6 (zM (QW.t (kP (jr (c_in (by with_unfolding_all rfl)) (ja 3) (QP.bb (jmc vG T.c_EVENTS (T.r_EVENTS cl)))) (vB (J3 (yP (QP.bb (jcO T.C0 v (x _) (a.mono (by decide)) (ja 0) (jd (yM (ja 1) qI) jk)))))))) (kR (qD Qq O (k _) (a.mono (by decide)) j T.g_NoName (je qS (je (QB.f (ja 2)) js))))
  (YK ji))
  (kR (zM (yP (QP.bb (yd D (G _) (a.mono (by decide)) (jd (ja 0) (jd (ja 3) jk))))) (kR (qD Qq Q (m _) (a.mono (by decide)) l T.g_TooMany (je qS (je (QB.f (ja 2)) js))))
  (YK ji))))))))⟩⟩⟩
theorem uT(T:Txt P w K mg cl jv t_LONGEST_NAME jm t_LETTERS t_LONGEST_NUMBER t_FIGURES t_MOST_DEBTS t_MOST_DAYS t_MOST_EVENTS jl jE b_FORMS_0 b_FORMS_1 b_FORMS_2 b_FORMS_3 b_FORMS_4 jK x_Unguarded x_DealError):kM K mg "_law_rows" Yy Yd->Kr P w K mg cl->xl P w K mg cl->Jk P w K mg cl->ud P w K mg cl->xp P w K mg cl:=by
 intro e g h i j;obtain⟨_,_,F⟩:=e;obtain⟨_,_,k,l⟩:=g;obtain⟨_,_,b,m⟩:=h;obtain⟨_,_,n,o⟩:=i;obtain⟨_,_,c,p⟩:=j;exact⟨_,_,F,λbase=>vY F.fn ym rfl λq A outer s H E a=>⟨_,show QSs _ _ _ _ _ Ki from
  (jc (jJ ym.nd (QP.d (yt js)))
  (jc (jJ ym.nd (QP.d (yd n (o _) (a.mono (by decide)) (jd (QP.bb (yd k (l _) (a.mono (by decide)) (jd (ja 0) (jd qI jk)))) (jd qI jk)))))
  (jc (jR (jr (qC a) (QP.bb (yR (ja 3) qI)) qI) (jf (jJ ym.nd (QP.d (yd b (m _) (a.mono (by decide)) (jd (QP.bb (qw (ja 3) qI)) (jd (ja 1) jk))))))
  ji)
  (jc (jJ ym.nd (QP.d Vx))
  (jc (jR (QW.t (kP (jr (c_ne a) (ja 2) (QP.bb (yt js))) (vB (jr (qC a) (yM (yM (ja 2) (QP.bb (uG qI))) qI) (QP.bb qS))))) (jf (jJ ym.nd (QP.d (QB.f (yM (yM (ja 2) (QP.bb (uG qI))) qI)))))
  ji)
  (jc (QN PassesOwn.never rfl (jdQ T.n_enumerate (je (jnx (ja 0) (xK qI) (xK qI)) js)) (xw rfl (vH (y3 ym.nd) (vH (y3 ym.nd) KG)))
  (jc (jJ ym.nd (QP.d (yd c (p _) (a.mono (by decide)) (jd (ja 6) (jd (ja 5) (jd (ja 1) (jd (ja 4) jk)))))))
  (jc (QS.fz 7 (Vp (ja 2) (QB.f (ja 7))))
  (jc (jR (QW.t (kP (jr (c_ne a) (ja 7) (QP.bb (yt js))) (vB (jr (qC a) (yM (ja 7) qI) (QP.bb qS))))) (jf (jJ ym.nd (QP.d (QB.f (yM (ja 7) qI)))))
  ji)
  (jf (jR (QW.t (kP (jr (c_ne a) (ja 7) (QP.bb (yt js))) (vB (jr (qC a) (yM (ja 7) qI) (QP.bb qS))))) (jf (jJ ym.nd (QP.d Vx)))
  ji))))))
  (jf (jq (jkg 2)))))))))⟩⟩
theorem jb7(T:Txt P w K mg cl jv t_LONGEST_NAME jm t_LETTERS t_LONGEST_NUMBER t_FIGURES t_MOST_DEBTS t_MOST_DAYS t_MOST_EVENTS jl jE b_FORMS_0 b_FORMS_1 b_FORMS_2 b_FORMS_3 b_FORMS_4 jK x_Unguarded x_DealError):kM K mg "_law_due" Vr VS->Qz P w K mg cl->wQ P w K mg cl:=by
 intro b c;obtain⟨_,_,F⟩:=b;obtain⟨_,_,e,g⟩:=c;exact⟨_,_,F,λbase=>vY F.fn kg rfl λh A outer s H E a=>⟨_,show QSs _ _ _ _ _ JQ from
  (jc (jJ kg.nd (QP.d (yt js)))
  (jc (jJ kg.nd (QP.d (yt js)))
  (jc (jJ kg.nd (QP.d (yt js)))
  (jc (QN PassesOwn.never rfl (jdQ T.n_enumerate (je (QB.f (ja 0)) js)) (xw rfl (vH (y3 kg.nd) (vH (y3 kg.nd) KG)))
  (jc (jR (jr (qC a) (ja 5) (QP.bb (yt js))) (jf jai)
  ji)
  (jc (jJ kg.nd (QP.d (yd e (g _) (a.mono (by decide)) (jd (ja 5) (jd (ja 1) (jd (ja 2) (jd (ja 3) jk)))))))
  (jc (jR (jr (c_ne a) (ja 6) (QP.bb qS)) (jf (jq (QP.d (wO (je (QB.f (ja 6)) (je (v8 (ja 4) qI) js))))))
  ji)
  (jf (jR (jr (qC a) (yM (ja 5) qI) (QP.bb qS)) (jc (Vp (ja 3) (QB.f (yM (ja 5) qI)))
  (jf (Vp (ja 1) (wO (je (QB.f (yM (ja 5) qI)) (je (QB.f (yM (ja 5) qI)) (je (yt js) js)))))))
  (jf (jR (jr (qC a) (yM (ja 5) qI) (QP.bb qS)) (jf (xF (jkX (z:=2) (jgA (z:=1) (uy (ja 1)))) (wO (je (QB.f (yM (ja 5) qI)) (je (QB.f (yM (ja 5) qI)) js)))))
  (jf (Vp (ja 2) (xL VR ja1 T.n_tuple JI (jd (ja 5) jk))))))))))))
  (jc (jR (QW.t (kP (jr (c_ne a) (ja 1) (QP.bb (yt js))) (vB (jr (qC a) (yM (yM (ja 1) (QP.bb (uG qI))) qI) (QP.bb (yt js)))))) (jf (jq (QP.d (wO (je qS (je (QA (wN rfl) jhJ T.n_max wR (jd qI (jd (QP.bb (km T.n_len (jd (ja 0) jk))) jk))) js))))))
  ji)
  (jf (QS.fz 1 (QS.fz 2 (jq (QP.d (wO (je qS (je (wO (je (QB.f (ja 1)) (je (QB.f (ja 2)) js))) js)))))))))))))⟩⟩
theorem u7(T:Txt P w K mg cl jv t_LONGEST_NAME jm t_LETTERS t_LONGEST_NUMBER t_FIGURES t_MOST_DEBTS t_MOST_DAYS t_MOST_EVENTS jl jE b_FORMS_0 b_FORMS_1 b_FORMS_2 b_FORMS_3 b_FORMS_4 jK x_Unguarded x_DealError):kM K mg "row_told" YA Yn->xz P w K mg cl->zS P w K mg cl:=by
 obtain⟨g,h,b,c⟩:=T.ini_BadRow;intro k l;obtain⟨_,_,F⟩:=k;obtain⟨_,_,i,j⟩:=l;exact⟨_,_,F,λbase=>⟨vY F.fn yJ rfl λe A outer s H E a=>⟨_,show QSs _ _ _ _ _ Kc from
  (jc (jR (QW.t (wF (jr jg1 (ja 1) (QP.bb JG)) (Qx (jr (c_ne a) (QP.bb (km T.n_len (jd (ja 1) jk))) (QP.bb (jfy (QP.bb (km T.n_len (jd (ja 0) jk))) qI)))))) (jf qM)
  ji)
  (jc (jJ yJ.nd (QP.d (yt (je (QB.f (yM (ja 0) qI)) js))))
  (jc (QN PassesOwn.never rfl (jgJ T.n_zip (je (jnx (ja 0) (xK qI) jdR) (je (QB.f (ja 1)) js))) (xw rfl (vH (y3 yJ.nd) (vH (y3 yJ.nd) KG)))
  (jc (jJ yJ.nd (QP.d (yd i (j _) (a.mono (by decide)) (jd (ja 4) (jd (ja 5) jk)))))
  (jc (jR (jr jg1 (ja 6) (QP.bb JG)) (jf qM)
  ji)
  (jf (Vp (ja 3) (QB.f (ja 6)))))))
  (jf (jq (jkg 3))))))⟩,jbE F.fn yJ rfl λe A outer s H E a=>⟨_,_,show QXs _ _ _ _ _ _ jcq qj from
  (y6 (zM (QW.t (wF (jr jg1 (ja 1) (QP.bb JG)) (Qx (jr (c_ne a) (QP.bb (km T.n_len (jd (ja 1) jk))) (QP.bb (jfy (QP.bb (km T.n_len (jd (ja 0) jk))) qI)))))) (kR (qD Qq g (c _) (a.mono (by decide)) b T.g_BadRow (je qS (je (QB.f (ja 2)) js))))
  (YK ji))
  (y6 (qx (jJ yJ.nd (QP.d (yt (je (QB.f (yM (ja 0) qI)) js)))))
  (y6 (jgv zV rfl (jgJ T.n_zip (je (jnx (ja 0) (xK qI) jdR) (je (QB.f (ja 1)) js))) (xw rfl (vH (y3 yJ.nd) (vH (y3 yJ.nd) KG)))
  (y6 (qx (jJ yJ.nd (QP.d (yd i (j _) (a.mono (by decide)) (jd (ja 4) (jd (ja 5) jk))))))
  (y6 (zM (jr jg1 (ja 6) (QP.bb JG)) (kR (qD Qq g (c _) (a.mono (by decide)) b T.g_BadRow (je jmR (je (QB.f (ja 2)) js))))
  (YK ji))
  (kR (qx (Vp (ja 3) (QB.f (ja 6))))))))
  (kR (qx (jq (jkg 3)))))))⟩⟩⟩
theorem zx(T:Txt P w K mg cl jv t_LONGEST_NAME jm t_LETTERS t_LONGEST_NUMBER t_FIGURES t_MOST_DEBTS t_MOST_DAYS t_MOST_EVENTS jl jE b_FORMS_0 b_FORMS_1 b_FORMS_2 b_FORMS_3 b_FORMS_4 jK x_Unguarded x_DealError):kM K mg "debt_row_of" kW qc->zS P w K mg cl->xk P w K mg cl->VG P w K mg cl:=by
 intro h i j;obtain⟨_,_,F⟩:=h;obtain⟨_,_,c,e⟩:=i;obtain⟨_,_,f,g⟩:=j;exact⟨_,_,F,λbase=>⟨vY F.fn ky rfl λb A outer s H E a=>⟨_,show QSs _ _ _ _ _ kY from
  (jc (jJ ky.nd (QP.d (yd f (g _) (a.mono (by decide)) (jd (ja 0) jk))))
  (jc (jR (jr (qC a) (QP.bb (km T.n_len (jd (ja 2) jk))) qI) (jf (jq (QP.d JG)))
  ji)
  (jf (jq (QP.d (yd c (e _).1 (a.mono (by decide)) (jd (ja 2) (jd (jd3 T.c_FORMS T.k_FORMS (T.r_FORMS cl) rfl (yM (ja 2) qI)) (jd (ja 1) jk)))))))))⟩,jbE F.fn ky rfl λb A outer s H E a=>⟨_,_,show QXs _ _ _ _ _ _ xQ vU from
  (y6 (qx (jJ ky.nd (QP.d (yd f (g _) (a.mono (by decide)) (jd (ja 0) jk)))))
  (y6 (zM (jr (qC a) (QP.bb (km T.n_len (jd (ja 2) jk))) qI) (kR (qx (jq (QP.d JG))))
  (YK ji))
  (kR (jkf Qq c (e _).2 (a.mono (by decide)) (jd (ja 2) (jd (jd3 T.c_FORMS T.k_FORMS (T.r_FORMS cl) rfl (yM (ja 2) qI)) (jd (ja 1) jk)))))))⟩⟩⟩
theorem xJ(T:Txt P w K mg cl jv t_LONGEST_NAME jm t_LETTERS t_LONGEST_NUMBER t_FIGURES t_MOST_DEBTS t_MOST_DAYS t_MOST_EVENTS jl jE b_FORMS_0 b_FORMS_1 b_FORMS_2 b_FORMS_3 b_FORMS_4 jK x_Unguarded x_DealError):kM K mg "read_debts" qH qF->kF P w K mg cl->yU P w K mg cl->kK P w K mg cl->VG P w K mg cl->KP P w K mg cl->KY P w K mg cl:=by
 obtain⟨u,l,c,e⟩:=T.ini_Unfinished;intro v x y z B C;obtain⟨_,_,F⟩:=v;obtain⟨_,_,m,n⟩:=x;obtain⟨_,_,o,p⟩:=y;obtain⟨_,_,b,q⟩:=z;obtain⟨_,_,r,g⟩:=B;obtain⟨_,_,t,i⟩:=C;exact⟨_,_,F,λbase=>⟨vY F.fn jV rfl λj A outer s H E a=>⟨_,show QSs _ _ _ _ _ J2 from
  (jc (jJ jV.nd (QP.d (jex m T.mk0 T.kc0 (n _) (a.mono (by decide)) T.mg0)))
  (jc (jJ jV.nd (QP.d (jjz PySem.F.plainAttrs_str PySem.F.slot_str_split PySem.F.type_str_split xI wc (ja 0) (jd (QP.bb qS) jk))))
  (jc (QS.fz 2 (QN PassesOwn.never rfl (jlD T.n_enumerate (je (QB.f (ja 2)) js) qI) (xw rfl (vH (y3 jV.nd) (vH (y3 jV.nd) KG)))
  (jc (jJ jV.nd (QP.d (yd r (g _).1 (a.mono (by decide)) (jd (ja 4) (jd (ja 3) jk)))))
  (jf (jR (jr uZ (ja 5) (QP.bb JG)) (jc (u3 (QP.d (yd t (i _).1 (a.mono (by decide)) (jd (ja 1) (jd (ja 5) (jd (ja 3) jk))))))
  (jf (QS.fz 5 (u3 (jdk T.C0 b.mt b.bd uY (q _) (a.mono (by decide)) (ja 1) (je (QB.f (ja 5)) js) (λρ k h=>by rw[(uI jbn) ρ k h]))))))
  ji)))))
  (jc (jR (yP (QP.bb (Y6 T.C0 o (p _) (a.mono (by decide)) (ja 1)))) (jf qM)
  ji)
  (jf (jq (jgO T.C0 T.N_debts T.N_events (ja 1) (ja 1))))))))⟩,jbE F.fn jV rfl λj A outer s H E a=>⟨_,_,show QXs _ _ _ _ _ _ wP kI from
  (y6 (qx (jJ jV.nd (QP.d (jex m T.mk0 T.kc0 (n _) (a.mono (by decide)) T.mg0))))
  (y6 (qx (jJ jV.nd (QP.d (jjz PySem.F.plainAttrs_str PySem.F.slot_str_split PySem.F.type_str_split xI wc (ja 0) (jd (QP.bb qS) jk)))))
  (y6 (QX1.fz 2 (jgv zV rfl (jlD T.n_enumerate (je (QB.f (ja 2)) js) qI) (xw rfl (vH (y3 jV.nd) (vH (y3 jV.nd) KG)))
  (y6 (jhw Qq r (jao (g _).1 (g _).2) (a.mono (by decide)) jV.nd (jd (ja 4) (jd (ja 3) jk)))
  (kR (zM (jr uZ (ja 5) (QP.bb JG)) (y6 (jgi Qq t (jao (i _).1 (i _).2) (a.mono (by decide)) (jd (ja 1) (jd (ja 5) (jd (ja 3) jk))))
  (kR (qx (QS.fz 5 (u3 (jdk T.C0 b.mt b.bd uY (q _) (a.mono (by decide)) (ja 1) (je (QB.f (ja 5)) js) (λρ k h=>by rw[(uI jbn) ρ k h])))))))
  (YK ji))))))
  (y6 (zM (yP (QP.bb (Y6 T.C0 o (p _) (a.mono (by decide)) (ja 1)))) (kR (qD Qq u (e _) (a.mono (by decide)) c T.g_Unfinished (je qS (je (km T.n_len (jd (ja 2) jk)) js))))
  (YK ji))
  (kR (qx (jq (jgO T.C0 T.N_debts T.N_events (ja 1) (ja 1)))))))))⟩⟩⟩
theorem uH(T:Txt P w K mg cl jv t_LONGEST_NAME jm t_LETTERS t_LONGEST_NUMBER t_FIGURES t_MOST_DEBTS t_MOST_DAYS t_MOST_EVENTS jl jE b_FORMS_0 b_FORMS_1 b_FORMS_2 b_FORMS_3 b_FORMS_4 jK x_Unguarded x_DealError):kM K mg "_law_alike" JH qr->zp P w K mg cl:=by
 intro b;obtain⟨_,_,F⟩:=b;exact⟨_,_,F,λbase=>by
  have key:∀ n,FnOk P w K mg base CX0 (0+n) _ _ qr (spP ⟨K,cl⟩ (yf n) 2):=λn=>by
   induction n with
   | zero=>exact jhP
   | succ n c =>
    have e:=F;exact vY F.fn KU rfl λf A outer s H E a=>⟨_,show QSs _ _ _ _ _ (v9 (yf n)) from
    (jc (jR (jr jg1 (ja 1) (QP.bb JG)) (jf (jq (QP.d (kU jg1 (ja 0) (QP.bb JG)))))
    ji)
    (jc (jR (yP (QP.bb (zu (T:="bool") (by decide) T.n_isinstance T.n_bool Kl (ja 1)))) (jf (jq (QP.d (zh (QP.bb (zu (T:="bool") (by decide) T.n_isinstance T.n_bool Kl (ja 0))) (Qt (kU (qC a) (ja 0) (ja 1)))))))
    ji)
    (jc (jR (yP (QP.bb (zu (T:="int") (by decide) T.n_isinstance T.n_int QM (ja 1)))) (jf (jq (QP.d (zh (QP.bb (zu (T:="int") (by decide) T.n_isinstance T.n_int QM (ja 0))) (zh (QP.bb (jmE (QP.bb (zu (T:="bool") (by decide) T.n_isinstance T.n_bool Kl (ja 0))))) (Qt (kU (qC a) (ja 0) (ja 1))))))))
    ji)
    (jc (jR (yP (QP.bb (zu (T:="str") (by decide) T.n_isinstance T.n_str Q5 (ja 1)))) (jf (jq (QP.d (zh (QP.bb (zu (T:="str") (by decide) T.n_isinstance T.n_str Q5 (ja 0))) (Qt (kU (qC a) (ja 0) (ja 1)))))))
    ji)
    (jc (jR (QW.t (kP (yP (QP.bb (zu (T:="tuple") (by decide) T.n_isinstance T.n_tuple JI (ja 1)))) (vB (J3 (yP (QP.bb (zu (T:="tuple") (by decide) T.n_isinstance T.n_tuple JI (ja 0)))))))) (jf (jq (QP.d jcv)))
    ji)
    (jc (jR (QW.t (kP (yP (QP.bb (zu (T:="list") (by decide) T.n_isinstance T.n_list zY (ja 1)))) (vB (J3 (yP (QP.bb (zu (T:="list") (by decide) T.n_isinstance T.n_list zY (ja 0)))))))) (jf (jq (QP.d jcv)))
    ji)
    (jc (jR (jr (c_ne a) (QP.bb (km T.n_len (jd (ja 0) jk))) (QP.bb (km T.n_len (jd (ja 1) jk)))) (jf (jq (QP.d jcv)))
    ji)
    (jc (QN PassesOwn.never rfl (Vk T.n_range (jd (QP.bb (km T.n_len (jd (ja 1) jk))) jk)) (y3 KU.nd)
    (jf (jR (J3 (yP (QP.bb (yd e c (a.mono (by first | exact M9 _ | exact N8 (by decide) (Nat.le_add_right _ _))) (jd (yM (ja 0) (ja 2)) (jd (yM (ja 1) (ja 2)) jk)))))) (jf (jq (QP.d jcv)))
    ji)))
    (jf (jq (QP.d jcv)))))))))))⟩
  exact key 8⟩
theorem jkE(T:Txt P w K mg cl jv t_LONGEST_NAME jm t_LETTERS t_LONGEST_NUMBER t_FIGURES t_MOST_DEBTS t_MOST_DAYS t_MOST_EVENTS jl jE b_FORMS_0 b_FORMS_1 b_FORMS_2 b_FORMS_3 b_FORMS_4 jK x_Unguarded x_DealError):kM K mg "law" zO jfW->zp P w K mg cl->Kr P w K mg cl->wQ P w K mg cl->xn P w K mg cl->Q7 P w K mg cl->xp P w K mg cl->KY P w K mg cl->jnl P w K mg cl:=by
 intro j k l m n o p q;obtain⟨_,_,F⟩:=j;obtain⟨_,_,g,h⟩:=k;obtain⟨_,_,r,u⟩:=l;obtain⟨_,_,b,v⟩:=m;obtain⟨_,_,c,x⟩:=n;obtain⟨_,_,e,y⟩:=o;obtain⟨_,_,f,z⟩:=p;obtain⟨_,_,B,i⟩:=q;exact⟨_,_,F,λbase=>vY F.fn zg rfl λC A outer s H E a=>⟨_,show QSs _ _ _ _ _ jf9 from
  (jc (jJ zg.nd (QP.d (yd e (y _) (a.mono (by decide)) (jd (QP.bb (yd r (u _) (a.mono (by decide)) (jd (ja 0) (jd qI jk)))) (jd qI jk)))))
  (jc (QS.fz 1 (jJ zg.nd (QP.d (yd f (z _) (a.mono (by decide)) (jd (ja 0) (jd (ja 1) jk))))))
  (jc (QS.fz 2 (jJ zg.nd (QP.d (yd b (v _) (a.mono (by decide)) (jd (ja 2) jk)))))
  (jc (jJ zg.nd (QP.d JG))
  (jc (jJ zg.nd (QP.d JG))
  (jc (jiv B (jao (i _).1 (i _).2) (a.mono (by decide)) T.g_DealError T.XD T.sub0 zg.nd (jd (QP.bb (jjz PySem.F.plainAttrs_str PySem.F.slot_str_join PySem.F.type_str_join jae jaR (QP.bb qS) (jd (QP.bb (jh3 (jf0 (N':=["_law_row_here"]) (ix:=[none]) (jh zO) ["_law_script","_law_names_here","_law_rows_here","_law_due_here","_law_found","_law_caught","error"] rfl rfl (by decide +kernel)) rfl (Qs (ja 2)) (λ_ _ _ _=>(y3 (show(["_law_row_here"]:List Str).Nodup by decide +kernel))) (λ_ _ _ _=>wm) (λ_ _ _ _=>(QK.bm (K:=K) rfl PySem.F.plainAttrs_str PySem.F.slot_str_join PySem.F.type_str_join (QK.join (K:=K) rfl) jaR (QP.bb qS) (jd (QP.bb (Vl (jfd (N':=["_law_word"]) (ix:=[none]) (jh zO) rfl (by decide +kernel)) rfl (QK.ib_any (K:=K) rfl (ja 0)) (λ_ _ _ _=>(y3 (show(["_law_word"]:List Str).Nodup by decide +kernel))) (λ_ _ _ _=>wm) (λ_ _ _ _=>(xL (jfm jdZ jdS) jj7 T.n_str Q5 (jd (ja 0) jk))))) jk))))) jk))) jk))
  (jc (jR (jr (qC a) (yM (ja 3) qI) (QP.bb qS)) (jf (jq (QP.d (zh (QP.bb (kU jg1 (ja 5) (QP.bb JG))) (Qt (yd g (h _) (a.mono (by decide)) (jd (ja 4) (jd (yM (ja 3) qI) jk))))))))
  ji)
  (jc (jR (QW.t (wF (jr uZ (ja 4) (QP.bb JG)) (Qx (jr (c_ne a) (QP.bb (yd c (x _) (a.mono (by decide)) (jd (ja 5) jk))) (yM (ja 3) qI))))) (jf (jq (QP.d jcv)))
  ji)
  (jf (jq (QP.d (yd g (h _) (a.mono (by decide)) (jd (QP.bb (jiw T.pl0 (ja 5))) (jd (yM (ja 3) qI) jk))))))))))))))⟩⟩
end
def Cd(w:List Nat):Prop:=∀ c∈w,c < 1114112
noncomputable def YH(c k:Int):Int :=
 let m:=(c % 2147483647*48271+(k*k+3*k+7)*69621) % 2147483647
 m*m % 2147483647
theorem jau(c k:Int):0<=YH c k:=U1 _ (by decide)
theorem jjk(c k:Int):YH c k < 2147483647:=U0 _ (by decide)
theorem jnB{k n:Int}(a:0<=k)(h1:k<=n):0<=k*k/\k*k<=n*n:=⟨Int.mul_nonneg a a,Int.mul_le_mul h1 h1 a (Int.le_trans a h1)⟩
theorem we{c k:Int}(a:0<=k)(h1:k<=1000000):vM [.int c,.int k]=some (.int (YH c k)):=by
 have e:=jnB a h1;have b:=U1 (c % 2147483647*48271+(k*k+3*k+7)*69621) (show(2147483647:Int)≠0 by decide);have d:=U0 (c % 2147483647*48271+(k*k+3*k+7)*69621) (show(0:Int) < 2147483647 by decide);simp(disch:=omega) [vM,jx,Y4,jd2,vf,YH]
noncomputable def abc:List Nat:=[97,98,99,100,101,102,103,104,105,106,107,108,109,110,112,113,114,115,116,117,118,119,120,121,122]
noncomputable def cons:List Nat:=[98,99,100,102,103,104,106,107,108,109,110,112,113,114,115,116,118,119,120,122]
theorem jlU{i:Int}(a:0<=i)(h1:i < 25):jF (.str abc) (.int i)=some (.str [abc.getD i.toNat 0]):=jg4 (by decide) a (by have:abc.length=25:=rfl;omega)
theorem jed{i:Int}(a:0<=i)(h1:i < 20):jF (.str cons) (.int i)=some (.str [cons.getD i.toNat 0]):=jg4 (by decide) a (by have:cons.length=20:=rfl;omega)
theorem jjZ(i:Nat):abc.getD i 0 < 1114112:=jdw (by decide) (by decide)
theorem jc8(i:Nat):cons.getD i 0 < 1114112:=jdw (by decide) (by decide)
theorem jc4:∀ ws:List (List Nat),yk [] ws=ws.flatten
 | []=>rfl
 | w::ws=>by rw[xu];simp
theorem jiK:∀ X:List Nat,(X.map λc=>[c]).flatten=X
 | []=>rfl
 | c::X=>by rw[L5,List.flatten_cons,jiK X];rfl
theorem je1(k b:Nat):(List.replicate k [b]).flatten=List.replicate k b:=by
 have:List.replicate k [b]=(List.replicate k b).map λc=>[c]:=by rw[List.map_replicate]
 rw[this,jiK]
theorem jhW{a s:Int}(h:0<=a)(c:0 < s):((a+1) % s).toNat=(a.toNat+1) % s.toNat:=by
 obtain⟨n,rfl⟩:∃ n:Nat,a=(n:Int):=⟨a.toNat,by omega⟩;obtain⟨m,rfl⟩:∃ m:Nat,s=(m:Int):=⟨s.toNat,by omega⟩;have e:((n:Int)+1) % (m:Int)=(((n+1) % m:Nat):Int):=by simp
 have b:((((n+1) % m:Nat):Int)).toNat=(n+1) % m:=N9 _;rw[e,b];rfl
def NmK(w:List Nat):Prop:=(∃ k b,1<=k/\k<=8/\b∈abc/\w=List.replicate k b) \/
 ∃ s n b c1 c2,2<=s/\s<=8/\n < s/\b∈abc/\c1∈cons/\c2∈cons/\w=((List.replicate s b).set n c1).set ((n+1) % s) c2
theorem jcp{a0 a1:Option D}{m b s at_:Int}{bc:Nat}(u:bc < 1114112){out:List D}{i:Nat}{o9:Option D}(P:0<=m)(Q:2<=s)(F:s<=8)(R:0<=at_)(G:at_ < s)(hi:i < 100)(H:out.length<=100) :
  ∃(c1 c2:Nat) (o9':Option D),c1∈cons/\c2∈cons/\c1=cons.getD ((m / 4200+3*(0+(i:Int))) % 20).toNat 0/\c2=cons.getD ((m / 84000+(0+(i:Int)) / 20) % 20).toNat 0/\k9 [a0,a1,some (.int m),some (.str [bc]),some (.str cons),some (.int s),some (.int at_),some (.lst true out),some (.int (0+(i:Int))),o9]=some (.nx [a0,a1,some (.int m),some (.str [bc]),some (.str cons),some (.int s),some (.int at_),some (.lst true (out++[.str (((List.replicate s.toNat bc).set at_.toNat c1).set ((at_+1) % s).toNat c2)])),some (.int (0+(i:Int))),o9']):=by
 have d:kG (jS [] 0) qT (pF (pV 1)) (Kw 0 s.toNat) (vN [none,some 3] [a0,a1,some (.int m),some (.str [bc]),some (.str cons),some (.int s),some (.int at_),some (.lst true out),some (.int (0+(i:Int))),o9])=some ((List.range s.toNat).map λ_=>D.str [bc]):=by
  refine qm (l:=List.range s.toNat) (en:=λi=>.int (0+(i:Int))) rfl (λρ=>∃ o,ρ=[o,some (.str [bc])]) ?_ ⟨none,rfl⟩;rintro x t ρ ⟨o,rfl⟩;exact⟨_,rfl,rfl,_,rfl⟩
 have I:((List.range s.toNat).map λ_=>D.str [bc])=(List.replicate s.toNat [bc]).map D.str:=by
  rw[List.map_const',List.map_replicate,List.length_range]
 rw[I] at d;have J:=jed (i:=(m / 4200+3*(0+(i:Int))) % 20) (by omega) (by omega);have K:=jed (i:=(m / 84000+(0+(i:Int)) / 20) % 20) (by omega) (by omega);have S:=U1 (at_+1) (show s≠0 by omega);have T:=U0 (at_+1) (show 0 < s by omega);obtain⟨a,rfl⟩:∃ n:Nat,at_=(n:Int):=⟨at_.toNat,by omega⟩;obtain⟨f,v⟩:∃ n:Nat,((a:Int)+1) % s=(n:Int):=⟨(((a:Int)+1) % s).toNat,by omega⟩;have x1:ixN s.toNat (a:Int)=some a:=jeN (by omega);have L:ixN s.toNat (f:Int)=some f:=jeN (by omega);have y:=Jx (j:=s) (by omega) (by omega);have z:lim (Kw 0 s.toNat).length=true:=jg (by rw[VD];omega);have A:((List.replicate s.toNat [bc]).map D.str).set a (.str [cons.getD ((m / 4200+3*(0+(i:Int))) % 20).toNat 0])=((List.replicate s.toNat [bc]).set a [cons.getD ((m / 4200+3*(0+(i:Int))) % 20).toNat 0]).map D.str:=by rw[List.map_set]
 have k:∀(l:List (List Nat)),(l.map D.str).set f (.str [cons.getD ((m / 84000+(0+(i:Int)) / 20) % 20).toNat 0])=(l.set f [cons.getD ((m / 84000+(0+(i:Int)) / 20) % 20).toNat 0]).map D.str:=λl=>by rw[List.map_set]
 have g:∀ w∈((List.replicate s.toNat [bc]).set a [cons.getD ((m / 4200+3*(0+(i:Int))) % 20).toNat 0]).set f [cons.getD ((m / 84000+(0+(i:Int)) / 20) % 20).toNat 0],w.length=1/\Cd w:=by
  intro w p;rcases List.mem_or_eq_of_mem_set p with p | rfl
  ·rcases List.mem_or_eq_of_mem_set p with p | rfl
   ·rw[List.eq_of_mem_replicate p];exact⟨rfl,λc d=>by rw[M8.mp d];exact u⟩
   ·exact⟨rfl,λc d=>by rw[M8.mp d];exact jc8 _⟩
  ·exact⟨rfl,λc d=>by rw[M8.mp d];exact jc8 _⟩
 have q:(((List.replicate s.toNat [bc]).set a [cons.getD ((m / 4200+3*(0+(i:Int))) % 20).toNat 0]).set f [cons.getD ((m / 84000+(0+(i:Int)) / 20) % 20).toNat 0]).length<=8:=by simp;omega
 generalize E:((List.replicate s.toNat [bc]).set a [cons.getD ((m / 4200+3*(0+(i:Int))) % 20).toNat 0]).set f [cons.getD ((m / 84000+(0+(i:Int)) / 20) % 20).toNat 0]=W at g q;have r:∀(l:List (List Nat)),(∀ w∈l,w.length=1/\Cd w)->(l.map List.length).sum=l.length/\l.flatten.length=l.length/\Cd l.flatten:=by
  intro l
  induction l with
  | nil=>intro _;exact⟨rfl,rfl,λc d=>by simp at d⟩
  | cons w l M =>
   intro h;have a1:=M λx t=>h x (by simp[t]);have N:=h w (by simp);refine⟨by simp only[L5,List.sum_cons,M3];omega,by simp only[List.flatten_cons,N5,M3];omega,?_⟩;intro c d;rw[List.flatten_cons,N3] at d;exact d.elim (N.2 c) (a1.2.2 c)
 have O:J5 [] W=true:=by
  unfold J5;have:=r W g;simp only[List.length_nil,Nat.mul_zero];exact X1 (by omega)
 have t:W.flatten=((List.replicate s.toNat bc).set a (cons.getD ((m / 4200+3*(0+(i:Int))) % 20).toNat 0)).set f (cons.getD ((m / 84000+(0+(i:Int)) / 20) % 20).toNat 0):=by
  rw[<- E];have e:((List.replicate s.toNat [bc]).set a [cons.getD ((m / 4200+3*(0+(i:Int))) % 20).toNat 0]).set f [cons.getD ((m / 84000+(0+(i:Int)) / 20) % 20).toNat 0]=(((List.replicate s.toNat bc).set a (cons.getD ((m / 4200+3*(0+(i:Int))) % 20).toNat 0)).set f (cons.getD ((m / 84000+(0+(i:Int)) / 20) % 20).toNat 0)).map λc=>[c]:=by
   rw[List.map_set,List.map_set,List.map_replicate]
  rw[e];exact jiK _
 have B:(a:Int).toNat=a:=by omega
 have C:(((a:Int)+1) % s).toNat=f:=by omega
 refine⟨cons.getD ((m / 4200+3*(0+(i:Int))) % 20).toNat 0,cons.getD ((m / 84000+(0+(i:Int)) / 20) % 20).toNat 0,some (.lst true (W.map D.str)),QD.getD_mem (by have:cons.length=20:=rfl;omega),QD.getD_mem (by have:cons.length=20:=rfl;omega),rfl,rfl,?_⟩;rw[B,C,<- t,<- jc4];simp(disch:=omega) [k9,y,z,d,vf,vO,jd2,J,K,x1,L,v,A,k,E,O,jg,-Int.zero_add,-List.getD_eq_getElem?_getD,-List.map_set,-List.map_replicate]
theorem jfb(c:Int){many:Nat}(h1:1<=many)(h2:many<=40):∃ ns:List (List Nat),vI [.int c,.int (many:Int)]=some (.lst true (ns.map D.str))/\ns.length=many/\(∀ w∈ns,NmK w):=by
 have key:∃ ns:List D,vI [.int c,.int (many:Int)]=some (.lst true ns)/\ns.length=many/\(∀ d∈ns,∃ w,d=.str w/\NmK w):=by
  have O:=jau c 3;have R:=jjk c 3;have u:=we (c:=c) (k:=3) (by decide) (by decide);have q:=jlU (i:=YH c 3 % 25) (by omega) (by omega);have J:=jjZ (YH c 3 % 25).toNat
  have h:abc.getD (YH c 3 % 25).toNat 0∈abc:=QD.getD_mem (by have:abc.length=25:=rfl;omega);generalize S:abc.getD (YH c 3 % 25).toNat 0=b at q J h;have K:([97,98,99,100,101,102,103,104,105,106,107,108,109,110,112,113,114,115,116,117,118,119,120,121,122]:List Nat)=abc:=rfl;have L:([98,99,100,102,103,104,106,107,108,109,110,112,113,114,115,116,118,119,120,122]:List Nat)=cons:=rfl;have v:wy [.int (many:Int)]=some (Kw 0 many):=by
   have:=Jx (j:=(many:Int)) (by omega) (by omega);simpa using this
  have y:lim (Kw 0 many).length=true:=jg (by rw[VD];omega);by_cases M:YH c 3 / 25 % 3=0/\many < 9
  ·obtain⟨T,U,g,V⟩:=ja5 (G:=jS [] 0) (p:=p2 YE (pV 1) (p2 zA (pV 2) (pV 0))) (Good:=λd=>∃ w,d=.str w/\NmK w) (P:=λρ=>∃ o,ρ=[o,some (.str [b]),some (.int (many:Int))]) (xs:=Kw 0 many) (by
    rintro x A ρ ⟨o,rfl⟩;obtain⟨i,B,rfl⟩:=M6.mp A;have B:=List.mem_range.mp B;refine⟨_,.str (List.replicate ((many:Int) - (0+(i:Int))).toNat [b]).flatten,rfl,?_,⟨_,rfl,.inl ⟨((many:Int) - (0+(i:Int))).toNat,b,by omega,by omega,h,?_⟩⟩,_,rfl⟩
    ·have:=jlA (a:=[b]) (n:=(many:Int) - (0+(i:Int))) (by simp) (by omega) (by omega);simp[this,-Int.zero_add]
    ·exact je1 _ _) (ρ:=vN [none,some 3,some 1] [some (.int c),some (.int (many:Int)),some (.int (YH c 3)),some (.str [b]),some (.str cons),none,none,none,none,none]) ⟨none,rfl⟩
   rw[VD] at g;refine⟨T,?_,g,V⟩;have C:(many:Int) < 9:=by omega
   unfold vI;rw[jx];unfold Jg;rw[K,L];simp(disch:=omega) [u,q,vf,vO,M.1,C,v,y,U]
  ·have N:=U1 (YH c 3 / 525) (show(2+YH c 3 / 75 % 7)≠0 by omega);have W:=U0 (YH c 3 / 525) (show 0 < (2+YH c 3 / 75 % 7) by omega);obtain⟨ρ',e,out,E,r,rfl,g,t⟩:=uL (G:=jS [] 8) (f:=k9) (xs:=Kw 0 many) (λi ρ=>∃(out:List D) (E r:Option D),ρ=[some (.int c),some (.int (many:Int)),some (.int (YH c 3)),some (.str [b]),some (.str cons),some (.int (2+YH c 3 / 75 % 7)),some (.int (YH c 3 / 525 % (2+YH c 3 / 75 % 7))),some (.lst true out),E,r]/\out.length=i/\(∀ d∈out,∃ w,d=.str w/\NmK w)) (by
    rintro i x ρ A ⟨out,E,r,rfl,g,t⟩;obtain⟨rfl,B⟩:=ja0 A;obtain⟨X,Y,Z,F,H,ec1,ec2,q⟩:=jcp (a0:=some (.int c)) (a1:=some (.int (many:Int))) (m:=YH c 3) (b:=0) (s:=2+YH c 3 / 75 % 7) (at_:=YH c 3 / 525 % (2+YH c 3 / 75 % 7)) (bc:=b) J (out:=out) (i:=i) (o9:=r) O (by omega) (by omega) N W (by omega) (by omega);refine⟨_,_,rfl,.inl q,out++[_],_,_,rfl,by simp[g],λd hd=>?_⟩
    ·rcases N3.mp hd with hd | hd
     ·exact t d hd
     ·rw[M8.mp hd];exact⟨_,rfl,.inr ⟨(2+YH c 3 / 75 % 7).toNat,(YH c 3 / 525 % (2+YH c 3 / 75 % 7)).toNat,b,X,Y,by omega,by omega,by omega,h,F,H,by rw[jhW N (by omega)]⟩⟩) (ρ:=[some (.int c),some (.int (many:Int)),some (.int (YH c 3)),some (.str [b]),some (.str cons),some (.int (2+YH c 3 / 75 % 7)),some (.int (YH c 3 / 525 % (2+YH c 3 / 75 % 7))),some (.lst true []),none,none]) ⟨[],none,none,rfl,rfl,by simp⟩
   rw[VD] at g;refine⟨out,?_,g,t⟩;unfold vI;rw[jx];unfold Jg;rw[K,L];by_cases I:YH c 3 / 25 % 3=0
   ·have C:¬ (many:Int) < 9:=λz=>M ⟨I,by omega⟩;simp(disch:=omega) [u,q,vf,vO,I,C,v,jg,e]
   ·simp(disch:=omega) [u,q,vf,vO,I,v,jg,e]
 obtain⟨ns,e,g,t⟩:=key;obtain⟨l,rfl,hk⟩:=ja4 (f:=D.str) (Q:=NmK) t;rw[L0] at g;exact⟨l,e,g,hk⟩
theorem je4{c w most:Int}(d:0<=w)(b:w<=2000)(e:7<=most)(h1:most<=10 ^ 12):∃ v,JD [.int c,.int w,.int most]=some (.int v)/\1<=v/\v<=most:=by
 have f:=U1 c (show most≠0 by omega);have a:0 < most:=by omega
 have g:=U0 c a;have h:=U1 ((c % most+1)*(w+48271)*99999999999999997) (show most≠0 by omega);have i:=U0 ((c % most+1)*(w+48271)*99999999999999997) a;have j:0<=(c % most+1)*(w+48271)/\(c % most+1)*(w+48271)<=10 ^ 12*60000:=⟨Int.mul_nonneg (by omega) (by omega),Int.mul_le_mul (by omega) (by omega) (by omega) (by omega)⟩;simp(disch:=omega) [JD,jx,Y5,jd2,vf,vO]
 repeat' split
 all_goals simp
 all_goals omega
noncomputable def jnS:List Nat:=[48,49,50,51,52,53,54,55,56,57]
theorem fig_mem{c:Nat}:c∈jnS↔48<=c/\c<=57:=by simp[jnS];omega
theorem zk(w s:List Nat)(b:w.length<=1000):Jb [.str w,.str s]=some (.bl (w.all λc=>decide (c∈s))):=by
 have a:kG (jS [] 0) qT (p2 (zG false) (pV 0) (pV 1)) (w.map λc=>D.str [c]) (vN [none,some 1] [some (.str w),some (.str s)])=some (w.map λc=>D.bl (decide (c∈s))):=by
  refine qm rfl (λρ=>∃ o,ρ=[o,some (.str s)]) ?_ ⟨none,rfl⟩;rintro x d ρ ⟨o,rfl⟩;exact⟨[some (.str [x]),some (.str s)],rfl,by simp,_,rfl⟩
 have e:(w.map λc=>D.bl (decide (c∈s)))=(w.map λc=>decide (c∈s)).map D.bl:=by rw[U2];rfl
 rw[e] at a;simp(disch:=omega) [Jb,jx,V8,a,jg,-List.map_map];rfl
theorem qN{w:List Nat}(n:w.length<=1000):j4 [.str w]=some (if 1<=w.length/\w.length<=13/\¬ (1 < w.length/\w.getD 0 0=48)/\(∀ c∈w,48<=c/\c<=57) then .int (NumText.digitsVal w:Nat) else .non):=by
 have a:=zk w [48,49,50,51,52,53,54,55,56,57] n;by_cases f:1<=w.length
 ·have b:(1:Int)<=w.length:=by omega
  by_cases i:w.length<=13
  ·have d:(w.length:Int)<=13:=by omega
   by_cases e:∀ c∈w,48<=c/\c<=57
   ·have j:(w.all λc=>decide (c∈[48,49,50,51,52,53,54,55,56,57]))=true:=List.all_eq_true.mpr λc k=>X1 (fig_mem.mpr (e c k));rw[j] at a;by_cases g:w.getD 0 0=48
    ·by_cases h:1 < w.length
     ·have l:¬ (w=[48]):=λz=>by rw[z] at h;exact absurd h (by decide)
      rw[if_neg (λz=>z.2.2.1 ⟨h,g⟩)];have m:(w.getD 0 0==48)=true:=by rw[g];rfl
      have o:(w==[48])=false:=U3.mpr l;simp(disch:=first | omega | (simp;done) | (simp;omega)) [j4,jx,ve,jaE,jg4,b,d,a,m,o,-List.getD_eq_getElem?_getD]
     ·rw[if_pos ⟨f,i,λz=>h z.1,e⟩];have l:w=[48]:=by
       obtain⟨c,rfl⟩:=List.length_eq_one_iff.mp (show w.length=1 by omega);have:c=48:=by simpa using g
       rw[this]
      subst l;simp(disch:=first | omega | (simp;done) | (simp;omega)) [j4,jx,ve,jaE,jg4,b,d,a];rfl
    ·rw[if_pos ⟨f,i,λz=>g z.2,e⟩];have m:(w.getD 0 0==48)=false:=U3.mpr g;have p:=jnq (w:=w) (λz=>by rw[z] at f;exact absurd f (by decide)) (by omega) e;simp(disch:=first | omega | (simp;done) | (simp;omega)) [j4,jx,ve,jaE,jg4,b,d,a,m,p,-List.getD_eq_getElem?_getD]
   ·have j:(w.all λc=>decide (c∈[48,49,50,51,52,53,54,55,56,57]))=false:=by
     apply Bool.eq_false_iff.mpr;intro z;exact e λc k=>fig_mem.mp (X3 (List.all_eq_true.mp z c k))
    rw[j] at a;rw[if_neg (λz=>e z.2.2.2)];simp(disch:=first | omega | (simp;done) | (simp;omega)) [j4,jx,ve,jaE,jg4,b,d,a]
  ·have d:¬ (w.length:Int)<=13:=by omega
   rw[if_neg (λz=>i z.2.1)];simp(disch:=first | omega | (simp;done) | (simp;omega)) [j4,jx,ve,jaE,jg4,b,d,a]
 ·have b:¬ (1:Int)<=w.length:=by omega
  rw[if_neg (λz=>f z.1)];simp(disch:=first | omega | (simp;done) | (simp;omega)) [j4,jx,ve,jaE,jg4,b,a]
theorem wZ(m:Nat)(h:10<=m):Jp m=Jp (m / 10)++[(Nat.digitChar (m % 10)).toNat]:=by
 have a:m % 10 < 10:=Nat.mod_lt m (by decide);have t:=Nat.toDigits_append_toDigits (b:=10) (n:=m / 10) (d:=m % 10) (by decide) (by omega) a;rw[Nat.div_add_mod,Nat.toDigits_of_lt_base a] at t;unfold Jp;rw[<- t,N6];rfl
theorem jdf:∀ d:Nat,d < 10->(Nat.digitChar d).toNat=48+d:=by decide
theorem VL(m:Nat):∀ c∈Jp m,48<=c/\c<=57:=by
 induction m using Nat.strongRecOn with
 | _ m b =>
  by_cases h:m < 10
  ·intro c a;unfold Jp at a;rw[Nat.toDigits_of_lt_base h] at a;have:=jdf m h;simp at a;omega
  ·rw[wZ m (by omega)];intro c a;rcases N3.mp a with a | a
   ·exact b (m / 10) (by omega) c a
   ·have:=jdf (m % 10) (Nat.mod_lt m (by decide));rw[M8.mp a];omega
theorem jdv(m:Nat)(h1:1<=m):(Jp m).getD 0 0≠48:=by
 induction m using Nat.strongRecOn with
 | _ m b =>
  by_cases h:m < 10
  ·unfold Jp;rw[Nat.toDigits_of_lt_base h];have:=jdf m h;simp;omega
  ·rw[wZ m (by omega)];have c:=jaS (m / 10);have e:(Jp (m / 10)++[(Nat.digitChar (m % 10)).toNat]).getD 0 0=(Jp (m / 10)).getD 0 0:=by
    cases hq:Jp (m / 10) with
    | nil=>exact absurd hq c
    | cons a l=>rfl
   rw[e];exact b (m / 10) (by omega) (by omega)
theorem jey{n:Int}(h1:1<=n)(h2:n<=10 ^ 12):j4 [.str (Jp n.toNat)]=some (.int n):=by
 have a:(Jp n.toNat).length<=13:=jbb (by decide) (by omega);have b:=jaS n.toNat
 have c:1<=(Jp n.toNat).length:=List.length_pos_iff.mpr b;rw[qN (by omega),if_pos ⟨c,a,λz=>jdv n.toNat (by omega) z.2,VL n.toNat⟩,jbo];congr 2;omega
noncomputable def KW:List (List Nat):=[[112,111,111,108],[99,108,97,105,109],[112,111,116],[101,97,116],[111,114,100,101,114],[112,97,114,116],[112,97,121],[115,104,97,114,101],[114,101,112,97,121],[102,105,108,108],[108,101,110,100],[98,97,99,107],[114,101,115,116],[108,111,111,107],[103,117,97,114,100],[100,101,98,116],[111,110],[108,97,116,101],[101,97,114,108,121],[113,117,105,116]]
theorem jmH:YB=.tup (KW.map D.str):=rfl
theorem jlo:∀ w∈KW,2<=w.length/\w.getD 0 0≠w.getD 1 0:=by decide
theorem jlL:∀ w∈KW,∀ n∈List.range w.length,¬ (w.getD n 0∈cons/\w.getD ((n+1) % w.length) 0∈cons/\∀ i∈List.range w.length,i=n \/ i=(n+1) % w.length \/ (w.getD i 0∈abc/\w.getD i 0=w.getD ((n+2) % w.length) 0)):=by decide +kernel
theorem u6{X:List Nat}{n i c:Nat}(h:n≠i):(X.set n c).getD i 0=X.getD i 0:=by
 rw[List.getD_eq_getElem?_getD,List.getD_eq_getElem?_getD,List.getElem?_set,if_neg h]
theorem jgt{X:List Nat}{n c:Nat}(h:n < X.length):(X.set n c).getD n 0=c:=by
 rw[List.getD_eq_getElem?_getD,List.getElem?_set,if_pos rfl,if_pos h];rfl
theorem jak{s b i:Nat}(h:i < s):(List.replicate s b).getD i 0=b:=by
 rw[List.getD_eq_getElem?_getD,List.getElem?_replicate,if_pos h];rfl
theorem jhC{w:List Nat}(h:NmK w):w∉KW:=by
 intro m;rcases h with⟨k,b,v,x,o,rfl⟩ | ⟨s,n,b,p,r,v,x,y,o,g,j,rfl⟩
 ·have:=jlo _ m;rw[List.length_replicate] at this;rw[jak (by omega),jak (by omega)] at this;exact this.2 rfl
 ·have a:(((List.replicate s b).set n p).set ((n+1) % s) r).length=s:=by simp
  have t:=jlL _ m n (List.mem_range.mpr (by rw[a];exact y));rw[a] at t;have D:(n+1) % s < s:=Nat.mod_lt _ (by omega);have l:(n+2) % s < s:=Nat.mod_lt _ (by omega);have ne:(n+1) % s≠n:=by
   by_cases q:n+1=s
   ·rw[q,Nat.mod_self];omega
   ·rw[Nat.mod_eq_of_lt (by omega)];omega
  have c:∀ i,i < s->i≠n->i≠(n+1) % s->(((List.replicate s b).set n p).set ((n+1) % s) r).getD i 0=b:=λi d e f=>by
   rw[u6 (Ne.symm f),u6 (Ne.symm e),jak d]
  refine t ⟨?_,?_,λi d=>?_⟩
  ·rw[u6 ne,jgt (by simp;omega)];exact g
  ·rw[jgt (by simp;omega)];exact j
  ·have d:=List.mem_range.mp d;by_cases e:i=n
   ·exact .inl e
   ·by_cases f:i=(n+1) % s
    ·exact .inr (.inl f)
    ·refine .inr (.inr ⟨by rw[c i d e f];exact o,?_⟩);have z:3<=s:=by
      rcases Nat.lt_or_ge s 3 with q | q
      ·exfalso;have:s=2:=by omega
       subst this;omega
      ·exact q
     have A:(n+2) % s≠n:=by
      by_cases q:n+2 < s
      ·rw[Nat.mod_eq_of_lt q];omega
      ·have:(n+2) % s=n+2 - s:=by rw[Nat.mod_eq_sub_mod (by omega),Nat.mod_eq_of_lt (by omega)]
       omega
     have B:(n+2) % s≠(n+1) % s:=by
      by_cases q:n+2 < s
      ·rw[Nat.mod_eq_of_lt q,Nat.mod_eq_of_lt (by omega)];omega
      ·have u:(n+2) % s=n+2 - s:=by rw[Nat.mod_eq_sub_mod (by omega),Nat.mod_eq_of_lt (by omega)]
       by_cases C:n+1=s
       ·rw[C,Nat.mod_self,u];omega
       ·rw[Nat.mod_eq_of_lt (show n+1 < s by omega),u];omega
     rw[c i d e f,c _ l A B]
theorem jde{w:List Nat}(h:NmK w):1<=w.length/\w.length<=8:=by
 rcases h with⟨k,b,a,c,d,rfl⟩ | ⟨s,n,b,g,i,a,c,j,d,e,f,rfl⟩
 ·rw[List.length_replicate];exact⟨a,c⟩
 ·simp;omega
theorem jeF:∀ c∈abc,97<=c/\c<=122:=by decide
theorem jbB:∀ c∈cons,97<=c/\c<=122:=by decide
theorem xT{w:List Nat}(h:NmK w):∀ c∈w,97<=c/\c<=122:=by
 rcases h with⟨k,b,g,i,d,rfl⟩ | ⟨s,n,b,j,l,g,i,m,d,e,f,rfl⟩
 ·intro c a;rw[List.eq_of_mem_replicate a];exact jeF b d
 ·intro c a;rcases List.mem_or_eq_of_mem_set a with a | rfl
  ·rcases List.mem_or_eq_of_mem_set a with a | rfl
   ·rw[List.eq_of_mem_replicate a];exact jeF b d
   ·exact jbB _ e
  ·exact jbB _ f
theorem jjM(w:List Nat)(l:List (List Nat)):zG true (.str w) (.tup (l.map D.str))=some (.bl (true != decide (w∈l))):=by
 show(bif jb2 (.str w) (l.map D.str) then some (D.bl (true != inL (.str w) (l.map D.str))) else none)=_;rw[Ql,xE];rfl
theorem jaK{c:Nat}(h:97<=c/\c<=122):c∈[97,98,99,100,101,102,103,104,105,106,107,108,109,110,111,112,113,114,115,116,117,118,119,120,121,122]:=by
 simp only[M5,List.not_mem_nil,or_false];omega
theorem jbL{w:List Nat}(h:NmK w):VO [.str w]=some (.bl true):=by
 have i:=jde h;have b:=zk w [97,98,99,100,101,102,103,104,105,106,107,108,109,110,111,112,113,114,115,116,117,118,119,120,121,122] (by omega);rw[List.all_eq_true.mpr λc e=>X1 (jaK (xT h c e))] at b;have a:=jjM w KW;rw[X2 (jhC h)] at a;have f:(1:Int)<=w.length:=by omega
 have g:(w.length:Int)<=8:=by omega
 have d:=jmH;generalize KW.map D.str=KL at a d;simp(disch:=first | omega | (simp;done) | (simp;omega)) [VO,jx,zf,jaE,f,g,b,d,a]
inductive Item where
 | nm (w:List Nat) | nu (n:Int)
noncomputable def Item.enc:Item->D
 | .nm w=>.str w
 | .nu n=>.int n
noncomputable def Item.wd:Item->List Nat
 | .nm w=>w
 | .nu n=>Jp n.toNat
noncomputable abbrev Km:List Nat:=[110,97,109,101]
inductive Fit:Item->List Nat->Prop where
 | nm (w:List Nat) (h:NmK w):Fit (.nm w) Km
 | nu (n:Int) (k:List Nat) (g:Int) (hk:k≠Km) (hg:zQ ks_GREATEST Yv (.str k)=some (.int g)) (h1:1<=n) (h2:n<=g) (h3:g<=10 ^ 12):Fit (.nu n) k
theorem Fit.wd{x:Item}{k:List Nat}(h:Fit x k):x.wd≠[]/\32∉x.wd/\x.wd.length<=13:=by
 cases h with
 | nm w h =>
  have a:=jde h;exact⟨λz=>by rw[show(Item.nm w).wd=w from rfl] at z;rw[z] at a;simp at a,λz=>by have:=xT h 32 z;omega,by show w.length<=13;omega⟩
 | nu n k g b c d e f=>exact⟨jaS _,λz=>by have:=VL _ 32 z;omega,jbb (by decide) (by omega)⟩
theorem Fit.str{x:Item}{k:List Nat}(h:Fit x k):je6 [x.enc]=some (.str x.wd):=by
 cases h with
 | nm w h=>rfl
 | nu n k g c d e a b=>exact jk5 (by omega) (Int.lt_of_le_of_lt (Int.le_trans a b) (by decide))
theorem Fit.atom{x:Item}{k:List Nat}(h:Fit x k):frz x.enc=true/\vT x.enc=true/\YV x.enc .non=some (.bl false):=by cases h<;>exact⟨rfl,rfl,rfl⟩
theorem x3{x:Item}{k:List Nat}(h:Fit x k):j9 [.str x.wd,.str k]=some x.enc:=by
 cases h with
 | nm w h =>
  have e:=jbL h;show j9 [.str w,.str Km]=some (.str w);simp[j9,jx,qh,e]
 | nu n k g b c a d j =>
  have e:=jey a (by omega);have f:(k==[110,97,109,101])=false:=U3.mpr b;have i:YV (.int n) .non=some (.bl false):=rfl;show j9 [.str (Jp n.toNat),.str k]=some (.int n);simp[j9,jx,qh,f,e,i,c,a,d]
structure Fm(kw:List Nat)(xs:List Item)(kinds:List (List Nat)):Prop where
 kw1:kw≠[]
 kw2:32∉kw
 kw3:kw.length<=13
 at_:zQ ks_FORMS qu (.str kw)=some (.tup (kinds.map D.str))
 len:xs.length=kinds.length
 few:xs.length<=5
 fit:∀(i:Nat) (x:Item) (k:List Nat),xs[i]?=some x->kinds[i]?=some k->Fit x k
theorem Fm.mem{kw:List Nat}{xs:List Item}{kinds:List (List Nat)}(h:Fm kw xs kinds){x:Item}(b:x∈xs):∃ k,Fit x k:=by
 obtain⟨i,a⟩:=List.mem_iff_getElem?.mp b;have c:i < kinds.length:=by rw[<- h.len];exact(L9.mp a).1
 exact⟨_,h.fit i x _ a (X6 c)⟩
theorem wX{a0 a1 a2:Option D}:∀{xs:List Item}{kinds:List (List Nat)}{acc:List D}{o4 o5 o6:Option D},xs.length=kinds.length->(∀(i:Nat) (x:Item) (k:List Nat),xs[i]?=some x->kinds[i]?=some k->Fit x k)->acc.length+xs.length<=1000 ->
  ∃ o4' o5' o6',kE (gT 2 (gC (jS [] 4) (gC (jS [] 5) gN))) qP (Kx (xs.map λx=>D.str x.wd) (kinds.map D.str)) [a0,a1,a2,some (.lst true acc),o4,o5,o6]=some (.nx [a0,a1,a2,some (.lst true (acc++xs.map Item.enc)),o4',o5',o6'])
 | [],[],acc,o4,o5,o6,_,_,_=>⟨o4,o5,o6,by simp[Kx]⟩
 | [],_::_,_,_,_,_,h,_,_=>by simp at h
 | _::_,[],_,_,_,_,h,_,_=>by simp at h
 | x::xs,k::kinds,acc,o4,o5,o6,d,b,f=>by
  rw[M3] at f;have c:=b 0 x k rfl rfl;have g:=x3 c;obtain⟨j,l,m⟩:=c.atom;obtain⟨o4',o5',o6',e⟩:=wX (a0:=a0) (a1:=a1) (a2:=a2) (xs:=xs) (kinds:=kinds) (acc:=acc++[x.enc]) (o4:=some (.str x.wd)) (o5:=some (.str k)) (o6:=some x.enc) (by simpa using d) (λi x k n o=>b (i+1) x k (by simpa using n) (by simpa using o)) (by rw[N5];simp only[M3,List.length_nil];omega);refine⟨o4',o5',o6',?_⟩;have p:(gT 2 (gC (jS [] 4) (gC (jS [] 5) gN))) (.tup [.str x.wd,.str k]) [a0,a1,a2,some (.lst true acc),o4,o5,o6]=some [a0,a1,a2,some (.lst true acc),some (.str x.wd),some (.str k),o6]:=rfl;have a:lim acc.length=true:=jg (by omega);have q:qP [a0,a1,a2,some (.lst true acc),some (.str x.wd),some (.str k),o6]=some (.nx [a0,a1,a2,some (.lst true (acc++[x.enc])),some (.str x.wd),some (.str k),some x.enc]):=by
   simp[qP,g,l,m,j,a]
  rw[L5,L5,Kx,kl,p,L4,q,L4,Qm,e];simp
theorem jht{kw:List Nat}{xs:List Item}{kinds:List (List Nat)}(h:Fm kw xs kinds)(pl:Int):Yq [.lst false (.str kw::xs.map λx=>.str x.wd),.tup (kinds.map D.str),.int pl]=some (.lst true (.str kw::xs.map Item.enc)):=by
 have few:=h.few;have a:=h.len;obtain⟨i,j,k,e⟩:=wX (a0:=some (.lst false (.str kw::xs.map λx=>.str x.wd))) (a1:=some (.tup (kinds.map D.str))) (a2:=some (.int pl)) (xs:=xs) (kinds:=kinds) (acc:=[.str kw]) (o4:=none) (o5:=none) (o6:=none) h.len h.fit (by simp;omega);have l:YV (.tup (kinds.map D.str)) .non=some (.bl false):=rfl;have c:frzs (xs.map λx=>D.str x.wd)=true:=ke λd hd=>by obtain⟨x,_,rfl⟩:=M6.mp hd;rfl
 have b:fzs (xs.map λx=>D.str x.wd)=xs.map λx=>D.str x.wd:=jda λd hd=>by obtain⟨x,_,rfl⟩:=M6.mp hd;rfl
 have f:jep (some 1) none (.lst false (.str kw::xs.map λx=>.str x.wd))=some (.lst true (xs.map λx=>.str x.wd)):=by
  rw[jnb (by rw[wK,c];rfl),V9 _ (by decide)];rfl
 have m:jF (.lst false (.str kw::xs.map λx=>.str x.wd)) (.int 0)=some (.str kw):=by rw[qA (by decide) (by simp)];rfl
 have n:jgl [.lst true (xs.map λx=>.str x.wd),.tup (kinds.map D.str)]=some (Kx (xs.map λx=>D.str x.wd) (kinds.map D.str)):=by
  show(bif decide ((xs.map λx=>D.str x.wd).length<=(kinds.map D.str).length) then some (Kx (fzs (xs.map λx=>D.str x.wd)) (fzs (kinds.map D.str))) else none)=_;rw[L0,L0,X1 (by omega),b,vE];rfl
 have o:((kinds.length:Int)==(xs.length:Int))=true:=by rw[a];simp
 have g:((xs.length:Int)+1 - 1)=xs.length:=by omega
 simp only[List.cons_append,X5] at e;simp(disch:=omega) [Yq,jx,Kc,l,f,m,n,e,jg,a,g]
theorem K9{T:List Nat}(d:T.length<=1000):qf [.str T]=some (.lst true ((wgo 32 [] T).map D.str)):=by
 have c:kG (jS [] 0) (jj (p2 vX (pV 0) (pC (.str [])))) (pF (pV 0)) ((vj T [32]).map D.str) [none]=some (((vj T [32]).filter λw=>!(w==[])).map D.str):=by
  refine jb5 (λρ=>∃ o,ρ=[o]) ?_ ⟨none,rfl⟩;rintro w e ρ ⟨o,rfl⟩;exact⟨[some (.str w)],rfl,by simp only[jcB,jn7,pV0,jn8,L4,jlf,jhy],rfl,_,rfl⟩
 rw[ut] at c;have a:KR (.str T) [.str [32]]=some (.lst true ((vj T [32]).map D.str)):=by
  show(bif !([32]:List Nat).isEmpty&&decide (T.length<=1000000) then _ else _)=_;rw[X1 (by omega)];rfl
 have b:lim (vj T [32]).length=true:=by
  refine jg ?_;unfold vj;rw[L0];have:=PyProof.Rows.split_le (S T) (S [32]);rw[Jr] at this;omega
 simp[qf,jx,V7,a,b,vN,c,-jcB]
theorem jkw{kw:List Nat}{xs:List Item}{kinds:List (List Nat)}(h:Fm kw xs kinds){T:List Nat}(f:T.length<=1000)(g:wgo 32 [] T=kw::xs.map Item.wd)(pl:Int):ya [.str T,.int pl]=some (.lst true (.str kw::xs.map Item.enc)):=by
 have c:=K9 f;rw[g] at c;have i:=jht h pl;have j:((kw::xs.map Item.wd).map D.str)=.str kw::xs.map λx=>D.str x.wd:=by rw[L5,U2];rfl
 rw[j] at c;have a:fzs (xs.map λx=>D.str x.wd)=xs.map λx=>D.str x.wd:=jda λd hd=>by obtain⟨x,_,rfl⟩:=M6.mp hd;rfl
 have l:jF (.lst true (.str kw::xs.map λx=>.str x.wd)) (.int 0)=some (.str kw):=by rw[qA (by decide) (by simp)];rfl
 have e:yY (xs.map λx=>D.str x.wd)=true:=by rw[yZ,List.all_map,List.all_eq_true];intro x _;rfl
 have b:yY (xs.map Item.enc)=true:=by
  rw[yZ];exact List.all_eq_true.mpr λd hd=>by obtain⟨x,m,rfl⟩:=M6.mp hd;obtain⟨k,n⟩:=h.mem m;exact n.atom.2.1
 have o:¬ ((xs.length:Int)+1=0):=by omega
 simp[ya,jx,kY,c,l,h.at_,a,i,e,b,o]
inductive Fits:List Item->List (List Nat)->Prop where
 | nil:Fits [] []
 | cons {x:Item}{k:List Nat}{xs:List Item}{ks:List (List Nat)}(h:Fit x k) (t:Fits xs ks):Fits (x::xs) (k::ks)
noncomputable abbrev jeq:D->Rh->Option Rh:=gT 2 (gC (jS [] 4) (gC (jS [] 5) gN))
theorem jcr{a0 a1:Option D}{pl:Int}{w k:List Nat}(l:j9 [.str w,.str k]=some .non)(m:w.length<=1000)(n:(w.all λc=>decide (c < 1000))=true){rest kr:List (List Nat)}{xs:List Item}{ks:List (List Nat)}(o:Fits xs ks) :
  ∀{acc:List D}{o4 o5 o6:Option D},acc.length+xs.length<=1000->Jy jeq vx vy (Kx ((xs.map Item.wd++w::rest).map D.str) ((ks++k::kr).map D.str)) [a0,a1,some (.int pl),some (.lst true acc),o4,o5,o6]=some (0,pl):=by
 induction o with
 | nil =>
  intro acc o4 o5 o6 s;have f:jeq (.tup [.str w,.str k]) [a0,a1,some (.int pl),some (.lst true acc),o4,o5,o6]=some [a0,a1,some (.int pl),some (.lst true acc),some (.str w),some (.str k),o6]:=rfl;have e:YV .non .non=some (.bl true):=rfl;have g:vy [a0,a1,some (.int pl),some (.lst true acc),some (.str w),some (.str k),o6]=some (0,pl):=by
   simp[vy,qB,xN,xIf,vk,jl8,l,m,n,e]
  simp only[List.map_nil,X5,L5,Kx,Jy,f,g]
 | @cons x a xs ks i t p =>
  intro acc o4 o5 o6 q;rw[M3] at q;have b:=x3 i;obtain⟨j,d,e⟩:=i.atom;have f:jeq (.tup [.str x.wd,.str a]) [a0,a1,some (.int pl),some (.lst true acc),o4,o5,o6]=some [a0,a1,some (.int pl),some (.lst true acc),some (.str x.wd),some (.str a),o6]:=rfl;have h:lim acc.length=true:=jg (by omega);have g:vy [a0,a1,some (.int pl),some (.lst true acc),some (.str x.wd),some (.str a),o6]=none:=by
   simp[vy,qB,xN,xIf,b,d,e,j]
  have r:vx [a0,a1,some (.int pl),some (.lst true acc),some (.str x.wd),some (.str a),o6]=some (.nx [a0,a1,some (.int pl),some (.lst true (acc++[x.enc])),some (.str x.wd),some (.str a),some x.enc]):=by
   simp[vx,b,d,e,j,h]
  simp only[L5,List.cons_append,Kx,Jy,f,g,r];exact p (by rw[N5];simp only[M3,List.length_nil];omega)
theorem jdB{ws:List (List Nat)}(pl:Int):yn [.lst false (ws.map D.str),.non,.int pl]=some (0,pl):=by
 have a:YV .non .non=some (.bl true):=rfl;simp[yn,fnR,qj,qB,xIf,vk,a]
theorem jfe{ws kinds:List (List Nat)}(h:kinds.length+1≠ws.length)(c:ws.length<=1000)(d:kinds.length<=1000)(pl:Int):yn [.lst false (ws.map D.str),.tup (kinds.map D.str),.int pl]=some (0,pl):=by
 have b:YV (.tup (kinds.map D.str)) .non=some (.bl false):=rfl;have a:((kinds.length:Int)==(ws.length:Int) - 1)=false:=U3.mpr (by omega);simp(disch:=omega) [yn,fnR,qj,qB,xIf,vk,b,a]
theorem jeC{w k:List Nat}{n g:Int}(f:k≠Km)(a:zQ ks_GREATEST Yv (.str k)=some (.int g))(e:j4 [.str w]=some (.int n))(h:n < 1 \/ g < n):j9 [.str w,.str k]=some .non:=by
 have b:(k==[110,97,109,101])=false:=U3.mpr f;have c:YV (.int n) .non=some (.bl false):=rfl;by_cases d:1<=n
 ·have i:¬ n<=g:=by omega
  simp[j9,jx,qh,b,e,c,a,d,i]
 ·simp[j9,jx,qh,b,e,c,a,d]
structure Wd(w:List Nat):Prop where
 ne:w≠[]
 bl:32∉w
 len:w.length<=14
 sm:(w.all λc=>decide (c < 1000))=true
inductive Bad:List (List Nat)->Prop where
 | form {kw:List Nat}{ws:List (List Nat)}(h:zQ ks_FORMS qu (.str kw)=none):Bad (kw::ws)
 | len {kw:List Nat}{ws kinds:List (List Nat)}(h:zQ ks_FORMS qu (.str kw)=some (.tup (kinds.map D.str))) (hk:kinds.length<=100) (hn:kinds.length≠ws.length):Bad (kw::ws)
 | word {kw w k:List Nat}{rest ks kr:List (List Nat)}{xs:List Item}(h:zQ ks_FORMS qu (.str kw)=some (.tup ((ks++k::kr).map D.str))) (hf:Fits xs ks) (hl:rest.length=kr.length) (hx:xs.length<=10) (hr:kr.length<=10)
   (hw:Wd w) (hv:j9 [.str w,.str k]=some .non):Bad (kw::(xs.map Item.wd++w::rest))
theorem Fits.len{xs:List Item}{ks:List (List Nat)}(h:Fits xs ks):xs.length=ks.length:=by
 induction h with
 | nil=>rfl
 | cons _ _ a=>simp[a]
theorem jcW{kw w k:List Nat}{rest ks kr:List (List Nat)}{xs:List Item}(c:Fits xs ks)(t:rest.length=kr.length)(u:xs.length<=10)(v:kr.length<=10)(d:Wd w)(j:j9 [.str w,.str k]=some .non)(pl:Int) :
  yn [.lst false ((kw::(xs.map Item.wd++w::rest)).map D.str),.tup ((ks++k::kr).map D.str),.int pl]=some (0,pl):=by
 have l:=c.len;generalize f:xs.map Item.wd++w::rest=W;generalize g:ks++k::kr=Ks;have m:W.length=xs.length+rest.length+1:=by rw[<- f];simp;omega
 have h:Ks.length=W.length:=by rw[m,<- g];simp;omega
 have e:=jcr (a0:=some (.lst false ((kw::W).map D.str))) (a1:=some (.tup (Ks.map D.str))) (pl:=pl) j (by have:=d.len;omega) d.sm (rest:=rest) (kr:=kr) c (acc:=[.str kw]) (o4:=none) (o5:=none) (o6:=none) (by simp;omega);rw[f,g] at e;have n:YV (.tup (Ks.map D.str)) .non=some (.bl false):=rfl;have a:jep (some 1) none (.lst false ((kw::W).map D.str))=some (.lst true (W.map D.str)):=by
  rw[jd4,V9 _ (by decide)];rfl
 have o:jF (.lst false ((kw::W).map D.str)) (.int 0)=some (.str kw):=by rw[qA (by decide) (by simp)];rfl
 have p:jgl [.lst true (W.map D.str),.tup (Ks.map D.str)]=some (Kx (W.map D.str) (Ks.map D.str)):=by
  show(bif decide ((W.map D.str).length<=(Ks.map D.str).length) then some (Kx (fzs (W.map D.str)) (fzs (Ks.map D.str))) else none)=_;rw[L0,L0,X1 (by omega),vE,vE];rfl
 have q:((Ks.length:Int)==((kw::W).length:Int) - 1)=true:=by rw[h];simp;try omega
 have i:(((kw::W).map D.str).length:Int) - 1=(W.length:Int):=by simp;try omega
 have b:((W.length:Int)+1 - 1)=W.length:=by omega
 generalize r:(kw::W).map D.str=L at *;have s:L.length=W.length+1:=by rw[<- r];simp
 simp(disch:=omega) [yn,fnR,qj,qB,xIf,xN,jeU,n,a,o,p,e,jg,h,s,b]
theorem jhT{W:List (List Nat)}(h:Bad W){T:List Nat}(o:T.length<=1000)(p:wgo 32 [] T=W)(k:W.length<=1000)(pl:Int):jP [.str T,.int pl]=some (0,pl):=by
 have e:=K9 o;rw[p] at e;have key:∀(kw:List Nat) (a:List (List Nat)) (d:D),W=kw::a->(zQ ks_FORMS qu (.str kw)).getD .non=d->frz d=true->yn [.lst false ((kw::a).map D.str),d,.int pl]=some (0,pl)->jP [.str T,.int pl]=some (0,pl):=by
  intro kw a d q r f l;subst q;have m:jF (.lst true ((kw::a).map D.str)) (.int 0)=some (.str kw):=by rw[qA (by decide) (by simp)];rfl
  have n:fzs ((kw::a).map D.str)=(kw::a).map D.str:=vE _;have b:yY ((kw::a).map D.str)=true:=by rw[yZ,List.all_map,List.all_eq_true];intro x _;rfl
  have hd:fz d=d:=jel d f;have g:((((kw::a).map D.str).length:Int)==0)=false:=by simp;omega
  have c:((kw::a).map D.str).length<=1000:=by simpa using k
  generalize(kw::a).map D.str=L at e m n b l g c;simp[jP,fnR,vU,qB,xIf,xN,JT,e,m,r,n,b,hd,l,g]
 cases h with
 | form h=>exact key _ _ .non rfl (by rw[h];rfl) rfl (jdB pl)
 | len h v g=>exact key _ _ _ rfl (by rw[h];rfl) (by rw[frz];exact ke λd hd=>by obtain⟨x,_,rfl⟩:=M6.mp hd;rfl) (jfe (by simp;omega) k (by omega) pl)
 | word h f i s t j u=>exact key _ _ _ rfl (by rw[h];rfl) (by rw[frz];exact ke λd hd=>by obtain⟨x,_,rfl⟩:=M6.mp hd;rfl) (jcW f i s t j u pl)
theorem jew{a0 a1:Option D}{pl:Int}{xs:List Item}{ks:List (List Nat)}(h:Fits xs ks) :
  ∀{acc:List D}{o4 o5 o6:Option D},acc.length+xs.length<=1000->Jy jeq vx vy (Kx ((xs.map Item.wd).map D.str) (ks.map D.str)) [a0,a1,some (.int pl),some (.lst true acc),o4,o5,o6]=none:=by
 induction h with
 | nil =>
  intro acc o4 o5 o6 n;simp[Kx,Jy]
 | @cons x a xs ks e t i =>
  intro acc o4 o5 o6 j;rw[M3] at j;have b:=x3 e;obtain⟨f,c,g⟩:=e.atom;have k:jeq (.tup [.str x.wd,.str a]) [a0,a1,some (.int pl),some (.lst true acc),o4,o5,o6]=some [a0,a1,some (.int pl),some (.lst true acc),some (.str x.wd),some (.str a),o6]:=rfl;have d:lim acc.length=true:=jg (by omega);have l:vy [a0,a1,some (.int pl),some (.lst true acc),some (.str x.wd),some (.str a),o6]=none:=by
   simp[vy,qB,xN,xIf,b,c,g,f]
  have m:vx [a0,a1,some (.int pl),some (.lst true acc),some (.str x.wd),some (.str a),o6]=some (.nx [a0,a1,some (.int pl),some (.lst true (acc++[x.enc])),some (.str x.wd),some (.str a),some x.enc]):=by
   simp[vx,b,c,g,f,d]
  simp only[L5,List.cons_append,Kx,Jy,k,l,m];exact i (by rw[N5];simp only[M3,List.length_nil];omega)
theorem jem{kw:List Nat}{xs:List Item}{a:List (List Nat)}(f:Fits xs a)(l:xs.length<=20)(pl:Int) :
  yn [.lst false ((kw::xs.map Item.wd).map D.str),.tup (a.map D.str),.int pl]=none:=by
 have m:=f.len;have e:=jew (a0:=some (.lst false ((kw::xs.map Item.wd).map D.str))) (a1:=some (.tup (a.map D.str))) (pl:=pl) f (acc:=[.str kw]) (o4:=none) (o5:=none) (o6:=none) (by simp;omega);have n:(xs.map Item.wd).length=xs.length:=by simp
 generalize xs.map Item.wd=W at *;have g:YV (.tup (a.map D.str)) .non=some (.bl false):=rfl;have b:jep (some 1) none (.lst false ((kw::W).map D.str))=some (.lst true (W.map D.str)):=by
  rw[jd4,V9 _ (by decide)];rfl
 have h:jF (.lst false ((kw::W).map D.str)) (.int 0)=some (.str kw):=by rw[qA (by decide) (by simp)];rfl
 have i:jgl [.lst true (W.map D.str),.tup (a.map D.str)]=some (Kx (W.map D.str) (a.map D.str)):=by
  show(bif decide ((W.map D.str).length<=(a.map D.str).length) then some (Kx (fzs (W.map D.str)) (fzs (a.map D.str))) else none)=_;rw[L0,L0,X1 (by omega),vE,vE];rfl
 have c:((W.length:Int)+1 - 1)=W.length:=by omega
 have d:a.length=W.length:=by omega
 generalize j:(kw::W).map D.str=L at *;have k:L.length=W.length+1:=by rw[<- j];simp
 simp(disch:=omega) [yn,fnR,qj,qB,xIf,xN,jeU,g,b,h,i,e,jg,d,k,c];split<;>rfl
theorem jfl{kw:List Nat}{xs:List Item}{a:List (List Nat)}(e:zQ ks_FORMS qu (.str kw)=some (.tup (a.map D.str)))(f:Fits xs a)(g:xs.length<=20){T:List Nat}(h:T.length<=1000)(i:wgo 32 [] T=kw::xs.map Item.wd)(pl:Int):jP [.str T,.int pl]=none:=by
 have d:=K9 h;rw[i] at d;have j:=jem (kw:=kw) f g pl;have k:jF (.lst true ((kw::xs.map Item.wd).map D.str)) (.int 0)=some (.str kw):=by rw[qA (by decide) (by simp)];rfl
 have l:=vE (kw::xs.map Item.wd);have b:=vE a;have c:yY ((kw::xs.map Item.wd).map D.str)=true:=by rw[yZ,List.all_map,List.all_eq_true];intro x _;rfl
 have m:((((kw::xs.map Item.wd).map D.str).length:Int)==0)=false:=by simp;omega
 have n:(zQ ks_FORMS qu (.str kw)).getD .non=.tup (a.map D.str):=by rw[e];rfl
 generalize(kw::xs.map Item.wd).map D.str=L at *;simp[jP,fnR,vU,qB,xIf,xN,JT,d,k,n,l,b,c,j,m]
theorem jbT{T:List Nat}(b:T.length<=1000)(c:wgo 32 [] T=[])(pl:Int):ya [.str T,.int pl]=some .non/\jP [.str T,.int pl]=none:=by
 have a:=K9 b;rw[c] at a;simp only[List.map_nil] at a;exact⟨by simp[ya,jx,kY,a],by simp[jP,fnR,vU,qB,xIf,xN,JT,a]⟩
noncomputable abbrev Pr:=Int×Int
noncomputable abbrev kQ(q:Pr):D:=.tup [.int q.1,.int q.2]
structure Db where
 n:List Nat
 p:List Nat
 t:List Pr
noncomputable def jD(o:Bool)(x:Db):D:=.tup [.str x.n,.str x.p,.lst o (x.t.map kQ)]
inductive Ev where
 | late (n:List Nat) (d b:Int) | early (n:List Nat) (d:Int) | quit (n:List Nat) (d:Int)
noncomputable def Ev.n:Ev->List Nat
 | .late n _ _=>n
 | .early n _=>n
 | .quit n _=>n
noncomputable def Ev.d:Ev->Int
 | .late _ d _=>d
 | .early _ d=>d
 | .quit _ d=>d
noncomputable def Ev.enc:Ev->D
 | .late n d b=>.tup [.str [108,97,116,101],.str n,.int d,.int b]
 | .early n d=>.tup [.str [101,97,114,108,121],.str n,.int d]
 | .quit n d=>.tup [.str [113,117,105,116],.str n,.int d]
theorem E2(o:Bool)(x:Db):jF (jD o x) (.int 2)=some (.lst o (x.t.map kQ)):=rfl
theorem qL(T:List Pr):frzs (T.map kQ)=true:=ke λd hd=>by obtain⟨x,_,rfl⟩:=M6.mp hd;rfl
theorem jfT(x:Db):frz (jD false x)=true:=by
 have:=qL x.t;show frz (D.tup [.str x.n,.str x.p,.lst false (x.t.map kQ)])=true;simp[this]
theorem vm(B:List Db):frzs (B.map (jD false))=true:=ke λd hd=>by obtain⟨x,_,rfl⟩:=M6.mp hd;exact jfT x
inductive Rw where
 | debt (n p:List Nat) | on (d c:Int) | ev (e:Ev)
noncomputable def Rw.kw:Rw->List Nat
 | .debt _ _=>[100,101,98,116]
 | .on _ _=>[111,110]
 | .ev (.late _ _ _)=>[108,97,116,101]
 | .ev (.early _ _)=>[101,97,114,108,121]
 | .ev (.quit _ _)=>[113,117,105,116]
noncomputable def Rw.xs:Rw->List Item
 | .debt n p=>[.nm n,.nm p]
 | .on d c=>[.nu d,.nu c]
 | .ev (.late n d b)=>[.nm n,.nu d,.nu b]
 | .ev (.early n d)=>[.nm n,.nu d]
 | .ev (.quit n d)=>[.nm n,.nu d]
noncomputable abbrev jg0:List Nat:=[100,97,121]
noncomputable abbrev jeO:List Nat:=[99,111,105,110,115]
noncomputable abbrev kBy:List Nat:=[98,121]
noncomputable def Rw.ks:Rw->List (List Nat)
 | .debt _ _=>[Km,Km]
 | .on _ _=>[jg0,jeO]
 | .ev (.late _ _ _)=>[Km,jg0,kBy]
 | .ev (.early _ _)=>[Km,jg0]
 | .ev (.quit _ _)=>[Km,jg0]
noncomputable def Rw.wds(r:Rw):List (List Nat):=r.kw::r.xs.map Item.wd
noncomputable def Rw.enc(r:Rw):List D:=.str r.kw::r.xs.map Item.enc
inductive RwOk:Rw->Prop where
 | debt {n p:List Nat}(h:NmK n) (k:NmK p):RwOk (.debt n p)
 | on {d c:Int}(h:1<=d/\d<=60) (k:1<=c/\c<=1000000000000):RwOk (.on d c)
 | ev {e:Ev}(h:NmK e.n) (d:1<=e.d/\e.d<=60) (b:∀ n d b,e=.late n d b->1<=b/\b<=30):RwOk (.ev e)
theorem QR{n:Int}(h1:1<=n)(h2:n<=60):Fit (.nu n) jg0:=.nu n _ 60 (by decide) rfl h1 h2 (by decide)
theorem jkT{n:Int}(h1:1<=n)(h2:n<=30):Fit (.nu n) kBy:=.nu n _ 30 (by decide) rfl h1 h2 (by decide)
theorem jeK{n:Int}(h1:1<=n)(h2:n<=1000000000000):Fit (.nu n) jeO:=.nu n _ 1000000000000 (by decide) rfl h1 h2 (by decide)
theorem Rw.kwk(r:Rw):r.kw≠[]/\32∉r.kw/\r.kw.length<=13/\10∉r.kw:=by
 rcases r with⟨_,_⟩ | ⟨_,_⟩ | (_ | _ | _)<;>simp[Rw.kw]
theorem RwOk.fits{r:Rw}(h:RwOk r):Fits r.xs r.ks:=by
 cases h with
 | debt h k=>exact .cons (.nm _ h) (.cons (.nm _ k) .nil)
 | on h k=>exact .cons (QR h.1 h.2) (.cons (jeK k.1 k.2) .nil)
 | @ev e h d b =>
  cases e with
  | late n a b'=>exact .cons (.nm _ h) (.cons (QR d.1 d.2) (.cons (jkT (b _ _ _ rfl).1 (b _ _ _ rfl).2) .nil))
  | early n a=>exact .cons (.nm _ h) (.cons (QR d.1 d.2) .nil)
  | quit n a=>exact .cons (.nm _ h) (.cons (QR d.1 d.2) .nil)
theorem jmT{xs:List Item}{kinds:List (List Nat)}(h:Fits xs kinds):∀(i:Nat) (x:Item) (k:List Nat),xs[i]?=some x->kinds[i]?=some k->Fit x k:=by
 induction h with
 | nil=>intro i x k h;simp at h
 | cons h _ c =>
  intro i x k a b;cases i with
  | zero=>simp at a b;subst a;subst b;exact h
  | succ i=>exact c i x k (by simpa using a) (by simpa using b)
theorem Rw.at_(r:Rw):zQ ks_FORMS qu (.str r.kw)=some (.tup (r.ks.map D.str)):=by rcases r with⟨_,_⟩ | ⟨_,_⟩ | (_ | _ | _)<;>rfl
theorem Rw.few(r:Rw):r.xs.length<=3:=by rcases r with⟨_,_⟩ | ⟨_,_⟩ | (_ | _ | _)<;>simp[Rw.xs]
theorem RwOk.fm{r:Rw}(h:RwOk r):Fm r.kw r.xs r.ks:=⟨r.kwk.1,r.kwk.2.1,r.kwk.2.2.1,r.at_,h.fits.len,by have:=r.few;omega,jmT h.fits⟩
theorem Fit.no10{x:Item}{k:List Nat}(h:Fit x k):10∉x.wd:=by
 cases h with
 | nm w h=>exact λz=>by have:=xT h 10 z;omega
 | nu n k g a b c d e=>exact λz=>by have:=VL _ 10 z;omega
theorem Jn(E:List Ev):frzs (E.map Ev.enc)=true:=ke λd hd=>by obtain⟨x,_,rfl⟩:=M6.mp hd;cases x<;>rfl
inductive Bw where
 | on | debt (n:List Nat) | late (n:List Nat) | quit (n:List Nat)
inductive Row where
 | no | ok (r:Rw) | bad (b:Bw)
noncomputable def Bw.kw:Bw->List Nat
 | .on=>[111,110]
 | .debt _=>[100,101,98,116]
 | .late _=>[108,97,116,101]
 | .quit _=>[113,117,105,116]
noncomputable def Bw.xs:Bw->List Item
 | .on=>[.nu 0,.nu 1]
 | .debt n=>[.nm n]
 | .late n=>[.nm n,.nu 1,.nu 31]
 | .quit n=>[.nm n,.nu 61]
noncomputable def Bw.n:Bw->List Nat
 | .on=>[97,98]
 | .debt n=>n
 | .late n=>n
 | .quit n=>n
noncomputable def Row.wds:Row->List (List Nat)
 | .no=>[]
 | .ok r=>r.wds
 | .bad b=>b.kw::b.xs.map Item.wd
noncomputable def Row.enc:Row->List D
 | .no=>[]
 | .ok r=>r.enc
 | .bad b=>.str b.kw::b.xs.map Item.enc
inductive RowOk:Row->Prop where
 | no:RowOk .no
 | ok {r:Rw}(h:RwOk r):RowOk (.ok r)
 | bad {b:Bw}(h:b=.on \/ NmK b.n):RowOk (.bad b)
theorem jnQ:Jp (0:Int).toNat=[48]:=by decide +kernel
theorem jnX:Jp (1:Int).toNat=[49]:=by decide +kernel
theorem jkI:Jp (31:Int).toNat=[51,49]:=by decide +kernel
theorem jlI:Jp (61:Int).toNat=[54,49]:=by decide +kernel
theorem jn0:j4 [.str [48]]=some (.int 0):=by rw[qN (by decide),if_pos (by decide)];rfl
theorem jmC:j4 [.str [51,49]]=some (.int 31):=by rw[qN (by decide),if_pos (by decide)];rfl
theorem jnn:j4 [.str [54,49]]=some (.int 61):=by rw[qN (by decide),if_pos (by decide)];rfl
theorem jkr{b:Bw}(h:b=.on \/ NmK b.n):Bad (b.kw::b.xs.map Item.wd):=by
 cases b with
 | on =>
  show Bad ([111,110]::[Jp (0:Int).toNat,Jp (1:Int).toNat]);rw[jnQ];exact .word (kw:=[111,110]) (w:=[48]) (k:=jg0) (rest:=[Jp (1:Int).toNat]) (ks:=[]) (kr:=[jeO]) (xs:=[]) rfl .nil rfl (by simp) (by simp) ⟨by decide,by decide,by decide,by decide⟩ (jeC (by decide) rfl jn0 (.inl (by decide)))
 | debt n=>exact .len (kinds:=[Km,Km]) rfl (by simp) (by simp[Bw.xs])
 | late n =>
  have a:NmK n:=h.resolve_left (λz=>by cases z);show Bad ([108,97,116,101]::([Item.nm n,.nu 1].map Item.wd++Jp (31:Int).toNat::[]));rw[jkI];exact .word (k:=kBy) (ks:=[Km,jg0]) (kr:=[]) rfl (.cons (.nm n a) (.cons (QR (by decide) (by decide)) .nil)) rfl (by simp) (by simp) ⟨by decide,by decide,by decide,by decide⟩ (jeC (by decide) rfl jmC (.inr (by decide)))
 | quit n =>
  have a:NmK n:=h.resolve_left (λz=>by cases z);show Bad ([113,117,105,116]::([Item.nm n].map Item.wd++Jp (61:Int).toNat::[]));rw[jlI];exact .word (k:=jg0) (ks:=[Km]) (kr:=[]) rfl (.cons (.nm n a) .nil) rfl (by simp) (by simp) ⟨by decide,by decide,by decide,by decide⟩ (jeC (by decide) rfl jnn (.inr (by decide)))
structure Wb(w:List Nat):Prop where
 ne:w≠[]
 bl:32∉w
 nl:10∉w
 len:w.length<=13
theorem jg5{x:Item}{k:List Nat}(h:Fit x k):Wb x.wd:=⟨h.wd.1,h.wd.2.1,h.no10,h.wd.2.2⟩
theorem jhG{n:List Nat}(h:NmK n):Wb n:=jg5 (.nm n h)
theorem RowOk.wb{r:Row}(h:RowOk r):∀ w∈r.wds,Wb w:=by
 cases h with
 | no=>intro w a;cases a
 | @ok r h =>
  intro w a;rcases M5.mp a with rfl | a
  ·exact⟨r.kwk.1,r.kwk.2.1,r.kwk.2.2.2,r.kwk.2.2.1⟩
  ·obtain⟨x,e,rfl⟩:=M6.mp a;obtain⟨q,f⟩:=h.fm.mem e;exact jg5 f
 | @bad b h =>
  intro w a;have g:Wb (Jp (0:Int).toNat):=by rw[jnQ];exact⟨by decide,by decide,by decide,by decide⟩
  have d:Wb (Jp (1:Int).toNat):=by rw[jnX];exact⟨by decide,by decide,by decide,by decide⟩
  have i:Wb (Jp (31:Int).toNat):=by rw[jkI];exact⟨by decide,by decide,by decide,by decide⟩
  have j:Wb (Jp (61:Int).toNat):=by rw[jlI];exact⟨by decide,by decide,by decide,by decide⟩
  cases b with
  | on =>
   simp only[Row.wds,Bw.kw,Bw.xs,L5,List.map_nil,Item.wd,M5,List.not_mem_nil,or_false] at a;rcases a with rfl | rfl | rfl
   ·exact⟨by decide,by decide,by decide,by decide⟩
   ·exact g
   ·exact d
  | debt n =>
   have c:=jhG (h.resolve_left (λz=>by cases z));simp only[Row.wds,Bw.kw,Bw.xs,L5,List.map_nil,Item.wd,M5,List.not_mem_nil,or_false] at a;rcases a with rfl | rfl
   ·exact⟨by decide,by decide,by decide,by decide⟩
   ·exact c
  | late n =>
   have c:=jhG (h.resolve_left (λz=>by cases z));simp only[Row.wds,Bw.kw,Bw.xs,L5,List.map_nil,Item.wd,M5,List.not_mem_nil,or_false] at a;rcases a with rfl | rfl | rfl | rfl
   ·exact⟨by decide,by decide,by decide,by decide⟩
   ·exact c
   ·exact d
   ·exact i
  | quit n =>
   have c:=jhG (h.resolve_left (λz=>by cases z));simp only[Row.wds,Bw.kw,Bw.xs,L5,List.map_nil,Item.wd,M5,List.not_mem_nil,or_false] at a;rcases a with rfl | rfl | rfl
   ·exact⟨by decide,by decide,by decide,by decide⟩
   ·exact c
   ·exact j
theorem Row.few(r:Row):r.wds.length<=4:=by
 rcases r with _ | (⟨_,_⟩ | ⟨_,_⟩ | (_ | _ | _)) | (_ | _ | _ | _)<;>simp[Row.wds,Rw.wds,Rw.xs,Bw.xs]
theorem jf4{r:Row}(h:RowOk r){T:List Nat}(a:T.length<=1000)(c:wgo 32 [] T=r.wds)(pl:Int) :
  (∀ q,r=.ok q->ya [.str T,.int pl]=some (.lst true q.enc)/\jP [.str T,.int pl]=none)/\(r=.no->ya [.str T,.int pl]=some .non/\jP [.str T,.int pl]=none)/\(∀ b,r=.bad b->jP [.str T,.int pl]=some (0,pl)):=by
 refine⟨λq e=>?_,λe=>?_,λb e=>?_⟩
 ·subst e;cases h with
  | ok h=>exact⟨jkw h.fm a c pl,jfl q.at_ h.fits (by have:=q.few;omega) a c pl⟩
 ·subst e;exact jbT a c pl
 ·subst e;cases h with
  | bad h=>exact jhT (jkr h) a c (by have:=(Row.bad b).few;exact N8 this (by decide)) pl
noncomputable abbrev NS:List Str:=["debts","events"]
noncomputable abbrev drD(o:Bool)(x y:List D):D:=.ins o 6 NS [.lst o x,.lst o y]
theorem vq(x y:D):zj NS [x,y] "debts" = some x:=rfl
theorem qv(x y:D):zj NS [x,y] "events" = some y:=rfl
theorem KH(x y:D):zj NS [x,y] "has_debt" = none:=rfl
theorem kT(x y:D):zj NS [x,y] "lacks_plan" = none:=rfl
theorem Y1(x y:D):zj NS [x,y] "last_plan" = none:=rfl
theorem jih(x y:D):zj NS [x,y] "take_row" = none:=rfl
theorem fzi(o:Bool)(c:Nat)(ns:List Str)(l:List D):fz (.ins o c ns l)=.ins false c ns (fzs l):=by rw[fz]
theorem zJ(o:Bool)(c:Nat)(ns:List Str)(l:List D):frz (.ins o c ns l)=(!o&&frzs l):=by rw[frz]
theorem jod(T:List Pr):fzs (T.map kQ)=T.map kQ:=jB _ (qL T)
theorem jjr(o:Bool):∀ B:List Db,fzs (B.map (jD o))=B.map (jD false)
 | []=>rfl
 | x::B=>by
  rw[L5,fzs,jjr o B];show fz (.tup [.str x.n,.str x.p,.lst o (x.t.map kQ)])::_=_;simp[jod,jD]
theorem jlc(E:List Ev):fzs (E.map Ev.enc)=E.map Ev.enc:=jB _ (Jn E)
theorem jg2{B:List Db}(f:B.length<=100)(b:List D)(w:List Nat):jC [drD false (B.map (jD false)) b,.str w]=some (.bl (decide (w∈B.map (·.n)))):=by
 have c:kG (jS [] 0) qT (pF (p2 jF (pV 0) (pC (.int 0)))) (B.map (jD false)) [none]=some ((B.map (·.n)).map D.str):=by
  rw[U2];refine qm (l:=B) (en:=jD false) rfl (λρ=>∃ o,ρ=[o]) ?_ ⟨none,rfl⟩;rintro x g ρ ⟨o,rfl⟩;exact⟨_,rfl,rfl,_,rfl⟩
 have lB:lim (B.map (jD false)).length=true:=jg (by rw[L0];omega);have a:=vm B;have d:=jB _ a;have e:=Qr false true w (B.map (·.n));generalize(B.map (·.n)).map D.str=NN at *;generalize B.map (jD false)=BB at *;simp[jC,jx,vo,vq,lB,a,d,c,e,vN]
theorem Vb{l:List D}{x:D}(o:Bool):jF (.lst o (l++[x])) (.int (-1))=some x:=by
 show atI (l++[x]) (-1)=some x;refine jcJ (i:=l.length) ?_ (by simp);simp[ixN];omega
theorem jab{B:List Db}(x:Db)(b:List D):jI [drD false ((B++[x]).map (jD false)) b]=some (.lst false (x.t.map kQ)):=by
 rw[N6,List.map_singleton];have c:=Vb (l:=B.map (jD false)) (x:=jD false x) false;have d:=E2 false x;have e:kZ (.int 1)=some (.int (-1)):=rfl;have a:=qL x.t;have f:=jB _ a;generalize x.t.map kQ=TT,jD false x=XX at *;generalize B.map (jD false)++[XX]=BB at *;simp[jI,jx,y4,vq,e,c,d,a,f]
theorem y0{α:Type}(l:List α):l=[] \/ ∃ m x,l=m++[x]:=by
 rcases List.eq_nil_or_concat l with h | ⟨m,x,h⟩
 ·exact .inl h
 ·exact .inr ⟨m,x,by rw[h,List.concat_eq_append]⟩
theorem je9(w:List Nat):zG false (.str w) vG=some (.bl (decide (w∈[[108,97,116,101],[101,97,114,108,121],[113,117,105,116]]))):=by
 show(bif jb2 (.str w) ([[108,97,116,101],[101,97,114,108,121],[113,117,105,116]].map D.str) then some (D.bl (false != inL (.str w) ([[108,97,116,101],[101,97,114,108,121],[113,117,105,116]].map D.str))) else none)=_;rw[Ql,xE];simp
theorem jkd(e:Ev):(Rw.ev e).kw∈[[108,97,116,101],[101,97,114,108,121],[113,117,105,116]]:=by cases e<;>simp[Rw.kw]
theorem jcF(e:Ev):((Rw.ev e).kw==[100,101,98,116])=false/\((Rw.ev e).kw==[111,110])=false:=by cases e<;>exact⟨rfl,rfl⟩
theorem vS(o:Bool)(B:List Db)(x:Db):(B++[x]).map (jD o)=B.map (jD o)++[jD o x]:=by rw[N6];rfl
theorem jnG(x y:D):jgz 6 "debts" jb4 (.ins true 6 NS [x,y])=some (x,λz=>.ins true 6 NS [z,y]):=rfl
theorem jof(x y:D):jgz 6 "events" jb4 (.ins true 6 NS [x,y])=some (y,λz=>.ins true 6 NS [x,z]):=rfl
theorem jeT{B:List Db}(c:B.length<=100)(n p:List Nat)(a:List D):jt [drD true (B.map (jD true)) a,.lst false [.str [100,101,98,116],.str n,.str p]]=some (.non,drD true ((B++[(⟨n,p,[]⟩:Db)]).map (jD true)) a):=by
 rw[vS];have lB:lim (B.map (jD true)).length=true:=jg (by rw[L0];omega);have b:jD true ⟨n,p,[]⟩=.tup [.str n,.str p,.lst true []]:=rfl;rw[b];generalize B.map (jD true)=BB at *;simp[jt,jeo,yc,qA,jnG,lB,jg];rfl
theorem jh8{B:List Db}{n p:List Nat}{T:List Pr}{d c:Int}(k:B.length<=100)(l:T.length<=100)(b:List D) :
  jt [drD true ((B++[(⟨n,p,T⟩:Db)]).map (jD true)) b,.lst false [.str [111,110],.int d,.int c]]=some (.non,drD true ((B++[(⟨n,p,T++[(d,c)]⟩:Db)]).map (jD true)) b):=by
 rw[vS,vS];have lT:lim (T.map kQ).length=true:=jg (by rw[L0];omega);have f:jD true ⟨n,p,T⟩=.tup [.str n,.str p,.lst true (T.map kQ)]:=rfl;have e:jD true ⟨n,p,T++[(d,c)]⟩=.tup [.str n,.str p,.lst true (T.map kQ++[.tup [.int d,.int c]])]:=by
  show D.tup [.str n,.str p,.lst true ((T++[(d,c)]).map kQ)]=_;rw[N6];rfl
 rw[f,e];have g:∀(a:List D) (X:List D),jT (.ins true 6 NS [.lst true (a++[.tup [.str n,.str p,.lst true X]]),.lst true b])=some (.lst true X,λz=>.ins true 6 NS [.lst true (a++[.tup [.str n,.str p,z]]),.lst true b]):=by
  intro a X;unfold jT;have h:ixN (a.length+1) (-1)=some a.length:=by simp[ixN];omega
  have i:ixN 3 2=some 2:=by decide
  rw[lIx,lIx,jnG];simp[h,i]
 generalize T.map kQ=TT,B.map (jD true)=a at *;have j:∀ y:D,jbM 6 "last_plan" jT jb4 (.ins true 6 NS [.lst true (a++[.tup [.str n,.str p,.lst true TT]]),.lst true b])=some (.lst true TT,λz=>.ins true 6 NS [.lst true (a++[.tup [.str n,.str p,z]]),.lst true b]):=by
  intro _;unfold jbM jb4;simp[Y1,g]
 simp[jt,jeo,yc,qA,j .non,lT,jg];rfl
theorem ji0{E:List Ev}{e:Ev}(g:E.length<=100)(a:List D):jt [drD true a (E.map Ev.enc),.lst false (Rw.ev e).enc]=some (.non,drD true a ((E++[e]).map Ev.enc)):=by
 have b:(E++[e]).map Ev.enc=E.map Ev.enc++[.tup (Rw.ev e).enc]:=by rw[N6,List.map_singleton];cases e<;>rfl
 rw[b];have lE:lim (E.map Ev.enc).length=true:=jg (by rw[L0];omega);obtain⟨c,d⟩:=jcF e;have x0:jF (.lst false (Rw.ev e).enc) (.int 0)=some (.str (Rw.ev e).kw):=by cases e<;>rfl
 have f:frzs (Rw.ev e).enc=true:=by cases e<;>rfl
 generalize(Rw.ev e).enc=RR at *;generalize(Rw.ev e).kw=kw at *;generalize E.map Ev.enc=EE at *;simp[jt,jeo,yc,x0,c,d,jof,lE,f,jg];rfl
noncomputable def Jm(B:List Db):List Pr:=match B.getLast? with
 | some x=>x.t
 | none=>[]
theorem yw(B:List Db)(x:Db):Jm (B++[x])=x.t:=by unfold Jm;rw[List.getLast?_concat]
noncomputable def yr(B:List Db):Bool:=!B.isEmpty&&(Jm B).isEmpty
noncomputable def jci(T:List Pr):Int:=match T.getLast? with
 | some q=>q.1
 | none=>0
theorem xi(T:List Pr)(q:Pr):jci (T++[q])=q.1:=by unfold jci;rw[List.getLast?_concat]
noncomputable def late(B:List Db)(d:Int):Bool:=!(Jm B).isEmpty&&decide (d<=jci (Jm B))
theorem x9{B:List Db}(E:List Ev):jn [drD false (B.map (jD false)) (E.map Ev.enc)]=some (.bl (yr B)):=by
 have d:=vm B;have g:=jB _ d;have e:=Jn E;have h:=jB _ e;rcases y0 B with rfl | ⟨B,x,rfl⟩
 ·generalize E.map Ev.enc=EE at *;simp[jn,jx,yh,vq,yr]
 ·have i:=jab (B:=B) x (E.map Ev.enc);have a:0 < ((B++[x]).map (jD false)).length:=by rw[L0,N5];simp only[M3,List.length_nil];omega
  have c:¬ ((B++[x]).map (jD false))=[]:=λz=>by rw[z] at a;exact absurd a (by decide)
  have j:=qL x.t;have k:yr (B++[x])=x.t.isEmpty:=by unfold yr;rw[yw];simp
  have f:(((x.t.map kQ).length:Int)==0)=x.t.isEmpty:=by cases x.t<;>simp;omega
  rw[k];generalize x.t.isEmpty=b at f;generalize x.t.map kQ=TT at *;generalize(B++[x]).map (jD false)=BB at *;generalize E.map Ev.enc=EE at *;have l:(0:Int) < (BB.length:Nat):=by omega
  simp[jn,jx,yh,vq,Y1,fzi,zJ,g,h,d,e,i,l,a,f,j,c]
noncomputable abbrev vK:List Nat:=[100,101,98,116]
noncomputable abbrev kOn:List Nat:=[111,110]
theorem jdb:zG false (.str vK) vG=some (.bl false):=by rw[je9];rfl
theorem jj3:zG false (.str kOn) vG=some (.bl false):=by rw[je9];rfl
theorem jfS(d b:List D):jz [drD false d b,.str vK]=some (.bl (!b.isEmpty)):=by
 have h:=jdb;have f:(vK==[111,110])=false:=rfl;cases b with
 | nil=>simp[jz,jx,yj,h,qv,vq,f]
 | cons e b =>
  have:(0:Int) < ((e::b).length:Nat):=by simp
  generalize g:(e::b)=L at *;have a:L.isEmpty=false:=by rw[<- g];rfl
  have c:¬ L=[]:=λz=>by rw[z] at a;cases a
  simp[jz,jx,yj,h,qv,vq,this,a,c]
theorem jkH(d c:List D):jz [drD false d c,.str kOn]=some (.bl (!c.isEmpty||d.isEmpty)):=by
 have h:=jj3;cases c with
 | nil =>
  cases d with
  | nil=>simp[jz,jx,yj,h,qv,vq]
  | cons e d =>
   generalize f:(e::d)=L at *;have a:L.isEmpty=false:=by rw[<- f];rfl
   have b:¬ L=[]:=λz=>by rw[z] at a;cases a
   simp[jz,jx,yj,h,qv,vq,a,b]
 | cons e c =>
  have:(0:Int) < ((e::c).length:Nat):=by simp
  generalize f:(e::c)=L at *;have a:L.isEmpty=false:=by rw[<- f];rfl
  have b:¬ L=[]:=λz=>by rw[z] at a;cases a
  simp[jz,jx,yj,h,qv,vq,this,a,b]
theorem jkA(a b:List D){w:List Nat}(c:w∈[[108,97,116,101],[101,97,114,108,121],[113,117,105,116]]):jz [drD false a b,.str w]=some (.bl false):=by
 have h:=je9 w;rw[X1 c] at h;simp[jz,jx,yj,h]
theorem twice_on{B:List Db}(x:Db)(b:List D)(m:fzs b=b)(n:frzs b=true)(d c:Int):jY [drD false ((B++[x]).map (jD false)) b,.lst false [.str kOn,.int d,.int c]]=some (.bl (late (B++[x]) d)):=by
 have a:=jab (B:=B) x b;have k:=vm (B++[x]);have o:=jB _ k;have f:=qL x.t;have r:kZ (.int 1)=some (.int (-1)):=rfl;have p:(kOn==[100,101,98,116])=false:=rfl;have v:late (B++[x]) d=(!x.t.isEmpty&&decide (d<=jci x.t)):=by unfold late;rw[yw]
 rw[v];rcases y0 x.t with g | ⟨T,q,g⟩
 ·rw[g] at a f;rw[g];have a:jI [drD false ((B++[x]).map (jD false)) b]=some (.lst false []):=a;generalize(B++[x]).map (jD false)=BB at *;simp[jY,jx,vw,qA,Y1,fzi,zJ,o,k,m,n,a,p]
 ·rw[g] at a f;rw[g,xi];have h:=Vb (l:=T.map kQ) (x:=kQ q) false;have i:jF (kQ q) (.int 0)=some (.int q.1):=rfl;have e:(T++[q]).map kQ=T.map kQ++[kQ q]:=by rw[N6];rfl
  rw[e] at a f;have s:(0:Int) < ((T.map kQ++[kQ q]).length:Nat):=by rw[N5];simp only[M3,List.length_nil];omega
  have j:T.map kQ++[kQ q]≠[]:=by simp
  have u:(T++[q]).isEmpty=false:=by simp
  generalize kQ q=QQ at *;generalize T.map kQ++[QQ]=TT at *;generalize(B++[x]).map (jD false)=BB at *;by_cases hd:d<=q.1
  ·simp[jY,jx,vw,qA,Y1,fzi,zJ,o,k,m,n,f,a,r,h,i,hd,s,j,u,p]
  ·simp[jY,jx,vw,qA,Y1,fzi,zJ,o,k,m,n,f,a,r,h,i,hd,s,j,u,p]
theorem jiY{B:List Db}(x:Db)(a:List D)(c:fzs a=a)(d:frzs a=true):ju [drD false ((B++[x]).map (jD false)) a,.str kOn]=some (.bl (decide (12<=x.t.length))):=by
 have e:=jab (B:=B) x a;have b:=vm (B++[x]);have f:=jB _ b;have h:=qL x.t;have i:(kOn==[100,101,98,116])=false:=rfl;have j:(x.t.map kQ).length=x.t.length:=by simp
 generalize x.t.map kQ=TT at *;generalize(B++[x]).map (jD false)=BB at *;by_cases hd:12<=x.t.length
 ·have g:(12:Int)<=(TT.length:Nat):=by omega
  simp[ju,jx,jW,vq,Y1,fzi,zJ,f,b,c,d,h,e,g,i,hd]
 ·have g:¬ (12:Int)<=(TT.length:Nat):=by omega
  simp[ju,jx,jW,vq,Y1,fzi,zJ,f,b,c,d,h,e,g,i,hd]
noncomputable def kN(B:List Db)(E:List Ev):Rw->Option Nat
 | .debt n _=>bif !E.isEmpty then some 1 else bif yr B then some 2 else bif decide (n∈B.map (·.n)) then some 3 else bif decide (30<=B.length) then some 5 else none
 | .on d _=>bif !E.isEmpty||B.isEmpty then some 1 else bif late B d then some 3 else bif decide (12<=(Jm B).length) then some 5 else none
 | .ev e=>bif yr B then some 2 else bif !decide (e.n∈B.map (·.n)) then some 4 else bif decide (60<=E.length) then some 5 else none
noncomputable def jmB(B:List Db)(q:Pr):List Db:=match B.getLast? with
 | some x=>B.dropLast++[⟨x.n,x.p,x.t++[q]⟩]
 | none=>[]
theorem QF(B:List Db)(x:Db)(q:Pr):jmB (B++[x]) q=B++[⟨x.n,x.p,x.t++[q]⟩]:=by unfold jmB;rw[List.getLast?_concat,List.dropLast_concat]
noncomputable def nxt(s:List Db×List Ev):Rw->List Db×List Ev
 | .debt n p=>(s.1++[⟨n,p,[]⟩],s.2)
 | .on d c=>(jmB s.1 (d,c),s.2)
 | .ev e=>(s.1,s.2++[e])
theorem isE{α β:Type}(f:α->β)(l:List α):(l.map f).isEmpty=l.isEmpty:=by cases l<;>rfl
structure Did(B:List Db)(E:List Ev)(r:Rw):Prop where
 no:∀ c,kN B E r=some c->∀ pl:Int,j0 [drD false (B.map (jD false)) (E.map Ev.enc),.lst false r.enc,.int pl]=some (c,pl)
 yes:kN B E r=none->∀ pl:Int,j0 [drD false (B.map (jD false)) (E.map Ev.enc),.lst false r.enc,.int pl]=none/\yO [drD false (B.map (jD false)) (E.map Ev.enc),.lst false r.enc,.int pl]=some .non
 go:kN B E r=none->jt [drD true (B.map (jD true)) (E.map Ev.enc),.lst false r.enc]=some (.non,drD true ((nxt (B,E) r).1.map (jD true)) ((nxt (B,E) r).2.map Ev.enc))
theorem jfY{B:List Db}(E:List Ev)(n p:List Nat)(v:B.length<=100):Did B E (.debt n p):=by
 have h:=jfS (B.map (jD false)) (E.map Ev.enc);rw[isE] at h;have l:=x9 (B:=B) E;have q:=jg2 (B:=B) (by omega) (E.map Ev.enc) n;have r:=jdb;have d:=vm B;have i:=jB _ d;have e:=Jn E;have j:=jB _ e;have w:(B.map (jD false)).length=B.length:=by simp
 have s:=jeT (B:=B) (by omega) n p (E.map Ev.enc);have a:kN B E (.debt n p)=(bif !E.isEmpty then some 1 else bif yr B then some 2 else bif decide (n∈B.map (·.n)) then some 3 else bif decide (30<=B.length) then some 5 else none):=rfl;have k:(Rw.debt n p).enc=[.str vK,.str n,.str p]:=rfl;have t:(vK==[111,110])=false:=rfl;have f:∀ b:Bool,decide (30<=B.length)=b->ju [drD false (B.map (jD false)) (E.map Ev.enc),.str vK]=some (.bl b):=by
  intro b u;subst u;generalize B.map (jD false)=BB,E.map Ev.enc=EE at *;by_cases hd:30<=B.length
  ·have g:(30:Int)<=(BB.length:Nat):=by omega
   simp[ju,jx,jW,vq,g,hd]
  ·have g:¬ (30:Int)<=(BB.length:Nat):=by omega
   simp[ju,jx,jW,vq,g,hd]
 have f:=f _ rfl;generalize decide (30<=B.length)=b5 at f a;generalize decide (n∈B.map (·.n))=b3 at q a;generalize yr B=b2 at l a;generalize(!E.isEmpty)=b1 at h a;refine⟨?_,?_,λ_=>s⟩
 ·rw[a,k];clear s;generalize B.map (jD false)=BB,E.map Ev.enc=EE at *;have m:jY [drD false BB EE,.lst false [.str vK,.str n,.str p]]=some (.bl b3):=by
   simp[jY,jx,vw,qA,KH,fzi,zJ,i,d,j,e,q]
  intro c o pl;cases b1<;>cases b2<;>cases b3<;>cases b5<;>simp only[cond_true,cond_false,Option.some.injEq,reduceCtorEq] at o<;>subst o <;>
   simp[j0,fnR,yB,qB,xIf,xN,vk,qA,fzi,zJ,i,d,j,e,h,kT,KH,l,m,r,f,t]
 ·rw[a,k];clear s;generalize B.map (jD false)=BB,E.map Ev.enc=EE at *;have m:jY [drD false BB EE,.lst false [.str vK,.str n,.str p]]=some (.bl b3):=by
   simp[jY,jx,vw,qA,KH,fzi,zJ,i,d,j,e,q]
  intro o pl;cases b1<;>cases b2<;>cases b3<;>cases b5<;>simp only[cond_true,cond_false,reduceCtorEq] at o;exact⟨by simp[j0,fnR,yB,qB,xIf,xN,vk,qA,fzi,zJ,i,d,j,e,h,kT,KH,l,m,r,f,t],by simp[yO,jx,kC,qA,fzi,zJ,i,d,j,e,h,kT,KH,l,m,r,f,t]⟩
theorem jj6{B:List Db}{E:List Ev}(e:Ev)(x:B.length<=100)(y:E.length<=100):Did B E (.ev e):=by
 have r:=jkA (B.map (jD false)) (E.map Ev.enc) (jkd e);have i:=x9 (B:=B) E;have j:=jg2 (B:=B) (by omega) (E.map Ev.enc) e.n;have k:=je9 (Rw.ev e).kw;rw[X1 (jkd e)] at k;obtain⟨d,f⟩:=jcF e;have l:=vm B;have s:=jB _ l;have m:=Jn E;have t:=jB _ m;have z:(E.map Ev.enc).length=E.length:=by simp
 have u:=ji0 (E:=E) (e:=e) (by omega) (B.map (jD true));have a:kN B E (.ev e)=(bif yr B then some 2 else bif !decide (e.n∈B.map (·.n)) then some 4 else bif decide (60<=E.length) then some 5 else none):=rfl;have h:∀ b:Bool,decide (60<=E.length)=b->ju [drD false (B.map (jD false)) (E.map Ev.enc),.str (Rw.ev e).kw]=some (.bl b):=by
  intro b w;subst w;generalize(Rw.ev e).kw=kw at *;generalize B.map (jD false)=BB,E.map Ev.enc=EE at *;by_cases hd:60<=E.length
  ·have g:(60:Int)<=(EE.length:Nat):=by omega
   simp[ju,jx,jW,qv,d,f,g,hd]
  ·have g:¬ (60:Int)<=(EE.length:Nat):=by omega
   simp[ju,jx,jW,qv,d,f,g,hd]
 have h:=h _ rfl;have x0:jF (.lst false (Rw.ev e).enc) (.int 0)=some (.str (Rw.ev e).kw):=by cases e<;>rfl
 have x1:jF (.lst false (Rw.ev e).enc) (.int 1)=some (.str e.n):=by cases e<;>rfl
 have o:frzs (Rw.ev e).enc=true:=by cases e<;>rfl
 have v:=jB _ o;generalize decide (60<=E.length)=b5 at h a;generalize decide (e.n∈B.map (·.n))=b4 at j a;generalize yr B=b2 at i a;refine⟨?_,?_,λ_=>u⟩
 ·rw[a];clear u;generalize(Rw.ev e).enc=RR at *;generalize(Rw.ev e).kw=kw at *;generalize B.map (jD false)=BB,E.map Ev.enc=EE at *;have p:jY [drD false BB EE,.lst false RR]=some (.bl false):=by
   simp[jY,jx,vw,x0,d,f]
  intro c q pl;cases b2<;>cases b4<;>cases b5<;>simp only[cond_true,cond_false,Option.some.injEq,reduceCtorEq,Bool.not_true,Bool.not_false] at q<;>subst q <;>
   simp[j0,fnR,yB,qB,xIf,xN,vk,x0,x1,fzi,zJ,s,l,t,m,v,o,r,kT,KH,i,j,p,k,h,d,f]
 ·rw[a];clear u;generalize(Rw.ev e).enc=RR at *;generalize(Rw.ev e).kw=kw at *;generalize B.map (jD false)=BB,E.map Ev.enc=EE at *;have p:jY [drD false BB EE,.lst false RR]=some (.bl false):=by
   simp[jY,jx,vw,x0,d,f]
  intro q pl;cases b2<;>cases b4<;>cases b5<;>simp only[cond_true,cond_false,reduceCtorEq,Bool.not_true,Bool.not_false] at q;exact⟨by simp[j0,fnR,yB,qB,xIf,xN,vk,x0,x1,fzi,zJ,s,l,t,m,v,o,r,kT,KH,i,j,p,k,h,d,f],by simp[yO,jx,kC,x0,x1,fzi,zJ,s,l,t,m,v,o,r,kT,KH,i,j,p,k,h,d,f]⟩
theorem jl1{B:List Db}(E:List Ev)(d c:Int)(w:B.length<=100)(v:(Jm B).length<=100):Did B E (.on d c):=by
 have b:=jkH (B.map (jD false)) (E.map Ev.enc);rw[isE,isE] at b;have m:=jj3;have j:=vm B;have o:=jB _ j;have e:=Jn E;have h:=jB _ e;have a:kN B E (.on d c)=(bif !E.isEmpty||B.isEmpty then some 1 else bif late B d then some 3 else bif decide (12<=(Jm B).length) then some 5 else none):=rfl;have f:(Rw.on d c).enc=[.str kOn,.int d,.int c]:=rfl;have q:(kOn==[111,110])=true:=rfl;rcases y0 B with rfl | ⟨M,x,rfl⟩
 ·have r:jz [drD false [] (E.map Ev.enc),.str kOn]=some (.bl true):=by
   rw[List.isEmpty_nil,Bool.or_true] at b;exact b
  rw[List.isEmpty_nil,Bool.or_true,cond_true] at a;refine⟨?_,λz=>(by rw[a] at z;cases z),λz=>(by rw[a] at z;cases z)⟩;rw[a,f];intro y i pl;cases i;generalize E.map Ev.enc=EE at *;simp[j0,fnR,yB,qB,xIf,xN,vk,qA,fzi,zJ,h,e,r]
 ·have k:=twice_on (B:=M) x (E.map Ev.enc) h e d c;have l:=jiY (B:=M) x (E.map Ev.enc) h e;rw[yw] at a v;have s:(M++[x]).isEmpty=false:=by simp
  rw[s,Bool.or_false] at b a;have u:=jh8 (B:=M) (n:=x.n) (p:=x.p) (T:=x.t) (d:=d) (c:=c) (by simp at w;omega) v (E.map Ev.enc);have g:(nxt (M++[x],E) (.on d c))=(M++[⟨x.n,x.p,x.t++[(d,c)]⟩],E):=by simp[nxt,QF]
  generalize decide (12<=x.t.length)=b5 at l a;generalize late (M++[x]) d=b3 at k a;generalize(!E.isEmpty)=b1 at b a;refine⟨?_,?_,λ_=>by rw[g];exact u⟩
  ·rw[a,f];clear u g;generalize(M++[x]).map (jD false)=BB at *;generalize E.map Ev.enc=EE at *;intro y i pl;cases b1<;>cases b3<;>cases b5<;>simp only[cond_true,cond_false,Option.some.injEq,reduceCtorEq] at i<;>subst i <;>
    simp[j0,fnR,yB,qB,xIf,xN,vk,qA,fzi,zJ,o,j,h,e,b,k,m,l,q]
  ·rw[a,f];clear u g;generalize(M++[x]).map (jD false)=BB at *;generalize E.map Ev.enc=EE at *;intro i pl;cases b1<;>cases b3<;>cases b5<;>simp only[cond_true,cond_false,reduceCtorEq] at i;exact⟨by simp[j0,fnR,yB,qB,xIf,xN,vk,qA,fzi,zJ,o,j,h,e,b,k,m,l,q],by simp[yO,jx,kC,qA,fzi,zJ,o,j,h,e,b,k,m,l,q]⟩
theorem did{B:List Db}{E:List Ev}(r:Rw)(a:B.length<=100)(b:(Jm B).length<=100)(f:E.length<=100):Did B E r:=by
 cases r with
 | debt n p=>exact jfY E n p a
 | on d c=>exact jl1 E d c a b
 | ev e=>exact jj6 e a f
structure St(s:List Db×List Ev):Prop where
 nB:∀ x∈s.1,NmK x.n/\NmK x.p
 nE:∀ e∈s.2,NmK e.n
 lB:s.1.length<=30
 lT:(Jm s.1).length<=12
 lP:∀ x∈s.1,x.t.length<=12
 lE:s.2.length<=60
noncomputable def FN:Nat->List Nat
 | 0=>[98,97,100]
 | 1=>[109,105,115,112,108,97,99,101,100]
 | 2=>[117,110,102,105,110,105,115,104,101,100]
 | 3=>[116,119,105,99,101]
 | 4=>[110,111,110,97,109,101]
 | _=>[116,111,111,109,97,110,121]
noncomputable def fnm:Option Nat->List Nat
 | some c=>FN c
 | none=>[]
theorem JJ{w:List Nat}(h:NmK w):∀ c∈w,c < 1114112:=λc a=>by have:=xT h c a;omega
theorem okT(o:Bool)(T:List Pr):vP 17 (T.map kQ)=true/\vP 19 (T.map kQ)=true:=⟨Ku λd hd=>by obtain⟨q,_,rfl⟩:=M6.mp hd;rfl,Ku λd hd=>by obtain⟨q,_,rfl⟩:=M6.mp hd;rfl⟩
theorem okB{o:Bool}{B:List Db}(h:∀ x∈B,NmK x.n/\NmK x.p):vP 19 (B.map (jD o))=true:=Ku λd hd=>by
 obtain⟨x,b,rfl⟩:=M6.mp hd;show vP 18 [.str x.n,.str x.p,.lst o (x.t.map kQ)]=true;have a:okE 18 (.lst o (x.t.map kQ))=true:=(okT o x.t).1;simp[vP,kO (JJ (h x b).1),kO (JJ (h x b).2),a]
theorem okV{E:List Ev}(h:∀ e∈E,NmK e.n):vP 19 (E.map Ev.enc)=true:=Ku λd hd=>by
 obtain⟨e,c,rfl⟩:=M6.mp hd;have a:=h e c;cases e with
 | late n d b=>show vP 18 [.str [108,97,116,101],.str n,.int d,.int b]=true;simp[vP,kO (n:=18) (JJ a),kO (n:=18) (w:=[108,97,116,101]) (by decide),okE];exact JJ a
 | early n d=>show vP 18 [.str [101,97,114,108,121],.str n,.int d]=true;simp[vP,kO (n:=18) (JJ a),kO (n:=18) (w:=[101,97,114,108,121]) (by decide),okE];exact JJ a
 | quit n d=>show vP 18 [.str [113,117,105,116],.str n,.int d]=true;simp[vP,kO (n:=18) (JJ a),kO (n:=18) (w:=[113,117,105,116]) (by decide),okE];exact JJ a
theorem eqn{o:Bool}{l:List D}(h:vP 19 l=true):vA (.lst o l) (.lst true [])=some (.bl l.isEmpty)/\vX (.lst o l) (.lst true [])=some (.bl (!l.isEmpty)):=by
 rw[jfM h rfl,jfw h rfl];cases l<;>exact⟨rfl,rfl⟩
theorem jcN{r:Rw}(h:RwOk r):jG [.lst false r.enc]=some (.bl false):=by
 cases h with
 | debt h k =>
  show jG [.lst false [.str vK,.str _,.str _]]=_;simp[jG,jx,vh,qA]
 | on h k =>
  show jG [.lst false [.str kOn,.int _,.int _]]=_;have:¬ _ < (1:Int):=Int.not_lt.mpr h.1;simp[jG,jx,vh,qA,this]
 | @ev e h d b =>
  cases e with
  | late n a b' =>
   have hd:¬ (60:Int) < a:=Int.not_lt.mpr d.2;have c:¬ (30:Int) < b':=Int.not_lt.mpr (b _ _ _ rfl).2;show jG [.lst false [.str [108,97,116,101],.str n,.int a,.int b']]=_;simp[jG,jx,vh,qA,hd,c]
  | early n a =>
   have hd:¬ (60:Int) < a:=Int.not_lt.mpr d.2;show jG [.lst false [.str [101,97,114,108,121],.str n,.int a]]=_;simp[jG,jx,vh,qA,hd]
  | quit n a =>
   have hd:¬ (60:Int) < a:=Int.not_lt.mpr d.2;show jG [.lst false [.str [113,117,105,116],.str n,.int a]]=_;simp[jG,jx,vh,qA,hd]
theorem jjJ(b:Bw)(a c d:List D):j5 [.lst false (Row.bad b).enc,.lst false a,.lst false c,.lst false d]=some (.str (FN 0)):=by
 have h:jG [.lst false (Row.bad b).enc]=some (.bl true):=by
  cases b with
  | on=>show jG [.lst false [.str kOn,.int 0,.int 1]]=_;simp[jG,jx,vh,qA]
  | debt n=>show jG [.lst false [.str vK,.str n]]=_;simp[jG,jx,vh,qA]
  | late n=>show jG [.lst false [.str [108,97,116,101],.str n,.int 1,.int 31]]=_;simp[jG,jx,vh,qA]
  | quit n=>show jG [.lst false [.str [113,117,105,116],.str n,.int 61]]=_;simp[jG,jx,vh,qA]
 have e:frzs (Row.bad b).enc=true:=by cases b<;>rfl
 have f:=jB _ e;generalize(Row.bad b).enc=RR at *;simp[j5,jx,vL,f,h,FN]
structure Seen(B:List Db)(E:List Ev):Prop where
 be:vA (.lst false (B.map (jD false))) (.lst true [])=some (.bl B.isEmpty)
 bn:vX (.lst false (B.map (jD false))) (.lst true [])=some (.bl (!B.isEmpty))
 en:vX (.lst false (E.map Ev.enc)) (.lst true [])=some (.bl (!E.isEmpty))
theorem St.seen{B:List Db}{E:List Ev}(h:St (B,E)):Seen B E:=by
 obtain⟨a,b⟩:=eqn (o:=false) (okB (o:=false) h.nB);obtain⟨_,c⟩:=eqn (o:=false) (okV h.nE);rw[isE] at a b c;exact⟨a,b,c⟩
theorem jiF:kZ (.int 1)=some (.int (-1)):=rfl
theorem jei(r:Rw):frzs r.enc=true:=by rcases r with⟨_,_⟩ | ⟨_,_⟩ | (_ | _ | _)<;>rfl
theorem jne{B:List Db}{E:List Ev}(h:St (B,E)){a0 a2 a3 a4 a5:Option D}:zD (p2 vX (pV 1) (va pN)) (p2 vA (p2 jF (p2 jF (pV 1) (p1 kZ (pC (.int 1)))) (pC (.int 2))) (va pN)) [a0,some (.lst false (B.map (jD false))),a2,a3,a4,a5]=some (.bl (yr B)):=by
 have f:=h.seen;rcases y0 B with rfl | ⟨M,x,rfl⟩
 ·have a:vX (.lst false []) (.lst true [])=some (.bl false):=rfl;simp[a,jg,yr]
 ·have a:=f.bn;have d:=Vb (l:=M.map (jD false)) (x:=jD false x) false;rw[<- vS] at d;have g:=E2 false x;obtain⟨c,_⟩:=eqn (o:=false) (okT false x.t).2;rw[isE] at c;have e:(M++[x]).isEmpty=false:=by simp
  rw[e] at a;have i:yr (M++[x])=x.t.isEmpty:=by unfold yr;rw[yw,e];rfl
  rw[i];generalize x.t.isEmpty=b at c;generalize x.t.map kQ=TT,jD false x=XX at *;generalize(M++[x]).map (jD false)=BB at *;simp[a,jg,jiF,d,g,c]
theorem jce{B:List Db}{E:List Ev}(h:St (B,E)){n p:List Nat}(o:RwOk (.debt n p)):j5 [.lst false [.str vK,.str n,.str p],.lst false (B.map (jD false)),.lst false (E.map Ev.enc),.lst false ((B.map (·.n)).map D.str)]=some (.str (fnm (kN B E (.debt n p)))):=by
 have q:=h.seen;have r:jG [.lst false [.str vK,.str n,.str p]]=some (.bl false):=jcN o;have e:=λf g i j k=>jne h (a0:=f) (a2:=g) (a3:=i) (a4:=j) (a5:=k);have b:=q.en;have c:=Qr false false n (B.map (·.n));have a:=Qr true false n (B.map (·.n));have l:(((B.map (jD false)).length:Int)==30)=decide (30<=B.length):=by
  have:=h.lB;have:B.length<=30:=this;rw[L0];by_cases m:30<=B.length
  ·rw[X1 m];simp;omega
  ·rw[X2 m];simp;omega
 have s:(vK==[111,110])=false:=rfl;have d:kN B E (.debt n p)=(bif !E.isEmpty then some 1 else bif yr B then some 2 else bif decide (n∈B.map (·.n)) then some 3 else bif decide (30<=B.length) then some 5 else none):=rfl;rw[d];generalize decide (30<=B.length)=b5 at l;generalize decide (n∈B.map (·.n))=b3 at c a;generalize yr B=b2 at e;generalize(!E.isEmpty)=b1 at b;generalize t:(B.map (·.n)).map D.str=NN,B.map (jD false)=BB,E.map Ev.enc=EE at *;unfold j5 vL;generalize zD (p2 vX (pV 1) (va pN)) (p2 vA (p2 jF (p2 jF (pV 1) (p1 kZ (pC (.int 1)))) (pC (.int 2))) (va pN))=U at *;cases b1<;>cases b2<;>cases b3<;>cases b5<;>simp[jx,qA,r,e,b,c,a,l,s,jg,fnm,FN]
theorem jgd{B:List Db}{E:List Ev}(h:St (B,E)){e:Ev}(p:RwOk (.ev e)):j5 [.lst false (Rw.ev e).enc,.lst false (B.map (jD false)),.lst false (E.map Ev.enc),.lst false ((B.map (·.n)).map D.str)]=some (.str (fnm (kN B E (.ev e)))):=by
 have q:=h.seen;have r:jG [.lst false (Rw.ev e).enc]=some (.bl false):=jcN p;have f:=λg i j k l=>jne h (a0:=g) (a2:=i) (a3:=j) (a4:=k) (a5:=l);have c:=q.en;have b:=Qr false false e.n (B.map (·.n));have a:=Qr true false e.n (B.map (·.n));have m:(((E.map Ev.enc).length:Int)==60)=decide (60<=E.length):=by
  have:=h.lE;have:E.length<=60:=this;rw[L0];by_cases o:60<=E.length
  ·rw[X1 o];simp;omega
  ·rw[X2 o];simp;omega
 obtain⟨s,t⟩:=jcF e;have x0:jF (.lst false (Rw.ev e).enc) (.int 0)=some (.str (Rw.ev e).kw):=by cases e<;>rfl
 have x1:jF (.lst false (Rw.ev e).enc) (.int 1)=some (.str e.n):=by cases e<;>rfl
 have u:=jB _ (jei (.ev e));have d:kN B E (.ev e)=(bif yr B then some 2 else bif !decide (e.n∈B.map (·.n)) then some 4 else bif decide (60<=E.length) then some 5 else none):=rfl;rw[d];generalize decide (60<=E.length)=b5 at m;generalize decide (e.n∈B.map (·.n))=b3 at b a;generalize yr B=b2 at f;generalize(!E.isEmpty)=b1 at c;generalize(Rw.ev e).enc=RR at *;generalize(Rw.ev e).kw=kw at *;generalize v:(B.map (·.n)).map D.str=NN,B.map (jD false)=BB,E.map Ev.enc=EE at *;unfold j5 vL;generalize zD (p2 vX (pV 1) (va pN)) (p2 vA (p2 jF (p2 jF (pV 1) (p1 kZ (pC (.int 1)))) (pC (.int 2))) (va pN))=U at *;cases b2<;>cases b3<;>cases b5<;>simp[jx,x0,x1,u,r,f,b,a,m,s,t,jg,fnm,FN]
theorem jfR{B:List Db}{E:List Ev}(h:St (B,E)){d c:Int}(N:RwOk (.on d c)):j5 [.lst false [.str kOn,.int d,.int c],.lst false (B.map (jD false)),.lst false (E.map Ev.enc),.lst false ((B.map (·.n)).map D.str)]=some (.str (fnm (kN B E (.on d c)))):=by
 have C:=h.seen;have r:jG [.lst false [.str kOn,.int d,.int c]]=some (.bl false):=jcN N;have e:=λF G H I J=>jne h (a0:=F) (a2:=G) (a3:=H) (a4:=I) (a5:=J);have a:=C.en;have b:=C.be;have Q:(kOn==[111,110])=true:=rfl;have w:kN B E (.on d c)=(bif !E.isEmpty||B.isEmpty then some 1 else bif late B d then some 3 else bif decide (12<=(Jm B).length) then some 5 else none):=rfl;rw[w];rcases y0 B with rfl | ⟨M,x,rfl⟩
 ·have j:vA (.lst false []) (.lst true [])=some (.bl true):=rfl;simp only[List.map_nil] at e;generalize yr []=b2 at e;generalize E.map Ev.enc=EE at *;unfold j5 vL;generalize zD (p2 vX (pV 1) (va pN)) (p2 vA (p2 jF (p2 jF (pV 1) (p1 kZ (pC (.int 1)))) (pC (.int 2))) (va pN))=U at *;simp[jx,qA,r,e,j,jg,fnm,FN]
 ·have s:=Vb (l:=M.map (jD false)) (x:=jD false x) false;rw[<- vS] at s;have y:=E2 false x;obtain⟨z,i⟩:=eqn (o:=false) (okT false x.t).2;rw[isE] at z i;have k:(M++[x]).isEmpty=false:=by simp
  rw[k] at b;have f:=h.lT;have f:(Jm (M++[x])).length<=12:=f;rw[yw] at f;have O:late (M++[x]) d=(!x.t.isEmpty&&decide (d<=jci x.t)):=by unfold late;rw[yw]
  have A:=qL x.t;rw[O,k,Bool.or_false,yw];have u:(((x.t.map kQ).length:Int)==12)=decide (12<=x.t.length):=by
   rw[L0];by_cases v:12<=x.t.length
   ·rw[X1 v];simp;omega
   ·rw[X2 v];simp;omega
  generalize yr (M++[x])=b2 at e;generalize(!E.isEmpty)=b1 at a;have g:x.t.isEmpty=true \/ ∃ q:Pr,x.t.isEmpty=false/\jci x.t=q.1/\jF (.lst false (x.t.map kQ)) (.int (-1))=some (kQ q):=by
   rcases y0 x.t with m | ⟨T,q,m⟩
   ·left;rw[m];rfl
   ·right
    refine⟨q,by rw[m];simp,by rw[m,xi],?_⟩;rw[m,N6,List.map_singleton];exact Vb false
  generalize decide (12<=x.t.length)=b5 at u;generalize P:((M++[x]).map (·.n)).map D.str=NN at *;generalize(M++[x]).map (jD false)=BB at *;generalize E.map Ev.enc=EE at *;unfold j5 vL;generalize zD (p2 vX (pV 1) (va pN)) (p2 vA (p2 jF (p2 jF (pV 1) (p1 kZ (pC (.int 1)))) (pC (.int 2))) (va pN))=U at *;rcases g with p | ⟨q,p,v,K⟩
  ·rw[p] at z i;rw[p];generalize x.t.map kQ=TT,jD false x=XX at *;cases b1<;>cases b5<;>simp[jx,qA,r,e,a,b,u,jiF,s,y,i,A,jg,fnm,FN]
  ·rw[p] at z i;rw[p,v];have L:jF (kQ q) (.int 0)=some (.int q.1):=rfl;generalize kQ q=QQ,x.t.map kQ=TT,jD false x=XX at *;by_cases hd:d<=q.1
   ·rw[X1 hd];cases b1<;>cases b5<;>simp[jx,qA,r,e,a,b,u,jiF,s,y,i,A,K,L,hd,jg,fnm,FN]
   ·rw[X2 hd];cases b1<;>cases b5<;>simp[jx,qA,r,e,a,b,u,jiF,s,y,i,A,K,L,hd,jg,fnm,FN]
theorem jdT{B:List Db}{E:List Ev}(h:St (B,E)){r:Rw}(a:RwOk r):j5 [.lst false r.enc,.lst false (B.map (jD false)),.lst false (E.map Ev.enc),.lst false ((B.map (·.n)).map D.str)]=some (.str (fnm (kN B E r))):=by
 cases r with
 | debt n p=>exact jce h a
 | on d c=>exact jfR h a
 | ev e=>exact jgd h a
noncomputable def flt(s:List Db×List Ev):Row->Option Nat
 | .no=>none
 | .bad _=>some 0
 | .ok r=>kN s.1 s.2 r
noncomputable def nx(s:List Db×List Ev):Row->List Db×List Ev
 | .ok r=>nxt s r
 | _=>s
noncomputable def run(s:List Db×List Ev)(k:Nat):List Row->(List Db×List Ev) ⊕ (Nat×Nat)
 | []=>.inl s
 | r::rs=>match flt s r with
  | some c=>.inr (c,k)
  | none=>run (nx s r) (k+1) rs
theorem St.nx{s:List Db×List Ev}(h:St s){r:Row}(i:RowOk r)(f:flt s r=none):St (nx s r):=by
 obtain⟨B,E⟩:=s;cases i with
 | no=>exact h
 | bad _=>exact h
 | @ok r i =>
  have f:kN B E r=none:=f;cases r with
  | debt n p =>
   cases i with
   | debt j k =>
    have g:kN B E (.debt n p)=(bif !E.isEmpty then some 1 else bif yr B then some 2 else bif decide (n∈B.map (·.n)) then some 3 else bif decide (30<=B.length) then some 5 else none):=rfl;rw[g] at f;have l:¬ 30<=B.length:=by
     intro z;rw[X1 z] at f;revert f;cases(!E.isEmpty)<;>cases yr B<;>cases decide (n∈B.map (·.n))<;>simp
    refine⟨λx b=>?_,h.nE,?_,?_,λx b=>?_,h.lE⟩
    ·have b:x∈B++[⟨n,p,[]⟩]:=b;rcases N3.mp b with b | b
     ·exact h.nB x b
     ·rw[M8.mp b];exact⟨j,k⟩
    ·show(B++[(⟨n,p,[]⟩:Db)]).length<=30;rw[N5];simp only[M3,List.length_nil];omega
    ·show(Jm (B++[(⟨n,p,[]⟩:Db)])).length<=12;rw[yw];simp
    ·have b:x∈B++[⟨n,p,[]⟩]:=b;rcases N3.mp b with b | b
     ·exact h.lP x b
     ·rw[M8.mp b];exact U6 _
  | on d c =>
   have g:kN B E (.on d c)=(bif !E.isEmpty||B.isEmpty then some 1 else bif late B d then some 3 else bif decide (12<=(Jm B).length) then some 5 else none):=rfl;rw[g] at f;rcases y0 B with rfl | ⟨M,x,rfl⟩
   ·simp at f
   ·have l:¬ 12<=x.t.length:=by
     intro z;rw[yw,X1 z] at f;revert f;cases(!E.isEmpty||(M++[x]).isEmpty)<;>cases late (M++[x]) d<;>simp
    have m:(nxt (M++[x],E) (.on d c))=(M++[⟨x.n,x.p,x.t++[(d,c)]⟩],E):=by simp[nxt,QF]
    show St (nxt (M++[x],E) (.on d c));rw[m];refine⟨λy a=>?_,h.nE,?_,?_,λy a=>?_,h.lE⟩
    ·have a:y∈M++[⟨x.n,x.p,x.t++[(d,c)]⟩]:=a;rcases N3.mp a with a | a
     ·exact h.nB y (by show y∈M++[x];simp[a])
     ·rw[M8.mp a];exact h.nB x (by show x∈M++[x];simp)
    ·have:=h.lB;have:(M++[x]).length<=30:=this;show(M++[(⟨x.n,x.p,x.t++[(d,c)]⟩:Db)]).length<=30;rw[N5] at *;exact this
    ·show(Jm (M++[(⟨x.n,x.p,x.t++[(d,c)]⟩:Db)])).length<=12;rw[yw,N5];simp only[M3,List.length_nil];omega
    ·have a:y∈M++[⟨x.n,x.p,x.t++[(d,c)]⟩]:=a;rcases N3.mp a with a | a
     ·exact h.lP y (by show y∈M++[x];simp[a])
     ·rw[M8.mp a];show(x.t++[(d,c)]).length<=12;rw[N5];simp only[M3,List.length_nil];omega
  | ev e =>
   cases i with
   | ev j k o =>
    have g:kN B E (.ev e)=(bif yr B then some 2 else bif !decide (e.n∈B.map (·.n)) then some 4 else bif decide (60<=E.length) then some 5 else none):=rfl;rw[g] at f;have l:¬ 60<=E.length:=by
     intro z;rw[X1 z] at f;revert f;cases yr B<;>cases(!decide (e.n∈B.map (·.n)))<;>simp
    refine⟨h.nB,λy a=>?_,h.lB,h.lT,h.lP,?_⟩
    ·have a:y∈E++[e]:=a;rcases N3.mp a with a | a
     ·exact h.nE y a
     ·rw[M8.mp a];exact j
    ·show(E++[e]).length<=60;rw[N5];simp only[M3,List.length_nil];omega
noncomputable abbrev gR:D->Rh->Option Rh:=gT 2 (gC (jS [] 3) (gC (jS [] 4) gN))
noncomputable abbrev drS(s:List Db×List Ev):D:=drD true (s.1.map (jD true)) (s.2.map Ev.enc)
theorem jgq(r:Rw):yY r.enc=true:=by rcases r with⟨_,_⟩ | ⟨_,_⟩ | (_ | _ | _)<;>rfl
theorem body{s:List Db×List Ev}(g:St s){r:Row}(t:RowOk r){T:List Nat}(u:T.length<=1000)(v:wgo 32 [] T=r.wds){a0 a2 o5:Option D}{pl:Int} :
  (∀ c,flt s r=some c->jO [a0,some (drS s),a2,some (.int pl),some (.str T),o5]=some (c,pl)) /\
  (flt s r=none->jO [a0,some (drS s),a2,some (.int pl),some (.str T),o5]=none/\∃ r5,jM [a0,some (drS s),a2,some (.int pl),some (.str T),o5]=some (.nx [a0,some (drS (nx s r)),a2,some (.int pl),some (.str T),r5])):=by
 obtain⟨B,E⟩:=s;obtain⟨w,x,y⟩:=jf4 t u v pl;have h:=jjr true B;have i:=jlc E;cases r with
 | no =>
  obtain⟨a,d⟩:=x rfl;have e:kj .non .non=some (.bl false):=rfl;refine⟨λc f=>(by cases f),λ_=>⟨?_,some .non,?_⟩⟩
  ·show jO [a0,some (drD true (B.map (jD true)) (E.map Ev.enc)),a2,some (.int pl),some (.str T),o5]=none;generalize B.map (jD true)=B1,E.map Ev.enc=E1 at *;simp[jO,qB,xIf,xN,JT,a,d,e]
  ·show jM [a0,some (drD true (B.map (jD true)) (E.map Ev.enc)),a2,some (.int pl),some (.str T),o5]=some (.nx [a0,some (drD true (B.map (jD true)) (E.map Ev.enc)),a2,some (.int pl),some (.str T),some .non]);generalize B.map (jD true)=B1,E.map Ev.enc=E1 at *;simp[jM,a,e]
 | bad b =>
  have d:=y b rfl;refine⟨λc f=>?_,λz=>by cases z⟩;cases f;show jO [a0,some (drD true (B.map (jD true)) (E.map Ev.enc)),a2,some (.int pl),some (.str T),o5]=some (0,pl);generalize B.map (jD true)=B1,E.map Ev.enc=E1 at *;simp[jO,qB,JT,d]
 | ok q =>
  obtain⟨a,d⟩:=w q rfl;have hd:=did (B:=B) (E:=E) q (by have:=g.lB;exact N8 this (by decide)) (by have:=g.lT;exact N8 this (by decide)) (by have:=g.lE;exact N8 this (by decide));have m:=jei q;have j:=jB _ m;have k:=jgq q;have e:kj (.lst true q.enc) .non=some (.bl true):=rfl;refine⟨λc f=>?_,λn=>?_⟩
  ·have l:=hd.no c f pl;show jO [a0,some (drD true (B.map (jD true)) (E.map Ev.enc)),a2,some (.int pl),some (.str T),o5]=some (c,pl);generalize q.enc=RR,B.map (jD true)=B1,B.map (jD false)=B3,E.map Ev.enc=E1 at *;simp[jO,qB,xIf,xN,JT,a,d,e,k,fzi,h,i,j,l]
  ·obtain⟨l,o⟩:=hd.yes n pl;have p:=hd.go n;have A:nx (B,E) (.ok q)=nxt (B,E) q:=rfl;rw[A];refine⟨?_,some (.lst false q.enc),?_⟩
   ·show jO [a0,some (drD true (B.map (jD true)) (E.map Ev.enc)),a2,some (.int pl),some (.str T),o5]=none;clear p;generalize q.enc=RR,B.map (jD true)=B1,B.map (jD false)=B3,E.map Ev.enc=E1 at *;simp[jO,qB,xIf,xN,JT,a,d,e,k,fzi,h,i,j,l,o]
   ·show jM [a0,some (drD true (B.map (jD true)) (E.map Ev.enc)),a2,some (.int pl),some (.str T),o5]=some (.nx [a0,some (drD true ((nxt (B,E) q).1.map (jD true)) ((nxt (B,E) q).2.map Ev.enc)),a2,some (.int pl),some (.str T),some (.lst false q.enc)]);generalize q.enc=RR at *;generalize(nxt (B,E) q).1.map (jD true)=B2 at *;generalize(nxt (B,E) q).2.map Ev.enc=E2 at *;generalize B.map (jD true)=B1,B.map (jD false)=B3,E.map Ev.enc=E1 at *;simp[jM,a,e,k,fzi,h,i,j,m,o,p,jih]
noncomputable def kt(r:Row):List Nat:=yk [32] r.wds
theorem ue{a0 a2:Option D}:∀{rs:List Row}{s:List Db×List Ev}{k:Nat}{o3 o4 o5:Option D},(∀ r∈rs,RowOk r/\(kt r).length<=1000/\wgo 32 [] (kt r)=r.wds)->St s ->
  (∀ c n,run s k rs=.inr (c,n)->Jy gR jM jO (JS (k:Int) (rs.map λr=>D.str (kt r))) [a0,some (drS s),a2,o3,o4,o5]=some (c,(n:Int))) /\
  (∀ t,run s k rs=.inl t->St t/\Jy gR jM jO (JS (k:Int) (rs.map λr=>D.str (kt r))) [a0,some (drS s),a2,o3,o4,o5]=none /\
   ∃ r3 r4 r5,kE gR jM (JS (k:Int) (rs.map λr=>D.str (kt r))) [a0,some (drS s),a2,o3,o4,o5]=some (.nx [a0,some (drS t),a2,r3,r4,r5]))
 | [],s,k,o3,o4,o5,_,a=>⟨λc n h=>(by cases h),λt h=>(by cases h;exact⟨a,rfl,o3,o4,o5,rfl⟩)⟩
 | r::rs,s,k,o3,o4,o5,i,a=>by
  obtain⟨j,p,q⟩:=i r (by simp);obtain⟨u,v⟩:=body a j p q (a0:=a0) (a2:=a2) (o5:=o5) (pl:=(k:Int));have b:gR (.tup [.int (k:Int),.str (kt r)]) [a0,some (drS s),a2,o3,o4,o5]=some [a0,some (drS s),a2,some (.int (k:Int)),some (.str (kt r)),o5]:=rfl;rw[L5,JS];cases hf:flt s r with
  | some c =>
   have d:=u c hf;refine⟨λl n h=>?_,λt h=>?_⟩
   ·simp only[run,hf] at h;cases h;simp only[Jy,b,d]
   ·simp only[run,hf] at h;cases h
  | none =>
   obtain⟨d,r5,e⟩:=v hf;have f:=a.nx j hf;obtain⟨m,o⟩:=ue (a0:=a0) (a2:=a2) (rs:=rs) (s:=nx s r) (k:=k+1) (o3:=some (.int (k:Int))) (o4:=some (.str (kt r))) (o5:=r5) (λx w=>i x (by simp[w])) f;have y:(((k+1:Nat)):Int)=(k:Int)+1:=by omega
   rw[y] at m o;refine⟨λl n h=>?_,λt h=>?_⟩
   ·simp only[run,hf] at h;simp only[Jy,b,d,e];exact m l n h
   ·simp only[run,hf] at h;obtain⟨z,A,r3,r4,g,B⟩:=o t h;refine⟨z,?_,r3,r4,g,?_⟩
    ·simp only[Jy,b,d,e];exact A
    ·rw[kl,b,L4,e,L4,Qm,B]
noncomputable abbrev gD:D->Rh->Option Rh:=gT 2 (gC (jS [] 4) (gC (jS [] 5) gN))
noncomputable abbrev dB(s:List Db×List Ev):Option D:=some (.lst true (s.1.map (jD true)))
noncomputable abbrev dE(s:List Db×List Ev):Option D:=some (.lst true (s.2.map Ev.enc))
noncomputable abbrev dC(s:List Db×List Ev):Option D:=some (.lst true ((s.1.map (·.n)).map D.str))
theorem jhM(c:Nat):(FN c==[])=false:=by
 match c with
 | 0=>rfl
 | 1=>rfl
 | 2=>rfl
 | 3=>rfl
 | 4=>rfl
 | _+5=>rfl
theorem V3(r:Row):frzs r.enc=true:=by rcases r with _ | (⟨_,_⟩ | ⟨_,_⟩ | (_ | _ | _)) | (_ | _ | _ | _)<;>rfl
theorem okI{xs:List Item}(h:∀ x∈xs,∀ c∈x.wd,c < 1114112):vP 19 (xs.map Item.enc)=true:=Ku λd hd=>by
 obtain⟨x,a,rfl⟩:=M6.mp hd;cases x with
 | nm w=>exact kO (h _ a)
 | nu n=>rfl
theorem jj0{x:Item}{k:List Nat}(h:Fit x k):∀ c∈x.wd,c < 1114112:=by
 cases h with
 | nm w h=>exact JJ h
 | nu n k g b d e f i=>intro c a;have:=VL _ c a;omega
theorem okR{r:Row}(h:RowOk r):vP 19 r.enc=true:=by
 cases h with
 | no=>rfl
 | @ok r h =>
  show vP 19 (.str r.kw::r.xs.map Item.enc)=true;have a:=okI (xs:=r.xs) λx d=>by obtain⟨k,e⟩:=h.fm.mem d;exact jj0 e
  have b:okE 19 (.str r.kw)=true:=by rcases r with⟨_,_⟩ | ⟨_,_⟩ | (_ | _ | _)<;>rfl
  rw[vP,a,b];rfl
 | @bad b h =>
  cases b with
  | on=>rfl
  | debt n =>
   have c:=JJ (h.resolve_left (λz=>by cases z));show vP 19 [.str vK,.str n]=true;have a:okE 19 (.str vK)=true:=rfl;have b:okE 19 (.str n)=true:=kO c;rw[vP,vP,vP,a,b];rfl
  | late n =>
   have c:=JJ (h.resolve_left (λz=>by cases z));show vP 19 [.str [108,97,116,101],.str n,.int 1,.int 31]=true;have a:okE 19 (.str [108,97,116,101])=true:=rfl;have b:okE 19 (.str n)=true:=kO c;rw[vP,vP,vP,vP,vP,a,b];rfl
  | quit n =>
   have c:=JJ (h.resolve_left (λz=>by cases z));show vP 19 [.str [113,117,105,116],.str n,.int 61]=true;have a:okE 19 (.str [113,117,105,116])=true:=rfl;have b:okE 19 (.str n)=true:=kO c;rw[vP,vP,vP,vP,a,b];rfl
theorem jfO{s:List Db×List Ev}(H:St s){r:Row}(O:RowOk r){a0 o6:Option D}{k:Nat} :
  (∀ c,flt s r=some c->∃ ρ,jy [a0,dB s,dE s,dC s,some (.int (k:Int)),some (.lst false r.enc),o6]=some (.rt (.tup [.str (FN c),.int ((k:Int)+1)]) ρ)) /\
  (flt s r=none->∃ r6,jy [a0,dB s,dE s,dC s,some (.int (k:Int)),some (.lst false r.enc),o6]=some (.nx [a0,dB (nx s r),dE (nx s r),dC (nx s r),some (.int (k:Int)),some (.lst false r.enc),r6]) \/ jy [a0,dB s,dE s,dC s,some (.int (k:Int)),some (.lst false r.enc),o6]=some (.ct [a0,dB (nx s r),dE (nx s r),dC (nx s r),some (.int (k:Int)),some (.lst false r.enc),r6])):=by
 obtain⟨B,E⟩:=s;have i:=jjr true B;have u:=jlc E;have v:=vE (B.map (·.n));have j:=jB _ (V3 r);obtain⟨f,_⟩:=eqn (o:=false) (okR O);cases r with
 | no =>
  have f:vA (.lst false []) (.lst true [])=some (.bl true):=rfl;refine⟨λc g=>(by cases g),λ_=>⟨o6,.inr ?_⟩⟩;show jy [a0,some (.lst true (B.map (jD true))),some (.lst true (E.map Ev.enc)),some (.lst true ((B.map (·.n)).map D.str)),some (.int (k:Int)),some (.lst false []),o6]=_;generalize I:(B.map (·.n)).map D.str=NN at *;simp[jy,f,jg,nx,I,Row.enc]
 | bad b =>
  have l:(Row.bad b).enc.isEmpty=false:=rfl;rw[l] at f;have a:=jjJ b (B.map (jD false)) (E.map Ev.enc) ((B.map (·.n)).map D.str);have w:=jhM 0;refine⟨λc g=>?_,λz=>(by cases z)⟩;cases g;refine⟨[a0,some (.lst true (B.map (jD true))),some (.lst true (E.map Ev.enc)),some (.lst true ((B.map (·.n)).map D.str)),some (.int (k:Int)),some (.lst false (Row.bad b).enc),some (.str (FN 0))],?_⟩;show jy [a0,some (.lst true (B.map (jD true))),some (.lst true (E.map Ev.enc)),some (.lst true ((B.map (·.n)).map D.str)),some (.int (k:Int)),some (.lst false (Row.bad b).enc),o6]=_;generalize FN 0=F0 at *;generalize(Row.bad b).enc=RR at *;generalize(B.map (·.n)).map D.str=NN at *;generalize B.map (jD true)=B1,B.map (jD false)=B3,E.map Ev.enc=E1 at *;simp[jy,f,jg,i,u,v,j,a,w]
 | ok q =>
  have P:RwOk q:=by cases O with | ok h=>exact h
  have l:(Row.ok q).enc.isEmpty=false:=rfl;rw[l] at f;have a:=jdT H P;have f:vA (.lst false q.enc) (.lst true [])=some (.bl false):=f;have j:fzs q.enc=q.enc:=j;show(∀ c,flt (B,E) (Row.ok q)=some c->∃ ρ,jy [a0,dB (B,E),dE (B,E),dC (B,E),some (.int (k:Int)),some (.lst false q.enc),o6]=some (.rt (.tup [.str (FN c),.int ((k:Int)+1)]) ρ))/\_;refine⟨λc g=>?_,λg=>?_⟩
  ·have g:kN B E q=some c:=g;rw[g] at a;have a:j5 [.lst false q.enc,.lst false (B.map (jD false)),.lst false (E.map Ev.enc),.lst false ((B.map (·.n)).map D.str)]=some (.str (FN c)):=a;have w:=jhM c;refine⟨[a0,some (.lst true (B.map (jD true))),some (.lst true (E.map Ev.enc)),some (.lst true ((B.map (·.n)).map D.str)),some (.int (k:Int)),some (.lst false q.enc),some (.str (FN c))],?_⟩;show jy [a0,some (.lst true (B.map (jD true))),some (.lst true (E.map Ev.enc)),some (.lst true ((B.map (·.n)).map D.str)),some (.int (k:Int)),some (.lst false q.enc),o6]=_;generalize FN c=F0,q.enc=RR at *;generalize(B.map (·.n)).map D.str=NN at *;generalize B.map (jD true)=B1,B.map (jD false)=B3,E.map Ev.enc=E1 at *;simp[jy,f,jg,i,u,v,j,a,w]
  ·have g:kN B E q=none:=g;rw[g] at a;have a:j5 [.lst false q.enc,.lst false (B.map (jD false)),.lst false (E.map Ev.enc),.lst false ((B.map (·.n)).map D.str)]=some (.str []):=a;have lB:=H.lB;have lB:B.length<=30:=lB;have lE:=H.lE;have lE:E.length<=60:=lE;have J:lim (B.map (jD true)).length=true:=jg (by rw[L0];omega);have K:lim ((B.map (·.n)).map D.str).length=true:=jg (by rw[L0,L0];omega);have y:lim (E.map Ev.enc).length=true:=jg (by rw[L0];omega);refine⟨some (.str []),.inl ?_⟩;show jy [a0,some (.lst true (B.map (jD true))),some (.lst true (E.map Ev.enc)),some (.lst true ((B.map (·.n)).map D.str)),some (.int (k:Int)),some (.lst false q.enc),o6]=some (.nx [a0,dB (nxt (B,E) q),dE (nxt (B,E) q),dC (nxt (B,E) q),some (.int (k:Int)),some (.lst false q.enc),some (.str [])]);cases q with
   | debt n p =>
    have A:dB (nxt (B,E) (.debt n p))=some (.lst true (B.map (jD true)++[.tup [.str n,.str p,.lst true []]])):=by
     show some (D.lst true ((B++[(⟨n,p,[]⟩:Db)]).map (jD true)))=_;rw[vS];rfl
    have C:dC (nxt (B,E) (.debt n p))=some (.lst true ((B.map (·.n)).map D.str++[.str n])):=by
     show some (D.lst true (((B++[(⟨n,p,[]⟩:Db)]).map (·.n)).map D.str))=_;rw[N6,N6];rfl
    have F:dE (nxt (B,E) (.debt n p))=some (.lst true (E.map Ev.enc)):=rfl;rw[A,C,F];have m:(Rw.debt n p).enc=[.str vK,.str n,.str p]:=rfl;rw[m] at f a j ⊢;generalize(B.map (·.n)).map D.str=NN at *;generalize B.map (jD true)=B1,B.map (jD false)=B3,E.map Ev.enc=E1 at *;simp[jy,f,jg,i,u,v,a,qA,J,K,y]
   | on d c =>
    have L:kN B E (.on d c)=(bif !E.isEmpty||B.isEmpty then some 1 else bif late B d then some 3 else bif decide (12<=(Jm B).length) then some 5 else none):=rfl;rw[L] at g;rcases y0 B with rfl | ⟨M,x,rfl⟩
    ·simp at g
    ·have lT:=H.lT;have lT:(Jm (M++[x])).length<=12:=lT;rw[yw] at lT;have N:lim (x.t.map kQ).length=true:=jg (by rw[L0];omega);have w:(nxt (M++[x],E) (.on d c))=(M++[⟨x.n,x.p,x.t++[(d,c)]⟩],E):=by simp[nxt,QF]
     rw[w];have A:dB (M++[(⟨x.n,x.p,x.t++[(d,c)]⟩:Db)],E)=some (.lst true (M.map (jD true)++[.tup [.str x.n,.str x.p,.lst true (x.t.map kQ++[.tup [.int d,.int c]])]])):=by
      show some (D.lst true ((M++[(⟨x.n,x.p,x.t++[(d,c)]⟩:Db)]).map (jD true)))=_;rw[vS];show some (D.lst true (M.map (jD true)++[.tup [.str x.n,.str x.p,.lst true ((x.t++[(d,c)]).map kQ)]]))=_;rw[N6];rfl
     have C:dC (M++[(⟨x.n,x.p,x.t++[(d,c)]⟩:Db)],E)=some (.lst true (((M++[x]).map (·.n)).map D.str)):=by
      show some (D.lst true (((M++[(⟨x.n,x.p,x.t++[(d,c)]⟩:Db)]).map (·.n)).map D.str))=_;rw[N6,N6 (l₁:=M)];rfl
     have F:dE (M++[(⟨x.n,x.p,x.t++[(d,c)]⟩:Db)],E)=some (.lst true (E.map Ev.enc)):=rfl;rw[A,C,F];have m:(Rw.on d c).enc=[.str kOn,.int d,.int c]:=rfl;rw[m] at f a j ⊢;rw[vS] at i ⊢;have Q:jD true x=.tup [.str x.n,.str x.p,.lst true (x.t.map kQ)]:=rfl;rw[Q] at i ⊢;have R:∀(G:List D) (X:List D),lIx 2 (lIx (-1) jb4) (.lst true (G++[.tup [.str x.n,.str x.p,.lst true X]]))=some (.lst true X,λz=>.lst true (G++[.tup [.str x.n,.str x.p,z]])):=by
      intro G X;have S:ixN (G.length+1) (-1)=some G.length:=by simp[ixN];omega
      have T:ixN 3 2=some 2:=by decide
      rw[lIx,lIx,jb4];simp[S,T]
     generalize((M++[x]).map (·.n)).map D.str=NN at *;generalize x.t.map kQ=TT,M.map (jD true)=B1 at *;generalize(M++[x]).map (jD false)=B3 at *;generalize E.map Ev.enc=E1 at *;simp[jy,f,jg,i,u,v,a,qA,R,N]
   | ev e =>
    have A:dB (nxt (B,E) (.ev e))=some (.lst true (B.map (jD true))):=rfl;have C:dC (nxt (B,E) (.ev e))=some (.lst true ((B.map (·.n)).map D.str)):=rfl;have F:dE (nxt (B,E) (.ev e))=some (.lst true (E.map Ev.enc++[.tup (Rw.ev e).enc])):=by
     show some (D.lst true ((E++[e]).map Ev.enc))=_;rw[N6,List.map_singleton];cases e<;>rfl
    rw[A,C,F];obtain⟨U,V⟩:=jcF e;have x0:jF (.lst false (Rw.ev e).enc) (.int 0)=some (.str (Rw.ev e).kw):=by cases e<;>rfl
    have W:=jei (.ev e);have Y:xy [.lst false (Rw.ev e).enc]=some (.tup (Rw.ev e).enc):=by
     show(bif frzs (Rw.ev e).enc then some (D.tup (Rw.ev e).enc) else none)=_;rw[W];rfl
    generalize(Rw.ev e).enc=RR at *;generalize(Rw.ev e).kw=kw at *;generalize(B.map (·.n)).map D.str=NN at *;generalize B.map (jD true)=B1,B.map (jD false)=B3,E.map Ev.enc=E1 at *;simp[jy,f,jg,i,u,v,j,a,x0,U,V,Y,y]
theorem jbe{a0:Option D}:∀{rs:List Row}{s:List Db×List Ev}{k:Nat}{o4 o5 o6:Option D},(∀ r∈rs,RowOk r)->St s ->
  (∀ c n,run s (k+1) rs=.inr (c,n)->∃ ρ,kE gD jy (qo k (rs.map λr=>D.lst false r.enc)) [a0,dB s,dE s,dC s,o4,o5,o6]=some (.rt (.tup [.str (FN c),.int (n:Int)]) ρ)) /\
  (∀ t,run s (k+1) rs=.inl t->∃ r4 r5 r6,kE gD jy (qo k (rs.map λr=>D.lst false r.enc)) [a0,dB s,dE s,dC s,o4,o5,o6]=some (.nx [a0,dB t,dE t,dC t,r4,r5,r6]))
 | [],s,k,o4,o5,o6,_,d=>⟨λc n h=>(by cases h),λt h=>(by cases h;exact⟨o4,o5,o6,rfl⟩)⟩
 | r::rs,s,k,o4,o5,o6,e,d=>by
  have f:=e r (by simp);obtain⟨j,l⟩:=jfO d f (a0:=a0) (o6:=o6) (k:=k);have g:gD (.tup [.int (k:Int),.lst false r.enc]) [a0,dB s,dE s,dC s,o4,o5,o6]=some [a0,dB s,dE s,dC s,some (.int (k:Int)),some (.lst false r.enc),o6]:=rfl;rw[L5,qo];cases hf:flt s r with
  | some c =>
   obtain⟨ρ,b⟩:=j c hf;refine⟨λi n h=>?_,λt h=>?_⟩
   ·simp only[run,hf] at h;cases h;refine⟨ρ,?_⟩;rw[kl,g,L4,b,L4,jif];rfl
   ·simp only[run,hf] at h;cases h
  | none =>
   obtain⟨r6,b⟩:=l hf;obtain⟨m,o⟩:=jbe (a0:=a0) (rs:=rs) (s:=nx s r) (k:=k+1) (o4:=some (.int (k:Int))) (o5:=some (.lst false r.enc)) (o6:=r6) (λx p=>e x (by simp[p])) (d.nx f hf);have a:kE gD jy (.tup [.int (k:Int),.lst false r.enc]::qo (k+1) (rs.map λr=>D.lst false r.enc)) [a0,dB s,dE s,dC s,o4,o5,o6]=kE gD jy (qo (k+1) (rs.map λr=>D.lst false r.enc)) [a0,dB (nx s r),dE (nx s r),dC (nx s r),some (.int (k:Int)),some (.lst false r.enc),r6]:=by
    rcases b with b | b<;>rw[kl,g,L4,b,L4]
    ·rw[Qm]
    ·rw[jji]
   rw[a];refine⟨λi n h=>?_,λt h=>?_⟩
   ·simp only[run,hf] at h;exact m i n h
   ·simp only[run,hf] at h;exact o t h
noncomputable def due(rs:List Row):(List Db×List Ev) ⊕ (Nat×Nat):=match run ([],[]) 1 rs with
 | .inl t=>bif yr t.1 then .inr (2,max 1 rs.length) else .inl t
 | .inr q=>.inr q
theorem st0:St ([],[]):=⟨λx a=>(by cases a),λx a=>(by cases a),by decide,by decide,λx a=>(by cases a),by decide⟩
theorem ja8(rs:List Row):frzs (rs.map λr=>D.lst false r.enc)=true:=ke λd hd=>by
 obtain⟨r,_,rfl⟩:=M6.mp hd;simp[V3 r]
theorem jeD:∀{rs:List Row}{s t:List Db×List Ev}{k:Nat},(∀ r∈rs,RowOk r)->St s->run s k rs=.inl t->St t
 | [],s,t,k,_,a,h=>by cases h;exact a
 | r::rs,s,t,k,b,a,h=>by
  cases hf:flt s r with
  | some c=>simp only[run,hf] at h;cases h
  | none =>
   simp only[run,hf] at h;exact jeD (λx d=>b x (by simp[d])) (a.nx (b r (by simp)) hf) h
theorem jlG{rs:List Row}(h:∀ r∈rs,RowOk r)(Q:rs.length<=1000) :
  (∀ c n,due rs=.inr (c,n)->kH [.lst false (rs.map λr=>D.lst false r.enc)]=some (.tup [.str (FN c),.int (n:Int)])) /\
  (∀ t,due rs=.inl t->kH [.lst false (rs.map λr=>D.lst false r.enc)]=some (.tup [.str [],.tup [.lst false (t.1.map (jD false)),.lst false (t.2.map Ev.enc)]])):=by
 obtain⟨A,C⟩:=jbe (a0:=some (.lst false (rs.map λr=>D.lst false r.enc))) (rs:=rs) (s:=([],[])) (k:=0) (o4:=none) (o5:=none) (o6:=none) h st0;have g:=ja8 rs;have F:=jB _ g;have i:(rs.map λr=>D.lst false r.enc).length=rs.length:=by simp
 have d:∀ l:List D,fzs l=l->frzs l=true->jbr [.lst false l]=some (qo 0 l):=λl G _=>by
  show some (qo 0 (fzs l))=_;rw[G]
 have d:=d _ F g;unfold due;cases hrun:run ([],[]) 1 rs with
 | inr q =>
  obtain⟨c,n⟩:=q;obtain⟨ρ,e⟩:=A c n hrun;refine⟨λR S z=>?_,λt z=>(by cases z)⟩;cases z;have e:kE gD jy (qo 0 (rs.map λr=>D.lst false r.enc)) [some (.lst false (rs.map λr=>D.lst false r.enc)),some (.lst true []),some (.lst true []),some (.lst true []),none,none,none]=some (.rt (.tup [.str (FN c),.int (n:Int)]) ρ):=e;generalize(rs.map λr=>D.lst false r.enc)=L at *;simp[kH,jx,JQ,jg,g,d,e]
 | inl t =>
  obtain⟨u,v,w,e⟩:=C t hrun;have m:=jeD h st0 hrun;obtain⟨B,E⟩:=t;have e:kE gD jy (qo 0 (rs.map λr=>D.lst false r.enc)) [some (.lst false (rs.map λr=>D.lst false r.enc)),some (.lst true []),some (.lst true []),some (.lst true []),none,none,none]=some (.nx [some (.lst false (rs.map λr=>D.lst false r.enc)),some (.lst true (B.map (jD true))),some (.lst true (E.map Ev.enc)),dC (B,E),u,v,w]):=e;generalize dC (B,E)=CC at e;have H:=jjr true B;have I:=jlc E;have J:=vm B;have K:=Jn E;obtain⟨_,bn⟩:=eqn (o:=true) (okB (o:=true) m.nB);rw[isE] at bn;have bn:vX (.lst true (B.map (jD true))) (.lst true [])=some (.bl (!B.isEmpty)):=bn;have a:∀ b,yr B=b->VX (jj (p2 vX (pV 1) (va pN))) (jj (p2 vA (p2 jF (p2 jF (pV 1) (p1 kZ (pC (.int 1)))) (pC (.int 2))) (va pN))) [some (.lst false (rs.map λr=>D.lst false r.enc)),some (.lst true (B.map (jD true))),some (.lst true (E.map Ev.enc)),CC,u,v,w]=some b:=by
   intro b f;generalize(rs.map λr=>D.lst false r.enc)=L;rcases y0 B with rfl | ⟨M,x,rfl⟩
   ·have N:vX (.lst true []) (.lst true [])=some (.bl false):=rfl;subst f;simp[N,jg,yr]
   ·have y:=Vb (l:=M.map (jD true)) (x:=jD true x) true;rw[<- vS] at y;have O:=E2 true x;obtain⟨p,_⟩:=eqn (o:=true) (okT true x.t).2;rw[isE] at p;have j:(M++[x]).isEmpty=false:=by simp
    rw[j] at bn;have P:yr (M++[x])=x.t.isEmpty:=by unfold yr;rw[yw,j];rfl
    rw[P] at f;rw[f] at p;generalize x.t.map kQ=TT,jD true x=XX at *;generalize(M++[x]).map (jD true)=BB at *;simp[bn,jg,jiF,y,O,p]
  cases f:yr B with
  | true =>
   have a:=a true f;have hd:(bif yr (B,E).1 then(Sum.inr (2,max 1 rs.length):(List Db×List Ev) ⊕ (Nat×Nat)) else .inl (B,E))=.inr (2,max 1 rs.length):=by show(bif yr B then _ else _)=_;rw[f];rfl
   refine⟨λc n z=>?_,λt z=>?_⟩
   ·have z:=hd.symm.trans z;cases z;unfold kH JQ;generalize VX (jj (p2 vX (pV 1) (va pN))) (jj (p2 vA (p2 jF (p2 jF (pV 1) (p1 kZ (pC (.int 1)))) (pC (.int 2))) (va pN)))=U at *;generalize(rs.map λr=>D.lst false r.enc)=L at *;simp[jx,jg,g,d,e,a,i,FN];split<;>omega
   ·have z:=hd.symm.trans z;cases z
  | false =>
   have a:=a false f;have hd:(bif yr (B,E).1 then(Sum.inr (2,max 1 rs.length):(List Db×List Ev) ⊕ (Nat×Nat)) else .inl (B,E))=.inl (B,E):=by show(bif yr B then _ else _)=_;rw[f];rfl
   refine⟨λc n z=>?_,λt z=>?_⟩
   ·have z:=hd.symm.trans z;cases z
   ·have z:=hd.symm.trans z;cases z;show _=some (D.tup [.str [],.tup [.lst false (B.map (jD false)),.lst false (E.map Ev.enc)]]);unfold kH JQ;generalize VX (jj (p2 vX (pV 1) (va pN))) (jj (p2 vA (p2 jF (p2 jF (pV 1) (p1 kZ (pC (.int 1)))) (pC (.int 2))) (va pN)))=U at *;generalize(rs.map λr=>D.lst false r.enc)=L at *;generalize B.map (jD true)=B1,B.map (jD false)=B3,E.map Ev.enc=E1 at *;simp[jx,jg,g,d,e,a,H,I,J,K]
noncomputable def sgo(c:Nat):List Nat->List Nat->List (List Nat)
 | cur,[]=>[cur]
 | cur,d::r=>if d=c then cur::sgo c [] r else sgo c (cur++[d]) r
theorem jaF(c:Nat):∀(p cur r:List Nat),c∉p->sgo c cur (p++r)=sgo c (cur++p) r
 | [],cur,r,_=>by simp
 | d::p,cur,r,h=>by
  rw[List.cons_append,sgo,if_neg (λz=>h (by simp[z])),jaF c p (cur++[d]) r (λz=>h (by simp[z]))];simp
theorem x4(c:Nat):∀(L:List (List Nat)),L≠[]->(∀ p∈L,c∉p)->sgo c [] (yk [c] L)=L
 | [],h,_=>absurd rfl h
 | [p],_,h=>by
  have:=jaF c p [] [] (h p (by simp));rw[N1,X5] at this;show sgo c [] p=_;rw[this];rfl
 | p::q::L,_,h=>by
  have e:yk [c] (p::q::L)=p++([c]++yk [c] (q::L)):=by rw[yk];simp
  rw[e,jaF c p [] _ (h p (by simp)),X5,List.cons_append,X5,sgo,if_pos rfl,x4 c (q::L) (by simp) λx a=>h x (by simp[a])]
theorem jbR{L:List (List Nat)}(i:L≠[])(h:∀ p∈L,10∉p):vj (yk [10] L) [10]=L:=by
 generalize j:yk [10] L=a;have k:∀ p∈vj a [10],10∉p:=by
  intro p d;unfold vj at d;obtain⟨x,l,rfl⟩:=M6.mp d;exact StrLaws.split_free (S a) 10 x l
 have b:yk [10] (vj a [10])=a:=by
  have e:=x5 [10] (vj a [10]);have m:(vj a [10]).map S=Txt.split (S a) (S [10]):=by
   unfold vj;rw[U2]
   conv=>rhs;rw[<- List.map_id (Txt.split (S a) (S [10]))]
   exact List.map_congr_left λx _=>by
    show S x.cps.toList=x;apply PyProof.Rows.ext_toList;rw[vR]
  rw[m,StrLaws.join_split] at e;have:=congrArg (λx:Str=>x.cps.toList) e;simpa [vR] using this.symm
 have c:vj a [10]≠[]:=by
  intro z;rw[z] at b;have:a=[]:=b.symm;rw[this] at z;exact absurd z (by decide)
 have f:=x4 10 _ c k;have g:=x4 10 L i h;rw[b] at f;rw[j] at g;rw[<- f,g]
theorem jc1{c d:Nat}(a:c≠d):∀{L:List (List Nat)},(∀ p∈L,d∉p)->d∉yk [c] L
 | [],_=>by simp[yk]
 | [p],h=>by simpa [yk] using h p (by simp)
 | p::q::L,h=>by
  have b:=jc1 a (L:=q::L) λx e=>h x (by simp[e]);rw[yk];intro z;rcases N3.mp z with z | z
  ·rcases N3.mp z with z | z
   ·exact h p (by simp) z
   ·exact a (M8.mp z).symm
  ·exact b z
theorem jmF(c:Nat):∀ L:List (List Nat),(yk [c] L).length<=(L.map List.length).sum+L.length
 | []=>by simp[yk]
 | [p]=>by simp[yk]
 | p::q::L=>by
  have a:=jmF c (q::L);rw[yk,N5,N5,L5,List.sum_cons];simp only[M3,List.length_nil] at *;omega
theorem jdt{L:List (List Nat)}{m:Nat}(h:∀ p∈L,p.length<=m):(L.map List.length).sum<=m*L.length:=by
 induction L with
 | nil=>simp
 | cons p L a =>
  have c:=h p (by simp);have d:=a λq b=>h q (by simp[b]);rw[L5,List.sum_cons,M3,Nat.mul_succ];omega
theorem RowOk.t{r:Row}(h:RowOk r):(kt r).length<=100/\wgo 32 [] (kt r)=r.wds/\10∉kt r:=by
 have b:=h.wb;have d:=r.few;refine⟨?_,?_,?_⟩
 ·have e:=jmF 32 r.wds;have f:=jdt (L:=r.wds) (m:=13) λp a=>(b p a).len;show(yk [32] r.wds).length<=100;omega
 ·show wgo 32 [] (yk [32] r.wds)=r.wds;rw[x6 32 r.wds λp a=>(b p a).bl];rw[List.filter_eq_self];intro w c;have:=(b w c).ne;simp[this]
 ·exact jc1 (by decide) λp a=>(b p a).nl
noncomputable def lns(rs:List Row):List Row:=if rs=[] then [.no] else rs
theorem jkW{rs:List Row}(h:∀ r∈rs,RowOk r):∀ r∈lns rs,RowOk r:=by
 unfold lns;split
 ·intro r a;rw[M8.mp a];exact .no
 ·exact h
theorem jjj(rs:List Row):run ([],[]) 1 (lns rs)=run ([],[]) 1 rs:=by
 unfold lns;split
 ·rename_i e;subst e;rfl
 ·rfl
theorem jcI(rs:List Row):(lns rs).length=max 1 rs.length:=by
 unfold lns;split
 ·rename_i e;subst e;rfl
 ·rename_i e;have:=List.length_pos_iff.mpr e;omega
theorem jlW(rs:List Row):(lns rs).map kt≠[]:=by
 have:=jcI rs;intro z;have a:=congrArg List.length z;rw[L0,this,List.length_nil] at a;omega
theorem jfP(rs:List Row):yk [10] ((lns rs).map kt)=yk [10] (rs.map kt):=by
 unfold lns;split
 ·rename_i e;subst e;rfl
 ·rfl
theorem jis{rs:List Row}(h:∀ r∈rs,RowOk r)(O:rs.length<=1000) :
  (∀ c n,due rs=.inr (c,n)->yS [.str (yk [10] (rs.map kt))]=some (c,(n:Int))) /\
  (∀ t,due rs=.inl t->yS [.str (yk [10] (rs.map kt))]=none/\vQ [.str (yk [10] (rs.map kt))]=some (.tup [.lst true (t.1.map (jD true)),.lst true (t.2.map Ev.enc)])):=by
 have hok:=jkW h;have v:=jcI rs;have hd:due rs=(match run ([],[]) 1 (lns rs) with | .inl t=>bif yr t.1 then .inr (2,(lns rs).length) else .inl t | .inr q=>.inr q):=by
  unfold due;rw[jjj,v]<;>cases run ([],[]) 1 rs<;>rfl
 rw[hd,<- jfP];have y:=jlW rs;have P:(lns rs).length<=1000:=by omega
 generalize lns rs=ls at *;clear hd v h O;have Q:(yk [10] (ls.map kt)).length<=1000000:=by
  have A:=jmF 10 (ls.map kt);have R:=jdt (L:=ls.map kt) (m:=100) λp C=>by obtain⟨r,i,rfl⟩:=M6.mp C;exact(hok r i).t.1
  rw[L0] at A R;omega
 have S:vj (yk [10] (ls.map kt)) [10]=ls.map kt:=jbR y λp C=>by obtain⟨r,i,rfl⟩:=M6.mp C;exact(hok r i).t.2.2
 have g:KR (.str (yk [10] (ls.map kt))) [.str [10]]=some (.lst true (ls.map λr=>D.str (kt r))):=by
  show(bif !([10]:List Nat).isEmpty&&decide ((yk [10] (ls.map kt)).length<=1000000) then some (D.lst true ((vj (yk [10] (ls.map kt)) [10]).map D.str)) else none)=_;rw[X1 Q,S,U2];rfl
 generalize yk [10] (ls.map kt)=T at *;obtain⟨U,V⟩:=ue (a0:=some (.str T)) (a2:=some (.lst false (ls.map λr=>D.str (kt r)))) (rs:=ls) (s:=([],[])) (k:=1) (o3:=none) (o4:=none) (o5:=none) (λr i=>⟨hok r i,by have:=(hok r i).t.1;omega,(hok r i).t.2.1⟩) st0;have o:frzs (ls.map λr=>D.str (kt r))=true:=ke λd hd=>by obtain⟨x,_,rfl⟩:=M6.mp hd;rfl
 have u:=jB _ o;have I:(ls.map λr=>D.str (kt r)).length=ls.length:=by simp
 have mk:jX [.ins true 6 [] []]=some (.non,drD true [] []):=by
  have p1:JO [] [] "debts" (D.lst true [])=((["debts"]:List Str),[D.lst true []]):=rfl;have p2:JO ["debts"] [D.lst true []] "events" (D.lst true [])=(NS,[D.lst true [],D.lst true []]):=rfl;simp[jX,jeo,vn,p1,p2,jg];rfl
 have j:∀ ρ:Rh,ρ[2]?=some (some (.lst false (ls.map λr=>D.str (kt r))))->jeY (jb (pF (pV 2)) pN) (pC (.int 1)) ρ=some (JS 1 (ls.map λr=>D.str (kt r))):=by
  intro ρ W;unfold jeY;have X:pV 2 ρ=some (.lst false (ls.map λr=>D.str (kt r))):=by rw[jeW,W];rfl
  have A:(jb (pF (pV 2)) pN) ρ=some [.lst false (ls.map λr=>D.str (kt r))]:=by
   generalize(ls.map λr=>D.str (kt r))=LL at *;simp[X,o,u]
  rw[A];show(bif VE 1 then some (JS 1 (fzs (ls.map λr=>D.str (kt r)))) else none)=_;rw[u];rfl
 have F:YJ=jM:=rfl;cases hrun:run ([],[]) 1 ls with
 | inr q =>
  obtain⟨c,n⟩:=q;have e:=U c n hrun;refine⟨λc' n' z=>?_,λt z=>(by cases z)⟩;cases z;have Y:Jy gR jM jO (JS 1 (ls.map λr=>D.str (kt r))) [some (.str T),some (drD true [] []),some (.lst false (ls.map λr=>D.str (kt r))),none,none,none]=some (c,(n:Int)):=e;generalize(ls.map λr=>D.str (kt r))=LL at *;have a:=j [some (.str T),some (drD true [] []),some (.lst false LL),none,none,none] rfl;simp[yS,fnR,kI,qB,xN,jeU,ji6,mk,g,u,o,a,Y]
 | inl t =>
  obtain⟨Z,ex,J,K,M,es⟩:=V t hrun;obtain⟨B,E⟩:=t;have w:Jy gR jM jO (JS 1 (ls.map λr=>D.str (kt r))) [some (.str T),some (drD true [] []),some (.lst false (ls.map λr=>D.str (kt r))),none,none,none]=none:=ex;have l:kE gR jM (JS 1 (ls.map λr=>D.str (kt r))) [some (.str T),some (drD true [] []),some (.lst false (ls.map λr=>D.str (kt r))),none,none,none]=some (.nx [some (.str T),some (drD true (B.map (jD true)) (E.map Ev.enc)),some (.lst false (ls.map λr=>D.str (kt r))),J,K,M]):=es;have b:=x9 (B:=B) E;have G:=jjr true B;have H:=jlc E;have fB:=vm B;have fE:=Jn E;have N:uR 1 6 "debts" "events" [some (.str T),some (drD true (B.map (jD true)) (E.map Ev.enc)),some (.lst false (ls.map λr=>D.str (kt r))),J,K,M]=some (.tup [.lst true (B.map (jD true)),.lst true (E.map Ev.enc)],List.set [some (.str T),some (drD true (B.map (jD true)) (E.map Ev.enc)),some (.lst false (ls.map λr=>D.str (kt r))),J,K,M] 1 none):=jfo rfl (by decide);cases hb:yr B with
  | true =>
   rw[hb] at b;have f:(bif yr (B,E).1 then(Sum.inr (2,ls.length):(List Db×List Ev) ⊕ (Nat×Nat)) else .inl (B,E))=.inr (2,ls.length):=by show(bif yr B then _ else _)=_;rw[hb];rfl
   refine⟨λc n z=>?_,λt z=>?_⟩
   ·have z:=f.symm.trans z;cases z;clear N;generalize(ls.map λr=>D.str (kt r))=LL at *;generalize B.map (jD true)=B1,B.map (jD false)=B2,E.map Ev.enc=E1 at *;have a:=j [some (.str T),some (drD true [] []),some (.lst false LL),none,none,none] rfl;simp[yS,fnR,kI,qB,xN,jeU,xIf,vk,ji6,mk,g,u,o,a,w,l,kT,fzi,zJ,G,H,b,I]
   ·have z:=f.symm.trans z;cases z
  | false =>
   rw[hb] at b;have f:(bif yr (B,E).1 then(Sum.inr (2,ls.length):(List Db×List Ev) ⊕ (Nat×Nat)) else .inl (B,E))=.inl (B,E):=by show(bif yr B then _ else _)=_;rw[hb];rfl
   refine⟨λc n z=>?_,λt z=>?_⟩
   ·have z:=f.symm.trans z;cases z
   ·have z:=f.symm.trans z;cases z;show _/\vQ [.str T]=some (.tup [.lst true (B.map (jD true)),.lst true (E.map Ev.enc)]);generalize(ls.map λr=>D.str (kt r))=LL at *;generalize B.map (jD true)=B1,B.map (jD false)=B2,E.map Ev.enc=E1 at *;have a:=j [some (.str T),some (drD true [] []),some (.lst false LL),none,none,none] rfl;refine⟨?_,?_⟩
    ·simp[yS,fnR,kI,qB,xN,jeU,xIf,vk,ji6,mk,g,u,o,a,w,l,kT,fzi,zJ,G,H,b,I]
    ·simp[vQ,jx,J2,F,mk,g,u,o,a,l,kT,fzi,zJ,G,H,b,N]
noncomputable abbrev rb(p:Bool×Row):D:=.lst p.1 p.2.enc
theorem jhR{N:List (List Nat)}(c:N.length=40)(a:∀ w∈N,NmK w){i:Int}(b:0<=i)(h1:i < 40):∃ w,jF (.lst false (N.map D.str)) (.int i)=some (.str w)/\NmK w :=
 ⟨N.getD i.toNat [],jah b (by omega),a _ (QD.getD_mem (by omega))⟩
theorem jmn{a b c d:D}:jF (.lst false [a,b,c,d]) (.int 0)=some a:=rfl
theorem jmh{a b c d:D}:jF (.lst false [a,b,c,d]) (.int 1)=some b:=rfl
theorem jmm{a b c d:D}:jF (.lst false [a,b,c,d]) (.int 2)=some c:=rfl
theorem jl9{a b c d:D}:jF (.lst false [a,b,c,d]) (.int 3)=some d:=rfl
theorem jld{N:List (List Nat)}(t:N.length=40)(x:∀ w∈N,NmK w){c k last:Int}(k0:0<=k)(k1:k<=1000)(F:0<=last)(G:last<=60) :
  ∃(o:Bool) (r:Row),jQ [.int c,.int k,.lst false (N.map D.str),.int last]=some (.lst o r.enc)/\RowOk r:=by
 have g:=we (c:=c) (k:=k) k0 (by omega);have y:=jau c k;generalize YH c k=m at g y;have at_:=λ(i:Int) (z:0<=i) (A:i < 40)=>jhR t x z A;have p3:jfv (.int 10) (.int 12)=some (.int 1000000000000):=rfl;by_cases h:m % 32 < 9
 ·obtain⟨u,j,p⟩:=at_ (m / 32 % 6) (by omega) (by omega);obtain⟨v,ev,B⟩:=at_ (m / 192 % 7) (by omega) (by omega);refine⟨true,.ok (.debt u v),?_,.ok (.debt p B)⟩;show _=some (D.lst true [.str vK,.str u,.str v]);generalize N.map D.str=L at *;simp(disch:=omega) [jQ,jx,yL,g,vf,vO,h,j,ev,jg]
 by_cases a:m % 32 < 22
 ·obtain⟨v,ev,C,E⟩:=je4 (c:=c) (w:=m / 4096 % 1009) (most:=1000000000000) (by omega) (by omega) (by decide) (by decide);obtain⟨d,s,H,I⟩:∃ d:Int,(if m / 128 % 16=0 then(if last - m / 2048 % 2 > 1 then last - m / 2048 % 2 else 1) else last+1+m / 32 % 4)=d/\1<=d/\d<=100:=⟨_,rfl,by repeat' split<;>omega,by repeat' split<;>omega⟩;refine⟨true,.ok (.on (if d < 60 then d else 60) v),?_,.ok (.on (by split<;>omega) ⟨C,E⟩)⟩;show _=some (D.lst true [.str kOn,.int (if d < 60 then d else 60),.int v]);generalize N.map D.str=L at *;by_cases q:m / 128 % 16=0
  ·rw[if_pos q] at s;subst s;simp(disch:=omega) [jQ,jx,yL,g,vf,vO,h,a,q,p3,ev,jg]
  ·rw[if_neg q] at s;subst s;simp(disch:=omega) [jQ,jx,yL,g,vf,vO,h,a,q,p3,ev,jg]
 by_cases b:m % 32 < 25
 ·obtain⟨u,j,p⟩:=at_ (m / 32 % 7) (by omega) (by omega);refine⟨true,.ok (.ev (.late u (1+m / 224 % 60) (1+m / 13440 % 30))),?_,.ok (.ev p (by show 1<=1+m / 224 % 60/\1+m / 224 % 60<=60;omega) λ_ _ _ e=>by cases e;omega)⟩;show _=some (D.lst true [.str [108,97,116,101],.str u,.int (1+m / 224 % 60),.int (1+m / 13440 % 30)]);generalize N.map D.str=L at *;simp(disch:=omega) [jQ,jx,yL,g,vf,vO,h,a,b,j,jg]
 by_cases f:m % 32 < 29
 ·obtain⟨u,j,p⟩:=at_ (m / 64 % 7) (by omega) (by omega);rcases(by omega:m / 32 % 2=0 \/ m / 32 % 2=1) with l | l
  ·have ix:jF (.lst true [.str [101,97,114,108,121],.str [113,117,105,116]]) (.int 0)=some (.str [101,97,114,108,121]):=rfl;refine⟨true,.ok (.ev (.early u (1+m / 448 % 60))),?_,.ok (.ev p (by show 1<=1+m / 448 % 60/\1+m / 448 % 60<=60;omega) λ_ _ _ e=>by cases e)⟩;show _=some (D.lst true [.str [101,97,114,108,121],.str u,.int (1+m / 448 % 60)]);generalize N.map D.str=L at *;simp(disch:=omega) [jQ,jx,yL,g,vf,vO,h,a,b,f,l,ix,j,jg]
  ·have ix:jF (.lst true [.str [101,97,114,108,121],.str [113,117,105,116]]) (.int 1)=some (.str [113,117,105,116]):=rfl;refine⟨true,.ok (.ev (.quit u (1+m / 448 % 60))),?_,.ok (.ev p (by show 1<=1+m / 448 % 60/\1+m / 448 % 60<=60;omega) λ_ _ _ e=>by cases e)⟩;show _=some (D.lst true [.str [113,117,105,116],.str u,.int (1+m / 448 % 60)]);generalize N.map D.str=L at *;simp(disch:=omega) [jQ,jx,yL,g,vf,vO,h,a,b,f,l,ix,j,jg]
 by_cases n:m % 32 < 31
 ·refine⟨true,.no,?_,.no⟩;show _=some (D.lst true []);generalize N.map D.str=L at *;simp(disch:=omega) [jQ,jx,yL,g,vf,vO,h,a,b,f,n,jg]
 ·obtain⟨u,j,p⟩:=at_ 0 (by omega) (by omega);rcases(by omega:m / 32 % 4=0 \/ m / 32 % 4=1 \/ m / 32 % 4=2 \/ m / 32 % 4=3) with l | l | l | l
  ·refine⟨false,.bad .on,?_,.bad (.inl rfl)⟩;show _=some (D.lst false [.str kOn,.int 0,.int 1]);generalize N.map D.str=L at *;simp(disch:=omega) [jQ,jx,yL,g,vf,vO,h,a,b,f,n,l,j,jg,jmn,jmh,jmm,jl9]
  ·refine⟨false,.bad (.debt u),?_,.bad (.inr p)⟩;show _=some (D.lst false [.str vK,.str u]);generalize N.map D.str=L at *;simp(disch:=omega) [jQ,jx,yL,g,vf,vO,h,a,b,f,n,l,j,jg,jmn,jmh,jmm,jl9]
  ·refine⟨false,.bad (.late u),?_,.bad (.inr p)⟩;show _=some (D.lst false [.str [108,97,116,101],.str u,.int 1,.int 31]);generalize N.map D.str=L at *;simp(disch:=omega) [jQ,jx,yL,g,vf,vO,h,a,b,f,n,l,j,jg,jmn,jmh,jmm,jl9]
  ·refine⟨false,.bad (.quit u),?_,.bad (.inr p)⟩;show _=some (D.lst false [.str [113,117,105,116],.str u,.int 61]);generalize N.map D.str=L at *;simp(disch:=omega) [jQ,jx,yL,g,vf,vO,h,a,b,f,n,l,j,jg,jmn,jmh,jmm,jl9]
def xP(r:Row):Prop:=RowOk r/\r≠.no
theorem ron{r:Rw}(h:RwOk r):xP (.ok r):=⟨.ok h,λz=>by cases z⟩
theorem on5{d:Int}(a:1<=d)(h1:d<=60):xP (.ok (.on d 5)):=ron (.on ⟨a,h1⟩ ⟨by decide,by decide⟩)
noncomputable def dbl(N:List (List Nat)):Nat->List (Bool×Row)
 | 0=>[]
 | n+1=>dbl N n++[(true,.ok (.debt (N.getD (n+7) []) (N.getD 0 []))),(true,.ok (.on (1+(n:Int)) 5))]
theorem u1(N:List (List Nat)):∀ n,(dbl N n).length=2*n
 | 0=>rfl
 | n+1=>by rw[dbl,N5,u1];simp;omega
theorem ua{N:List (List Nat)}(d:N.length=40){a0:Option D}:∀{n k:Nat}{o3:Option D},k+n<=31 ->
  ∃ r3,kE (jS [] 3) kL ((List.range' k n).map λ(i:Nat)=>D.int (0+(i:Int))) [a0,some (.lst false (N.map D.str)),some (.lst true ((dbl N k).map rb)),o3]=some (.nx [a0,some (.lst false (N.map D.str)),some (.lst true ((dbl N (k+n)).map rb)),r3])
 | 0,k,o3,_=>⟨o3,rfl⟩
 | n+1,k,o3,h=>by
  obtain⟨r3,e⟩:=ua d (a0:=a0) (n:=n) (k:=k+1) (o3:=some (.int (0+(k:Int)))) (by omega);refine⟨r3,?_⟩;have f:(jS [] 3) (.int (0+(k:Int))) [a0,some (.lst false (N.map D.str)),some (.lst true ((dbl N k).map rb)),o3]=some [a0,some (.lst false (N.map D.str)),some (.lst true ((dbl N k).map rb)),some (.int (0+(k:Int)))]:=rfl;have c:=jah (o:=false) (l:=N) (i:=0+(k:Int)+7) (by omega) (by omega);rw[show(0+(k:Int)+7).toNat=k+7 by omega] at c;have a:=jah (o:=false) (l:=N) (i:=0) (by omega) (by omega);have a:jF (.lst false (N.map D.str)) (.int 0)=some (.str (N.getD 0 [])):=a;have hd:(dbl N (k+1)).map rb=(dbl N k).map rb++[.lst true [.str vK,.str (N.getD (k+7) []),.str (N.getD 0 [])],.lst true [.str kOn,.int (1+(k:Int)),.int 5]]:=by rw[dbl,N6];rfl
  have b:lim (((dbl N k).map rb).length+2)=true:=jg (by rw[L0,u1];omega);have g:kL [a0,some (.lst false (N.map D.str)),some (.lst true ((dbl N k).map rb)),some (.int (0+(k:Int)))]=some (.nx [a0,some (.lst false (N.map D.str)),some (.lst true ((dbl N (k+1)).map rb)),some (.int (0+(k:Int)))]):=by
   rw[hd];generalize N.getD (k+7) []=u,N.getD 0 []=v,N.map D.str=L at *;generalize(dbl N k).map rb=R at *;rw[Int.zero_add] at *;simp[kL,c,a,jg,b]
  rw[List.range'_succ,L5,kl,f,L4,g,L4,Qm,e];rw[show k+1+n=k+(n+1) by omega]
theorem jgS{N:List (List Nat)}(c:N.length=40)(b:∀ w∈N,NmK w):∀{n:Nat},n<=31->∀ p∈dbl N n,xP p.2
 | 0,_,p,a=>by cases a
 | n+1,h,p,a=>by
  rw[dbl] at a;rcases N3.mp a with a | a
  ·exact jgS c b (n:=n) (by omega) p a
  ·simp only[M5,List.not_mem_nil,or_false] at a;rcases a with rfl | rfl
   ·exact ron (.debt (b _ (QD.getD_mem (by omega))) (b _ (QD.getD_mem (by omega))))
   ·exact on5 (by omega) (by omega)
theorem jgW{rs:List (Bool×Row)}(h:∀ p∈rs,p.1=false):frzs (rs.map rb)=true:=ke λd hd=>by
 obtain⟨p,a,rfl⟩:=M6.mp hd;show frz (.lst p.1 p.2.enc)=true;rw[h p a];simp[V3 p.2]
theorem jgr{a b:List (Bool×Row)}{o o':Bool}(c:∀ p∈a,p.1=false)(d:∀ p∈b,p.1=false)(e:a.length+b.length<=1000):yN (.lst o (a.map rb)) (.lst o' (b.map rb))=some (.lst true ((a++b).map rb)):=by
 show(bif lim ((a.map rb).length+(b.map rb).length)&&(frzs (a.map rb)&&frzs (b.map rb)) then some (D.lst true (a.map rb++b.map rb)) else none)=_;rw[jgW c,jgW d,jg (by rw[L0,L0];omega),N6];rfl
theorem jlJ(rs:List (Bool×Row)):fzs (rs.map rb)=(rs.map λp=>(false,p.2)).map rb:=by
 rw[qV,U2,U2];refine List.map_congr_left λp _=>?_;show fz (.lst p.1 p.2.enc)=.lst false p.2.enc;rw[fz,jB _ (V3 p.2)]
theorem jhz{N:List (List Nat)}(B:N.length=40)(E:∀ w∈N,NmK w){m:Int}(Y:0<=m) :
  ∃ rs:List (Bool×Row),ko [.int m,.lst false (N.map D.str)]=some (.lst true (rs.map rb))/\(∀ p∈rs,xP p.2)/\rs.length<=70:=by
 obtain⟨u,F,G⟩:=jhR B E (i:=7) (by decide) (by decide);obtain⟨v,ev,M⟩:=jhR B E (i:=0) (by decide) (by decide);have r:∀ n:Nat,n<=100->lim (Kw 0 n).length=true:=λn h=>jg (by rw[VD];omega);by_cases O:m % 3=0
 ·obtain⟨n,z,t⟩:∃ n:Nat,30+m / 3 % 2=(n:Int)/\n<=31:=⟨(30+m / 3 % 2).toNat,by omega,by omega⟩;have s:=Jx (j:=(n:Int)) (by omega) (by omega);rw[N9] at s;obtain⟨P,e⟩:=ua B (a0:=some (.int m)) (n:=n) (k:=0) (o3:=none) (by omega);have S:Kw 0 n=(List.range' 0 n).map λ(i:Nat)=>D.int (0+(i:Int)):=by unfold Kw;rw[List.range_eq_range']
  rw[<- S,Nat.zero_add] at e;refine⟨dbl N n,?_,jgS B E t,by rw[u1];omega⟩;have e:kE (jS [] 3) kL (Kw 0 n) [some (.int m),some (.lst false (N.map D.str)),some (.lst true []),none]=some (.nx [some (.int m),some (.lst false (N.map D.str)),some (.lst true ((dbl N n).map rb)),P]):=e;generalize(dbl N n).map rb=R at *;generalize N.map D.str=L at *;simp(disch:=omega) [ko,jx,qZ,vf,vO,O,z,s,e,jg]
 have key:∀{Q:List (Bool×Row)},(∀ p∈Q,xP p.2)->∃ g:List (Bool×Row),fzs (Q.map rb)=g.map rb/\(∀ p∈g,p.1=false)/\(∀ p∈g,xP p.2)/\g.length=Q.length:=λ{Q} A =>
  ⟨Q.map λp=>(false,p.2),jlJ Q,λp f=>(by obtain⟨q,_,rfl⟩:=M6.mp f;rfl),λp f=>(by obtain⟨q,T,rfl⟩:=M6.mp f;exact A q T),by simp⟩
 by_cases U:m % 3=1
 ·obtain⟨n,z,t⟩:∃ n:Nat,12+m / 3 % 2=(n:Int)/\n<=13:=⟨(12+m / 3 % 2).toNat,by omega,by omega⟩;have s:=Jx (j:=(n:Int)) (by omega) (by omega);rw[N9] at s;obtain⟨Q,H,A,V⟩:∃ Q:List (Bool×Row),kG (jS [] 0) qT (va (jb (pC (.str [111,110])) (jb (p2 yN (pC (.int 1)) (pV 0)) (jb (pC (.int 5)) pN)))) (Kw 0 n) [none]=some (Q.map rb)/\(∀ p∈Q,xP p.2)/\Q.length=n:=by
   refine⟨(List.range n).map λ(i:Nat)=>(true,Row.ok (.on (1+(0+(i:Int))) 5)),?_,λp f=>?_,by simp⟩
   ·rw[U2];refine qm (l:=List.range n) (en:=λ(i:Nat)=>D.int (0+(i:Int))) rfl (λρ=>∃ o,ρ=[o]) ?_ ⟨none,rfl⟩;rintro i C ρ ⟨o,rfl⟩;refine⟨[some (.int (0+(i:Int)))],rfl,?_,_,rfl⟩;show _=some (D.lst true [.str kOn,.int (1+(0+(i:Int))),.int 5]);simp[jg,-Int.zero_add]
   ·obtain⟨i,C,rfl⟩:=M6.mp f;have:=List.mem_range.mp C;exact on5 (by omega) (by omega)
  obtain⟨g,I,J,K,W⟩:=key A;have x:=jgr (a:=[(false,.ok (.debt u v))]) (b:=g) (o:=false) (o':=false) (λp f=>by rw[M8.mp f]) J (by simp;omega);refine⟨[(false,.ok (.debt u v))]++g,?_,λp f=>?_,by simp;omega⟩
  ·have x:yN (.lst false [.lst false [.str vK,.str u,.str v]]) (.lst false (g.map rb))=_:=x;have r:=r n (by omega);generalize([(false,Row.ok (.debt u v))]++g).map rb=R3 at *;generalize g.map rb=R2,Q.map rb=R1,N.map D.str=L at *;have y:∀ ρ,vN [none] ρ=[none]:=λ_=>rfl;simp(disch:=omega) [ko,jx,qZ,vf,vO,U,z,s,F,ev,r,y,H,I,x,jg]
  ·rcases N3.mp f with f | f
   ·rw[M8.mp f];exact ron (.debt G M)
   ·exact K p f
 ·have X:m % 3=2:=by omega
  obtain⟨n,z,t⟩:∃ n:Nat,60+m / 3 % 2=(n:Int)/\n<=61:=⟨(60+m / 3 % 2).toNat,by omega,by omega⟩;have s:=Jx (j:=(n:Int)) (by omega) (by omega);rw[N9] at s;obtain⟨Q,H,A,V⟩:∃ Q:List (Bool×Row),kG (jS [] 0) qT (va (jb (pC (.str [113,117,105,116])) (jb (pF (p2 jF (pV 1) (pC (.int 7)))) (jb (p2 yN (pC (.int 1)) (p2 yG (pV 0) (pC (.int 60)))) pN)))) (Kw 0 n) [none,some (.lst false (N.map D.str))]=some (Q.map rb)/\(∀ p∈Q,xP p.2)/\Q.length=n:=by
   refine⟨(List.range n).map λ(i:Nat)=>(true,Row.ok (.ev (.quit u (1+(0+(i:Int)) % 60)))),?_,λp f=>?_,by simp⟩
   ·rw[U2];refine qm (l:=List.range n) (en:=λ(i:Nat)=>D.int (0+(i:Int))) rfl (λρ=>∃ o,ρ=[o,some (.lst false (N.map D.str))]) ?_ ⟨none,rfl⟩;rintro i C ρ ⟨o,rfl⟩;refine⟨[some (.int (0+(i:Int))),some (.lst false (N.map D.str))],rfl,?_,_,rfl⟩;show _=some (D.lst true [.str [113,117,105,116],.str u,.int (1+(0+(i:Int)) % 60)]);generalize N.map D.str=L at *;generalize(0+(i:Int))=ii;simp(disch:=omega) [jg,F,vf]
   ·obtain⟨i,C,rfl⟩:=M6.mp f;exact ron (.ev G (by show 1<=1+(0+(i:Int)) % 60/\1+(0+(i:Int)) % 60<=60;omega) λ_ _ _ e=>by cases e)
  obtain⟨g,I,J,K,W⟩:=key A;have x:=jgr (a:=[(false,.ok (.debt u v)),(false,.ok (.on 1 5))]) (b:=g) (o:=false) (o':=false) (λp f=>by simp only[M5,List.not_mem_nil,or_false] at f;rcases f with rfl | rfl<;>rfl) J (by simp;omega);refine⟨[(false,.ok (.debt u v)),(false,.ok (.on 1 5))]++g,?_,λp f=>?_,by simp;omega⟩
  ·have x:yN (.lst false [.lst false [.str vK,.str u,.str v],.lst false [.str kOn,.int 1,.int 5]]) (.lst false (g.map rb))=_:=x;have r:=r n (by omega);generalize([(false,Row.ok (.debt u v)),(false,Row.ok (.on 1 5))]++g).map rb=R3 at *;generalize g.map rb=R2,Q.map rb=R1,N.map D.str=L at *;have y:∀ a b c d,vN [none,some 1] [a,b,c,d]=[none,b]:=λ_ _ _ _=>rfl;simp(disch:=omega) [ko,jx,qZ,vf,vO,X,z,s,F,ev,r,y,H,I,x,jg]
  ·rcases N3.mp f with f | f
   ·simp only[M5,List.not_mem_nil,or_false] at f;rcases f with rfl | rfl
    ·exact ron (.debt G M)
    ·exact on5 (by decide) (by decide)
   ·exact K p f
theorem jdN(ns:List Int){k:Int}(b:0<=k):∃ c,v5 [.lst false (ns.map D.int),.int k]=some (.int c):=by
 by_cases h:k < ns.length
 ·have a:k.toNat < ns.length:=by omega
  have d:jF (.lst false (ns.map D.int)) (.int k)=some (.int ns[k.toNat]):=by
   rw[qA b (by rw[L0];exact h),List.getElem?_map,X6 a];rfl
  exact⟨ns[k.toNat],by simp[v5,jx,Yz,h,d]⟩
 ·exact⟨0,by simp[v5,jx,Yz,h]⟩
theorem joa{l:List D}(h:vP 19 l=true)(a:∀ d∈l,(∃ w,d=.str w) \/ ∃ n,d=.int n):vP 18 l=true:=by
 rw[xX] at *;refine List.all_eq_true.mpr λd hd=>?_;have:=List.all_eq_true.mp h d hd;rcases a d hd with⟨w,rfl⟩ | ⟨n,rfl⟩
 ·exact this
 ·rfl
theorem jev(r:Row):∀ d∈r.enc,(∃ w,d=.str w) \/ ∃ n,d=.int n:=by
 rcases r with _ | (⟨_,_⟩ | ⟨_,_⟩ | (_ | _ | _)) | (_ | _ | _ | _)<;>simp[Row.enc,Rw.enc,Rw.xs,Bw.xs,Item.enc]
theorem jnV{rs:List (Bool×Row)}(h:∀ p∈rs,RowOk p.2):vP 19 (rs.map rb)=true:=Ku λd hd=>by
 obtain⟨p,a,rfl⟩:=M6.mp hd;exact joa (okR (h p a)) (jev p.2)
noncomputable def jbC(l:Int):Row->Int
 | .ok (.on d _)=>d
 | .ok (.debt _ _)=>0
 | .bad .on=>0
 | .bad (.debt _)=>0
 | _=>l
theorem jc0{l:Int}(a:0<=l)(h1:l<=60){r:Row}(c:RowOk r):0<=jbC l r/\jbC l r<=60:=by
 cases c with
 | no=>exact⟨a,h1⟩
 | ok h =>
  cases h with
  | debt _ _=>exact(by show(0:Int)<=0/\(0:Int)<=60;decide)
  | on h k=>exact⟨Int.le_trans (by decide) h.1,h.2⟩
  | ev _ _ _=>exact⟨a,h1⟩
 | @bad b h =>
  cases b with
  | on=>exact(by show(0:Int)<=0/\(0:Int)<=60;decide)
  | debt n=>exact(by show(0:Int)<=0/\(0:Int)<=60;decide)
  | late n=>exact⟨a,h1⟩
  | quit n=>exact⟨a,h1⟩
theorem jcV{N:List (List Nat)}(t:N.length=40)(u:∀ w∈N,NmK w){c:Int}{k:Nat}(B:k<=1000){last:Int}(v:0<=last)(x:last<=60){rs:List (Bool×Row)}(y:rs.length<=1000){a0 a3 o7:Option D} :
  ∃(r:Row) (r7:Option D),RowOk r/\j6 [a0,some (.lst false (N.map D.str)),some (.lst true (rs.map rb)),a3,some (.int last),some (.int (k:Int)),some (.int c),o7]=some (.nx [a0,some (.lst false (N.map D.str)),some (.lst true ((rs++[(false,r)]).map rb)),a3,some (.int (jbC last r)),some (.int (k:Int)),some (.int c),r7]):=by
 obtain⟨o,r,f,m⟩:=jld t u (c:=c) (k:=(k:Int)) (last:=last) (by omega) (by omega) v x;refine⟨r,some (.lst false r.enc),m,?_⟩;have h:=Vw N;have i:=vE N;have j:=V3 r;have s:=jB _ j;obtain⟨_,a⟩:=eqn (o:=false) (okR m);have g:lim (rs.map rb).length=true:=jg (by rw[L0];omega);rw[N6,List.map_singleton];show _=some (Out.nx [_,_,some (D.lst true (rs.map rb++[.lst false r.enc])),_,_,_,_,_]);generalize rs.map rb=R at *;cases m with
 | no =>
  have a:vX (.lst false []) (.lst true [])=some (.bl false):=rfl;have f:jQ [.int c,.int (k:Int),.lst false (N.map D.str),.int last]=some (.lst o []):=f;show _=some (Out.nx [_,_,some (D.lst true (R++[.lst false []])),_,some (.int last),_,_,some (.lst false [])]);generalize N.map D.str=L at *;simp[j6,h,i,f,g,a,jg]
 | @ok q C =>
  have a:vX (.lst false q.enc) (.lst true [])=some (.bl true):=a;cases q with
  | debt n p =>
   have f:jQ [.int c,.int (k:Int),.lst false (N.map D.str),.int last]=some (.lst o [.str vK,.str n,.str p]):=f;have a:vX (.lst false [.str vK,.str n,.str p]) (.lst true [])=some (.bl true):=a;show _=some (Out.nx [_,_,some (D.lst true (R++[.lst false [.str vK,.str n,.str p]])),_,some (.int 0),_,_,some (.lst false [.str vK,.str n,.str p])]);generalize N.map D.str=L at *;simp[j6,h,i,f,g,a,jg,qA]
  | on d l =>
   have f:jQ [.int c,.int (k:Int),.lst false (N.map D.str),.int last]=some (.lst o [.str kOn,.int d,.int l]):=f;have a:vX (.lst false [.str kOn,.int d,.int l]) (.lst true [])=some (.bl true):=a;show _=some (Out.nx [_,_,some (D.lst true (R++[.lst false [.str kOn,.int d,.int l]])),_,some (.int d),_,_,some (.lst false [.str kOn,.int d,.int l])]);generalize N.map D.str=L at *;simp[j6,h,i,f,g,a,jg,qA]
  | ev e =>
   obtain⟨z,A⟩:=jcF e;have x0:jF (.lst false (Rw.ev e).enc) (.int 0)=some (.str (Rw.ev e).kw):=by cases e<;>rfl
   have f:jQ [.int c,.int (k:Int),.lst false (N.map D.str),.int last]=some (.lst o (Rw.ev e).enc):=f;have s:fzs (Rw.ev e).enc=(Rw.ev e).enc:=s;have j:frzs (Rw.ev e).enc=true:=j;show _=some (Out.nx [_,_,some (D.lst true (R++[.lst false (Rw.ev e).enc])),_,some (.int last),_,_,some (.lst false (Rw.ev e).enc)]);generalize(Rw.ev e).enc=RR at *;generalize(Rw.ev e).kw=kw at *;generalize N.map D.str=L at *;simp[j6,h,i,f,g,a,jg,s,j,x0,z,A]
 | @bad b E =>
  have a:vX (.lst false (Row.bad b).enc) (.lst true [])=some (.bl true):=a;cases b with
  | on =>
   have f:jQ [.int c,.int (k:Int),.lst false (N.map D.str),.int last]=some (.lst o [.str kOn,.int 0,.int 1]):=f;have a:vX (.lst false [.str kOn,.int 0,.int 1]) (.lst true [])=some (.bl true):=a;show _=some (Out.nx [_,_,some (D.lst true (R++[.lst false [.str kOn,.int 0,.int 1]])),_,some (.int 0),_,_,some (.lst false [.str kOn,.int 0,.int 1])]);generalize N.map D.str=L at *;simp[j6,h,i,f,g,a,jg,qA]
  | debt n =>
   have f:jQ [.int c,.int (k:Int),.lst false (N.map D.str),.int last]=some (.lst o [.str vK,.str n]):=f;have a:vX (.lst false [.str vK,.str n]) (.lst true [])=some (.bl true):=a;show _=some (Out.nx [_,_,some (D.lst true (R++[.lst false [.str vK,.str n]])),_,some (.int 0),_,_,some (.lst false [.str vK,.str n])]);generalize N.map D.str=L at *;simp[j6,h,i,f,g,a,jg,qA]
  | late n =>
   have f:jQ [.int c,.int (k:Int),.lst false (N.map D.str),.int last]=some (.lst o [.str [108,97,116,101],.str n,.int 1,.int 31]):=f;have a:vX (.lst false [.str [108,97,116,101],.str n,.int 1,.int 31]) (.lst true [])=some (.bl true):=a;show _=some (Out.nx [_,_,some (D.lst true (R++[.lst false [.str [108,97,116,101],.str n,.int 1,.int 31]])),_,some (.int last),_,_,some (.lst false [.str [108,97,116,101],.str n,.int 1,.int 31])]);generalize N.map D.str=L at *;simp[j6,h,i,f,g,a,jg,qA]
  | quit n =>
   have f:jQ [.int c,.int (k:Int),.lst false (N.map D.str),.int last]=some (.lst o [.str [113,117,105,116],.str n,.int 61]):=f;have a:vX (.lst false [.str [113,117,105,116],.str n,.int 61]) (.lst true [])=some (.bl true):=a;show _=some (Out.nx [_,_,some (D.lst true (R++[.lst false [.str [113,117,105,116],.str n,.int 61]])),_,some (.int last),_,_,some (.lst false [.str [113,117,105,116],.str n,.int 61])]);generalize N.map D.str=L at *;simp[j6,h,i,f,g,a,jg,qA]
noncomputable abbrev gW:D->Rh->Option Rh:=gT 2 (gC (jS [] 5) (gC (jS [] 6) gN))
theorem wT{N:List (List Nat)}(d:N.length=40)(e:∀ w∈N,NmK w){a0 a3:Option D}:∀{cs:List Int}{k:Nat}{last:Int}{rs:List (Bool×Row)}{o5 o6 o7:Option D},k+cs.length<=1000->0<=last->last<=60->rs.length+cs.length<=1000->(∀ p∈rs,RowOk p.2) ->
  ∃(rs':List (Bool×Row)) (last':Int) (r5 r6 r7:Option D),(∀ p∈rs',RowOk p.2)/\rs'.length=rs.length+cs.length/\kE gW j6 (qo k (cs.map D.int)) [a0,some (.lst false (N.map D.str)),some (.lst true (rs.map rb)),a3,some (.int last),o5,o6,o7]=some (.nx [a0,some (.lst false (N.map D.str)),some (.lst true (rs'.map rb)),a3,some (.int last'),r5,r6,r7])
 | [],k,last,rs,o5,o6,o7,_,_,_,_,h=>⟨rs,last,o5,o6,o7,h,rfl,rfl⟩
 | c::cs,k,last,rs,o5,o6,o7,j,f,g,a,h=>by
  rw[M3] at j a;obtain⟨r,r7,i,l⟩:=jcV d e (c:=c) (k:=k) (by omega) f g (rs:=rs) (by omega) (a0:=a0) (a3:=a3) (o7:=o7);obtain⟨m,n⟩:=jc0 f g i;obtain⟨rs',last',o,q,s,t,u,v⟩:=wT d e (a0:=a0) (a3:=a3) (cs:=cs) (k:=k+1) (last:=jbC last r) (rs:=rs++[(false,r)]) (o5:=some (.int (k:Int))) (o6:=some (.int c)) (o7:=r7) (by omega) m n (by rw[N5];simp only[M3,List.length_nil];omega) (λp b=>by
   rcases N3.mp b with b | b
   ·exact h p b
   ·rw[M8.mp b];exact i)
  refine⟨rs',last',o,q,s,t,by rw[u,N5,M3];simp only[M3,List.length_nil];omega,?_⟩;have x:gW (.tup [.int (k:Int),.int c]) [a0,some (.lst false (N.map D.str)),some (.lst true (rs.map rb)),a3,some (.int last),o5,o6,o7]=some [a0,some (.lst false (N.map D.str)),some (.lst true (rs.map rb)),a3,some (.int last),some (.int (k:Int)),some (.int c),o7]:=rfl;rw[L5,qo,kl,x,L4,l,L4,Qm,v]
def alk(n:Nat)(d:D):Prop:=yf n [d,d]=some (.bl true)
theorem Y7(n:Nat)(i:Int):alk (n+1) (.int i):=by
 unfold alk yf;have a:YV (.int i) .non=some (.bl false):=rfl;simp[jx,v9,uC,a]
theorem J6(n:Nat)(i:List Nat):alk (n+1) (.str i):=by
 unfold alk yf;have a:YV (.str i) .non=some (.bl false):=rfl;simp[jx,v9,uC,a]
theorem jbz{n:Nat}{d:D}{l:List D}(o:∀(i:Nat) (x:D),l[i]?=some x->jF d (.int (0+(i:Int)))=some x)(j:frzs l=true)(h:∀ x∈l,alk n x):∃ o2,kE (jS [] 2) (kX (yf n)) (Kw 0 l.length) [some d,some d,none]=some (.nx [some d,some d,o2]):=by
 obtain⟨q,e,o2,rfl⟩:=uL (G:=jS [] 2) (f:=kX (yf n)) (xs:=Kw 0 l.length) (λi ρ=>∃ o2,ρ=[some d,some d,o2]) (by
  rintro i x ρ a ⟨o2,rfl⟩;obtain⟨rfl,k⟩:=ja0 a;have p:l[i]?=some l[i]:=X6 k;have b:=o i _ p;have m:=List.getElem_mem k;have c:fz l[i]=l[i]:=jel _ (by rw[K4] at j;exact List.all_eq_true.mp j _ m);have g:yf n [l[i],l[i]]=some (.bl true):=h _ m;refine⟨_,_,rfl,.inl ?_,some (.int (0+(i:Int))),rfl⟩;simp[kX,b,c,g,-Int.zero_add]) (ρ:=[some d,some d,none]) ⟨none,rfl⟩
 exact⟨o2,e⟩
theorem jaA{n:Nat}{o:Bool}{l:List D}(c:frzs l=true)(g:l.length<=1000)(h:∀ x∈l,alk n x):alk (n+1) (.lst o l):=by
 unfold alk yf;obtain ⟨k, e⟩ := jbz (d := .lst o l) (λi x b => by rw [qA (by omega) (by have := (L9.mp b).1; omega)]; rw[show (0+(i:Int)).toNat=i from by omega];exact b) c h
 have f:YV (.lst o l) .non=some (.bl false):=rfl;have a:wy [.int (l.length:Int)]=some (Kw 0 l.length):=by
  have:=Jx (j:=(l.length:Int)) (by omega) (by omega);simpa using this
 simp[jx,v9,uC,f,a,e]
theorem V5{n:Nat}{l:List D}(c:frzs l=true)(g:l.length<=1000)(h:∀ x∈l,alk n x):alk (n+1) (.tup l):=by
 unfold alk yf;obtain ⟨k, e⟩ := jbz (d := .tup l) (λi x b => by rw [jn6 (by omega) (by have := (L9.mp b).1; omega)]; rw[show (0+(i:Int)).toNat=i from by omega];exact b) c h
 have f:YV (.tup l) .non=some (.bl false):=rfl;have a:wy [.int (l.length:Int)]=some (Kw 0 l.length):=by
  have:=Jx (j:=(l.length:Int)) (by omega) (by omega);simpa using this
 simp[jx,v9,uC,f,a,e]
theorem jdh(B:List Db)(E:List Ev)(h:∀ x∈B,x.t.length<=12)(i:B.length<=100)(j:E.length<=100):yV [.tup [.lst false (B.map (jD false)),.lst false (E.map Ev.enc)],.tup [.lst false (B.map (jD false)),.lst false (E.map Ev.enc)]]=some (.bl true):=by
 have c:=vm B;have f:=Jn E;show alk 8 _;refine V5 (n:=7) (by simp[c,f]) (by simp) λx a=>?_;rcases M5.mp a with rfl | a
 ·refine jaA (n:=6) c (by rw[L0];omega) λd hd=>?_;obtain⟨x,a,rfl⟩:=M6.mp hd;have g:=qL x.t;refine V5 (n:=5) (by simp[g]) (by simp) λd hd=>?_;rcases M5.mp hd with rfl | hd
  ·exact J6 4 _
  ·rcases M5.mp hd with rfl | hd
   ·exact J6 4 _
   ·rw[M8.mp hd];refine jaA (n:=4) g (by rw[L0];have:=h x a;omega) λd hd=>?_;obtain⟨q,_,rfl⟩:=M6.mp hd;refine V5 (n:=3) rfl (by simp) λd hd=>?_;rcases M5.mp hd with rfl | hd
    ·exact Y7 2 _
    ·rw[M8.mp hd];exact Y7 2 _
 ·rw[M8.mp a];refine jaA (n:=6) f (by rw[L0];omega) λd hd=>?_;obtain⟨e,_,rfl⟩:=M6.mp hd;cases e with
  | late n d b =>
   refine V5 (n:=5) rfl (by simp) λd hd=>?_;rcases M5.mp hd with rfl | hd
   ·exact J6 4 _
   rcases M5.mp hd with rfl | hd
   ·exact J6 4 _
   rcases M5.mp hd with rfl | hd
   ·exact Y7 4 _
   rw[M8.mp hd];exact Y7 4 _
  | early n d =>
   refine V5 (n:=5) rfl (by simp) λd hd=>?_;rcases M5.mp hd with rfl | hd
   ·exact J6 4 _
   rcases M5.mp hd with rfl | hd
   ·exact J6 4 _
   rw[M8.mp hd];exact Y7 4 _
  | quit n d =>
   refine V5 (n:=5) rfl (by simp) λd hd=>?_;rcases M5.mp hd with rfl | hd
   ·exact J6 4 _
   rcases M5.mp hd with rfl | hd
   ·exact J6 4 _
   rw[M8.mp hd];exact Y7 4 _
noncomputable def Row.its:Row->List Item
 | .no=>[]
 | .ok r=>.nm r.kw::r.xs
 | .bad b=>.nm b.kw::b.xs
theorem jdV(r:Row):r.enc=r.its.map Item.enc:=by cases r<;>rfl
theorem jdD(r:Row):r.wds=r.its.map Item.wd:=by cases r<;>rfl
theorem jhp{r:Row}(h:RowOk r):∀ x∈r.its,je6 [x.enc]=some (.str x.wd):=by
 cases h with
 | no=>intro x a;cases a
 | @ok r h =>
  intro x a;rcases M5.mp a with rfl | a
  ·rfl
  ·obtain⟨k,c⟩:=h.fm.mem a;exact c.str
 | @bad b h =>
  intro x a;rcases M5.mp a with rfl | a
  ·rfl
  ·cases x with
   | nm w=>rfl
   | nu n =>
    have:n=0 \/ n=1 \/ n=31 \/ n=61:=by
     cases b<;>simp only[Bw.xs,M5,List.not_mem_nil,or_false,reduceCtorEq,Item.nu.injEq,false_or] at a<;>omega
    rcases this with rfl | rfl | rfl | rfl<;>exact jk5 (by decide) (by decide)
theorem jdO{c:Nat}{ws:List (List Nat)}{m:Nat}(h:∀ w∈ws,w.length<=m)(a:m*ws.length+ws.length<=1000000)(o:Bool):xV (.str [c]) [.lst o (ws.map D.str)]=some (.str (yk [c] ws)):=by
 have b:=jdt h;rw[xR,jbN,L4];have:J5 [c] ws=true:=X1 (by simp only[M3,List.length_nil];omega);rw[this];rfl
theorem ji9{rs:List Row}(h:∀ r∈rs,RowOk r)(k:rs.length<=1000) :
  kG (jS [] 0) qT (pBM "str" xV (pC (.str [32])) (jb (J1 (jcy (pV 0)) (jS [] 0) qT (pCB je6 (jb (pV 0) pN)) [none]) pN)) (rs.map λr=>D.lst false r.enc) [none]=some ((rs.map kt).map D.str):=by
 rw[U2];refine qm (l:=rs) (en:=λr=>D.lst false r.enc) rfl (λρ=>∃ o,ρ=[o]) ?_ ⟨none,rfl⟩;rintro r a ρ ⟨o,rfl⟩;refine⟨[some (.lst false r.enc)],rfl,?_,_,rfl⟩;have a:=h r a;have e:kG (jS [] 0) qT (pCB je6 (jb (pV 0) pN)) r.enc [none]=some (r.wds.map D.str):=by
  rw[jdV,jdD,U2];refine qm (l:=r.its) (en:=Item.enc) rfl (λρ=>∃ o,ρ=[o]) ?_ ⟨none,rfl⟩;rintro x f ρ ⟨o,rfl⟩;have:=jhp a x f;exact⟨[some x.enc],rfl,by simp[this],_,rfl⟩
 have g:=jdO (c:=32) (ws:=r.wds) (m:=13) (λw i=>(a.wb w i).len) (by have:=r.few;omega) true;have j:=V3 r;have b:lim r.enc.length=true:=jg (by have:=r.few;rw[jdD,L0] at this;rw[jdV,L0];omega);show _=some (D.str (yk [32] r.wds));have d:∀ ρ,vN [none] ρ=[none]:=λ_=>rfl;generalize r.wds.map D.str=W,r.enc=RR at *;simp[j,b,d,e,g,-xR]
noncomputable def if1:FS:=sIf (dPT (jj (p2 vA (p2 yG (pV 3) (pC (.int 3))) (pC (.int 0))))) (y9 (dP (j7 ko (jb (p2 v7 (pV 3) (pC (.int 3))) (jb (pV 1) pN)))) (jS [] 2)) jA
noncomputable def if2:FS:=sIf (dPT (VX (jj (p2 vX (pV 2) (va pN))) (jj (p2 vA (p2 jF (p2 jF (pV 2) (p1 kZ (pC (.int 1)))) (pC (.int 0))) (pC (.str [111,110])))))) (y9 (dP (pF (p2 jF (p2 jF (pV 2) (p1 kZ (pC (.int 1)))) (pC (.int 1))))) (jS [] 4)) jA
theorem ji3:Ki=(jL (y9 (dP (va pN)) (jS [] 2)) (jL (y9 (dP (j7 vM (jb (j7 v5 (jb (pV 0) (jb (pC (.int 0)) pN))) (jb (pC (.int 1)) pN)))) (jS [] 3)) (jL if1 (jL (y9 (dP (pC (.int 0))) (jS [] 4)) (jL if2
 (jL (wn (wA (jb (pSl (pV 0) (oS (pC (.int 2))) (oS (pC (.int 62)))) pN)) gW j6) (yK (dMv 2)))))))):=rfl
theorem jil{N:List (List Nat)}(J:N.length=40)(K:∀ w∈N,NmK w){ns:List Int}(hn:ns.length<=63) :
  ∃ rs:List (Bool×Row),Yk [.lst false (ns.map D.int),.lst false (N.map D.str)]=some (.lst true (rs.map rb))/\(∀ p∈rs,RowOk p.2)/\rs.length<=200:=by
 obtain⟨u,U⟩:=jdN ns (k:=0) (by decide);have O:=we (c:=u) (k:=1) (by decide) (by decide);have V:=jau u 1;generalize YH u 1=m at O V;have W:=Vw N;have X:=vE N;have y:frzs (ns.map D.int)=true:=ke λd hd=>by obtain⟨x,_,rfl⟩:=M6.mp hd;rfl
 have Y:=jB _ y;obtain⟨P,i,lP,Z⟩:∃ P:List (Bool×Row),(∀ p∈P,xP p.2)/\P.length<=70/\if1 [some (.lst false (ns.map D.int)),some (.lst false (N.map D.str)),some (.lst true []),some (.int m),none,none,none,none]=some (.nx [some (.lst false (ns.map D.int)),some (.lst false (N.map D.str)),some (.lst true (P.map rb)),some (.int m),none,none,none,none]):=by
  by_cases g:m % 3=0
  ·obtain⟨P,e,i,lP⟩:=jhz J K (m:=m / 3) (by omega);refine⟨P,i,lP,?_⟩;generalize P.map rb=R,N.map D.str=L,ns.map D.int=I at *;simp(disch:=omega) [if1,vf,vO,g,e,X,W]
  ·refine⟨[],λp j=>(by cases j),by simp,?_⟩;show _=some (Out.nx [_,_,some (D.lst true []),_,_,_,_,_]);generalize N.map D.str=L,ns.map D.int=I at *;simp(disch:=omega) [if1,vf,g]
 obtain⟨a,l0,l1,eL⟩:∃ a:Int,0<=a/\a<=60/\if2 [some (.lst false (ns.map D.int)),some (.lst false (N.map D.str)),some (.lst true (P.map rb)),some (.int m),some (.int 0),none,none,none]=some (.nx [some (.lst false (ns.map D.int)),some (.lst false (N.map D.str)),some (.lst true (P.map rb)),some (.int m),some (.int a),none,none,none]):=by
  obtain⟨_,f⟩:=eqn (o:=true) (jnV λp j=>(i p j).1);rw[isE] at f;rcases y0 P with rfl | ⟨M,p,rfl⟩
  ·have f:vX (.lst true []) (.lst true [])=some (.bl false):=rfl;refine⟨0,by decide,by decide,?_⟩;show if2 [_,_,some (D.lst true []),_,_,_,_,_]=some (Out.nx [_,_,some (D.lst true []),_,_,_,_,_]);generalize N.map D.str=L,ns.map D.int=I at *;simp[if2,f,jg]
  ·have Q:(M++[p]).isEmpty=false:=by simp
   rw[Q] at f;obtain⟨o,r⟩:=p;obtain⟨hr,A⟩:=i (o,r) (by simp);have s:=Vb (l:=M.map rb) (x:=rb (o,r)) true;have ee:(M++[(o,r)]).map rb=M.map rb++[rb (o,r)]:=by rw[N6];rfl
   rw[<- ee] at s;have s:jF (.lst true ((M++[(o,r)]).map rb)) (.int (-1))=some (.lst o r.enc):=s;have key:∀(kw:List Nat) (v:Int),jF (.lst o r.enc) (.int 0)=some (.str kw)->(kw=[111,110]->jF (.lst o r.enc) (.int 1)=some (.int v)/\0<=v/\v<=60)->∃ a:Int,0<=a/\a<=60/\if2 [some (.lst false (ns.map D.int)),some (.lst false (N.map D.str)),some (.lst true ((M++[(o,r)]).map rb)),some (.int m),some (.int 0),none,none,none]=some (.nx [some (.lst false (ns.map D.int)),some (.lst false (N.map D.str)),some (.lst true ((M++[(o,r)]).map rb)),some (.int m),some (.int a),none,none,none]):=by
    intro kw v S B;generalize r.enc=RR at *;generalize(M++[(o,r)]).map rb=R at *;generalize N.map D.str=L,ns.map D.int=I at *;by_cases t:kw=[111,110]
    ·obtain⟨E,g,h4⟩:=B t;refine⟨v,g,h4,?_⟩;subst t;simp[if2,f,jg,jiF,s,S,E]
    ·refine⟨0,by decide,by decide,?_⟩;have t:(kw==[111,110])=false:=U3.mpr t;simp[if2,f,jg,jiF,s,S,t]
   cases hr with
   | no=>exact absurd rfl A
   | @ok q hq =>
    cases hq with
    | debt h k=>exact key vK 0 rfl (λz=>by cases z)
    | @on d c h k=>exact key kOn d rfl (λ_=>⟨rfl,Int.le_trans (by decide) h.1,h.2⟩)
    | @ev e h d b=>exact key (Rw.ev e).kw 0 (by cases e<;>rfl) (λz=>by cases e<;>cases z)
   | @bad b Q =>
    cases b with
    | on=>exact key kOn 0 rfl (λ_=>⟨rfl,by decide,by decide⟩)
    | debt n=>exact key vK 0 rfl (λz=>by cases z)
    | late n=>exact key [108,97,116,101] 0 rfl (λz=>by cases z)
    | quit n=>exact key [113,117,105,116] 0 rfl (λz=>by cases z)
 have hcl:=jgk ns (some 2) (some 62);have F:jep (some 2) (some 62) (.lst false (ns.map D.int))=some (.lst true ((VB ns (some 2) (some 62)).map D.int)):=by rw[jnb y,jbh]
 generalize VB ns (some 2) (some 62)=cs at *;obtain⟨rs,G,r5,r6,r7,B,E,g⟩:=wT J K (a0:=some (.lst false (ns.map D.int))) (a3:=some (.int m)) (cs:=cs) (k:=0) (last:=a) (rs:=P) (o5:=none) (o6:=none) (o7:=none) (by omega) l0 l1 (by omega) λp j=>(i p j).1;refine⟨rs,?_,B,by rw[E];omega⟩;have T:frzs (cs.map D.int)=true:=ke λd hd=>by obtain⟨x,_,rfl⟩:=M6.mp hd;rfl
 have zC:=jB _ T;have H:jbr [.lst true (cs.map D.int)]=some (qo 0 (cs.map D.int)):=by
  show some (qo 0 (fzs _))=_;rw[zC]
 generalize cs.map D.int=C,P.map rb=R,rs.map rb=R2,N.map D.str=L,ns.map D.int=I at *;simp[Yk,jx,ji3,U,O,Z,eL,F,H,g,T,y,Y,jg]
theorem jfZ{B:List Db}{E:List Ev}{r:Rw}{c:Nat}(h:kN B E r=some c):c<=5:=by
 cases r with
 | debt n p =>
  have a:kN B E (.debt n p)=(bif !E.isEmpty then some 1 else bif yr B then some 2 else bif decide (n∈B.map (·.n)) then some 3 else bif decide (30<=B.length) then some 5 else none):=rfl;rw[a] at h;revert h;cases(!E.isEmpty)<;>cases yr B<;>cases decide (n∈B.map (·.n))<;>cases decide (30<=B.length)<;>intro h<;>cases h<;>decide
 | on d b =>
  have a:kN B E (.on d b)=(bif !E.isEmpty||B.isEmpty then some 1 else bif late B d then some 3 else bif decide (12<=(Jm B).length) then some 5 else none):=rfl;rw[a] at h;revert h;cases(!E.isEmpty||B.isEmpty)<;>cases late B d<;>cases decide (12<=(Jm B).length)<;>intro h<;>cases h<;>decide
 | ev e =>
  have a:kN B E (.ev e)=(bif yr B then some 2 else bif !decide (e.n∈B.map (·.n)) then some 4 else bif decide (60<=E.length) then some 5 else none):=rfl;rw[a] at h;revert h;cases yr B<;>cases(!decide (e.n∈B.map (·.n)))<;>cases decide (60<=E.length)<;>intro h<;>cases h<;>decide
theorem jku{s:List Db×List Ev}{r:Row}{c:Nat}(h:flt s r=some c):c<=5:=by
 cases r with
 | no=>cases h
 | bad b=>cases h;decide
 | ok r=>exact jfZ h
theorem jgY:∀{rs:List Row}{s:List Db×List Ev}{k c n:Nat},run s k rs=.inr (c,n)->c<=5
 | [],_,_,_,_,h=>by cases h
 | r::rs,s,k,c,n,h=>by
  cases hf:flt s r with
  | some a =>
   simp only[run,hf] at h;cases h;exact jku hf
  | none =>
   simp only[run,hf] at h;exact jgY h
theorem jlb{rs:List Row}{c n:Nat}(h:due rs=.inr (c,n)):c<=5:=by
 unfold due at h;cases hr:run ([],[]) 1 rs with
 | inl t =>
  rw[hr] at h;dsimp only at h;cases hb:yr t.1 with
  | true=>rw[hb] at h;cases h;decide
  | false=>rw[hb] at h;cases h
 | inr q =>
  rw[hr] at h;cases h;exact jgY hr
theorem jiD{c:Nat}(h:c<=5)(p:Int):Kg [.exc c p]=some (.str (FN c)):=by
 match c,h with
 | 0,_=>rfl
 | 1,_=>rfl
 | 2,_=>rfl
 | 3,_=>rfl
 | 4,_=>rfl
 | 5,_=>rfl
theorem jim(B:List Db):yY (B.map (jD true))=true:=by
 rw[yZ,List.all_map,List.all_eq_true];intro x _;show vT (.tup [.str x.n,.str x.p,.lst true (x.t.map kQ)])=true;have:yY (x.t.map kQ)=true:=by rw[yZ,List.all_map,List.all_eq_true];intro q _;rfl
 simp[this]
theorem jjm(E:List Ev):yY (E.map Ev.enc)=true:=by
 rw[yZ,List.all_map,List.all_eq_true];intro e _;cases e<;>rfl
theorem jkc{rs:List Row}(h:∀ r∈rs,RowOk r){t:List Db×List Ev}(hd:due rs=.inl t):St t:=by
 unfold due at hd;cases hr:run ([],[]) 1 rs with
 | inr q=>rw[hr] at hd;cases hd
 | inl a =>
  rw[hr] at hd;dsimp only at hd;cases hb:yr a.1 with
  | true=>rw[hb] at hd;cases hd
  | false=>rw[hb] at hd;cases hd;exact jeD h st0 hr
theorem jfD(ns:List Int)(hl:ns.length<=63)(hb:∀ x∈ns,Builtin.Int.intBits x<=2 ^ 20):jaB [.lst false (ns.map D.int)]=some (.bl true):=by
 obtain⟨O,P⟩:=jdN ns (k:=1) (by decide);obtain⟨N,i,lN,hN⟩:=jfb O (many:=40) (by decide) (by decide);have i:vI [.int O,.int 40]=some (.lst true (N.map D.str)):=i;obtain⟨a,Q,hR,lR⟩:=jil lN hN hl;have S:=vE N;have U:=Vw N;have j:frzs (ns.map D.int)=true:=ke λd hd=>by obtain⟨x,_,rfl⟩:=M6.mp hd;rfl
 have V:=jB _ j;have X:fzs (a.map rb)=(a.map (·.2)).map λr=>D.lst false r.enc:=by
  rw[jlJ,U2,U2];rfl
 have hok:∀ r∈a.map (·.2),RowOk r:=λr l=>by obtain⟨p,hp,rfl⟩:=M6.mp l;exact hR p hp
 have b:(a.map (·.2)).length<=1000:=by rw[L0];omega
 generalize a.map (·.2)=ws at *;have o:=ja8 ws;have Y:=jB _ o;obtain⟨s,u⟩:=jlG hok b;obtain⟨v,y⟩:=jis hok b;have Z:=ji9 hok b;have hj:=jdO (c:=10) (ws:=ws.map kt) (m:=100) (λw hw=>by obtain⟨r,l,rfl⟩:=M6.mp hw;exact(hok r l).t.1) (by rw[L0];omega) true;have f:lim (ws.map λr=>D.lst false r.enc).length=true:=jg (by rw[L0];omega);have g:∀ ρ,vN [none] ρ=[none]:=λ_=>rfl;have hi:YV .non .non=some (.bl true):=rfl;have z:kj .non .non=some (.bl false):=rfl;cases hd:due ws with
 | inr q =>
  obtain⟨c,n⟩:=q;have h:=s c n hd;have ex:=v c n hd;have c5:=jlb hd;have hk:=jiD c5 (n:Int);have A:c < 6:=by omega
  have C:jF (.tup [.str (FN c),.int (n:Int)]) (.int 0)=some (.str (FN c)):=rfl;have G:jF (.tup [.str (FN c),.int (n:Int)]) (.int 1)=some (.int (n:Int)):=rfl;have hn:=jhM c;have H:vX (.str (FN c)) (.str (FN c))=some (.bl false):=by rw[jlf];simp
  have J:yV [.int (n:Int),.int (n:Int)]=some (.bl true):=Y7 7 _;clear s u v y;generalize yk [10] (ws.map kt)=T at *;generalize(ws.map kt).map D.str=W2 at *;generalize(ws.map λr=>D.lst false r.enc)=W at *;generalize FN c=F,a.map rb=R,N.map D.str=L,ns.map D.int=I at *;simp[jaB,jx,jf9,P,i,S,U,V,j,Q,X,Y,o,h,jck,f,g,Z,hj,ex,A,C,G,hn,z,hk,H,jbj,J,fz,frz,vT,-xR]
 | inl t =>
  have h:=u t hd;obtain⟨ex,K⟩:=y t hd;have e:=jkc hok hd;obtain⟨B,E⟩:=t;have h:kH [.lst false (ws.map λr=>D.lst false r.enc)]=some (.tup [.str [],.tup [.lst false (B.map (jD false)),.lst false (E.map Ev.enc)]]):=h;have K:vQ [.str (yk [10] (ws.map kt))]=some (.tup [.lst true (B.map (jD true)),.lst true (E.map Ev.enc)]):=K;have J:=jdh B E e.lP (N8 e.lB (by decide)) (N8 e.lE (by decide));have zB:=jjr true B;have zE:=jlc E;have M:=jjr false B;have cB:=jim B;have cE:=jjm E;have C:jF (.tup [.str [],.tup [.lst false (B.map (jD false)),.lst false (E.map Ev.enc)]]) (.int 0)=some (.str []):=rfl;have G:jF (.tup [.str [],.tup [.lst false (B.map (jD false)),.lst false (E.map Ev.enc)]]) (.int 1)=some (.tup [.lst false (B.map (jD false)),.lst false (E.map Ev.enc)]):=rfl;have fB:=vm B;have fE:=Jn E;clear s u v y;generalize yk [10] (ws.map kt)=T at *;generalize(ws.map kt).map D.str=W2 at *;generalize(ws.map λr=>D.lst false r.enc)=W at *;generalize B.map (jD true)=B1,B.map (jD false)=B2,E.map Ev.enc=E1,a.map rb=R,N.map D.str=L,ns.map D.int=I at *;simp[jaB,jx,jf9,P,i,S,U,V,j,Q,X,Y,o,h,jck,f,g,Z,hj,ex,K,C,G,hi,zB,M,zE,fB,fE,cB,cE,J,-xR]
end K13
set_option maxHeartbeats 0
namespace K13
open PySem L2 QD QX
theorem all_mk{l:PySem.W.OpenLaw}{w:World}{K:PySem.W.Frag}{h:Heap}{mg:Str->Option Value}{fa:Addr}(X:K.In h)(G:h.Ns mainGlobals mg)(hfa:mg "law" = some (.ref fa))
  {a_C0:Addr}
  {jij:Addr}{jkK jla:Option Addr}{jlX:Array (Option Value)}{jlC jk0 jlz jk8 jgU jlv:Value}
  {jv:Addr}
  {jb0:Nat}{jca:Array (Option Value)}{Qj Qw Qb:Tok}
  {t_LONGEST_NAME:Tok}
  {jm:Addr}
  {uc:Nat}{uw:Array (Option Value)}{VA VT Vu Vy VJ VI V0 VV V2 VH YR YQ YF YT YG YX YW YS YI YM:Tok}
  {t_LETTERS:Tok}
  {t_LONGEST_NUMBER:Tok}
  {t_FIGURES:Tok}
  {t_MOST_DEBTS:Tok}
  {t_MOST_DAYS:Tok}
  {t_MOST_EVENTS:Tok}
  {jl:Addr}
  {GREATEST_ep:Nat}{GREATEST_k0 GREATEST_k1 GREATEST_k2 GREATEST_k3 GREATEST_k4:Tok}
  {GREATEST_u0:Tok}
  {GREATEST_u1:Tok}
  {GREATEST_u2:Tok}
  {GREATEST_u3:Tok}
  {GREATEST_u4:Tok}
  {jE b_FORMS_0 b_FORMS_1 b_FORMS_2 b_FORMS_3 b_FORMS_4:Addr}
  {FORMS_ep:Nat}{FORMS_k0 FORMS_k1 FORMS_k2 FORMS_k3 FORMS_k4:Tok}
  {b_FORMS_0_n:Nat}{b_FORMS_0_s:Array (Option Value)}{b_FORMS_0_t0 b_FORMS_0_t1:Tok}
  {b_FORMS_1_n:Nat}{b_FORMS_1_s:Array (Option Value)}{b_FORMS_1_t0 b_FORMS_1_t1:Tok}
  {b_FORMS_2_n:Nat}{b_FORMS_2_s:Array (Option Value)}{b_FORMS_2_t0 b_FORMS_2_t1 b_FORMS_2_t2:Tok}
  {b_FORMS_3_n:Nat}{b_FORMS_3_s:Array (Option Value)}{b_FORMS_3_t0 b_FORMS_3_t1:Tok}
  {b_FORMS_4_n:Nat}{b_FORMS_4_s:Array (Option Value)}{b_FORMS_4_t0 b_FORMS_4_t1:Tok}
  {x_Unfinished x_Misplaced x_BadRow x_TooMany x_NoName x_Twice x_Unguarded x_DealError jK:Addr}
  (y_Unfinished:PySem.W.nsIn K mainGlobals "Unfinished" = some (some (.ref x_Unfinished))) (w_Unfinished:XC K x_Unfinished) (u_Unfinished:jeP K [x_BadRow,x_Misplaced,x_Unfinished,x_Twice,x_NoName,x_TooMany] (.ref x_Unfinished) [false,false,true,false,false,false]) (y_Misplaced:PySem.W.nsIn K mainGlobals "Misplaced" = some (some (.ref x_Misplaced))) (w_Misplaced:XC K x_Misplaced) (u_Misplaced:jeP K [x_BadRow,x_Misplaced,x_Unfinished,x_Twice,x_NoName,x_TooMany] (.ref x_Misplaced) [false,true,false,false,false,false]) (y_BadRow:PySem.W.nsIn K mainGlobals "BadRow" = some (some (.ref x_BadRow))) (w_BadRow:XC K x_BadRow) (u_BadRow:jeP K [x_BadRow,x_Misplaced,x_Unfinished,x_Twice,x_NoName,x_TooMany] (.ref x_BadRow) [true,false,false,false,false,false]) (y_TooMany:PySem.W.nsIn K mainGlobals "TooMany" = some (some (.ref x_TooMany))) (w_TooMany:XC K x_TooMany) (u_TooMany:jeP K [x_BadRow,x_Misplaced,x_Unfinished,x_Twice,x_NoName,x_TooMany] (.ref x_TooMany) [false,false,false,false,false,true]) (y_NoName:PySem.W.nsIn K mainGlobals "NoName" = some (some (.ref x_NoName))) (w_NoName:XC K x_NoName) (u_NoName:jeP K [x_BadRow,x_Misplaced,x_Unfinished,x_Twice,x_NoName,x_TooMany] (.ref x_NoName) [false,false,false,false,true,false]) (y_Twice:PySem.W.nsIn K mainGlobals "Twice" = some (some (.ref x_Twice))) (w_Twice:XC K x_Twice) (u_Twice:jeP K [x_BadRow,x_Misplaced,x_Unfinished,x_Twice,x_NoName,x_TooMany] (.ref x_Twice) [false,false,false,true,false,false]) (y_Unguarded:PySem.W.nsIn K mainGlobals "Unguarded" = some (some (.ref x_Unguarded))) (w_Unguarded:XC K x_Unguarded) (u_Unguarded:jeP K [x_BadRow,x_Misplaced,x_Unfinished,x_Twice,x_NoName,x_TooMany] (.ref x_Unguarded) [false,false,false,false,false,false]) (y_DealError:PySem.W.nsIn K mainGlobals "DealError" = some (some (.ref x_DealError))) (w_DealError:XC K x_DealError) (u_DealError:jeP K [x_BadRow,x_Misplaced,x_Unfinished,x_Twice,x_NoName,x_TooMany] (.ref x_DealError) [true,true,true,true,true,true]) (u_V:jeP K [x_BadRow,x_Misplaced,x_Unfinished,x_Twice,x_NoName,x_TooMany] (.type "ValueError") [true,true,true,true,true,true]) (p_BadRow:PySem.W.findIn K (.ref x_BadRow) "place" = some none/\PySem.W.keepIn K (.ref x_BadRow)=true/\PySem.W.findIn K (.ref x_BadRow) "__init__" = some (some (.ref jK))) (p_Misplaced:PySem.W.findIn K (.ref x_Misplaced) "place" = some none/\PySem.W.keepIn K (.ref x_Misplaced)=true/\PySem.W.findIn K (.ref x_Misplaced) "__init__" = some (some (.ref jK))) (p_Unfinished:PySem.W.findIn K (.ref x_Unfinished) "place" = some none/\PySem.W.keepIn K (.ref x_Unfinished)=true/\PySem.W.findIn K (.ref x_Unfinished) "__init__" = some (some (.ref jK))) (p_Twice:PySem.W.findIn K (.ref x_Twice) "place" = some none/\PySem.W.keepIn K (.ref x_Twice)=true/\PySem.W.findIn K (.ref x_Twice) "__init__" = some (some (.ref jK))) (p_NoName:PySem.W.findIn K (.ref x_NoName) "place" = some none/\PySem.W.keepIn K (.ref x_NoName)=true/\PySem.W.findIn K (.ref x_NoName) "__init__" = some (some (.ref jK))) (p_TooMany:PySem.W.findIn K (.ref x_TooMany) "place" = some none/\PySem.W.keepIn K (.ref x_TooMany)=true/\PySem.W.findIn K (.ref x_TooMany) "__init__" = some (some (.ref jK))) (p_fn:PySem.W.isFn K (.ref jK)=true)
  (jdJ:jcx K x_BadRow "__init__" "DealError.__init__" jgV ["self","words","place"])
  (c1_C0:PySem.W.nsIn K mainGlobals "DebtsDraft" = some (some (.ref a_C0))) (c2_C0:PySem.W.plainGet K a_C0 Str.empty=true) (c3_C0:PySem.W.hasDictIn K a_C0=true) (c4_C0:PySem.W.plainOver K a_C0=true) (c5_C0:PySem.W.findIn K (.ref a_C0) "__setattr__" = some (some (.builtin "object.__setattr__"))) (c6_C0:PySem.W.makesIn K a_C0=true) (c7_C0:PySem.W.keepIn K (.ref a_C0)=true)
  (u8:PySem.W.findIn K (.ref a_C0) "debts" = some none)
  (wj:PySem.W.findIn K (.ref a_C0) "events" = some none)
  (Kk:kM K mg "words_in" Yb J9)
  (Kb:kM K mg "has_only" Yu Yi)
  (vb:jcx K a_C0 "__init__" "DebtsDraft.__init__" yx yy)
  (vi:jcx K a_C0 "has_debt" "DebtsDraft.has_debt" yE yF)
  (y8:jcx K a_C0 "last_plan" "DebtsDraft.last_plan" yo yq)
  (qR:kM K mg "is_misplaced" ku kx)
  (Kt:kM K mg "_law_cell" J8 YD)
  (Vi:kM K mg "_law_mixed" Jh Jv)
  (Va:kM K mg "_law_coins" JC Jw)
  (Kd:kM K mg "_law_kind" Yh YC)
  (Kq:kM K mg "_law_many" Yg Yl)
  (Qv:kM K mg "_law_bad" VN VF)
  (QU:kM K mg "is_name" VZ VQ)
  (Vh:kM K mg "number_in" Ju JB)
  (yW:jcx K a_C0 "lacks_plan" "DebtsDraft.lacks_plan" yg yi)
  (vd:jcx K a_C0 "take_row" "DebtsDraft.take_row" yH yz)
  (V6:kM K mg "is_twice" Yx Yw)
  (kn:kM K mg "is_one_too_many" vz vv)
  (Vj:kM K mg "_law_names" Jt JF)
  (Qg:kM K mg "_law_row" Vv Vq)
  (Y0:kM K mg "_law_fault" JA Jo)
  (KF:kM K mg "value_in" Ym Yp)
  (JW:kM K mg "refuse_row" qJ qK)
  (Kv:kM K mg "_law_rows" Yy Yd)
  (Qa:kM K mg "_law_due" Vr VS)
  (Ka:kM K mg "row_told" YA Yn)
  (Js:kM K mg "debt_row_of" kW qc)
  (J7:kM K mg "read_debts" qH qF)
  (Y2:kM K mg "_law_alike" JH qr)
  (wB:PySem.W.nsIn K mainGlobals "law" = some (some (.ref jij))) (jdj:K.lookup jij=some ⟨jlC,jkK,.func (PySem.W.fnOf "law" "law" (JE zO) (vC zO) (jh zO) .none jk0 jlz jk8 jla jgU jlv),jlX⟩) (jeE:PySem.W.codeIn K jgU "law" = true) (jet:PySem.W.keepIn K (.ref jij)=true)
  (g1_EVENTS:PySem.W.nsIn K mainGlobals "EVENTS" = some (some (.ref jv)))
  (KC:K.lookup jv=some ⟨.type "tuple",none,.seq #[.str "late" Qj,.str "early" Qw,.str "quit" Qb] jb0,jca⟩)
  (g1_LONGEST_NAME:PySem.W.nsIn K mainGlobals "LONGEST_NAME" = some (some (.int 8 t_LONGEST_NAME)))
  (g1_KEYWORDS:PySem.W.nsIn K mainGlobals "KEYWORDS" = some (some (.ref jm)))
  (JR:K.lookup jm=some ⟨.type "tuple",none,.seq #[.str "pool" VA,.str "claim" VT,.str "pot" Vu,.str "eat" Vy,.str "order" VJ,.str "part" VI,.str "pay" V0,.str "share" VV,.str "repay" V2,.str "fill" VH,.str "lend" YR,.str "back" YQ,.str "rest" YF,.str "look" YT,.str "guard" YG,.str "debt" YX,.str "on" YW,.str "late" YS,.str "early" YI,.str "quit" YM] uc,uw⟩)
  (g1_LETTERS:PySem.W.nsIn K mainGlobals "LETTERS" = some (some (.str "abcdefghijklmnopqrstuvwxyz" t_LETTERS)))
  (g1_LONGEST_NUMBER:PySem.W.nsIn K mainGlobals "LONGEST_NUMBER" = some (some (.int 13 t_LONGEST_NUMBER)))
  (g1_FIGURES:PySem.W.nsIn K mainGlobals "FIGURES" = some (some (.str "0123456789" t_FIGURES)))
  (g1_MOST_DEBTS:PySem.W.nsIn K mainGlobals "MOST_DEBTS" = some (some (.int 30 t_MOST_DEBTS)))
  (g1_MOST_DAYS:PySem.W.nsIn K mainGlobals "MOST_DAYS" = some (some (.int 12 t_MOST_DAYS)))
  (g1_MOST_EVENTS:PySem.W.nsIn K mainGlobals "MOST_EVENTS" = some (some (.int 60 t_MOST_EVENTS)))
  (g1_GREATEST:PySem.W.nsIn K mainGlobals "GREATEST" = some (some (.ref jl)))
  (g2_GREATEST:K.lookup jl=some { cls:=.type "dict",data:=.dict #[⟨PyData.keyHash w.params "coins",.str "coins" GREATEST_k0,.int 1000000000000 GREATEST_u0⟩,⟨PyData.keyHash w.params "tenths",.str "tenths" GREATEST_k1,.int 10 GREATEST_u1⟩,⟨PyData.keyHash w.params "days",.str "days" GREATEST_k2,.int 9 GREATEST_u2⟩,⟨PyData.keyHash w.params "day",.str "day" GREATEST_k3,.int 60 GREATEST_u3⟩,⟨PyData.keyHash w.params "by",.str "by" GREATEST_k4,.int 30 GREATEST_u4⟩] GREATEST_ep }) (g3_GREATEST:(jl==sysModules)=false)
  (g1_FORMS:PySem.W.nsIn K mainGlobals "FORMS" = some (some (.ref jE)))
  (g2_FORMS:K.lookup jE=some { cls:=.type "dict",data:=.dict #[⟨PyData.keyHash w.params "debt",.str "debt" FORMS_k0,.ref b_FORMS_0⟩,⟨PyData.keyHash w.params "on",.str "on" FORMS_k1,.ref b_FORMS_1⟩,⟨PyData.keyHash w.params "late",.str "late" FORMS_k2,.ref b_FORMS_2⟩,⟨PyData.keyHash w.params "early",.str "early" FORMS_k3,.ref b_FORMS_3⟩,⟨PyData.keyHash w.params "quit",.str "quit" FORMS_k4,.ref b_FORMS_4⟩] FORMS_ep }) (g3_FORMS:(jE==sysModules)=false)
  (Vn:K.lookup b_FORMS_0=some ⟨.type "tuple",none,.seq #[.str "name" b_FORMS_0_t0,.str "name" b_FORMS_0_t1] b_FORMS_0_n,b_FORMS_0_s⟩)
  (Vf:K.lookup b_FORMS_1=some ⟨.type "tuple",none,.seq #[.str "day" b_FORMS_1_t0,.str "coins" b_FORMS_1_t1] b_FORMS_1_n,b_FORMS_1_s⟩)
  (Vg:K.lookup b_FORMS_2=some ⟨.type "tuple",none,.seq #[.str "name" b_FORMS_2_t0,.str "day" b_FORMS_2_t1,.str "by" b_FORMS_2_t2] b_FORMS_2_n,b_FORMS_2_s⟩)
  (YY:K.lookup b_FORMS_3=some ⟨.type "tuple",none,.seq #[.str "name" b_FORMS_3_t0,.str "day" b_FORMS_3_t1] b_FORMS_3_n,b_FORMS_3_s⟩)
  (Y8:K.lookup b_FORMS_4=some ⟨.type "tuple",none,.seq #[.str "name" b_FORMS_4_t0,.str "day" b_FORMS_4_t1] b_FORMS_4_n,b_FORMS_4_s⟩)
  (qE:PySem.W.nsIn K mainGlobals "ValueError" = some none)
  (jic:PySem.W.nsIn K mainGlobals "all" = some none)
  (jdM:PySem.W.nsIn K mainGlobals "bool" = some none)
  (Vc:PySem.W.nsIn K mainGlobals "enumerate" = some none)
  (jiq:PySem.W.nsIn K mainGlobals "int" = some none)
  (JU:PySem.W.nsIn K mainGlobals "isinstance" = some none)
  (jhH:PySem.W.nsIn K mainGlobals "len" = some none)
  (jej:PySem.W.nsIn K mainGlobals "list" = some none)
  (jhZ:PySem.W.nsIn K mainGlobals "max" = some none)
  (jhe:PySem.W.nsIn K mainGlobals "min" = some none)
  (jad:PySem.W.nsIn K mainGlobals "range" = some none)
  (jjs:PySem.W.nsIn K mainGlobals "str" = some none)
  (jaW:PySem.W.nsIn K mainGlobals "tuple" = some none)
  (jhx:PySem.W.nsIn K mainGlobals "zip" = some none)
  : ∃ fd:FuncData,(∀(s:Shared) (v:Value),BindsTo s fd ⟨[v],[]⟩ [("_law_script",v)])/\∀ base:Heap,K.In base->base.Ns mainGlobals mg->FnOk l.prog w K mg base CX0 9 fa fd ["_law_script"] (λvs H Q E=>∀ cl:Nat->Addr,spP ⟨K,cl⟩ jaB 1 vs H Q E):=by
 have e:=hfa.symm.trans (PySem.W.mg_of X G wB);cases e;obtain⟨f_i,jjn,Mi⟩:=jdJ;have hfi:jK=f_i:=by have:=Mi.mt.at_.symm.trans p_BadRow.2.2;cases this;rfl
 subst hfi;have GI:∃ fd,Binds K fd ["self","words","place"] []/\∀ base,FnOk l.prog w K mg base CX0 1 jK fd ["self","words","place"] (xh K):=⟨jjn,Mi.bd,λbase=>ji8 Mi.fn jhq λcdv A outer s H E=>xC (jfj (vJ (pv 0) (vJ (pv 1) YO)) (PySem.W.mg_none_of X G qE)) (Qf (jh0 (pv 0) (pv 2)))⟩;have HC:∀ c,c < 6->(atA [x_BadRow,x_Misplaced,x_Unfinished,x_Twice,x_NoName,x_TooMany,a_C0]) c=atA [x_BadRow,x_Misplaced,x_Unfinished,x_Twice,x_NoName,x_TooMany] c:=λc hc=>by match c,hc with | 0,_=>rfl | 1,_=>rfl | 2,_=>rfl | 3,_=>rfl | 4,_=>rfl | 5,_=>rfl
 have HX:∀ a∈[x_BadRow,x_Misplaced,x_Unfinished,x_Twice,x_NoName,x_TooMany],XC K a:=by
  intro a ha;simp only[M5,List.not_mem_nil,or_false] at ha;rcases ha with rfl | rfl | rfl | rfl | rfl | rfl<;>assumption
 have HS:∀ c,c < 6->XC K ((atA [x_BadRow,x_Misplaced,x_Unfinished,x_Twice,x_NoName,x_TooMany,a_C0]) c)/\PySem.W.subIn K (.ref ((atA [x_BadRow,x_Misplaced,x_Unfinished,x_Twice,x_NoName,x_TooMany,a_C0]) c)) (.ref x_DealError)=some true:=λc hc=>by match c,hc with | 0,_=>exact⟨w_BadRow,u_DealError.1⟩ | 1,_=>exact⟨w_Misplaced,u_DealError.2.1⟩ | 2,_=>exact⟨w_Unfinished,u_DealError.2.2.1⟩ | 3,_=>exact⟨w_Twice,u_DealError.2.2.2.1⟩ | 4,_=>exact⟨w_NoName,u_DealError.2.2.2.2.1⟩ | 5,_=>exact⟨w_TooMany,u_DealError.2.2.2.2.2.1⟩
 have HP:∀ c,c < 6->XC K ((atA [x_BadRow,x_Misplaced,x_Unfinished,x_Twice,x_NoName,x_TooMany,a_C0]) c)/\NoAttr K ((atA [x_BadRow,x_Misplaced,x_Unfinished,x_Twice,x_NoName,x_TooMany,a_C0]) c) "place":=λc hc=>by match c,hc with | 0,_=>exact⟨w_BadRow,p_BadRow.1⟩ | 1,_=>exact⟨w_Misplaced,p_Misplaced.1⟩ | 2,_=>exact⟨w_Unfinished,p_Unfinished.1⟩ | 3,_=>exact⟨w_Twice,p_Twice.1⟩ | 4,_=>exact⟨w_NoName,p_NoName.1⟩ | 5,_=>exact⟨w_TooMany,p_TooMany.1⟩
 have T:Txt l.prog w K mg (atA [x_BadRow,x_Misplaced,x_Unfinished,x_Twice,x_NoName,x_TooMany,a_C0]) jv t_LONGEST_NAME jm t_LETTERS t_LONGEST_NUMBER t_FIGURES t_MOST_DEBTS t_MOST_DAYS t_MOST_EVENTS jl jE b_FORMS_0 b_FORMS_1 b_FORMS_2 b_FORMS_3 b_FORMS_4 jK x_Unguarded x_DealError:=⟨PySem.W.mg_of X G g1_EVENTS,(λcl Z H=>qp (xs:=["late","early","quit"]) (ts:=[Qj,Qw,Qb]) (ws:=[[108,97,116,101],[101,97,114,108,121],[113,117,105,116]]) (by decide +kernel) KC rfl (by decide) cl Z H),PySem.W.mg_of X G g1_LONGEST_NAME,PySem.W.mg_of X G g1_KEYWORDS,(λcl Z H=>qp (xs:=["pool","claim","pot","eat","order","part","pay","share","repay","fill","lend","back","rest","look","guard","debt","on","late","early","quit"]) (ts:=[VA,VT,Vu,Vy,VJ,VI,V0,VV,V2,VH,YR,YQ,YF,YT,YG,YX,YW,YS,YI,YM]) (ws:=[[112,111,111,108],[99,108,97,105,109],[112,111,116],[101,97,116],[111,114,100,101,114],[112,97,114,116],[112,97,121],[115,104,97,114,101],[114,101,112,97,121],[102,105,108,108],[108,101,110,100],[98,97,99,107],[114,101,115,116],[108,111,111,107],[103,117,97,114,100],[100,101,98,116],[111,110],[108,97,116,101],[101,97,114,108,121],[113,117,105,116]]) (by decide +kernel) JR rfl (by decide) cl Z H),PySem.W.mg_of X G g1_LETTERS,PySem.W.mg_of X G g1_LONGEST_NUMBER,PySem.W.mg_of X G g1_FIGURES,PySem.W.mg_of X G g1_MOST_DEBTS,PySem.W.mg_of X G g1_MOST_DAYS,PySem.W.mg_of X G g1_MOST_EVENTS,PySem.W.mg_of X G g1_GREATEST,jlS (xs:=["coins","tenths","days","day","by"]) (ts:=[GREATEST_k0,GREATEST_k1,GREATEST_k2,GREATEST_k3,GREATEST_k4]) (us:=[.int 1000000000000 GREATEST_u0,.int 10 GREATEST_u1,.int 9 GREATEST_u2,.int 60 GREATEST_u3,.int 30 GREATEST_u4]) (vs:=[.int 1000000000000,.int 10,.int 9,.int 60,.int 30]) (by decide +kernel) g2_GREATEST g3_GREATEST rfl rfl (.cons ⟨_,rfl⟩ (.cons ⟨_,rfl⟩ (.cons ⟨_,rfl⟩ (.cons ⟨_,rfl⟩ (.cons ⟨_,rfl⟩ .nil))))) (by decide +kernel),(λcl Z H=>(.cons (O:=[]) (P:=[]) .int_mk (.cons (O:=[]) (P:=[]) .int_mk (.cons (O:=[]) (P:=[]) .int_mk (.cons (O:=[]) (P:=[]) .int_mk (.cons (O:=[]) (P:=[]) .int_mk .empty)))))),PySem.W.mg_of X G g1_FORMS,jlS (xs:=["debt","on","late","early","quit"]) (ts:=[FORMS_k0,FORMS_k1,FORMS_k2,FORMS_k3,FORMS_k4]) (us:=[.ref b_FORMS_0,.ref b_FORMS_1,.ref b_FORMS_2,.ref b_FORMS_3,.ref b_FORMS_4]) (vs:=[.ref b_FORMS_0,.ref b_FORMS_1,.ref b_FORMS_2,.ref b_FORMS_3,.ref b_FORMS_4]) (by decide +kernel) g2_FORMS g3_FORMS rfl rfl (.cons rfl (.cons rfl (.cons rfl (.cons rfl (.cons rfl .nil))))) (by decide +kernel),(λcl Z H=>(.cons (O:=[]) (P:=[]) ((λcl Z H=>qp (xs:=["name","name"]) (ts:=[b_FORMS_0_t0,b_FORMS_0_t1]) (ws:=[[110,97,109,101],[110,97,109,101]]) (by decide +kernel) Vn rfl (by decide) cl Z H) cl Z H) (.cons (O:=[]) (P:=[]) ((λcl Z H=>qp (xs:=["day","coins"]) (ts:=[b_FORMS_1_t0,b_FORMS_1_t1]) (ws:=[[100,97,121],[99,111,105,110,115]]) (by decide +kernel) Vf rfl (by decide) cl Z H) cl Z H) (.cons (O:=[]) (P:=[]) ((λcl Z H=>qp (xs:=["name","day","by"]) (ts:=[b_FORMS_2_t0,b_FORMS_2_t1,b_FORMS_2_t2]) (ws:=[[110,97,109,101],[100,97,121],[98,121]]) (by decide +kernel) Vg rfl (by decide) cl Z H) cl Z H) (.cons (O:=[]) (P:=[]) ((λcl Z H=>qp (xs:=["name","day"]) (ts:=[b_FORMS_3_t0,b_FORMS_3_t1]) (ws:=[[110,97,109,101],[100,97,121]]) (by decide +kernel) YY rfl (by decide) cl Z H) cl Z H) (.cons (O:=[]) (P:=[]) ((λcl Z H=>qp (xs:=["name","day"]) (ts:=[b_FORMS_4_t0,b_FORMS_4_t1]) (ws:=[[110,97,109,101],[100,97,121]]) (by decide +kernel) Y8 rfl (by decide) cl Z H) cl Z H) .empty)))))),⟨c2_C0,c3_C0,c4_C0,c5_C0⟩,c6_C0,c7_C0,PySem.W.mg_of X G c1_C0,u8,wj,PySem.W.mg_none_of X G qE,PySem.W.mg_none_of X G jic,PySem.W.mg_none_of X G jdM,PySem.W.mg_none_of X G Vc,PySem.W.mg_none_of X G jiq,PySem.W.mg_none_of X G JU,PySem.W.mg_none_of X G jhH,PySem.W.mg_none_of X G jej,PySem.W.mg_none_of X G jhZ,PySem.W.mg_none_of X G jhe,PySem.W.mg_none_of X G jad,PySem.W.mg_none_of X G jjs,PySem.W.mg_none_of X G jaW,PySem.W.mg_none_of X G jhx,PySem.W.mg_of X G y_Unfinished,PySem.W.mg_of X G y_Misplaced,PySem.W.mg_of X G y_BadRow,PySem.W.mg_of X G y_TooMany,PySem.W.mg_of X G y_NoName,PySem.W.mg_of X G y_Twice,PySem.W.mg_of X G y_Unguarded,PySem.W.mg_of X G y_DealError,⟨⟨w_BadRow,p_BadRow.2.2,p_fn,p_BadRow.1,p_BadRow.2.1⟩,GI⟩,⟨⟨w_Misplaced,p_Misplaced.2.2,p_fn,p_Misplaced.1,p_Misplaced.2.1⟩,GI⟩,⟨⟨w_Unfinished,p_Unfinished.2.2,p_fn,p_Unfinished.1,p_Unfinished.2.1⟩,GI⟩,⟨⟨w_Twice,p_Twice.2.2,p_fn,p_Twice.1,p_Twice.2.1⟩,GI⟩,⟨⟨w_NoName,p_NoName.2.2,p_fn,p_NoName.1,p_NoName.2.1⟩,GI⟩,⟨⟨w_TooMany,p_TooMany.2.2,p_fn,p_TooMany.1,p_TooMany.2.1⟩,GI⟩,w_DealError,HS,HP,YN (l:=[x_BadRow,x_Misplaced,x_Unfinished,x_Twice,x_NoName,x_TooMany]) (cv:=.ref x_Unfinished) (λv r=>by cases r;rfl) w_Unfinished.ty _ HC HX u_Unfinished,YN (l:=[x_BadRow,x_Misplaced,x_Unfinished,x_Twice,x_NoName,x_TooMany]) (cv:=.ref x_Misplaced) (λv r=>by cases r;rfl) w_Misplaced.ty _ HC HX u_Misplaced,YN (l:=[x_BadRow,x_Misplaced,x_Unfinished,x_Twice,x_NoName,x_TooMany]) (cv:=.ref x_BadRow) (λv r=>by cases r;rfl) w_BadRow.ty _ HC HX u_BadRow,YN (l:=[x_BadRow,x_Misplaced,x_Unfinished,x_Twice,x_NoName,x_TooMany]) (cv:=.ref x_TooMany) (λv r=>by cases r;rfl) w_TooMany.ty _ HC HX u_TooMany,YN (l:=[x_BadRow,x_Misplaced,x_Unfinished,x_Twice,x_NoName,x_TooMany]) (cv:=.ref x_NoName) (λv r=>by cases r;rfl) w_NoName.ty _ HC HX u_NoName,YN (l:=[x_BadRow,x_Misplaced,x_Unfinished,x_Twice,x_NoName,x_TooMany]) (cv:=.ref x_Twice) (λv r=>by cases r;rfl) w_Twice.ty _ HC HX u_Twice,YN (l:=[x_BadRow,x_Misplaced,x_Unfinished,x_Twice,x_NoName,x_TooMany]) (cv:=.ref x_Unguarded) (λv r=>by cases r;rfl) w_Unguarded.ty _ HC HX u_Unguarded,YN (l:=[x_BadRow,x_Misplaced,x_Unfinished,x_Twice,x_NoName,x_TooMany]) (cv:=.ref x_DealError) (λv r=>by cases r;rfl) w_DealError.ty _ HC HX u_DealError,YN (l:=[x_BadRow,x_Misplaced,x_Unfinished,x_Twice,x_NoName,x_TooMany]) (cv:=.type "ValueError") (λv r=>by cases r;rfl) jn5 _ HC HX u_V⟩;have F:Fun K "law" "law" zO _ _:=uB jdj jeE jet;have jnz:kM K mg "law" zO jfW:=⟨_,_,F,PySem.W.mg_of X G wB,F.binds λ_ _ _ _ _ _ us hl=>match us,hl with | [_],_=>rfl⟩;have Yc:=jaz T Kk;have qg:=jaL T Kb;have yD:=JL T vb;have jN:=JP T vi;have jp:=Jj T y8;have kz:=Qn T qR;have qe:=jaU T Kt;have yQ:=wM T Vi;have Y9:=ur T Va;have Kn:=jal T Kd;have Kz:=u9 T Kq;have Q8:=jb9 T Qv;have Qd:=jbK T QU qg;have Vd:=wJ T Vh qg;have jw:=Jc T yW jp;have yI:=JM T vd jp;have Yr:=uX T V6 jN jp;have vt:=VP T kn jp;have Vm:=wx T Vj yQ;have zo:=jb8 T Qg Y9 yQ;have Ve:=wz T Y0 Q8;have Ye:=jaQ T KF Qd Vd;have kB:=xO T JW jN jw kz vt Yr;have Kh:=uT T Kv qe Kz yQ zo;have Q4:=jb7 T Qa Ve;have Ys:=u7 T Ka Ye;have vV:=zx T Js Ys Yc;have qG:=xJ T J7 yD jw yI vV kB;have ka:=uH T Y2;have jm7:=jkE T jnz ka qe Q4 Kn Vm Kh qG;obtain⟨f',fd',F',G'⟩:=jm7;cases(PySem.W.mg_of X G wB).symm.trans F'.mgf;obtain⟨⟨oc,od,kV,doc,pm,an,cdv,ct,osl,rfl,_,_⟩,_⟩:=F'.fn;exact⟨_,λs v=>.of_eq rfl,λbase _ _=>(G' base).imp λvs H Q E h=>h (atA [x_BadRow,x_Misplaced,x_Unfinished,x_Twice,x_NoName,x_TooMany,a_C0])⟩
theorem walk{l:PySem.W.OpenLaw}{q:Program}{loose:List Str}{XP:(Str->Option Value)->Heap->Prop}{YP:World->Heap->Prop}{d:DefRec}{K:Params->PySem.W.Frag}(hn:l.most=some 63)(hdf:d.params.defaults=[])
  (hY:∀(w:World) (h:Heap),YP w h->(K w.params).In h)
  (F:∀(w:World) (mg:Str->Option Value) (fa:Addr) (h:Heap),(K w.params).In h->h.Ns mainGlobals mg->mg d.name=some (.ref fa) ->
   ∃ fd:FuncData,(∀(s:Shared) (u:Value),BindsTo s fd ⟨[u],[]⟩ [("_law_script",u)])/\∀ base:Heap,(K w.params).In base->base.Ns mainGlobals mg->FnOk l.prog w (K w.params) mg base CX0 9 fa fd ["_law_script"] (λvs H Q E=>∀ cl:Nat->Addr,spP ⟨K w.params,cl⟩ jaB 1 vs H Q E)) :
  PySem.W.WalkO q loose XP YP l.row.toRowW d [] (λf vs=>PySem.call f vs) :=
 L2.walk_ofB (n:=63) (k:=9) (x:="_law_script") (CX:=λ_=>CX0) (sp:=λw=>(λvs H Q E=>∀ cl:Nat->Addr,spP ⟨K w.params,cl⟩ jaB 1 vs H Q E)) hn (by decide) hdf ⟨rfl,by decide,by decide⟩ hY F (λ_ H a ns hl hb _ hS=>λC=>jlh (jfD ns hl hb) hS) λ_ _ _ _ _ z=>z
end K13
namespace PySem.W.Fast
def tw16253262903956407557:=0
def tw2566397045186531273:=0
def tw7741789992718426586:=0
def tw10935415632681275633:=0
def tw2660805533965041636:=0
def tw11390314703568010277:=0
def tw1092219970299858128:=0
def tw4554725553606771922:=0
def tw7903685131236025134:=0
def tw4912932967316721579:=0
def tw15193061718432080099:=0
def tw5475536587633856816:=0
def tw7955159827562230516:=0
def tw6284295835485364813:=0
def tw10960963768099513049:=0
def tw16924303822770125007:=0
def tw10845185619863412436:=0
def tw907152882642759294:=0
def tw10392558196367492376:=0
def tw17833849309103211023:=0
def tw822948489363596391:=0
def tw13887844555497867308:=0
def tw14465523506425558275:=0
def tw7198513347190402048:=0
def tw6825582748720355944:=0
def tw9486279544130092125:=0
def tw14762632395755112108:=0
def tw13043331028504478089:=0
def tw5895551618403175511:=0
def tw11412840073571920550:=0
def tw15245428676066509277:=0
def tw4629279480660689843:=0
def tw14498265613213190368:=0
def tw18073691104849462754:=0
def tw18042864571001742123:=0
def tw8636121828287543050:=0
def tw14909806729380642409:=0
def tw7489558836680514581:=0
def tw2920042557593204581:=0
def tw12781961367712840721:=0
def tw1902731575744927136:=0
def tw12326583786288108216:=0
def tw7656801324374683943:=0
def tw7854929098947745571:=0
def tw12916693764701535045:=0
def tw14764413252254328572:=0
def tw3174485858797801810:=0
def tw5380610056499808525:=0
def tw3592731133070834124:=0
def tw16952609387870571970:=0
def tw12132098581335666125:=0
def tw7493913628695079664:=0
end PySem.W.Fast
set_option maxHeartbeats 0
open PySem PySem.W PyProof.Rows
set_option maxRecDepth 100000 in
set_option maxHeartbeats 0 in
theorem PySem.Challenge.cw_tranchefall_k13_debts_refused_holds : PySem.Challenge.rw_tranchefall_k13_debts_refused.Holds := by
 w_on;o_law;k_head;(case hw=>w_witness2)
 k_fill
 refine K13.walk (l:=PySem.Challenge.rw_tranchefall_k13_debts_refused) rfl rfl (λw h Y=>PySem.W.kIn_of Y) ?F
 case F =>
  intro w mg fa h KX G hmg;refine' K13.all_mk KX G hmg ?y_Unfinished ?w_Unfinished ?u_Unfinished ?y_Misplaced ?w_Misplaced ?u_Misplaced ?y_BadRow ?w_BadRow ?u_BadRow ?y_TooMany ?w_TooMany ?u_TooMany ?y_NoName ?w_NoName ?u_NoName ?y_Twice ?w_Twice ?u_Twice ?y_Unguarded ?w_Unguarded ?u_Unguarded ?y_DealError ?w_DealError ?u_DealError ?u_V ?p_BadRow ?p_Misplaced ?p_Unfinished ?p_Twice ?p_NoName ?p_TooMany ?p_fn ?jdJ ?c1_C0 ?c2_C0 ?c3_C0 ?c4_C0 ?c5_C0 ?c6_C0 ?c7_C0 ?u8 ?wj ?Kk ?Kb ?vb ?vi ?y8 ?qR ?Kt ?Vi ?Va ?Kd ?Kq ?Qv ?QU ?Vh ?yW ?vd ?V6 ?kn ?Vj ?Qg ?Y0 ?KF ?JW ?Kv ?Qa ?Ka ?Js ?J7 ?Y2 ?wB ?jdj ?jeE ?jet ?g1_EVENTS ?KC ?g1_LONGEST_NAME ?g1_KEYWORDS ?JR ?g1_LETTERS ?g1_LONGEST_NUMBER ?g1_FIGURES ?g1_MOST_DEBTS ?g1_MOST_DAYS ?g1_MOST_EVENTS ?g1_GREATEST ?g2_GREATEST ?g3_GREATEST ?g1_FORMS ?g2_FORMS ?g3_FORMS ?Vn ?Vf ?Vg ?YY ?Y8 ?qE ?jic ?jdM ?Vc ?jiq ?JU ?jhH ?jej ?jhZ ?jhe ?jad ?jjs ?jaW ?jhx
  (case y_Unfinished | y_Misplaced | y_BadRow | y_TooMany | y_NoName | y_Twice | y_Unguarded | y_DealError | c1_C0 | c2_C0 | c3_C0 | c4_C0 | c5_C0 | c6_C0 | c7_C0 | u8 | wj | wB | jdj | jeE | jet | g1_EVENTS | KC | g1_LONGEST_NAME | g1_KEYWORDS | JR | g1_LETTERS | g1_LONGEST_NUMBER | g1_FIGURES | g1_MOST_DEBTS | g1_MOST_DAYS | g1_MOST_EVENTS | g1_GREATEST | g2_GREATEST | g1_FORMS | g2_FORMS | Vn | Vf | Vg | YY | Y8 | qE | jic | jdM | Vc | jiq | JU | jhH | jej | jhZ | jhe | jad | jjs | jaW | jhx=>k_is)
  (case w_Unfinished=>exact QX.xc_mk (by k_is) (by first | rfl | decide +kernel) (by k_is) (by k_is) (by k_is) (by k_is) (by k_is))
  (case u_Unfinished=>exact⟨by k_is,by k_is,by k_is,by k_is,by k_is,by k_is,trivial⟩)
  (case w_Misplaced=>exact QX.xc_mk (by k_is) (by first | rfl | decide +kernel) (by k_is) (by k_is) (by k_is) (by k_is) (by k_is))
  (case u_Misplaced=>exact⟨by k_is,by k_is,by k_is,by k_is,by k_is,by k_is,trivial⟩)
  (case w_BadRow=>exact QX.xc_mk (by k_is) (by first | rfl | decide +kernel) (by k_is) (by k_is) (by k_is) (by k_is) (by k_is))
  (case u_BadRow=>exact⟨by k_is,by k_is,by k_is,by k_is,by k_is,by k_is,trivial⟩)
  (case w_TooMany=>exact QX.xc_mk (by k_is) (by first | rfl | decide +kernel) (by k_is) (by k_is) (by k_is) (by k_is) (by k_is))
  (case u_TooMany=>exact⟨by k_is,by k_is,by k_is,by k_is,by k_is,by k_is,trivial⟩)
  (case w_NoName=>exact QX.xc_mk (by k_is) (by first | rfl | decide +kernel) (by k_is) (by k_is) (by k_is) (by k_is) (by k_is))
  (case u_NoName=>exact⟨by k_is,by k_is,by k_is,by k_is,by k_is,by k_is,trivial⟩)
  (case w_Twice=>exact QX.xc_mk (by k_is) (by first | rfl | decide +kernel) (by k_is) (by k_is) (by k_is) (by k_is) (by k_is))
  (case u_Twice=>exact⟨by k_is,by k_is,by k_is,by k_is,by k_is,by k_is,trivial⟩)
  (case w_Unguarded=>exact QX.xc_mk (by k_is) (by first | rfl | decide +kernel) (by k_is) (by k_is) (by k_is) (by k_is) (by k_is))
  (case u_Unguarded=>exact⟨by k_is,by k_is,by k_is,by k_is,by k_is,by k_is,trivial⟩)
  (case w_DealError=>exact QX.xc_mk (by k_is) (by first | rfl | decide +kernel) (by k_is) (by k_is) (by k_is) (by k_is) (by k_is))
  (case u_DealError=>exact⟨by k_is,by k_is,by k_is,by k_is,by k_is,by k_is,trivial⟩)
  (case u_V=>exact⟨by k_is,by k_is,by k_is,by k_is,by k_is,by k_is,trivial⟩)
  (case p_BadRow=>exact⟨by k_is,by k_is,by k_is⟩)
  (case p_Misplaced=>exact⟨by k_is,by k_is,by k_is⟩)
  (case p_Unfinished=>exact⟨by k_is,by k_is,by k_is⟩)
  (case p_Twice=>exact⟨by k_is,by k_is,by k_is⟩)
  (case p_NoName=>exact⟨by k_is,by k_is,by k_is⟩)
  (case p_TooMany=>exact⟨by k_is,by k_is,by k_is⟩)
  (case p_fn=>skip;k_is)
  (case jdJ=>exact QD.hasM (by k_is) (by k_is) (by k_is) (by k_is) (by k_is) (λ_ _ _ _ _ _ us hl=>(match us,hl with | [_,_,_],_=>rfl)))
  (case g3_GREATEST=>first | rfl | decide)
  (case g3_FORMS=>first | rfl | decide)
  (case Kk | Kb | vb | vi | y8 | qR | Kt | Vi | Va | Kd | Kq | Qv | QU | Vh | yW | vd | V6 | kn | Vj | Qg | Y0 | KF | JW | Kv | Qa | Ka | Js | J7 | Y2 =>
   first | exact QD.hasF KX G (by k_is) (by k_is) (by k_is) (by k_is) (by first | exact λ_ _ _ _ _ _ us hl=>(match us,hl with | [_],_=>rfl) | exact λ_ _ _ _ _ _ us hl=>(match us,hl with | [_,_],_=>rfl) | exact λ_ _ _ _ _ _ us hl=>(match us,hl with | [_,_,_],_=>rfl) | exact λ_ _ _ _ _ _ us hl=>(match us,hl with | [_,_,_,_],_=>rfl)) | exact QD.hasM (by k_is) (by k_is) (by k_is) (by k_is) (by k_is) (by first | exact λ_ _ _ _ _ _ us hl=>(match us,hl with | [_],_=>rfl) | exact λ_ _ _ _ _ _ us hl=>(match us,hl with | [_,_],_=>rfl) | exact λ_ _ _ _ _ _ us hl=>(match us,hl with | [_,_,_],_=>rfl) | exact λ_ _ _ _ _ _ us hl=>(match us,hl with | [_,_,_,_],_=>rfl)))
